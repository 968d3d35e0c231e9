import PyProof.Rows.All
import Wide.All
import OpenK.AllK
import Wide.FinOn
import Lean
import PyProof.EqAt
import PyProof.EqKinds
import PyProof.TupleCall
import PySem.Challenge.RW_boxnarrow_k15_parts_shared
theorem Vaa:type_of% @Nat.le_refl:=@Nat.le_refl
theorem Vab:type_of% @List.mem_cons:=@List.mem_cons
theorem Vac:type_of% @List.length_map:=@List.length_map
theorem Vad:type_of% @List.length_append:=@List.length_append
theorem Vae:type_of% @List.mem_append:=@List.mem_append
theorem Vaf:type_of% @List.getElem?_eq_some_iff:=@List.getElem?_eq_some_iff
theorem Vag:type_of% @List.not_mem_nil:=@List.not_mem_nil
theorem Vah:type_of% @List.lookup_cons:=@List.lookup_cons
theorem Vai:type_of% @Nat.lt_of_lt_of_le:=@Nat.lt_of_lt_of_le
theorem Vaj:type_of% @List.map_cons:=@List.map_cons
theorem Vak:type_of% @Nat.ne_of_lt:=@Nat.ne_of_lt
theorem Val:type_of% @Bool.false_ne_true:=@Bool.false_ne_true
theorem Vam:type_of% @List.mem_cons_of_mem:=@List.mem_cons_of_mem
theorem Van:type_of% @List.getElem?_append_left:=@List.getElem?_append_left
theorem Vao:type_of% @List.getElem?_map:=@List.getElem?_map
theorem Vap:type_of% @List.size_toArray:=@List.size_toArray
theorem Vaq:type_of% @List.length_cons:=@List.length_cons
theorem Var:type_of% @List.mem_append_right:=@List.mem_append_right
theorem Vas:type_of% @List.mem_singleton:=@List.mem_singleton
theorem Vat:type_of% @Nat.le_trans:=@Nat.le_trans
theorem Vau:type_of% @List.mem_cons_self:=@List.mem_cons_self
theorem Vav:type_of% @List.append_nil:=@List.append_nil
theorem Vaw:type_of% @List.append_assoc:=@List.append_assoc
theorem Vax:type_of% @Nat.lt_irrefl:=@Nat.lt_irrefl
theorem Vay:type_of% @Bool.and_eq_true:=@Bool.and_eq_true
theorem Vaz:type_of% @Nat.zero_le:=@Nat.zero_le
theorem VaA:type_of% @List.mem_append_left:=@List.mem_append_left
theorem VaB:type_of% @Nat.pow_succ:=@Nat.pow_succ
theorem VaC:type_of% @Nat.le_of_lt:=@Nat.le_of_lt
theorem VaD:type_of% @List.cons_append:=@List.cons_append
theorem VaE:type_of% @List.getElem?_set_ne:=@List.getElem?_set_ne
theorem VaF:type_of% @List.map_append:=@List.map_append
theorem VaG:type_of% @List.getElem?_append_right:=@List.getElem?_append_right
theorem VaH:type_of% @List.find?_cons:=@List.find?_cons
theorem VaI:type_of% @List.mem_of_getElem?:=@List.mem_of_getElem?
theorem VaJ:type_of% @List.any_cons:=@List.any_cons
theorem VaK:type_of% @List.getD_eq_getElem?_getD:=@List.getD_eq_getElem?_getD
theorem VaL:type_of% @List.getElem?_eq_getElem:=@List.getElem?_eq_getElem
theorem VaM:type_of% @Option.map_eq_some_iff:=@Option.map_eq_some_iff
theorem VaN:type_of% @List.getElem?_set_self:=@List.getElem?_set_self
theorem VaO:type_of% @Bool.eq_iff_iff:=@Bool.eq_iff_iff
theorem VaP:type_of% @List.nodup_cons:=@List.nodup_cons
theorem VaQ:type_of% @Bool.false_and:=@Bool.false_and
theorem VaR:type_of% @List.length_take:=@List.length_take
theorem VaS:type_of% @Int.toNat_natCast:=@Int.toNat_natCast
theorem VaT:type_of% @Int.le_refl:=@Int.le_refl
theorem VaU:type_of% @List.getElem_mem:=@List.getElem_mem
theorem VaV:type_of% @List.drop_of_length_le:=@List.drop_of_length_le
theorem VaW:type_of% @Int.ofNat_lt:=@Int.ofNat_lt
set_option Elab.async false
set_option linter.all false
set_option maxRecDepth 100000
set_option genSizeOf false
set_option maxHeartbeats 40000000
namespace L2
open PySem PySem.Spec PyProof.Rows
def zaI (s:Stmt)(j:Nat):Stmt:=match s with
 | .ClassDef _ _ _ body _ _ _ _ _ _ _=>body.getD j (.Pass ⟨0,0,0,0⟩)
 | _=>.Pass ⟨0,0,0,0⟩
def zeZ (s:Stmt):Arguments:=match s with
 | .FunctionDef _ a _ _ _ _ _ _ _ _=>a
 | _=>{ posonlyargs:=[],args:=[],vararg:=none,kwonlyargs:=[],kw_defaults:=[],kwarg:=none,defaults:=[] }
def zcW (s:Stmt):List Stmt:=match s with
 | .FunctionDef _ _ b _ _ _ _ _ _ _=>b
 | _=>[]
def zau (s:Stmt):Scope:=match s with
 | .FunctionDef _ _ _ _ _ _ sc _ _ _=>sc
 | _=>{ kind:=.function,names:=[],isGenerator:=false,isCoroutine:=false }
end L2
namespace L3
open PySem PySem.W PyProof.Rows PySem.Calls
def goT (tb:String→Option Builtin)(p:Program)(w:World)(n₀:Nat)(ann:Option Value):Nat→SharedT→Thread→Option SharedT
 | 0,_,_=>none
 | k+1,s,t=>bif through t then some s else bif stepOk n₀ ann t then (stepT (denote tb) p w s t).bind (λr=>goT tb p w n₀ ann k r.1 r.2) else none
theorem zpT {tb:String→Option Builtin}{p:Program}{w:World}{n₀:Nat}{ann:Option Value}:∀ {n:Nat} {s s':SharedT} {t:Thread},goT tb p w n₀ ann n s t=some s'→topRun tb p w n₀ ann n s.abs t=some s'.abs
 | 0,_,_,_,q=>nomatch q
 | n+1,s,s',t,q=>by
  unfold goT at q
  unfold topRun
  cases c1:through t
  ·rw[c1] at q
   cases c2:stepOk n₀ ann t
   ·rw[c2] at q
    exact nomatch q
   ·rw[c2] at q
    obtain⟨⟨s2,t2⟩,c3,q⟩:=Option.bind_eq_some_iff.mp q
    rw[stepT_spec c3]
    exact zpT q
  ·rw[c1] at q
   cases q
   rfl
def zlU (os:Array Obj):Nat→Nat→Nat→BT
 | 0,_,_=>.nil
 | f+1,a,b=>match os[b]? with
  | some o=>.node o (zlU os f (2*a) (a+b)) (zlU os f (2*a) (2*a+b))
  | none=>.nil
noncomputable def bootT (P:Params):BT:=zlU (boot_heap P).objs 6 1 0
noncomputable abbrev ziq (w:World)(os:OsState):SharedT:=⟨bootT w.params,11,(boot_heap w.params).life,Array.mk [],boot_drawn,boot_toks,os⟩
def zeH (s:SharedT)(a:Addr):Option Obj:=if a<s.n then (match s.tree.get a with | some o=>alive o | none=>s.abs.heap.get? a) else none
theorem zw6 (s:SharedT)(a:Addr):s.abs.heap.get? a=zeH s a:=by
 unfold zeH
 split
 ·rename_i h
  cases e:s.tree.get a with
  | none=>rfl
  | some o=>exact abs_get h e
 ·rename_i h
  exact abs_get_none h
theorem zs7 (l:List Addr)(s:SharedT):l.map s.abs.heap.get?=l.map (zeH s):=List.map_congr_left λa _=>zw6 s a
noncomputable abbrev zhr (p q:Program)(loose:List Str)(Xt:Shared→Bool){α:Type}(YT:SharedT→α)(g0:Bool)(w:World)(s:SharedT):=
 ((staticsOk (importedModules p.main.body) (boot_heap w.params) s.abs.heap&&namesBound p s.abs.heap&&gensDone s.abs&&laidKept (boot_heap w.params) s.abs.heap),openSeen q loose (importedModules p.main.body) Xt g0 s.abs,YT s)
theorem zu1 {p q:Program}{loose:List Str}{Xt:Shared→Bool}{α:Type}{Yf:Shared→α}{YT:SharedT→α}{Ya:World→α}{N:Nat}{g0:Bool}{ann:Option Value}(hY:∀s:SharedT,Yf s.abs=YT s)(e:opening p=plainProg p.main.scope.names)(hN:Nat.ble 600 N=true)(f:∀s,fenceModules? p s=some s)
  (size:∀w:World,((boot_heap w.params).isNs mainGlobals&&(Array.mk []:Array GenState).size==0,(boot_heap w.params).objs.size,(boot_heap w.params).nsMap mainGlobals "__annotations__")=(true,11,ann))
  (run:∀w:World,(λos=>(goT treeTable p w 11 ann N (ziq w os) (topStub p)).map λs=>zhr p q loose Xt YT g0 w s)=λ_=>some (true,openGood q loose,Ya w)):LeftO p q loose Xt Yf Ya N g0:=λw=>by
 obtain⟨⟨h,gs,d,k,os⟩,e1,e'⟩:=VaM.mp (boot_open e hN f w)
 obtain⟨rfl,rfl,rfl,rfl⟩:h=boot_heap w.params∧gs=Array.mk []∧d=boot_drawn∧k=boot_toks:=by simpa using e'
 obtain⟨y1,y2,y3⟩:_∧_∧_:=by simpa only [Prod.mk.injEq] using size w
 obtain⟨s',r1,r2⟩:=VaM.mp (congrFun (run w) os)
 obtain⟨l1,l2,l3⟩:_∧_∧_:=by simpa only [Prod.mk.injEq] using r2
 have r:topRun treeTable p w 11 ann N ⟨boot_heap w.params,Array.mk [],boot_drawn,boot_toks,os⟩ (topStub p)=some s'.abs:=by
  have z:=zpT r1
  exact z
 have t:topFrom treeTable p w N ⟨boot_heap w.params,Array.mk [],boot_drawn,boot_toks,os⟩=some s'.abs:=by
  unfold topFrom
  dsimp only
  rw[y1,y2,y3,r]
  show (match staticsOk (importedModules p.main.body) (boot_heap w.params) s'.abs.heap&&namesBound p s'.abs.heap&&gensDone s'.abs&&laidKept (boot_heap w.params) s'.abs.heap with | true=>_ | false=>_)=_
  rw[l1]
 unfold openEnds
 rw[e1]
 show Option.map _ (topFrom treeTable p w N _)=_
 rw[t]
 exact congrArg some (Prod.ext l2 ((hY s').trans l3))
end L3
namespace Mine
open PySem PySem.Spec PyProof.Rows L2 L3
def top (i:Nat):Stmt:=PySem.Challenge.pw_boxnarrow_k15_parts_shared.main.body.getD i (.Pass ⟨0,0,0,0⟩)
def vw:Program:={ PySem.Challenge.pw_boxnarrow_k15_parts_shared with main:={ PySem.Challenge.pw_boxnarrow_k15_parts_shared.main with body:=[top 0,top 2,top 3,top 4,top 5,top 6,top 8,top 9,top 10,top 11,top 13,top 14,top 15,top 16,top 17,top 18,top 19,top 20,top 21,top 22,top 24,top 25,top 26,top 27,top 28,top 29,top 31,top 32,top 33,top 34,top 36,top 37,top 38,top 39,top 40,top 41,top 42,top 43,top 44,top 46,top 47,top 48,top 49,top 50,top 51,top 52,top 53,top 54,top 55,top 56,top 57,top 58] } }
noncomputable abbrev de (P:Params)(s:Str)(t:Tok)(v:Value):DictEntry:=⟨PySem.PyData.keyHash P s,.str s t,v⟩
abbrev co (n q:Str)(a b c d:Tok)(i k:Int)(r s:Addr)(y z:Value)(t:Addr)(j:Int):Obj:=⟨.type "code",none,.fields #[.str n a,.str q b,.str "/claim/cut.py" c,.int i 0,.int k 0,.int 0 0,.int 0 0,.int 3 0,.ref r,.bool Bool.true,.int 181 0,.ref s,.none,y,z,.ref t,.int j 0,.int i 0,.str "/claim/cut.py" d],#[]⟩
abbrev fo (n q:Str)(st:Stmt)(m:Value)(c:Addr):Obj:=⟨.type "function",none,.func (PySem.W.fnOf n q (zeZ st) (zcW st) (zau st) .none .none .none m none (.ref c) .none),#[]⟩
noncomputable def kp:Params→PySem.W.Frag:=λP=>
 (nat_lit 3,(.mk (.type "dict") none (.dict #[(de P "__name__" 165 (.str "law_boxnarrow_k15_parts_shared" 756)),(de P "__doc__" 166 .none),(de P "__package__" 167 .none),(de P "__loader__" 168 (.builtin "__main__.__loader__#opaque")),(de P "__spec__" 169 .none),(de P "__annotations__" 170 (.ref 6)),(de P "__builtins__" 171 (.ref 4)),(de P "__file__" 173 (.str "/claim/cut.py" 172)),(de P "__cached__" 174 .none),(de P "_wall" 193 (.ref 21)),(de P "BoxError" 213 (.ref 31)),(de P "NoNumber" 229 (.ref 44)),(de P "NoRow" 245 (.ref 56)),(de P "TooMuch" 261 (.ref 68)),(de P "NoName" 286 (.ref 87)),(de P "is_whole" 295 (.ref 96)),(de P "greatest_divisor" 304 (.ref 103)),(de P "fraction" 313 (.ref 110)),(de P "less" 321 (.ref 117)),(de P "FIGURES" 325 (.str "0123456789" 324)),(de P "LETTERS" 327 (.str "abcdefghijklmnopqrstuvwxyz" 326)),(de P "MOST_FIGURES" 329 (.int 9 328)),(de P "MOST_LETTERS" 331 (.int 8 330)),(de P "KEPT_WORDS" 342 (.ref 118)),(de P "made_of" 348 (.ref 123)),(de P "figures_of" 357 (.ref 130)),(de P "written" 365 (.ref 137)),(de P "number_of" 377 (.ref 144)),(de P "is_name" 384 (.ref 151)),(de P "MOST_WORDS" 388 (.int 120 387)),(de P "MOST_BRACKETS" 390 (.int 16 389)),(de P "SUMS" 397 (.ref 152)),(de P "POWERS" 403 (.ref 153)),(de P "Reader" 499 (.ref 226)),(de P "tree_of" 508 (.ref 237)),(de P "MOST_NODES" 512 (.int 60 511)),(de P "MOST_WEIGHT" 514 (.int 16 513)),(de P "weight_of" 522 (.ref 244)),(de P "Net" 577 (.ref 282)),(de P "MOST_UNKNOWNS" 581 (.int 4 580)),(de P "MOST_ROWS" 583 (.int 12 582)),(de P "ROW_WORDS" 590 (.ref 287)),(de P "words_of" 598 (.ref 294)),(de P "ends_of" 607 (.ref 301)),(de P "place_of_sign" 616 (.ref 308)),(de P "put_tree" 627 (.ref 315)),(de P "copy_of" 636 (.ref 322)),(de P "Task" 755 (.ref 409)),(de P "_law_cell_at" 765 (.ref 420)),(de P "_law_whole" 772 (.ref 427)),(de P "_law_mix" 780 (.ref 434)),(de P "_law_atom" 789 (.ref 441)),(de P "_law_tree" 801 (.ref 448)),(de P "_law_number" 809 (.ref 455)),(de P "_law_level" 816 (.ref 462)),(de P "_law_words" 825 (.ref 469)),(de P "_law_full" 834 (.ref 476)),(de P "_law_weight" 841 (.ref 483)),(de P "_law_light" 849 (.ref 490)),(de P "_law_in_order" 860 (.ref 497)),(de P "law" 877 (.ref 504))] 61) #[]))::
 (nat_lit 30,(.mk (.type "dict") none (.dict #[(de P "__module__" 203 (.str "boxnarrow.errors" 194)),(de P "__firstlineno__" 207 (.int 5 206)),(de P "__static_attributes__" 208 (.ref 29)),(de P "__weakref__" 210 (.ref 32)),(de P "__doc__" 211 .none)] 3) #[]))::
 (nat_lit 31,(.mk (.type "type") none (.cls (PySem.ClassData.mk "BoxError" [(.type "ValueError")] [(.ref 31),(.type "ValueError"),(.type "Exception"),(.type "BaseException"),(.type "object")] 30 "BoxError" Bool.true [] [(.ref 44),(.ref 56),(.ref 68),(.ref 87)] Bool.false none Bool.false)) #[(some (.ref 22)),none,(some (.str "BoxError" 196)),(some (.str "BoxError" 204)),(some (.builtin "ValueError.__new__")),(some (.bool Bool.true))]))::
 (nat_lit 43,(.mk (.type "dict") none (.dict #[(de P "__module__" 221 (.str "boxnarrow.errors" 194)),(de P "__firstlineno__" 225 (.int 7 224)),(de P "__static_attributes__" 226 (.ref 42)),(de P "__doc__" 227 .none)] 2) #[]))::
 (nat_lit 44,(.mk (.type "type") none (.cls (PySem.ClassData.mk "NoNumber" [(.ref 31)] [(.ref 44),(.ref 31),(.type "ValueError"),(.type "Exception"),(.type "BaseException"),(.type "object")] 43 "NoNumber" Bool.true [] [] Bool.false none Bool.false)) #[(some (.ref 35)),none,(some (.str "NoNumber" 214)),(some (.str "NoNumber" 222)),(some (.builtin "ValueError.__new__")),(some (.bool Bool.true))]))::
 (nat_lit 55,(.mk (.type "dict") none (.dict #[(de P "__module__" 237 (.str "boxnarrow.errors" 194)),(de P "__firstlineno__" 241 (.int 9 240)),(de P "__static_attributes__" 242 (.ref 54)),(de P "__doc__" 243 .none)] 2) #[]))::
 (nat_lit 56,(.mk (.type "type") none (.cls (PySem.ClassData.mk "NoRow" [(.ref 31)] [(.ref 56),(.ref 31),(.type "ValueError"),(.type "Exception"),(.type "BaseException"),(.type "object")] 55 "NoRow" Bool.true [] [] Bool.false none Bool.false)) #[(some (.ref 47)),none,(some (.str "NoRow" 230)),(some (.str "NoRow" 238)),(some (.builtin "ValueError.__new__")),(some (.bool Bool.true))]))::
 (nat_lit 67,(.mk (.type "dict") none (.dict #[(de P "__module__" 253 (.str "boxnarrow.errors" 194)),(de P "__firstlineno__" 257 (.int 11 256)),(de P "__static_attributes__" 258 (.ref 66)),(de P "__doc__" 259 .none)] 2) #[]))::
 (nat_lit 68,(.mk (.type "type") none (.cls (PySem.ClassData.mk "TooMuch" [(.ref 31)] [(.ref 68),(.ref 31),(.type "ValueError"),(.type "Exception"),(.type "BaseException"),(.type "object")] 67 "TooMuch" Bool.true [] [] Bool.false none Bool.false)) #[(some (.ref 59)),none,(some (.str "TooMuch" 246)),(some (.str "TooMuch" 254)),(some (.builtin "ValueError.__new__")),(some (.bool Bool.true))]))::
 (nat_lit 86,(.mk (.type "dict") none (.dict #[(de P "__module__" 269 (.str "boxnarrow.errors" 194)),(de P "__firstlineno__" 273 (.int 13 272)),(de P "__init__" 281 (.ref 84)),(de P "__static_attributes__" 283 (.ref 85)),(de P "__doc__" 284 .none)] 2) #[]))::
 (nat_lit 87,(.mk (.type "type") none (.cls (PySem.ClassData.mk "NoName" [(.ref 31)] [(.ref 87),(.ref 31),(.type "ValueError"),(.type "Exception"),(.type "BaseException"),(.type "object")] 86 "NoName" Bool.true [] [] Bool.false none Bool.false)) #[(some (.ref 71)),none,(some (.str "NoName" 262)),(some (.str "NoName" 270)),(some (.builtin "ValueError.__new__")),(some (.bool Bool.true))]))::
 (nat_lit 95,co "is_whole" "is_whole" 289 290 291 294 18 1 90 91 (.ref 92) (.ref 93) 94 293)::
 (nat_lit 96,fo "is_whole" "is_whole" (top 8) (.str "boxnarrow.fractions" 287) 95)::
 (nat_lit 102,co "greatest_divisor" "greatest_divisor" 296 297 298 303 20 2 97 98 (.ref 99) (.ref 100) 101 302)::
 (nat_lit 103,fo "greatest_divisor" "greatest_divisor" (top 9) (.str "boxnarrow.fractions" 287) 102)::
 (nat_lit 109,co "fraction" "fraction" 305 306 307 312 26 2 104 105 (.ref 106) (.ref 107) 108 311)::
 (nat_lit 110,fo "fraction" "fraction" (top 10) (.str "boxnarrow.fractions" 287) 109)::
 (nat_lit 116,co "less" "less" 314 315 316 320 33 2 111 112 (.ref 113) (.ref 114) 115 319)::
 (nat_lit 117,fo "less" "less" (top 11) (.str "boxnarrow.fractions" 287) 116)::
 (nat_lit 118,(.mk (.type "tuple") none (.seq #[(.str "let" 332),(.str "in" 333),(.str "grid" 334),(.str "fine" 335),(.str "looks" 336),(.str "solve" 337),(.str "boxes" 338),(.str "point" 339),(.str "right" 340),(.str "islands" 341)] 0) #[]))::
 (nat_lit 122,co "made_of" "made_of" 343 344 345 347 41 3 119 120 .none .none 121 346)::
 (nat_lit 123,fo "made_of" "made_of" (top 18) (.str "boxnarrow.words" 322) 122)::
 (nat_lit 129,co "figures_of" "figures_of" 349 350 351 356 43 1 124 125 (.ref 126) (.ref 127) 128 355)::
 (nat_lit 130,fo "figures_of" "figures_of" (top 19) (.str "boxnarrow.words" 322) 129)::
 (nat_lit 136,co "written" "written" 358 359 360 364 51 1 131 132 (.ref 133) (.ref 134) 135 363)::
 (nat_lit 137,fo "written" "written" (top 20) (.str "boxnarrow.words" 322) 136)::
 (nat_lit 143,co "number_of" "number_of" 366 367 368 376 58 1 138 139 (.ref 140) (.ref 141) 142 375)::
 (nat_lit 144,fo "number_of" "number_of" (top 21) (.str "boxnarrow.words" 322) 143)::
 (nat_lit 150,co "is_name" "is_name" 378 379 380 383 71 1 145 146 (.ref 147) (.ref 148) 149 382)::
 (nat_lit 151,fo "is_name" "is_name" (top 22) (.str "boxnarrow.words" 322) 150)::
 (nat_lit 152,(.mk (.type "dict") none (.dict #[(de P "+" 391 (.str "plus" 392)),(de P "-" 393 (.str "minus" 394))] 2) #[]))::
 (nat_lit 153,(.mk (.type "tuple") none (.seq #[(.str "2" 398),(.str "3" 399),(.str "4" 400),(.str "5" 401),(.str "6" 402)] 0) #[]))::
 (nat_lit 166,co "__init__" "Reader.__init__" 416 417 418 422 80 2 161 162 (.ref 163) (.ref 164) 165 421)::
 (nat_lit 167,fo "__init__" "Reader.__init__" (zaI (top 28) 0) (.str "boxnarrow.grammar" 385) 166)::
 (nat_lit 173,co "at_end" "Reader.at_end" 424 425 426 429 85 1 168 169 (.ref 170) (.ref 171) 172 428)::
 (nat_lit 174,fo "at_end" "Reader.at_end" (zaI (top 28) 1) (.str "boxnarrow.grammar" 385) 173)::
 (nat_lit 180,co "sees" "Reader.sees" 431 432 433 437 88 2 175 176 (.ref 177) (.ref 178) 179 436)::
 (nat_lit 181,fo "sees" "Reader.sees" (zaI (top 28) 2) (.str "boxnarrow.grammar" 385) 180)::
 (nat_lit 187,co "take" "Reader.take" 439 440 441 445 91 1 182 183 (.ref 184) (.ref 185) 186 444)::
 (nat_lit 188,fo "take" "Reader.take" (zaI (top 28) 3) (.str "boxnarrow.grammar" 385) 187)::
 (nat_lit 194,co "expression" "Reader.expression" 447 448 449 454 98 1 189 190 (.ref 191) (.ref 192) 193 453)::
 (nat_lit 195,fo "expression" "Reader.expression" (zaI (top 28) 4) (.str "boxnarrow.grammar" 385) 194)::
 (nat_lit 201,co "term" "Reader.term" 456 457 458 462 105 1 196 197 (.ref 198) (.ref 199) 200 461)::
 (nat_lit 202,fo "term" "Reader.term" (zaI (top 28) 5) (.str "boxnarrow.grammar" 385) 201)::
 (nat_lit 208,co "factor" "Reader.factor" 464 465 466 470 112 1 203 204 (.ref 205) (.ref 206) 207 469)::
 (nat_lit 209,fo "factor" "Reader.factor" (zaI (top 28) 6) (.str "boxnarrow.grammar" 385) 208)::
 (nat_lit 215,co "atom" "Reader.atom" 472 473 474 479 121 1 210 211 (.ref 212) (.ref 213) 214 478)::
 (nat_lit 216,fo "atom" "Reader.atom" (zaI (top 28) 7) (.str "boxnarrow.grammar" 385) 215)::
 (nat_lit 222,co "bracket" "Reader.bracket" 481 482 483 487 130 1 217 218 (.ref 219) (.ref 220) 221 486)::
 (nat_lit 223,fo "bracket" "Reader.bracket" (zaI (top 28) 8) (.str "boxnarrow.grammar" 385) 222)::
 (nat_lit 225,(.mk (.type "dict") none (.dict #[(de P "__module__" 411 (.str "boxnarrow.grammar" 385)),(de P "__firstlineno__" 415 (.int 78 414)),(de P "__init__" 423 (.ref 167)),(de P "at_end" 430 (.ref 174)),(de P "sees" 438 (.ref 181)),(de P "take" 446 (.ref 188)),(de P "expression" 455 (.ref 195)),(de P "term" 463 (.ref 202)),(de P "factor" 471 (.ref 209)),(de P "atom" 480 (.ref 216)),(de P "bracket" 488 (.ref 223)),(de P "__static_attributes__" 492 (.ref 224)),(de P "__dict__" 494 (.ref 227)),(de P "__weakref__" 496 (.ref 228)),(de P "__doc__" 497 .none)] 4) #[]))::
 (nat_lit 226,(.mk (.type "type") none (.cls (PySem.ClassData.mk "Reader" [(.type "object")] [(.ref 226),(.type "object")] 225 "Reader" Bool.true [] [] Bool.false none Bool.false)) #[none,none,(some (.str "Reader" 404)),(some (.str "Reader" 412)),(some (.builtin "object.__new__")),(some (.bool Bool.true))]))::
 (nat_lit 236,co "tree_of" "tree_of" 500 501 502 507 139 1 231 232 (.ref 233) (.ref 234) 235 506)::
 (nat_lit 237,fo "tree_of" "tree_of" (top 29) (.str "boxnarrow.grammar" 385) 236)::
 (nat_lit 243,co "weight_of" "weight_of" 515 516 517 521 150 2 238 239 (.ref 240) (.ref 241) 242 520)::
 (nat_lit 244,fo "weight_of" "weight_of" (top 33) (.str "boxnarrow.nets" 509) 243)::
 (nat_lit 257,co "__init__" "Net.__init__" 535 536 537 540 158 1 252 253 (.ref 254) (.ref 255) 256 539)::
 (nat_lit 258,fo "__init__" "Net.__init__" (zaI (top 34) 0) (.str "boxnarrow.nets" 509) 257)::
 (nat_lit 264,co "put" "Net.put" 542 543 544 550 163 2 259 260 (.ref 261) (.ref 262) 263 549)::
 (nat_lit 265,fo "put" "Net.put" (zaI (top 34) 1) (.str "boxnarrow.nets" 509) 264)::
 (nat_lit 271,co "nodes" "Net.nodes" 552 553 554 557 177 1 266 267 (.ref 268) (.ref 269) 270 556)::
 (nat_lit 272,fo "nodes" "Net.nodes" (zaI (top 34) 2) (.str "boxnarrow.nets" 509) 271)::
 (nat_lit 281,(.mk (.type "dict") none (.dict #[(de P "__module__" 530 (.str "boxnarrow.nets" 509)),(de P "__firstlineno__" 534 (.int 156 533)),(de P "__init__" 541 (.ref 258)),(de P "put" 551 (.ref 265)),(de P "nodes" 558 (.ref 272)),(de P "weight" 566 (.ref 279)),(de P "__static_attributes__" 570 (.ref 280)),(de P "__dict__" 572 (.ref 283)),(de P "__weakref__" 574 (.ref 284)),(de P "__doc__" 575 .none)] 4) #[]))::
 (nat_lit 282,(.mk (.type "type") none (.cls (PySem.ClassData.mk "Net" [(.type "object")] [(.ref 282),(.type "object")] 281 "Net" Bool.true [] [] Bool.false none Bool.false)) #[none,none,(some (.str "Net" 523)),(some (.str "Net" 531)),(some (.builtin "object.__new__")),(some (.bool Bool.true))]))::
 (nat_lit 287,(.mk (.type "dict") none (.dict #[(de P "=" 584 (.str "zero" 585)),(de P ">=" 586 (.str "least" 587))] 2) #[]))::
 (nat_lit 293,co "words_of" "words_of" 591 592 593 597 186 1 288 289 (.ref 290) (.ref 291) 292 596)::
 (nat_lit 294,fo "words_of" "words_of" (top 39) (.str "boxnarrow.tasks" 578) 293)::
 (nat_lit 300,co "ends_of" "ends_of" 599 600 601 606 193 1 295 296 (.ref 297) (.ref 298) 299 605)::
 (nat_lit 301,fo "ends_of" "ends_of" (top 40) (.str "boxnarrow.tasks" 578) 300)::
 (nat_lit 307,co "place_of_sign" "place_of_sign" 608 609 610 615 201 1 302 303 (.ref 304) (.ref 305) 306 614)::
 (nat_lit 308,fo "place_of_sign" "place_of_sign" (top 41) (.str "boxnarrow.tasks" 578) 307)::
 (nat_lit 314,co "put_tree" "put_tree" 617 618 619 626 206 3 309 310 (.ref 311) (.ref 312) 313 625)::
 (nat_lit 315,fo "put_tree" "put_tree" (top 42) (.str "boxnarrow.tasks" 578) 314)::
 (nat_lit 321,co "copy_of" "copy_of" 628 629 630 635 216 1 316 317 (.ref 318) (.ref 319) 320 634)::
 (nat_lit 322,fo "copy_of" "copy_of" (top 43) (.str "boxnarrow.tasks" 578) 321)::
 (nat_lit 335,co "__init__" "Task.__init__" 649 650 651 654 223 1 330 331 (.ref 332) (.ref 333) 334 653)::
 (nat_lit 336,fo "__init__" "Task.__init__" (zaI (top 44) 0) (.str "boxnarrow.tasks" 578) 335)::
 (nat_lit 342,co "tell" "Task.tell" 656 657 658 663 230 2 337 338 (.ref 339) (.ref 340) 341 662)::
 (nat_lit 343,fo "tell" "Task.tell" (zaI (top 44) 1) (.str "boxnarrow.tasks" 578) 342)::
 (nat_lit 349,co "tell_unknown" "Task.tell_unknown" 665 666 667 673 238 2 344 345 (.ref 346) (.ref 347) 348 672)::
 (nat_lit 350,fo "tell_unknown" "Task.tell_unknown" (zaI (top 44) 2) (.str "boxnarrow.tasks" 578) 349)::
 (nat_lit 356,co "tell_part" "Task.tell_part" 675 676 677 683 249 2 351 352 (.ref 353) (.ref 354) 355 682)::
 (nat_lit 357,fo "tell_part" "Task.tell_part" (zaI (top 44) 3) (.str "boxnarrow.tasks" 578) 356)::
 (nat_lit 363,co "tell_row" "Task.tell_row" 685 686 687 696 260 2 358 359 (.ref 360) (.ref 361) 362 695)::
 (nat_lit 364,fo "tell_row" "Task.tell_row" (zaI (top 44) 4) (.str "boxnarrow.tasks" 578) 363)::
 (nat_lit 370,co "check_new" "Task.check_new" 698 699 700 704 273 2 365 366 (.ref 367) (.ref 368) 369 703)::
 (nat_lit 371,fo "check_new" "Task.check_new" (zaI (top 44) 5) (.str "boxnarrow.tasks" 578) 370)::
 (nat_lit 377,co "check_known" "Task.check_known" 706 707 708 713 277 2 372 373 (.ref 374) (.ref 375) 376 712)::
 (nat_lit 378,fo "check_known" "Task.check_known" (zaI (top 44) 6) (.str "boxnarrow.tasks" 578) 377)::
 (nat_lit 398,co "nodes" "Task.nodes" 729 730 731 734 288 1 393 394 (.ref 395) (.ref 396) 397 733)::
 (nat_lit 399,fo "nodes" "Task.nodes" (zaI (top 44) 9) (.str "boxnarrow.tasks" 578) 398)::
 (nat_lit 405,co "rows" "Task.rows" 736 737 738 741 291 1 400 401 (.ref 402) (.ref 403) 404 740)::
 (nat_lit 406,fo "rows" "Task.rows" (zaI (top 44) 10) (.str "boxnarrow.tasks" 578) 405)::
 (nat_lit 408,(.mk (.type "dict") none (.dict #[(de P "__module__" 644 (.str "boxnarrow.tasks" 578)),(de P "__firstlineno__" 648 (.int 221 647)),(de P "__init__" 655 (.ref 336)),(de P "tell" 664 (.ref 343)),(de P "tell_unknown" 674 (.ref 350)),(de P "tell_part" 684 (.ref 357)),(de P "tell_row" 697 (.ref 364)),(de P "check_new" 705 (.ref 371)),(de P "check_known" 714 (.ref 378)),(de P "names" 721 (.ref 385)),(de P "ends" 728 (.ref 392)),(de P "nodes" 735 (.ref 399)),(de P "rows" 742 (.ref 406)),(de P "__static_attributes__" 748 (.ref 407)),(de P "__dict__" 750 (.ref 410)),(de P "__weakref__" 752 (.ref 411)),(de P "__doc__" 753 .none)] 4) #[]))::
 (nat_lit 409,(.mk (.type "type") none (.cls (PySem.ClassData.mk "Task" [(.type "object")] [(.ref 409),(.type "object")] 408 "Task" Bool.true [] [] Bool.false none Bool.false)) #[none,none,(some (.str "Task" 637)),(some (.str "Task" 645)),(some (.builtin "object.__new__")),(some (.bool Bool.true))]))::
 (nat_lit 419,co "_law_cell_at" "_law_cell_at" 758 759 760 764 294 2 414 415 (.ref 416) (.ref 417) 418 763)::
 (nat_lit 420,fo "_law_cell_at" "_law_cell_at" (top 46) (.str "law_boxnarrow_k15_parts_shared" 756) 419)::
 (nat_lit 426,co "_law_whole" "_law_whole" 766 767 768 771 298 1 421 422 (.ref 423) (.ref 424) 425 770)::
 (nat_lit 427,fo "_law_whole" "_law_whole" (top 47) (.str "law_boxnarrow_k15_parts_shared" 756) 426)::
 (nat_lit 433,co "_law_mix" "_law_mix" 773 774 775 779 300 2 428 429 (.ref 430) (.ref 431) 432 778)::
 (nat_lit 434,fo "_law_mix" "_law_mix" (top 48) (.str "law_boxnarrow_k15_parts_shared" 756) 433)::
 (nat_lit 440,co "_law_atom" "_law_atom" 781 782 783 788 302 2 435 436 (.ref 437) (.ref 438) 439 787)::
 (nat_lit 441,fo "_law_atom" "_law_atom" (top 49) (.str "law_boxnarrow_k15_parts_shared" 756) 440)::
 (nat_lit 447,co "_law_tree" "_law_tree" 790 791 792 800 309 2 442 443 (.ref 444) (.ref 445) 446 799)::
 (nat_lit 448,fo "_law_tree" "_law_tree" (top 50) (.str "law_boxnarrow_k15_parts_shared" 756) 447)::
 (nat_lit 454,co "_law_number" "_law_number" 802 803 804 808 329 2 449 450 (.ref 451) (.ref 452) 453 807)::
 (nat_lit 455,fo "_law_number" "_law_number" (top 51) (.str "law_boxnarrow_k15_parts_shared" 756) 454)::
 (nat_lit 461,co "_law_level" "_law_level" 810 811 812 815 333 1 456 457 (.ref 458) (.ref 459) 460 814)::
 (nat_lit 462,fo "_law_level" "_law_level" (top 52) (.str "law_boxnarrow_k15_parts_shared" 756) 461)::
 (nat_lit 468,co "_law_words" "_law_words" 817 818 819 824 341 2 463 464 (.ref 465) (.ref 466) 467 823)::
 (nat_lit 469,fo "_law_words" "_law_words" (top 53) (.str "law_boxnarrow_k15_parts_shared" 756) 468)::
 (nat_lit 475,co "_law_full" "_law_full" 826 827 828 833 357 2 470 471 (.ref 472) (.ref 473) 474 832)::
 (nat_lit 476,fo "_law_full" "_law_full" (top 54) (.str "law_boxnarrow_k15_parts_shared" 756) 475)::
 (nat_lit 482,co "_law_weight" "_law_weight" 835 836 837 840 370 1 477 478 (.ref 479) (.ref 480) 481 839)::
 (nat_lit 483,fo "_law_weight" "_law_weight" (top 55) (.str "law_boxnarrow_k15_parts_shared" 756) 482)::
 (nat_lit 489,co "_law_light" "_law_light" 842 843 844 848 376 1 484 485 (.ref 486) (.ref 487) 488 847)::
 (nat_lit 490,fo "_law_light" "_law_light" (top 56) (.str "law_boxnarrow_k15_parts_shared" 756) 489)::
 (nat_lit 496,co "_law_in_order" "_law_in_order" 850 851 852 859 381 1 491 492 (.ref 493) (.ref 494) 495 858)::
 (nat_lit 497,fo "_law_in_order" "_law_in_order" (top 57) (.str "law_boxnarrow_k15_parts_shared" 756) 496)::
 (nat_lit 503,co "law" "law" 861 862 863 876 394 1 498 499 (.ref 500) (.ref 501) 502 875)::
 (nat_lit 504,fo "law" "law" (top 58) (.str "law_boxnarrow_k15_parts_shared" 756) 503)::[]
def ks:List Addr:=nat_lit 3::nat_lit 30::nat_lit 31::nat_lit 43::nat_lit 44::nat_lit 55::nat_lit 56::nat_lit 67::nat_lit 68::nat_lit 86::nat_lit 87::nat_lit 95::nat_lit 96::nat_lit 102::nat_lit 103::nat_lit 109::nat_lit 110::nat_lit 116::nat_lit 117::nat_lit 118::nat_lit 122::nat_lit 123::nat_lit 129::nat_lit 130::nat_lit 136::nat_lit 137::nat_lit 143::nat_lit 144::nat_lit 150::nat_lit 151::nat_lit 152::nat_lit 153::nat_lit 166::nat_lit 167::nat_lit 173::nat_lit 174::nat_lit 180::nat_lit 181::nat_lit 187::nat_lit 188::nat_lit 194::nat_lit 195::nat_lit 201::nat_lit 202::nat_lit 208::nat_lit 209::nat_lit 215::nat_lit 216::nat_lit 222::nat_lit 223::nat_lit 225::nat_lit 226::nat_lit 236::nat_lit 237::nat_lit 243::nat_lit 244::nat_lit 257::nat_lit 258::nat_lit 264::nat_lit 265::nat_lit 271::nat_lit 272::nat_lit 281::nat_lit 282::nat_lit 287::nat_lit 293::nat_lit 294::nat_lit 300::nat_lit 301::nat_lit 307::nat_lit 308::nat_lit 314::nat_lit 315::nat_lit 321::nat_lit 322::nat_lit 335::nat_lit 336::nat_lit 342::nat_lit 343::nat_lit 349::nat_lit 350::nat_lit 356::nat_lit 357::nat_lit 363::nat_lit 364::nat_lit 370::nat_lit 371::nat_lit 377::nat_lit 378::nat_lit 398::nat_lit 399::nat_lit 405::nat_lit 406::nat_lit 408::nat_lit 409::nat_lit 419::nat_lit 420::nat_lit 426::nat_lit 427::nat_lit 433::nat_lit 434::nat_lit 440::nat_lit 441::nat_lit 447::nat_lit 448::nat_lit 454::nat_lit 455::nat_lit 461::nat_lit 462::nat_lit 468::nat_lit 469::nat_lit 475::nat_lit 476::nat_lit 482::nat_lit 483::nat_lit 489::nat_lit 490::nat_lit 496::nat_lit 497::nat_lit 503::nat_lit 504::[]
theorem zfV (P:Params):ks=(kp P).map (·.1):=by kernel_rfl
noncomputable abbrev hk:PySem.W.Hook:=PySem.W.kHook kp ks zfV
abbrev xt (s:Shared):Bool:=PySem.W.xlAt vw [] s&&PySem.W.recOk (PySem.W.RowW.records (PySem.W.OpenRow.toRowW (PySem.W.OpenLaw.row PySem.Challenge.rw_boxnarrow_k15_parts_shared))) s
theorem zl9:PySem.W.opening PySem.Challenge.pw_boxnarrow_k15_parts_shared=PySem.W.plainProg PySem.Challenge.pw_boxnarrow_k15_parts_shared.main.scope.names:=by kernel_rfl
theorem fe_eq (s:Shared):PySem.fenceModules? PySem.Challenge.pw_boxnarrow_k15_parts_shared s=some s:=by kernel_rfl
theorem si_eq (w:World):((PySem.W.boot_heap w.params).isNs mainGlobals&&(Array.mk []:Array GenState).size==0,(PySem.W.boot_heap w.params).objs.size,(PySem.W.boot_heap w.params).nsMap mainGlobals "__annotations__")=(true,11,some (.ref 6)):=by kernel_rfl
theorem zry (w:World):(λos=>(L3.goT PySem.treeTable PySem.Challenge.pw_boxnarrow_k15_parts_shared (w.withFollow "special-get-raises" false) 11 (some (.ref 6)) 7354 (L3.ziq (w.withFollow "special-get-raises" false) os) (PySem.W.topStub PySem.Challenge.pw_boxnarrow_k15_parts_shared)).map λs=>L3.zhr PySem.Challenge.pw_boxnarrow_k15_parts_shared vw [PySem.Str.ofString "SUMS",PySem.Str.ofString "ROW_WORDS"] xt (λs=>ks.map (L3.zeH s)) true (w.withFollow "special-get-raises" false) s)=λ_=>some (true,PySem.W.openGood vw [PySem.Str.ofString "SUMS",PySem.Str.ofString "ROW_WORDS"],hk.val (w.withFollow "special-get-raises" false)):=by kernel_rfl
theorem zsM (w:World):(λos=>(L3.goT PySem.treeTable PySem.Challenge.pw_boxnarrow_k15_parts_shared (w.withFollow "special-get-raises" true) 11 (some (.ref 6)) 7354 (L3.ziq (w.withFollow "special-get-raises" true) os) (PySem.W.topStub PySem.Challenge.pw_boxnarrow_k15_parts_shared)).map λs=>L3.zhr PySem.Challenge.pw_boxnarrow_k15_parts_shared vw [PySem.Str.ofString "SUMS",PySem.Str.ofString "ROW_WORDS"] xt (λs=>ks.map (L3.zeH s)) true (w.withFollow "special-get-raises" true) s)=λ_=>some (true,PySem.W.openGood vw [PySem.Str.ofString "SUMS",PySem.Str.ofString "ROW_WORDS"],hk.val (w.withFollow "special-get-raises" true)):=by kernel_rfl
theorem run_b (b:Bool)(w:World):(λos=>(L3.goT PySem.treeTable PySem.Challenge.pw_boxnarrow_k15_parts_shared (w.withFollow "special-get-raises" b) 11 (some (.ref 6)) 7354 (L3.ziq (w.withFollow "special-get-raises" b) os) (PySem.W.topStub PySem.Challenge.pw_boxnarrow_k15_parts_shared)).map λs=>L3.zhr PySem.Challenge.pw_boxnarrow_k15_parts_shared vw [PySem.Str.ofString "SUMS",PySem.Str.ofString "ROW_WORDS"] xt (λs=>ks.map (L3.zeH s)) true (w.withFollow "special-get-raises" b) s)=λ_=>some (true,PySem.W.openGood vw [PySem.Str.ofString "SUMS",PySem.Str.ofString "ROW_WORDS"],hk.val (w.withFollow "special-get-raises" b)):=by exact match b with | false=>zry w | true=>zsM w
theorem zxk (w:World):(λos=>(L3.goT PySem.treeTable PySem.Challenge.pw_boxnarrow_k15_parts_shared w 11 (some (.ref 6)) 7354 (L3.ziq w os) (PySem.W.topStub PySem.Challenge.pw_boxnarrow_k15_parts_shared)).map λs=>L3.zhr PySem.Challenge.pw_boxnarrow_k15_parts_shared vw [PySem.Str.ofString "SUMS",PySem.Str.ofString "ROW_WORDS"] xt (λs=>ks.map (L3.zeH s)) true w s)=λ_=>some (true,PySem.W.openGood vw [PySem.Str.ofString "SUMS",PySem.Str.ofString "ROW_WORDS"],hk.val w):=by
 have z:=run_b (w.params.followText "special-get-raises") w
 rwa [PySem.World.withFollow_self] at z
theorem left:PySem.W.LeftO PySem.Challenge.pw_boxnarrow_k15_parts_shared vw [PySem.Str.ofString "SUMS",PySem.Str.ofString "ROW_WORDS"] xt hk.obs hk.val 7354:=L3.zu1 (L3.zs7 ks) zl9 (by decide) fe_eq si_eq zxk
end Mine
set_option Elab.async false
set_option linter.all false
set_option maxRecDepth 100000
namespace L2
open PySem PySem.Spec PyProof.Rows
abbrev Key:=Sum Int Str
def zfP:Key→Value→Bool
 | .inl k,v=>Value.isInt k v
 | .inr x,v=>Value.isStrOf x v
def zeL (w:World):Key→Int
 | .inl k=>hashInt k
 | .inr x=>hashStr w x
theorem zdx:∀ {k:Key} {v:Value},zfP k v=true→(∃i t,k=Sum.inl i∧v=Value.int i t)∨(∃x t,k=Sum.inr x∧v=Value.str x t)
 | .inl i,v,h=>by
  obtain⟨t,e⟩:=Value.isInt_shape (k:=i) (v:=v) h
  exact .inl ⟨i,t,rfl,e⟩
 | .inr x,v,h=>by
  obtain⟨t,e⟩:=Value.isStrOf_shape (x:=x) (v:=v) h
  exact .inr ⟨x,t,rfl,e⟩
theorem zs9 (i:Int)(t:Tok):zfP (.inl i) (.int i t)=true:=by simp[zfP,Value.isInt]
theorem zwY (x:Str)(t:Tok):zfP (.inr x) (.str x t)=true:=by simp[zfP,Value.isStrOf]
theorem zug (a b:Int):decide ((Sum.inl a:Key)=Sum.inl b)=(a==b):=by
 by_cases e:a=b
 ·subst e; simp
 ·have h:¬ (Sum.inl a:Key)=Sum.inl b:=λq=>e (Sum.inl.inj q)
  rw[decide_eq_false h]
  exact(beq_eq_false_iff_ne.mpr e).symm
theorem zvE (a b:Str):decide ((Sum.inr a:Key)=Sum.inr b)=decide (a=b):=by
 by_cases e:a=b
 ·subst e; simp
 ·have h:¬ (Sum.inr a:Key)=Sum.inr b:=λq=>e (Sum.inr.inj q)
  rw[decide_eq_false h,decide_eq_false e]
theorem zvz (a:Int)(b:Str):decide ((Sum.inl a:Key)=Sum.inr b)=false:=decide_eq_false (λq=>nomatch q)
theorem zqV (a:Str)(b:Int):decide ((Sum.inr a:Key)=Sum.inl b)=false:=decide_eq_false (λq=>nomatch q)
def zce (prog:Program)(w:World):PySem.KeyKind prog w Key where
 is:=zfP
 hash:=zeL w
 inj:=λv a b ha hb=>by
  rcases zdx ha with ⟨i,t,rfl,rfl⟩ | ⟨x,t,rfl,rfl⟩
  ·rcases zdx hb with ⟨j,u,rfl,e⟩ | ⟨y,u,rfl,e⟩
   ·injection e with e1 _; rw[e1]
   ·exact nomatch e
  ·rcases zdx hb with ⟨j,u,rfl,e⟩ | ⟨y,u,rfl,e⟩
   ·exact nomatch e
   ·injection e with e1 _; rw[e1]
 byValue:=λk v h=>by
  rcases zdx h with ⟨i,t,rfl,rfl⟩ | ⟨x,t,rfl,rfl⟩ <;> rfl
 pyHash:=λhv h=>by
  rcases zdx hv with ⟨i,t,rfl,rfl⟩ | ⟨x,t,rfl,rfl⟩
  ·exact wpAny_pyHash_int h
  ·exact wpAny_pyHash_str h
 eqBool:=λhu hv h=>by
  rcases zdx hu with ⟨i,t,rfl,rfl⟩ | ⟨x,t,rfl,rfl⟩
  ·rcases zdx hv with ⟨j,u,rfl,rfl⟩ | ⟨y,u,rfl,rfl⟩
   ·rw[zug] at h; exact wpAny_eqBool_int h
   ·rw[zvz] at h; exact SeqAt.EqAt.int_str i t y u _ _ _ _ h
  ·rcases zdx hv with ⟨j,u,rfl,rfl⟩ | ⟨y,u,rfl,rfl⟩
   ·rw[zqV] at h; exact SeqAt.EqAt.str_int x t j u _ _ _ _ h
   ·rw[zvE] at h; exact wpAny_eqBool_str h
 «strs»:=λk x t v h=>by
  rcases zdx h with ⟨i,u,rfl,e⟩ | ⟨y,u,rfl,e⟩
  ·exact nomatch e
  ·injection e with e1 _
   subst e1
   cases v <;> rfl
theorem zwK (prog:Program)(w:World)(i:Int)(t:Tok):(zce prog w).is (.inl i) (.int i t)=true:=zs9 i t
theorem zg7 (prog:Program)(w:World)(x:Str)(t:Tok):(zce prog w).is (.inr x) (.str x t)=true:=zwY x t
end L2
namespace L2
open PySem PySem.Spec PyProof.Rows
inductive V where
 | non | bl (b:Bool) | int (i:Int) | str (x:Str) | byt (b:Array UInt8) | flt (b:UInt64) | ref (a:Addr) | ty (n:String)
 deriving DecidableEq
def zam:V→Value→Prop
 | .non,u=>u=Value.none
 | .bl b,u=>u=Value.bool b
 | .int i,u=>∃t,u=Value.int i t
 | .str x,u=>∃t,u=Value.str x t
 | .byt b,u=>∃t,u=Value.bytes b t
 | .flt b,u=>∃t,u=Value.float b t
 | .ref a,u=>u=Value.ref a
 | .ty n,u=>u=Value.type n
abbrev zal:List V→List Value→Prop:=Paired zam
theorem zal.length {xs:List V}{us:List Value}(r:zal xs us):xs.length=us.length:=Paired.length r
theorem zal.get:∀ {xs:List V} {us:List Value} {i:Nat} {x:V},zal xs us→xs[i]?=some x→∃u,us[i]?=some u∧zam x u
 | _,_,_,_,.nil,e=>by simp at e
 | _,_,0,_,.cons r _,e=>by simp at e; subst e; exact⟨_,rfl,r⟩
 | _,_,i+1,x,.cons _ t,e=>by
  obtain⟨u,h1,h2⟩:=zal.get (i:=i) (x:=x) t (by simpa using e)
  exact⟨u,by simpa using h1,h2⟩
theorem zal.set {x:V}{u:Value}(r:zam x u):∀ {xs:List V} {us:List Value} (i:Nat),zal xs us→zal (xs.set i x) (us.set i u)
 | _,_,_,.nil=>.nil
 | _,_,0,.cons _ t=>.cons r t
 | _,_,i+1,.cons q t=>.cons q (zal.set r i t)
theorem zal.append:∀ {xs ys:List V} {us ws:List Value},zal xs us→zal ys ws→zal (xs++ys) (us++ws)
 | _,_,_,_,.nil,s=>s
 | _,_,_,_,.cons r t,s=>.cons r (zal.append t s)
theorem zal.take:∀ {xs:List V} {us:List Value} (n:Nat),zal xs us→zal (xs.take n) (us.take n)
 | _,_,0,_=>.nil
 | _,_,_+1,.nil=>.nil
 | _,_,n+1,.cons r t=>.cons r (zal.take n t)
theorem zal.drop:∀ {xs:List V} {us:List Value} (n:Nat),zal xs us→zal (xs.drop n) (us.drop n)
 | _,_,0,r=>r
 | _,_,_+1,.nil=>.nil
 | _,_,n+1,.cons _ t=>zal.drop n t
theorem zal.none_of:∀ {xs:List V} {us:List Value} {i:Nat},zal xs us→xs[i]?=none→us[i]?=none:=λ{xs us i} r e=>by
 have h1:=r.length
 have h2:xs.length≤i:=List.getElem?_eq_none_iff.mp e
 exact List.getElem?_eq_none_iff.mpr (by omega)
def zbO:Option V→Option Value→Prop
 | some v,some u=>zam v u
 | none,none=>True
 | _,_=>False
def KV {κ:Type}:List (κ×V)→List (κ×Value)→Prop:=Paired λ(p:κ×V) (q:κ×Value)=>p.1=q.1∧zam p.2 q.2
def kV:Key→V
 | .inl i=>.int i
 | .inr x=>.str x
inductive HO where
  | lst (xs:List V)
  | tup (xs:List V)
  | dK (kvs:List (Key×V)) | dT (kvs:List (List Key×V))
  | set (S:Int→Bool) (n:Nat)
  | ins (C dx:Addr) (fs:List (Str×V))
  | own (x:Addr)
  | xd (fs:List (Str×V))
  | met (f x:Addr)
  | rng (lo hi:Int)
  | frz (o:Obj) (u:HO)
  | tbl (ps:Array Value)
  | ext (φ:Heap→Prop)
abbrev Hp:=Addr→Option HO
def upd (H:Hp)(a:Addr)(o:HO):Hp:=λb=>if b=a then some o else H b
theorem zbR {H:Hp}{a:Addr}{o:HO}:upd H a o a=some o:=by unfold upd; rw[if_pos rfl]
theorem za2 {H:Hp}{a b:Addr}{o:HO}(h:b≠a):upd H a o b=H b:=by unfold upd; rw[if_neg h]
theorem zh2 {H:Hp}{a b:Addr}{o u:HO}(h:H a=some o)(h':H b=some u)(d:o≠u):a≠b:=by
 intro e; subst e; rw[h] at h'; exact d (Option.some.inj h')
theorem zdy {H:Hp}{a b:Addr}{o:HO}(h:H a=some o)(h':H b=none):a≠b:=by
 intro e; subst e; rw[h] at h'; cases h'
section
variable (P:Program)(w:World)
def za7 (H:Hp)(h:Heap)(a:Addr):HO→Prop
 | .lst xs=>xs.length≤sizeLine∧∃(its:List Value) (n:Nat),zal xs its∧h.get? a=some { cls:=.type "list",data:=.seq its.toArray n }
 | .tup xs=>xs.length≤sizeLine∧∃its:List Value,zal xs its∧IsTup h a its.toArray
 | .dK kvs=>kvs.length≤sizeLine∧(a==sysModules)=false∧∃vs,KV kvs vs∧h.DictOf (zce P w) a vs
 | .dT kvs=>kvs.length≤sizeLine∧(a==sysModules)=false∧∃xs:List (List Key×Addr×Value),
   Paired (λ(p:List Key×V) (q:List Key×Addr×Value)=>p.1=q.1∧H q.2.1=some (.tup (p.1.map kV))∧zam p.2 q.2.2) kvs xs∧
   ∃o es ep,h.get? a=some o∧o.ExactDict∧o.data=.dict es ep∧es.toList=xs.map (entryOfKey (tupleKind (zce P w)))∧(xs.map (·.1)).Nodup
 | .set S n=>h.SetOf (intKind P w) a S n
 | .ins C dx fs=>H dx=some (.own a)∧fs.length≤1000∧dx≠a∧h.get? a=some (PySem.W.instObj C dx)∧
   ∃mA,h.Ns1 dx mA∧(∀f,zbO (fs.lookup f) (mA f))∧PySem.Within mA (fs.map (·.1))
 | .own _=>∃o,h.get? a=some o
 | .xd fs=>∃mA,h.Ns1 a mA∧∀f,zbO (fs.lookup f) (mA f)
 | .rng lo hi=>∃t u v,h.get? a=some { cls:=.type "range",data:=.fields #[.int lo t,.int hi u,.int 1 v] }
 | .frz o u=>h.get? a=some o∧za7 H h a u
 | .tbl ps=>h.get? a=some { cls:=.none,data:=.fields ps }
 | .met f x=>h.get? a=some (PySem.W.methodObj (.ref f) (.ref x))
 | .ext φ=>φ h∧(∃o,h.get? a=some o)∧∀h1 h2:Heap,φ h1→(∀o,h1.get? a=some o→h2.get? a=some o)→φ h2
def HOk (H:Hp)(h:Heap):Prop:=∀a o,H a=some o→za7 P w H h a o
end
section
variable {P:Program}{w:World}{H H':Hp}{h h':Heap}{a:Addr}{o:HO}
theorem za7.lt (x:za7 P w H h a o):a<h.objs.size:=by
 cases o with
 | lst xs=>obtain⟨_,_,_,_,e⟩:=x; exact Heap.lt_size e
 | tup xs=>obtain⟨_,_,_,p⟩:=x; exact p.lt
 | dK kvs=>obtain⟨_,_,_,_,o,_,_,e,_⟩:=x; exact Heap.lt_size e
 | dT kvs=>obtain⟨_,_,_,_,o,_,_,e,_⟩:=x; exact Heap.lt_size e
 | set S n=>obtain⟨o,_,_,_,e,_⟩:=x; exact Heap.lt_size e
 | ins C dx fs=>obtain⟨_,_,_,e,_⟩:=x; exact Heap.lt_size e
 | own y=>obtain⟨_,e⟩:=x; exact Heap.lt_size e
 | xd fs=>obtain⟨_,⟨_,_,_,e,_⟩,_⟩:=x; exact Heap.lt_size e
 | rng lo hi=>obtain⟨_,_,_,e⟩:=x; exact Heap.lt_size e
 | frz ob u=>obtain⟨e,_⟩:=x; exact Heap.lt_size e
 | tbl ps=>exact Heap.lt_size (show h.get? a=some _ from x)
 | met f y=>exact Heap.lt_size (show h.get? a=some _ from x)
 | ext φ=>obtain⟨_,⟨_,e⟩,_⟩:=x; exact Heap.lt_size e
theorem Paired.mapP {α β:Type}{F G:α→β→Prop}:∀ {l₁:List α} {l₂:List β},Paired F l₁ l₂→(∀a b,F a b→G a b)→Paired G l₁ l₂
 | _,_,.nil,_=>.nil
 | _,_,.cons r t,f=>.cons (f _ _ r) (Paired.mapP t f)
theorem za7.stay (x:za7 P w H h a o)(k:∀b u,(b=a∨H b=some (.own a))→h.get? b=some u→h'.get? b=some u)
  (ho:∀b,H b=some (.own a)→H' b=some (.own a))(ht:∀b xs,H b=some (.tup xs)→H' b=some (.tup xs)):za7 P w H' h' a o:=by
 induction o with
 | lst xs=>obtain⟨z,its,n,r,e⟩:=x; exact⟨z,its,n,r,k _ _ (.inl rfl) e⟩
 | tup xs=>obtain⟨z,its,r,ob,e,c⟩:=x; exact⟨z,its,r,ob,k _ _ (.inl rfl) e,c⟩
 | dK kvs=>obtain⟨z,y,vs,r,ob,es,ep,e,c⟩:=x; exact⟨z,y,vs,r,ob,es,ep,k _ _ (.inl rfl) e,c⟩
 | dT kvs=>
  obtain⟨z,y,xs,r,ob,es,ep,e,c⟩:=x
  exact⟨z,y,xs,Paired.mapP r λp q z=>⟨z.1,ht _ _ z.2.1,z.2.2⟩,ob,es,ep,k _ _ (.inl rfl) e,c⟩
 | set S n=>obtain⟨ob,es,ep,t,e,c⟩:=x; exact⟨ob,es,ep,t,k _ _ (.inl rfl) e,c⟩
 | ins C dx fs=>
  obtain⟨d,z,ne,e,mA,⟨od,es,ep,e2,c⟩,r⟩:=x
  exact⟨ho _ d,z,ne,k _ _ (.inl rfl) e,mA,⟨od,es,ep,k _ _ (.inr d) e2,c⟩,r⟩
 | own y=>obtain⟨ob,e⟩:=x; exact⟨ob,k _ _ (.inl rfl) e⟩
 | xd fs=>obtain⟨mA,⟨od,es,ep,e,c⟩,r⟩:=x; exact⟨mA,⟨od,es,ep,k _ _ (.inl rfl) e,c⟩,r⟩
 | rng lo hi=>obtain⟨t,u,v,e⟩:=x; exact⟨t,u,v,k _ _ (.inl rfl) e⟩
 | frz ob u ih=>obtain⟨e,q⟩:=x; exact⟨k _ _ (.inl rfl) e,ih q⟩
 | tbl ps=>
  have e:h.get? a=some { cls:=.none,data:=.fields ps }:=x
  show h'.get? a=some { cls:=.none,data:=.fields ps }
  exact k a _ (.inl rfl) e
 | met f y=>
  have e:h.get? a=some (PySem.W.methodObj (.ref f) (.ref y)):=x
  show h'.get? a=some (PySem.W.methodObj (.ref f) (.ref y))
  exact k a _ (.inl rfl) e
 | ext φ=>obtain⟨p,⟨o,e⟩,st⟩:=x; exact⟨st _ _ p λo q=>k _ _ (.inl rfl) q,⟨o,k _ _ (.inl rfl) e⟩,st⟩
theorem HOk.lt (x:HOk P w H h)(e:H a=some o):a<h.objs.size:=(x a o e).lt
theorem HOk.fresh (x:HOk P w H h)(e:h.objs.size≤a):H a=none:=by
 cases q:H a with
 | none=>rfl
 | some u=>exact absurd (Vai (x.lt q) e) (Vax _)
theorem HOk.kept (x:HOk P w H h)(k:∀b u,h.get? b=some u→h'.get? b=some u):HOk P w H h':=λa o e=>
 (x a o e).stay (λb u _ q=>k b u q) (λ_ q=>q) λ_ _ q=>q
theorem HOk.laid (x:HOk P w H h)(k:∀b u,h.get? b=some u→h'.get? b=some u)(hp:h.objs.size≤a)(new:za7 P w (upd H a o) h' a o):HOk P w (upd H a o) h':=λb u e=>by
 have hn:=x.fresh hp
 by_cases hb:b=a
 ·subst hb; rw[zbR] at e; cases e; exact new
 ·rw[za2 hb] at e
  exact(x b u e).stay (λc v _ q=>k c v q) (λc q=>by rw[za2 (zdy q hn)]; exact q) λc xs q=>by rw[za2 (zdy q hn)]; exact q
end
def Rd (H:Hp)(a:Addr)(u:HO):Prop:=H a=some u∨∃o,H a=some (.frz o u)
theorem Rd.of {H:Hp}{a:Addr}{u:HO}(h:H a=some u):Rd H a u:=.inl h
theorem Rd.ok {P:Program}{w:World}{H:Hp}{h:Heap}{a:Addr}{u:HO}(r:Rd H a u)(x:HOk P w H h):za7 P w H h a u:=by
 rcases r with r | ⟨o,r⟩
 ·exact x a u r
 ·obtain⟨_,q⟩:=x a _ r
  exact q
def Mut:Option HO→Prop
 | some (.lst _)=>True
 | some (.dK _)=>True
 | some (.dT _)=>True
 | some (.set _ _)=>True
 | some (.ins _ _ _)=>True
 | some (.ext _)=>True
 | _=>False
section
variable {P:Program}{w:World}{H:Hp}{h h':Heap}{x e:Addr}{o':HO}
theorem HOk.write (ok:HOk P w H h)(mu:Mut (H x))(he:e=x∨H e=some (.own x))(k:∀b u,b≠e→h.get? b=some u→h'.get? b=some u)(heo:∃u,h'.get? e=some u)
  (new:za7 P w (upd H x o') h' x o'):HOk P w (upd H x o') h':=λb u q=>by
 have nown:∀c y,H c=some (.own y)→c≠x:=λc y r z=>by subst z; rw[r] at mu; exact mu
 have ntup:∀c xs,H c=some (.tup xs)→c≠x:=λc xs r z=>by subst z; rw[r] at mu; exact mu
 by_cases hb:b=x
 ·subst hb; rw[zbR] at q; cases q; exact new
 ·rw[za2 hb] at q
  by_cases hbe:b=e
  ·have q':H b=some (.own x):=by
    rcases he with z | z
    ·exact absurd (hbe.trans z) hb
    ·rw[hbe]; exact z
   rw[q] at q'; cases q'
   obtain⟨v,hv⟩:=heo
   exact⟨v,by rw[hbe]; exact hv⟩
  ·refine(ok b u q).stay (λc v hc r=>k c v ?_ r) (λc r=>by rw[za2 (nown c b r)]; exact r) λc xs r=>by rw[za2 (ntup c xs r)]; exact r
   rcases hc with rfl | hc
   ·exact hbe
   ·rintro rfl
    rcases he with z | z
    ·exact nown c b hc z
    ·rw[hc] at z; cases z; exact hb rfl
end
structure Un (fs ex:List Addr)(H H':Hp)(h h':Heap):Prop where
 keep:∀b o,h.get? b=some o→H b=none→b ∉ fs→b ∉ ex→h'.get? b=some o
 slot:∀b o,h.get? b=some o→H b=none→b∈fs→b ∉ ex→∃sl,h'.get? b=some { o with slots:=sl }
 free:∀b o,h.get? b=some o→H b=none→b ∉ ex→H' b=none
 there:∀b o,h.get? b=some o→b ∉ ex→∃o',h'.get? b=some o'
 tups:∀b xs,H b=some (.tup xs)→H' b=some (.tup xs)
 frzs:∀b o u,H b=some (.frz o u)→H' b=some (.frz o u)
 tbls:∀b ps,H b=some (.tbl ps)→∃more,H' b=some (.tbl (ps++more))
section
variable {fs fs' ex ex':List Addr}{H H1 H2:Hp}{h h1 h2 h':Heap}{a x e:Addr}{o:HO}
theorem Un.any (u:Un fs ex H H1 h h1){b:Addr}{ob:Obj}(q:h.get? b=some ob)(n:H b=none)(hx:b ∉ ex):∃sl,h1.get? b=some { ob with slots:=sl }:=by
 by_cases hb:b∈fs
 ·exact u.slot b ob q n hb hx
 ·exact⟨ob.slots,u.keep b ob q n hb hx⟩
theorem Un.trans (a:Un fs ex H H1 h h1)(b:Un fs ex H1 H2 h1 h2):Un fs ex H H2 h h2 where
 keep:=λc ob q n hc hx=>b.keep c ob (a.keep c ob q n hc hx) (a.free c ob q n hx) hc hx
 slot:=λc ob q n hc hx=>by
  obtain⟨sl,e1⟩:=a.slot c ob q n hc hx
  obtain⟨sl',e2⟩:=b.slot c _ e1 (a.free c ob q n hx) hc hx
  exact⟨sl',e2⟩
 free:=λc ob q n hx=>by
  obtain⟨o',e1⟩:=a.there c ob q hx
  exact b.free c o' e1 (a.free c ob q n hx) hx
 there:=λc ob q hx=>by
  obtain⟨o',e1⟩:=a.there c ob q hx
  exact b.there c o' e1 hx
 tups:=λc xs q=>b.tups c xs (a.tups c xs q)
 frzs:=λc ob xs q=>b.frzs c ob xs (a.frzs c ob xs q)
 tbls:=λc ps q=>by
  obtain⟨m1,e1⟩:=a.tbls c ps q
  obtain⟨m2,e2⟩:=b.tbls c _ e1
  exact⟨m1++m2,by rw[e2,Array.append_assoc]⟩
theorem Un.kept (k:∀b u,h.get? b=some u→h'.get? b=some u):Un fs ex H H h h':=
 ⟨λb ob q _ _ _=>k b ob q,λb ob q _ _ _=>⟨ob.slots,k b ob q⟩,λ_ _ _ n _=>n,λb ob q _=>⟨ob,k b ob q⟩,λ_ _ q=>q,λ_ _ _ q=>q,λ_ ps q=>⟨#[],by rw[q]; simp⟩⟩
theorem Un.refl:Un fs ex H H h h:=Un.kept λ_ _ q=>q
theorem Un.laid (k:∀b u,h.get? b=some u→h'.get? b=some u)(hp:h.objs.size≤a)(hn:H a=none):Un fs ex H (upd H a o) h h' where
 keep:=λb u q _ _ _=>k b u q
 slot:=λb u q _ _ _=>⟨u.slots,k b u q⟩
 free:=λb u q n _=>by rw[za2 (Vak (Vai (Heap.lt_size q) hp))]; exact n
 there:=λb u q _=>⟨u,k b u q⟩
 tups:=λb xs q=>by rw[za2 (zdy q hn)]; exact q
 frzs:=λb u xs q=>by rw[za2 (zdy q hn)]; exact q
 tbls:=λb ps q=>⟨#[],by rw[za2 (zdy q hn),q]; simp⟩
theorem Un.write (mu:Mut (H x))(he:e=x∨H e=some (.own x))(k:∀b u,b≠e→h.get? b=some u→h'.get? b=some u)(heo:∃u,h'.get? e=some u):Un fs ex H (upd H x o) h h':=by
 have hx:∀b,H b=none→b≠x:=λb n z=>by subst z; rw[n] at mu; exact mu
 have hb:∀b,H b=none→b≠e:=λb n z=>by
  subst z
  rcases he with r | r
  ·exact hx b n r
  ·rw[n] at r; cases r
 have hm:∀b u,H b=some u→¬ Mut (some u)→b≠x:=λb u q nm z=>by subst z; rw[q] at mu; exact nm mu
 refine⟨λb u q n _ _=>k b u (hb b n) q,λb u q n _ _=>⟨u.slots,k b u (hb b n) q⟩,λb u q n _=>by rw[za2 (hx b n)]; exact n,λb u q _=>?_,
  λb xs q=>by rw[za2 (hm b _ q λz=>z)]; exact q,λb u xs q=>by rw[za2 (hm b _ q λz=>z)]; exact q,λb ps q=>⟨#[],by rw[za2 (hm b _ q λz=>z),q]; simp⟩⟩
 by_cases hbe:b=e
 ·subst hbe; exact heo
 ·exact⟨u,k b u hbe q⟩
theorem Un.mono (u:Un fs ex H H1 h h1)(hs:∀b∈fs,b∈fs')(hx:∀b∈ex,b∈ex'):Un fs' ex' H H1 h h1:=
 ⟨λb ob q n hb he=>u.keep b ob q n (λz=>hb (hs b z)) λz=>he (hx b z),λ_ _ q n _ he=>u.any q n λz=>he (hx _ z),λb ob q n he=>u.free b ob q n λz=>he (hx b z),λb ob q he=>u.there b ob q λz=>he (hx b z),u.tups,u.frzs,u.tbls⟩
end
def trk (h:Heap)(H:Hp):List Addr:=(List.range h.objs.size).filter λa=>(H a).isSome
def zdC (h:Heap)(H:Hp):Heap:=PySem.W.hideAll h (trk h H)
theorem zsO (h:Heap)(H:Hp):(zdC h H).objs.size=h.objs.size:=PySem.W.hideAll_size _ _
theorem zwi {h:Heap}{H:Hp}{b:Addr}{o:Obj}(e:h.get? b=some o)(n:H b=none):(zdC h H).get? b=some o:=
 PySem.W.hideAll_get _ e λhm=>by
  have q:(H b).isSome=true:=(List.mem_filter.mp hm).2
  rw[n] at q; simp at q
theorem zum {h:Heap}{H:Hp}{b:Addr}{o:Obj}(e:(zdC h H).get? b=some o):h.get? b=some o∧H b=none:=by
 have e':h.get? b=some o:=PySem.W.of_hideAll (trk h H) e
 refine⟨e',?_⟩
 cases q:H b with
 | none=>rfl
 | some x=>
  have hm:b∈trk h H:=List.mem_filter.mpr ⟨List.mem_range.mpr (Heap.lt_size e'),by simp[q]⟩
  have z:(zdC h H).get? b=none:=PySem.W.hideAll_none (trk h H) hm
  rw[z] at e; cases e
def zqH (g h:Heap)(L:Addr):List (Addr×Obj):=(List.range h.objs.size).filterMap λa=>if a=L∨(g.get? a).isSome=true then none else (h.get? a).map λo=>(a,o)
def zbc (g h:Heap)(L d:Addr):List (Addr×Obj):=(zqH g h L).filter λp=>decide (p.1≠d)
end L2
namespace L2
open PySem PySem.Spec PyProof.Rows
structure Mod (K:PySem.W.Frag)(mg:Str→Option Value)(base:Heap):Prop where
 kin:K.In base
 glob:base.Ns mainGlobals mg
 blt:∃mb,base.Ns builtinsNs mb∧∀x:Str,x≠"__name__"→mb x=bootBuiltins x
 nolimit:base.NoLimit
structure Cx where
 prog:Program
 w:World
 K:PySem.W.Frag
 mg:Str→Option Value
 base:Heap
 A:Around
 N:List Str
 s₀:Shared
 H₀:Hp
 env:Env
 outer:List Env
 stack:List Env
 ex:List Addr
 fn:Str→Bool
 calm:Bool
 pn:List (Addr×Obj)
 xe:Value→Shared→Prop
def frs (l:List Env):List Addr:=l.filterMap (·.frame)
abbrev Cx.fs (X:Cx):List Addr:=frs X.outer
def Vis (sc:Scope)(x:Str):Prop:=sc.names.lookup x=some .local∨sc.names.lookup x=some .cell∨sc.names.lookup x=some .free
def Loc (sc:Scope)(x:Str):Prop:=sc.names.lookup x=some .local∨sc.names.lookup x=some .cell
def Look (env:Env)(h:Heap)(m:Str→Option Value)(x:Str)(u:Value):Prop:=
 (env.kindOf x=some .local∧m x=some u)∨((env.kindOf x=some .cell∨env.kindOf x=some .free)∧∃c,env.cells.lookup x=some c∧h.IsCell c (some u))
structure Cx.Ok (X:Cx):Prop where
 mod:Mod X.K X.mg X.base
 kind:X.env.scope.kind=.function
 glob:X.env.globals=mainGlobals
 blt:X.env.builtins=builtinsNs
 above:X.s₀.heap.objs.size≤X.env.locals
 inj:∀x y c,X.env.cells.lookup x=some c→X.env.cells.lookup y=some c→x=y
 has:∀x,(X.env.kindOf x=some .cell∨X.env.kindOf x=some .free)→∃c,X.env.cells.lookup x=some c
 cab:∀x c,X.fn x=true→X.env.cells.lookup x=some c→X.s₀.heap.objs.size≤c
 hd:X.calm=true→X.A.handled=none
 frames:X.A.frames=some X.stack
 stk:X.stack=X.outer∨(X.stack=X.env::X.outer∧X.env.frame=some X.env.locals)
 exf:∀b∈X.ex,b≠X.env.locals∧∀x c,X.env.cells.lookup x=some c→c≠b
 bs:∀b o,X.base.get? b=some o→X.s₀.heap.get? b=some o∧X.H₀ b=none
 bsz:X.base.objs.size≤X.s₀.heap.objs.size
 noex:∀b o,X.base.get? b=some o→b ∉ X.ex
 exfs:∀b∈X.ex,b ∉ X.fs
 funs:X.s₀.heap.FunFrames X.base X.outer
 frf:∀b∈X.fs,X.H₀ b=none
structure Inv (X:Cx)(pins:List (Addr×Obj))(σ:List (Option V))(H:Hp)(s:Shared):Prop where
 ok:X.Ok
 os:s.os=X.s₀.os
 bare:AllBare s.gens
 base:Un X.fs X.ex X.H₀ H X.s₀.heap s.heap
 loc:∃m,s.heap.Ns X.env.locals m∧∀(i:Nat) (x:Str) (v:V),X.N[i]?=some x→σ[i]?=some (some v)→Vis X.env.scope x→∃u,zam v u∧Look X.env s.heap m x u
 cell:∀x c,X.env.cells.lookup x=some c→∃v,s.heap.IsCell c v
 free:H X.env.locals=none
 freeC:∀x c,X.env.cells.lookup x=some c→H c=none
 pin:∀p∈X.pn++pins,s.heap.get? p.1=some p.2∧H p.1=none∧p.1≠X.env.locals∧p.1 ∉ X.fs∧∀v,p.2.data≠.cell v
 hok:HOk X.prog X.w H s.heap
 len:σ.length=X.N.length
section
variable {X:Cx}{pins:List (Addr×Obj)}{σ:List (Option V)}{H H':Hp}{s:Shared}{h':Heap}
theorem Cx.Ok.nofr (ok:X.Ok){b:Addr}{o:Obj}(e:X.base.get? b=some o):b ∉ X.fs:=λhb=>by
 have:=(ok.funs.mem hb).1
 rw[e] at this; cases this
theorem Inv.bs (I:Inv X pins σ H s):∀b o,X.base.get? b=some o→s.heap.get? b=some o∧H b=none:=λb o e=>
 ⟨I.base.keep b o (I.ok.bs b o e).1 (I.ok.bs b o e).2 (I.ok.nofr e) (I.ok.noex b o e),I.base.free b o (I.ok.bs b o e).1 (I.ok.bs b o e).2 (I.ok.noex b o e)⟩
theorem Inv.bk (I:Inv X pins σ H s):∀b o,X.base.get? b=some o→s.heap.get? b=some o:=λb o e=>(I.bs b o e).1
theorem Inv.mod (I:Inv X pins σ H s):Mod X.K X.mg X.base:=I.ok.mod
theorem Inv.kIn (I:Inv X pins σ H s):X.K.In s.heap:=I.ok.mod.kin.keeps I.bk
theorem Inv.nolimit (I:Inv X pins σ H s):s.heap.NoLimit:=I.ok.mod.nolimit.keeps I.bk
theorem Inv.fr (I:Inv X pins σ H s):∃m,Fr X.base X.env.locals s.heap m:=
 let ⟨m,hn,_⟩:=I.loc
 ⟨m,hn,I.bk,Vat I.ok.bsz I.ok.above⟩
theorem Inv.lt (I:Inv X pins σ H s):X.env.locals<s.heap.objs.size:=let ⟨_,hn,_⟩:=I.loc; hn.lt
theorem Inv.sz (I:Inv X pins σ H s):X.s₀.heap.objs.size≤s.heap.objs.size:=Vat I.ok.above (VaC I.lt)
theorem Inv.nofs (I:Inv X pins σ H s){a:Addr}(h:s.heap.objs.size≤a):a ∉ X.fs:=λhb=>by
 obtain⟨_,o,ho,_⟩:=I.ok.funs.mem hb
 exact absurd (Vai (Heap.lt_size ho) (Vat I.sz h)) (Vax _)
theorem Inv.cne (I:Inv X pins σ H s):∀x c,X.env.cells.lookup x=some c→c≠X.env.locals:=λx c e z=>by
 obtain⟨v,o,ho,hd⟩:=I.cell x c e
 obtain⟨m,⟨o',es,ep,ho',hd',_⟩,_⟩:=I.loc
 rw[z,ho'] at ho; cases ho; rw[hd'] at hd; cases hd
theorem Inv.funs (I:Inv X pins σ H s):s.heap.FunFrames X.base X.outer:=by
 have all:∀(l:List Env),(∀b∈frs l,b∈X.fs)→X.s₀.heap.FunFrames X.base l→s.heap.FunFrames X.base l:=by
  intro l
  induction l with
  | nil=>intro _ _; trivial
  | cons env r ih=>
   intro hs hl
   obtain⟨hk,⟨L,o,hf,hn,ho,hd⟩,hr⟩:=hl
   have hL:L∈X.fs:=hs L (by unfold frs; rw[List.filterMap_cons,hf]; exact Vau)
   obtain⟨sl,e⟩:=I.base.slot L o ho (I.ok.frf L hL) hL λz=>I.ok.exfs L z hL
   exact⟨hk,⟨L,_,hf,hn,e,hd⟩,ih (λb hb=>hs b (by unfold frs; rw[List.filterMap_cons,hf]; exact Vam _ hb)) hr⟩
 exact all X.outer (λ_ hb=>hb) I.ok.funs
theorem Inv.stack (I:Inv X pins σ H s):s.heap.FunFrames X.base X.stack:=by
 rcases I.ok.stk with e | ⟨e,hf⟩
 ·rw[e]; exact I.funs
 ·rw[e]
  obtain⟨m,hn,_⟩:=I.loc
  refine .cons (by rw[I.ok.kind]; decide) hf hn ?_ I.funs
  exact Heap.get?_none_of_le (Vat I.ok.bsz I.ok.above)
theorem Inv.stkSub (I:Inv X pins σ H s):∀b∈frs X.stack,b∈X.env.locals::X.fs:=λb hb=>by
 rcases I.ok.stk with e | ⟨e,hf⟩
 ·rw[e] at hb; exact Vam _ hb
 ·rw[e] at hb
  unfold frs at hb
  rw[List.filterMap_cons,hf] at hb
  exact hb
theorem Inv.stkFree (I:Inv X pins σ H s):∀b∈frs X.stack,H b=none:=λb hb=>by
 rcases Vab.mp (I.stkSub b hb) with e | hb
 ·rw[e]; exact I.free
 ·obtain⟨_,o,ho,_⟩:=I.ok.funs.mem hb
  exact I.base.free b o ho (I.ok.frf b hb) λz=>I.ok.exfs b z hb
theorem Inv.step {g':Array GenState}{t':Nat}{d':Drawn}{ch:List Addr}(I:Inv X pins σ H s)
  (hch:∀b∈ch,(b∈X.ex∨X.s₀.heap.objs.size≤b)∧b≠X.env.locals∧(∀x c,X.env.cells.lookup x=some c→c≠b)∧∀p∈X.pn++pins,p.1≠b)
  (keep:∀b o,b≠X.env.locals→b ∉ X.fs→b ∉ ch→s.heap.get? b=some o→H b=none→h'.get? b=some o)
  (slot:∀b o,b≠X.env.locals→b∈X.fs→b ∉ ch→s.heap.get? b=some o→H b=none→∃sl,h'.get? b=some { o with slots:=sl })(free:∀b o,b ∉ ch→s.heap.get? b=some o→H b=none→H' b=none)
  (there:∀b o,b ∉ ch→s.heap.get? b=some o→∃o',h'.get? b=some o')
  (tups:∀b xs,H b=some (.tup xs)→H' b=some (.tup xs))(frzs:∀b o u,H b=some (.frz o u)→H' b=some (.frz o u))(tbls:∀b ps,H b=some (.tbl ps)→∃more,H' b=some (.tbl (ps++more)))
  (ns:∀m,s.heap.Ns X.env.locals m→h'.Ns X.env.locals m)(hok:HOk X.prog X.w H' h')(hg:AllBare g'):
  Inv X pins σ H' { s with heap:=h',gens:=g',drawn:=d',toks:=t' }:=by
 have neL:∀b o,X.s₀.heap.get? b=some o→b≠X.env.locals:=λb o e=>Vak (Vai (Heap.lt_size e) I.ok.above)
 have neC:∀b o,X.s₀.heap.get? b=some o→b ∉ X.ex→b ∉ ch:=λb o e hx hb=>by
  rcases (hch b hb).1 with z | z
  ·exact hx z
  ·exact absurd (Vai (Heap.lt_size e) z) (Vax _)
 have cellK:∀x c,X.env.cells.lookup x=some c→∀v,s.heap.IsCell c v→h'.IsCell c v:=λx c e v ⟨o,ho,hd⟩=>by
  have nch:c ∉ ch:=λz=>(hch c z).2.2.1 x c e rfl
  by_cases hc:c∈X.fs
  ·obtain⟨sl,q⟩:=slot c o (I.cne x c e) hc nch ho (I.freeC x c e)
   exact⟨_,q,hd⟩
  ·exact⟨o,keep c o (I.cne x c e) hc nch ho (I.freeC x c e),hd⟩
 refine⟨I.ok,I.os,hg,⟨λb o e n hb hx=>?_,λb o e n hb hx=>?_,λb o e n hx=>?_,λb o e hx=>?_,λb xs e=>tups b xs (I.base.tups b xs e),λb o xs e=>frzs b o xs (I.base.frzs b o xs e),λb ps e=>?_⟩,?_,λx c e=>?_,?_,λx c e=>?_,λp hp=>?_,hok,I.len⟩
 ·exact keep b o (neL b o e) hb (neC b o e hx) (I.base.keep b o e n hb hx) (I.base.free b o e n hx)
 ·obtain⟨sl,e1⟩:=I.base.slot b o e n hb hx
  obtain⟨sl',e2⟩:=slot b _ (neL b o e) hb (neC b o e hx) e1 (I.base.free b o e n hx)
  exact⟨sl',e2⟩
 ·obtain⟨o',e1⟩:=I.base.there b o e hx
  exact free b o' (neC b o e hx) e1 (I.base.free b o e n hx)
 ·obtain⟨o',e1⟩:=I.base.there b o e hx
  exact there b o' (neC b o e hx) e1
 ·obtain⟨m1,e1⟩:=I.base.tbls b ps e
  obtain⟨m2,e2⟩:=tbls b _ e1
  exact⟨m1++m2,by rw[e2,Array.append_assoc]⟩
 ·obtain⟨m,hn,hl⟩:=I.loc
  refine⟨m,ns m hn,λi x v e1 e2 e3=>?_⟩
  obtain⟨u,r,l⟩:=hl i x v e1 e2 e3
  refine⟨u,r,?_⟩
  rcases l with l | ⟨k,c,e,z⟩
  ·exact .inl l
  ·exact .inr ⟨k,c,e,cellK x c e _ z⟩
 ·obtain⟨v,z⟩:=I.cell x c e
  exact⟨v,cellK x c e v z⟩
 ·obtain⟨m,⟨o,_,_,ho,_⟩,_⟩:=I.loc
  exact free _ o (λz=>(hch _ z).2.1 rfl) ho I.free
 ·obtain⟨v,o,ho,hd⟩:=I.cell x c e
  exact free c o (λz=>(hch c z).2.2.1 x c e rfl) ho (I.freeC x c e)
 ·obtain⟨e,n,ne,nf,d⟩:=I.pin p hp
  have nch:p.1 ∉ ch:=λz=>(hch p.1 z).2.2.2 p hp rfl
  exact⟨keep p.1 p.2 ne nf nch e n,free p.1 p.2 nch e n,ne,nf,d⟩
theorem Inv.un {t':Nat}(I:Inv X pins σ H s)(u:Un X.fs [] H H' s.heap h')(hok:HOk X.prog X.w H' h'):Inv X pins σ H' { s with heap:=h',toks:=t' }:=by
 obtain⟨m,⟨o,es,ep,ho,r⟩,_⟩:=id I.loc
 obtain⟨sl,hL⟩:=u.any ho I.free (by simp)
 exact I.step (g':=s.gens) (d':=s.drawn) (ch:=[]) (λ_ z=>nomatch z) (λb o _ hb _ e n=>u.keep b o e n hb (by simp)) (λb o _ hb _ e n=>u.slot b o e n hb (by simp)) (λb o _ e n=>u.free b o e n (by simp)) (λb o _ e=>u.there b o e (by simp)) u.tups u.frzs u.tbls (λm' hm=>by
  obtain⟨o',es',ep',ho',r'⟩:=hm
  rw[ho] at ho'; cases ho'
  exact⟨_,es',ep',hL,r'⟩) hok I.bare
theorem Inv.call {g':Array GenState}{t':Nat}{d':Drawn}{ch:List Addr}(I:Inv X pins σ H s)(u:Un (frs X.stack) ch H H' s.heap h')(hok:HOk X.prog X.w H' h')(hg:AllBare g')
  (hch:∀b∈ch,(b∈X.ex∨X.s₀.heap.objs.size≤b)∧b≠X.env.locals∧(∀x c,X.env.cells.lookup x=some c→c≠b)∧∀p∈X.pn++pins,p.1≠b):
  Inv X pins σ H' { s with heap:=h',gens:=g',drawn:=d',toks:=t' }:=by
 obtain⟨m,⟨o,es,ep,ho,r⟩,_⟩:=id I.loc
 obtain⟨sl,hL⟩:=u.any ho I.free λz=>(hch _ z).2.1 rfl
 exact I.step (ch:=ch) hch (λb o hL hb hc e n=>u.keep b o e n (λz=>(Vab.mp (I.stkSub b z)).elim hL hb) hc) (λb o _ _ hc e n=>u.any e n hc) (λb o hc e n=>u.free b o e n hc) (λb o hc e=>u.there b o e hc) u.tups u.frzs u.tbls (λm' hm=>by
  obtain⟨o',es',ep',ho',r'⟩:=hm
  rw[ho] at ho'; cases ho'
  exact⟨_,es',ep',hL,r'⟩) hok hg
theorem Inv.turned {t':Nat}{it:Addr}(I:Inv X pins σ H s)(k:∀b o,b≠it→s.heap.get? b=some o→h'.get? b=some o)(hn:H it=none)(hL:it≠X.env.locals)
  (h1:it∈X.ex∨X.s₀.heap.objs.size≤it)(h2:∀x c,X.env.cells.lookup x=some c→c≠it)(h3:∀p∈X.pn++pins,p.1≠it):Inv X pins σ H { s with heap:=h',toks:=t' }:=by
 have nit:∀b u,H b=some u→b≠it:=λb u e z=>by rw[z,hn] at e; cases e
 refine I.step (g':=s.gens) (d':=s.drawn) (ch:=[it]) (λb hb=>?_) (λb o _ _ hc e _=>k b o (λz=>hc (by simp[z])) e) (λb o _ _ hc e _=>⟨o.slots,k b o (λz=>hc (by simp[z])) e⟩) (λ_ _ _ _ n=>n)
  (λb o hc e=>⟨o,k b o (λz=>hc (by simp[z])) e⟩) (λ_ _ e=>e) (λ_ _ _ e=>e) (λb ps e=>⟨#[],by rw[e]; simp⟩) (λm hm=>?_) (λb u e=>?_) I.bare
 ·have e:b=it:=by simpa using hb
  subst e
  exact⟨h1,hL,h2,h3⟩
 ·obtain⟨o,es,ep,ho,r⟩:=hm
  exact⟨o,es,ep,k _ o (Ne.symm hL) ho,r⟩
 ·refine(I.hok b u e).stay (λc v hc q=>k c v ?_ q) (λ_ q=>q) λ_ _ q=>q
  rcases hc with z | z
  ·rw[z]; exact nit b u e
  ·exact nit c _ z
theorem Inv.tok (I:Inv X pins σ H s)(t:Nat):Inv X pins σ H { s with toks:=t }:=I.un (h':=s.heap) (t':=t) Un.refl I.hok
theorem Inv.kept {t':Nat}(I:Inv X pins σ H s)(k:∀b u,s.heap.get? b=some u→h'.get? b=some u):Inv X pins σ H { s with heap:=h',toks:=t' }:=I.un (Un.kept k) (I.hok.kept k)
theorem Inv.laid {a:Addr}{o:HO}{t':Nat}(I:Inv X pins σ H s)(k:∀b u,s.heap.get? b=some u→h'.get? b=some u)(hp:s.heap.objs.size≤a)(new:za7 X.prog X.w (upd H a o) h' a o):
  Inv X pins σ (upd H a o) { s with heap:=h',toks:=t' }:=I.un (Un.laid k hp (I.hok.fresh hp)) (I.hok.laid k hp new)
theorem Inv.write {x e:Addr}{o:HO}{t':Nat}(I:Inv X pins σ H s)(mu:Mut (H x))(he:e=x∨H e=some (.own x))(k:∀b u,b≠e→s.heap.get? b=some u→h'.get? b=some u)(heo:∃u,h'.get? e=some u)
  (new:za7 X.prog X.w (upd H x o) h' x o):Inv X pins σ (upd H x o) { s with heap:=h',toks:=t' }:=I.un (Un.write mu he k heo) (I.hok.write mu he k heo new)
theorem Inv.pins_of {pins':List (Addr×Obj)}(I:Inv X pins σ H s)(h:∀p∈pins',s.heap.get? p.1=some p.2∧H p.1=none∧p.1≠X.env.locals∧p.1 ∉ X.fs∧∀v,p.2.data≠.cell v):Inv X pins' σ H s:=
 ⟨I.ok,I.os,I.bare,I.base,I.loc,I.cell,I.free,I.freeC,λp hp=>(Vae.mp hp).elim (λz=>I.pin p (VaA _ z)) (h p),I.hok,I.len⟩
theorem zoc {N:List Str}(hN:N.Nodup){i j:Nat}{x:Str}(a:N[i]?=some x)(b:N[j]?=some x):i=j:=by
 obtain⟨h1,e1⟩:=Vaf.mp a
 obtain⟨h2,e2⟩:=Vaf.mp b
 exact(List.getElem_inj hN).mp (e1.trans e2.symm)
theorem zvC {M:Model}{A:Around}{E:Value→Shared→Prop}{i:Nat}{x:Str}{v:V}{u:Value}{Q:Unit→Shared→Prop}(I:Inv X pins σ H s)(hN:X.N.Nodup)(hi:X.N[i]?=some x)(hx:Loc X.env.scope x)(r:zam v u)
  (h:∀s',Inv X pins (σ.set i (some v)) H s'→(∃a,Heap.SameBut a s.heap s'.heap∧(a=X.env.locals∨X.env.cells.lookup x=some a))→Q () s')(hf:X.fn x=true∨X.env.scope.names.lookup x=some .local:=by first | exact .inl rfl | exact .inr rfl | assumption):wpAny M A (storeName X.env x u) Q E s:=by
 obtain⟨m,hn,hl⟩:=id I.loc
 have hcls:(X.env.scope.kind==.class||(X.env.scope.kind==.module&&X.env.locals != X.env.globals))=false:=by rw[I.ok.kind]; rfl
 have hiσ:i<σ.length:=by rw[I.len]; exact(Vaf.mp hi).1
 have cne:=I.cne
 have tracked:∀ {a:Addr} {h':Heap},(∃o,s.heap.get? a=some o∧H a=none)→Heap.SameBut a s.heap h'→HOk X.prog X.w H h':=λ{a h'} ha hs b ob e=>by
  obtain⟨_,_,hfree⟩:=ha
  refine(I.hok b ob e).stay (λc w' hc q=>(hs.2 c ?_).trans q) (λ_ q=>q) λ_ _ q=>q
  rintro rfl
  rcases hc with rfl | hc
  ·rw[hfree] at e; cases e
  ·rw[hfree] at hc; cases hc
 rcases hx with hk | hk
 ·refine wpAny_storeName_local hk hn (λh' hn' hs=>?_) hcls
  obtain⟨oL,_,_,hoL,_⟩:=id hn
  refine h _ ⟨I.ok,I.os,I.bare,⟨λb o e n hb hx=>?_,λb o e n hb hx=>?_,I.base.free,λb o e hx=>?_,I.base.tups,I.base.frzs,I.base.tbls⟩,⟨_,hn',λj y v' e1 e2 e3=>?_⟩,λy c e=>?_,I.free,I.freeC,λp hp=>?_,tracked ⟨oL,hoL,I.free⟩ hs,by simpa using I.len⟩ ⟨_,hs,.inl rfl⟩
  ·exact(hs.2 b (Vak (Vai (Heap.lt_size e) I.ok.above))).trans (I.base.keep b o e n hb hx)
  ·obtain⟨sl,e1⟩:=I.base.slot b o e n hb hx
   exact⟨sl,(hs.2 b (Vak (Vai (Heap.lt_size e) I.ok.above))).trans e1⟩
  ·obtain⟨o',e1⟩:=I.base.there b o e hx
   exact⟨o',(hs.2 b (Vak (Vai (Heap.lt_size e) I.ok.above))).trans e1⟩
  ·by_cases hj:j=i
   ·subst hj
    rw[hi] at e1; cases e1
    rw[VaN hiσ] at e2
    cases e2
    exact⟨u,r,.inl ⟨hk,by simp⟩⟩
   ·rw[VaE (Ne.symm hj)] at e2
    obtain⟨u',r',q⟩:=hl j y v' e1 e2 e3
    refine⟨u',r',?_⟩
    rcases q with ⟨k,e⟩ | ⟨k,c,e,z⟩
    ·refine .inl ⟨k,?_⟩
     have:y≠x:=λe=>hj (zoc hN e1 (e ▸ hi))
     simp[this,e]
    ·exact .inr ⟨k,c,e,z.sameBut hs (cne y c e)⟩
  ·obtain⟨w',z⟩:=I.cell y c e
   exact⟨w',z.sameBut hs (cne y c e)⟩
  ·obtain⟨e,n,ne,nf,d⟩:=I.pin p hp
   exact⟨(hs.2 p.1 ne).trans e,n,ne,nf,d⟩
 ·have hfn:X.fn x=true:=by
   rcases hf with z | z
   ·exact z
   ·rw[z] at hk; cases hk
  obtain⟨c,hc⟩:=I.ok.has x (.inl hk)
  obtain⟨w',z⟩:=I.cell x c hc
  refine wpAny_storeName_cell I.ok.kind hk hc z (λh' hc' hs=>?_)
  obtain⟨oc,hoc,hocd⟩:=id z
  refine h { s with heap:=h' } ⟨I.ok,I.os,I.bare,⟨λb o e n hb hx=>?_,λb o e n hb hx=>?_,I.base.free,λb o e hx=>?_,I.base.tups,I.base.frzs,I.base.tbls⟩,⟨m,hn.sameBut hs (Ne.symm (cne x c hc)),λj y v' e1 e2 e3=>?_⟩,λy c' e=>?_,I.free,I.freeC,λp hp=>?_,tracked ⟨oc,hoc,I.freeC x c hc⟩ hs,by simpa using I.len⟩ ⟨c,hs,.inr hc⟩
  ·exact(hs.2 b (Vak (Vai (Heap.lt_size e) (I.ok.cab x c hfn hc)))).trans (I.base.keep b o e n hb hx)
  ·obtain⟨sl,e1⟩:=I.base.slot b o e n hb hx
   exact⟨sl,(hs.2 b (Vak (Vai (Heap.lt_size e) (I.ok.cab x c hfn hc)))).trans e1⟩
  ·obtain⟨o',e1⟩:=I.base.there b o e hx
   exact⟨o',(hs.2 b (Vak (Vai (Heap.lt_size e) (I.ok.cab x c hfn hc)))).trans e1⟩
  ·by_cases hj:j=i
   ·subst hj
    rw[hi] at e1; cases e1
    rw[VaN hiσ] at e2
    cases e2
    exact⟨u,r,.inr ⟨.inl hk,c,hc,hc'⟩⟩
   ·rw[VaE (Ne.symm hj)] at e2
    obtain⟨u',r',q⟩:=hl j y v' e1 e2 e3
    refine⟨u',r',?_⟩
    rcases q with q | ⟨k,c',e,z'⟩
    ·exact .inl q
    ·refine .inr ⟨k,c',e,z'.sameBut hs ?_⟩
     rintro rfl
     exact hj (zoc hN e1 (I.ok.inj _ _ _ e hc ▸ hi))
  ·by_cases hcc:c'=c
   ·subst hcc; exact⟨_,hc'⟩
   ·obtain⟨w2,z2⟩:=I.cell y c' e
    exact⟨w2,z2.sameBut hs hcc⟩
  ·obtain⟨e,n,ne,nf,d⟩:=I.pin p hp
   refine⟨(hs.2 p.1 ?_).trans e,n,ne,nf,d⟩
   intro q
   rw[q,hoc] at e
   have q':oc=p.2:=Option.some.inj e
   exact d w' (by rw[← q']; exact hocd)
theorem znh {M:Model}{A:Around}{E:Value→Shared→Prop}{i:Nat}{x:Str}{v:V}{u:Value}{Q:Unit→Shared→Prop}(I:Inv X pins σ H s)(hN:X.N.Nodup)(hi:X.N[i]?=some x)(hx:Loc X.env.scope x)(r:zam v u)
  (h:∀s',Inv X pins (σ.set i (some v)) H s'→Q () s')(hf:X.fn x=true∨X.env.scope.names.lookup x=some .local:=by first | exact .inl rfl | exact .inr rfl | assumption):wpAny M A (storeName X.env x u) Q E s:=
 zvC I hN hi hx r (λs' I' _=>h s' I') hf
theorem Inv.call' {s':Shared}{ch:List Addr}(I:Inv X pins σ H s)(ho:s'.os=s.os)(u:Un (frs X.stack) ch H H' s.heap s'.heap)(hok:HOk X.prog X.w H' s'.heap)(hg:AllBare s'.gens)
  (hch:∀b∈ch,(b∈X.ex∨X.s₀.heap.objs.size≤b)∧b≠X.env.locals∧(∀x c,X.env.cells.lookup x=some c→c≠b)∧∀p∈X.pn++pins,p.1≠b):Inv X pins σ H' s':=by
 obtain⟨h',g',d',t',o'⟩:=s'
 have e:o'=s.os:=ho
 subst e
 exact I.call (g':=g') (t':=t') (d':=d') u hok hg hch
end
abbrev XK:=Value→Option Addr→Hp→Prop
abbrev St:=List (Option V)
abbrev VK:=V→Hp→Prop
abbrev TE:=St→Hp→VK→Prop
abbrev TT:=St→Hp→(Bool→Hp→Prop)→Prop
abbrev TA:=St→Hp→(List V→Hp→Prop)→Prop
structure zeq where
 nx:St→Hp→Prop
 rt:VK
 bk:St→Hp→Prop:=λ_ _=>False
 ct:St→Hp→Prop:=λ_ _=>False
abbrev TS:=zeq→St→Hp→Prop
def EP (X:Cx)(pins:List (Addr×Obj))(σ:St)(Q:VK)(u:Value)(s':Shared):Prop:=∃v H',Inv X pins σ H' s'∧zam v u∧Q v H'
def TP (X:Cx)(pins:List (Addr×Obj))(σ:St)(Q:Bool→Hp→Prop)(b:Bool)(s':Shared):Prop:=∃H',Inv X pins σ H' s'∧Q b H'
def AP (X:Cx)(pins:List (Addr×Obj))(σ:St)(Q:List V→Hp→Prop)(us:List Value)(s':Shared):Prop:=∃vs H',Inv X pins σ H' s'∧zal vs us∧Q vs H'
def SP (X:Cx)(pins:List (Addr×Obj))(D:zeq)(f:Flow)(s':Shared):Prop:=
 match f with
 | .next=>∃σ' H',Inv X pins σ' H' s'∧D.nx σ' H'
 | .brk=>∃σ' H',Inv X pins σ' H' s'∧D.bk σ' H'
 | .cont=>∃σ' H',Inv X pins σ' H' s'∧D.ct σ' H'
 | .ret u=>∃v σ' H',Inv X pins σ' H' s'∧zam v u∧D.rt v H'
def PE (X:Cx)(e:Expr)(t:TE):Prop:=
 ∀(pins:List (Addr×Obj)) (s:Shared) (σ:St) (H:Hp) (Q:VK),Inv X pins σ H s→t σ H Q→wpAny (model X.prog X.w) X.A (eval e X.env) (EP X pins σ Q) X.xe s
def PT (X:Cx)(e:Expr)(t:TT):Prop:=
 ∀(pins:List (Addr×Obj)) (s:Shared) (σ:St) (H:Hp) (Q:Bool→Hp→Prop),Inv X pins σ H s→t σ H Q→wpAny (model X.prog X.w) X.A (isTrue e X.env (eval e X.env)) (TP X pins σ Q) X.xe s
def PW (X:Cx)(e:Expr)(t:TT):Prop:=
 ∀(whole:Sem Value) (pins:List (Addr×Obj)) (s:Shared) (σ:St) (H:Hp) (Q:Bool→Hp→Prop),Inv X pins σ H s→t σ H Q→wpAny (model X.prog X.w) X.A (isTrue e X.env whole) (TP X pins σ Q) X.xe s
theorem PW.pt {X:Cx}{e:Expr}{t:TT}(h:PW X e t):PT X e t:=h _
def PA (X:Cx)(es:List Expr)(t:TA):Prop:=
 ∀(pos:Pos) (pins:List (Addr×Obj)) (s:Shared) (σ:St) (H:Hp) (Q:List V→Hp→Prop),Inv X pins σ H s→t σ H Q→wpAny (model X.prog X.w) X.A (spliced (backTo pos (starEach es X.env))) (AP X pins σ Q) X.xe s
def PS (X:Cx)(st:Stmt)(t:TS):Prop:=
 ∀(pins:List (Addr×Obj)) (s:Shared) (σ:St) (H:Hp) (D:zeq),Inv X pins σ H s→t D σ H→wpAny (model X.prog X.w) X.A (exec st X.env) (SP X pins D) X.xe s
def PSs (X:Cx)(st:List Stmt)(t:TS):Prop:=
 ∀(pins:List (Addr×Obj)) (s:Shared) (σ:St) (H:Hp) (D:zeq),Inv X pins σ H s→t D σ H→wpAny (model X.prog X.w) X.A (execs st X.env) (SP X pins D) X.xe s
theorem thn {α:Type}{t:Sem α}{Q Q':α→Shared→Prop}{M:Model}{A:Around}{E:Value→Shared→Prop}{s:Shared}(h:wpAny M A t Q E s)(hQ:∀a s,Q a s→Q' a s):wpAny M A t Q' E s:=wpAny_mono h hQ λ_ _ x=>x
end L2
namespace L2
open PySem PySem.Spec PyProof.Rows
section
variable {X:Cx}
def tVar (i:Nat):TE:=λσ H Q=>∃v,σ[i]?=some (some v)∧Q v H
def tC (v:V):TE:=λ_ H Q=>Q v H
theorem znW {i:Nat}{x:Str}{pos:Pos}(hN:X.N[i]?=some x)(hv:Vis X.env.scope x)(hd:(x==("__debug__":Str))=false:=by decide)(hcd:(x==("__classdict__":Str))=false:=by decide):PE X (.Name x pos) (tVar i):=by
 intro pins s σ H Q I h
 obtain⟨v,e,h⟩:=h
 obtain⟨m,hn,hl⟩:=I.loc
 obtain⟨u,r,l⟩:=hl i x v hN e hv
 have fin:EP X pins σ Q u s:=⟨v,H,I,r,h⟩
 rcases l with ⟨hk,hm⟩ | ⟨hk,c,hc,hcell⟩
 ·exact wpAny_Name (wpAny_loadName_local I.ok.kind hk hn hm fin) hd
 ·rcases hk with hk | hk
  ·exact wpAny_Name (wpAny_loadName_cell I.ok.kind hk hc hcell fin) hd
  ·exact wpAny_Name (wpAny_loadName_free I.ok.kind hk hc hcell fin hcd) hd
theorem zwc {i j pos}:PE X (.Constant (.int i) j pos) (tC (.int i)):=λ_ _ _ H _ I h=>wpAny_Constant_int ⟨.int i,H,I.tok _,⟨_,rfl⟩,h⟩
theorem pe_bl {b j pos}:PE X (.Constant (.bool b) j pos) (tC (.bl b)):=λ_ _ _ H _ I h=>Constant_bool ⟨.bl b,H,I,rfl,h⟩
theorem zrU {x j pos}:PE X (.Constant (.str x) j pos) (tC (.str x)):=λ_ _ _ H _ I h=>Calls.Constant_str ⟨.str x,H,I.tok _,⟨_,rfl⟩,h⟩
def Gl (X:Cx)(x:Str):Prop:=X.env.kindOf x=some .globalImplicit
theorem zhl {E:Value→Shared→Prop}{pins:List (Addr×Obj)}{s:Shared}{σ:St}{H:Hp}{x:Str}{u:Value}{pos:Pos}{Q:Value→Shared→Prop}(I:Inv X pins σ H s)(hg:Gl X x)(hm:X.mg x=some u)(h:Q u s)
  (hd:(x==("__debug__":Str))=false:=by decide):wpAny (model X.prog X.w) X.A (eval (.Name x pos) X.env) Q E s:=
 Calls.Name_function_global I.ok.kind hg (Calls.loadGlobal_global (by rw[I.ok.glob]; exact I.mod.glob.keeps I.bk) hm h) hd
theorem zij {E:Value→Shared→Prop}{pins:List (Addr×Obj)}{s:Shared}{σ:St}{H:Hp}{x:Str}{u:Value}{pos:Pos}{Q:Value→Shared→Prop}(I:Inv X pins σ H s)(hg:Gl X x)(hm:X.mg x=none)(hv:bootBuiltins x=some u)(h:Q u s)
  (hn:x≠"__name__":=by decide)(hd:(x==("__debug__":Str))=false:=by decide):wpAny (model X.prog X.w) X.A (eval (.Name x pos) X.env) Q E s:=by
 obtain⟨mb,h1,h2⟩:=I.mod.blt
 exact Calls.Name_function_global I.ok.kind hg (Calls.loadGlobal_builtin (by rw[I.ok.glob]; exact I.mod.glob.keeps I.bk) hm (by rw[I.ok.blt]; exact h1.keeps I.bk) ((h2 x hn).trans hv) h) hd
theorem zfz {x:Str}{v:V}{u:Value}{pos:Pos}(hg:Gl X x)(hm:X.mg x=some u)(r:zam v u)(hd:(x==("__debug__":Str))=false:=by decide):PE X (.Name x pos) (tC v):=
 λ_ _ _ H _ I h=>zhl I hg hm ⟨v,H,I,r,h⟩ hd
theorem zoe {x:Str}{v:V}{u:Value}{pos:Pos}(hg:Gl X x)(hm:X.mg x=none)(hv:bootBuiltins x=some u)(r:zam v u)(hn:x≠"__name__":=by decide)(hd:(x==("__debug__":Str))=false:=by decide):PE X (.Name x pos) (tC v):=
 λ_ _ _ H _ I h=>zij I hg hm hv ⟨v,H,I,r,h⟩ hn hd
variable {a b:Expr}{ta tb:TE}{pos:Pos}
def PC (X:Cx)(op:CmpOp)(a b:Expr)(t:TE):Prop:=
 ∀(pins:List (Addr×Obj)) (s:Shared) (σ:St) (H:Hp) (Q:VK),Inv X pins σ H s→t σ H Q→
  wpAny (model X.prog X.w) X.A (eval a X.env) (λv s₁=>wpAny (model X.prog X.w) X.A (eval b X.env) (λu s₂=>wpAny (model X.prog X.w) X.A (compareOp op v u) (EP X pins σ Q) X.xe s₂) X.xe s₁) X.xe s
theorem zsd (b:Expr){op:CmpOp}(h:op≠.In)(h2:op≠.NotIn):behindInMarks op b=false:=by
 have e1:(op==CmpOp.In)=false:=by cases op <;> first | rfl | exact absurd rfl h
 have e2:(op==CmpOp.NotIn)=false:=by cases op <;> first | rfl | exact absurd rfl h2
 cases b <;> simp[behindInMarks,e1,e2]
def tB (t:TE):TT:=λσ H Q=>t σ H λx H1=>∃c,x=.bl c∧Q c H1
theorem zj3 {op:CmpOp}{t:TE}(h:PC X op a b t)(h1:behindInMarks op b=false:=by first | exact zsd _ (by decide) (by decide) | rfl):PT X (.Compare a [op] [b] pos) (tB t):=by
 intro pins s σ H Q I hw
 refine wpAny_isTrue_Compare1 (thn (h pins s σ H _ I hw) λv s1 h1=>thn h1 λu s2 h2=>thn h2 λc s3 ⟨x,H1,I1,r1,q1⟩=>?_) h1
 obtain⟨d,rfl,q⟩:=q1
 cases r1
 exact wpAny_truthy_bool ⟨H1,I1,q⟩
theorem zvr {e:Expr}{t:TE}(h:PE X e t)(he:∀whole,isTrue e X.env whole=(do let v ← whole; standAt e.pos; holding [v] (truthy v)):=by intro _; rfl):PT X e (tB t):=by
 intro pins s σ H Q I hw
 refine isTrue_plain (thn (h pins s σ H _ I hw) λv s1 ⟨x,H1,I1,r1,q1⟩=>?_) (he _)
 obtain⟨d,rfl,q⟩:=q1
 cases r1
 exact wpAny_truthy_bool ⟨H1,I1,q⟩
variable {tA tB':TT}{zbc:List Expr}
def tAnd (t u:TT):TT:=λσ H Q=>t σ H λc H1=>if c=true then u σ H1 Q else Q false H1
def tOr (t u:TT):TT:=λσ H Q=>t σ H λc H1=>if c=true then Q true H1 else u σ H1 Q
def tNot (t:TT):TT:=λσ H Q=>t σ H λc H1=>Q (!c) H1
theorem zvi (ha:PT X a tA):PW X (.BoolOp .And [a] pos) tA:=by
 intro wh pins s σ H Q I h
 refine isTrue_and (thn (ha pins s σ H Q I h) λc s1 e=>?_)
 cases c with
 | true=>exact isTrue_and_nil e
 | false=>exact e
theorem zvQ (ha:PT X a tA):PW X (.BoolOp .Or [a] pos) tA:=by
 intro wh pins s σ H Q I h
 refine isTrue_or (thn (ha pins s σ H Q I h) λc s1 e=>?_)
 cases c with
 | false=>exact isTrue_or_nil e
 | true=>exact e
theorem zqi (ha:PT X a tA)(hb:PW X (.BoolOp .And (b::zbc) pos) tB'):PW X (.BoolOp .And (a::b::zbc) pos) (tAnd tA tB'):=by
 intro wh pins s σ H Q I h
 refine isTrue_and (thn (ha pins s σ H _ I h) λc s1 ⟨H1,I1,q1⟩=>?_)
 cases c with
 | true=>exact hb wh pins s1 σ H1 Q I1 q1
 | false=>exact⟨H1,I1,q1⟩
theorem pw_or (ha:PT X a tA)(hb:PW X (.BoolOp .Or (b::zbc) pos) tB'):PW X (.BoolOp .Or (a::b::zbc) pos) (tOr tA tB'):=by
 intro wh pins s σ H Q I h
 refine isTrue_or (thn (ha pins s σ H _ I h) λc s1 ⟨H1,I1,q1⟩=>?_)
 cases c with
 | true=>exact⟨H1,I1,q1⟩
 | false=>exact hb wh pins s1 σ H1 Q I1 q1
theorem zuL (ha:PT X a tA):PT X (.UnaryOp .Not a pos) (tNot tA):=by
 intro pins s σ H Q I h
 exact isTrue_not (ha pins s σ H (λc H1=>Q (!c) H1) I h)
def tAndV (ta tb:TE):TE:=λσ H Q=>ta σ H λx H1=>∃c,x=.bl c∧if c=true then tb σ H1 Q else Q (.bl false) H1
def tNotV (ta:TE):TE:=λσ H Q=>ta σ H λx H1=>∃c,x=.bl c∧Q (.bl (!c)) H1
theorem ztR {op}{t:TE}(h:PE X a t):PE X (.BoolOp op [a] pos) t:=λpins s σ H Q I hw=>BoolOp_one (h pins s σ H Q I hw)
theorem zuz (ha:PE X a ta)(hb:PE X (.BoolOp .And (b::zbc) pos) tb):PE X (.BoolOp .And (a::b::zbc) pos) (tAndV ta tb):=by
 intro pins s σ H Q I h
 refine BoolOp_and (thn (ha pins s σ H _ I h) λv s1 ⟨x,H1,I1,r1,q1⟩=>?_)
 obtain⟨c,rfl,q1⟩:=q1
 cases r1
 refine wpAny_truthy_bool ?_
 cases c with
 | true=>exact hb pins s1 σ H1 Q I1 q1
 | false=>exact⟨.bl false,H1,I1,rfl,q1⟩
theorem zs3 (ha:PE X a ta):PE X (.UnaryOp .Not a pos) (tNotV ta):=by
 intro pins s σ H Q I h
 refine UnaryOp_ (thn (ha pins s σ H _ I h) λv s1 ⟨x,H1,I1,r1,q1⟩=>?_)
 obtain⟨c,rfl,q1⟩:=q1
 cases r1
 exact not_of (wpAny_truthy_bool ⟨.bl (!c),H1,I1,rfl,q1⟩)
def tIf (t:TT)(ta tb:TE):TE:=λσ H Q=>t σ H λc H1=>if c=true then ta σ H1 Q else tb σ H1 Q
theorem zvo {c:Expr}(hc:PT X c tA)(ha:PE X a ta)(hb:PE X b tb):PE X (.IfExp c a b pos) (tIf tA ta tb):=by
 intro pins s σ H Q I h
 refine wpAny_IfExp (thn (hc pins s σ H _ I h) λd s1 ⟨H1,I1,q1⟩=>?_)
 cases d with
 | true=>exact ha pins s1 σ H1 Q I1 q1
 | false=>exact hb pins s1 σ H1 Q I1 q1
end
end L2
namespace L2
open PySem PySem.Spec PyProof.Rows
def SqL (K:PySem.W.Frag)(H:Hp)(a:Addr)(xs:List V):Prop:=
 Rd H a (.lst xs)∨
  ∃(o:Obj) (its:Array Value) (n:Nat),K.lookup a=some o∧o.cls=.type "list"∧o.dict=none∧o.data=.seq its n∧its.size≤sizeLine∧zal xs its.toList
def SqT (K:PySem.W.Frag)(H:Hp)(a:Addr)(xs:List V):Prop:=
 Rd H a (.tup xs)∨
  ∃(o:Obj) (its:Array Value) (n:Nat),K.lookup a=some o∧o.cls=.type "tuple"∧o.data=.seq its n∧its.size≤sizeLine∧zal xs its.toList
def absV:Value→Option V
 | .none=>some .non
 | .bool b=>some (.bl b)
 | .int i _=>some (.int i)
 | .str x _=>some (.str x)
 | .bytes b _=>some (.byt b)
 | .float b _=>some (.flt b)
 | .ref a=>some (.ref a)
 | .type n=>some (.ty n)
 | _=>none
theorem zam.abs {x:V}{u:Value}(r:zam x u):absV u=some x:=by
 cases x with
 | non=>cases r; rfl
 | bl _=>cases r; rfl
 | int _=>obtain⟨t,rfl⟩:=r; rfl
 | str _=>obtain⟨t,rfl⟩:=r; rfl
 | byt _=>obtain⟨t,rfl⟩:=r; rfl
 | flt _=>obtain⟨t,rfl⟩:=r; rfl
 | ref _=>cases r; rfl
 | ty _=>cases r; rfl
theorem zam.inj {x y:V}{u:Value}(r:zam x u)(q:zam y u):x=y:=Option.some.inj (r.abs.symm.trans q.abs)
theorem zal.inj:∀ {xs ys:List V} {us:List Value},zal xs us→zal ys us→xs=ys
 | _,_,_,.nil,.nil=>rfl
 | _,_,_,.cons r t,.cons r' t'=>by rw[r.inj r',zal.inj t t']
section
variable {X:Cx}{pins:List (Addr×Obj)}{σ:St}{H:Hp}{s:Shared}{a:Addr}{xs ys:List V}
theorem SqL.of {K:PySem.W.Frag}(h:H a=some (.lst xs)):SqL K H a xs:=.inl (.inl h)
theorem SqT.of {K:PySem.W.Frag}(h:H a=some (.tup xs)):SqT K H a xs:=.inl (.inl h)
theorem Inv.list (I:Inv X pins σ H s)(h:SqL X.K H a xs):∃its:List Value,zal xs its∧PlainL s.heap a its.toArray∧xs.length≤sizeLine:=by
 rcases h with h | ⟨o,its,n,hk,hc,hd,hs,hz,r⟩
 ·obtain⟨z,its,n,r,e⟩:=h.ok I.hok
  exact⟨its,r,⟨_,n,e,rfl,rfl,rfl⟩,z⟩
 ·refine⟨its.toList,r,⟨o,n,I.kIn a o hk,hc,hd,by simpa using hs⟩,?_⟩
  have e:=r.length
  simp only[Array.length_toList] at e
  omega
theorem Inv.tuple (I:Inv X pins σ H s)(h:SqT X.K H a xs):∃its:List Value,zal xs its∧IsTup s.heap a its.toArray∧xs.length≤sizeLine:=by
 rcases h with h | ⟨o,its,n,hk,hc,hs,hz,r⟩
 ·obtain⟨z,its,r,p⟩:=h.ok I.hok
  exact⟨its,r,p,z⟩
 ·refine⟨its.toList,r,⟨o,I.kIn a o hk,hc,n,by simpa using hs⟩,?_⟩
  have e:=r.length
  simp only[Array.length_toList] at e
  omega
theorem Inv.list_inj (I:Inv X pins σ H s)(h:SqL X.K H a xs)(h':SqL X.K H a ys):xs=ys:=by
 obtain⟨its,r,⟨o,n,e,_,_,d⟩,_⟩:=I.list h
 obtain⟨its',r',⟨o',n',e',_,_,d'⟩,_⟩:=I.list h'
 rw[e] at e'; cases e'
 rw[d] at d'
 injection d' with d1 _
 have:its=its':=by simpa using congrArg Array.toList d1
 subst this
 exact r.inj r'
end
abbrev Cx.wish (X:Cx)(E:Value→Shared→Prop):Cx:={ X with xe:=E }
abbrev Cx.nox (X:Cx):Cx:=X.wish λ_ _=>False
theorem Cx.Ok.wish {X:Cx}(ok:X.Ok)(E:Value→Shared→Prop):(X.wish E).Ok:=
 ⟨ok.mod,ok.kind,ok.glob,ok.blt,ok.above,ok.inj,ok.has,ok.cab,ok.hd,ok.frames,ok.stk,ok.exf,ok.bs,ok.bsz,ok.noex,ok.exfs,ok.funs,ok.frf⟩
theorem Cx.Ok.unwish {X:Cx}{E:Value→Shared→Prop}(ok:(X.wish E).Ok):X.Ok:=
 ⟨ok.mod,ok.kind,ok.glob,ok.blt,ok.above,ok.inj,ok.has,ok.cab,ok.hd,ok.frames,ok.stk,ok.exf,ok.bs,ok.bsz,ok.noex,ok.exfs,ok.funs,ok.frf⟩
section
variable {X:Cx}{pins:List (Addr×Obj)}{σ:St}{H:Hp}{s:Shared}{E:Value→Shared→Prop}
theorem Inv.wish (I:Inv X pins σ H s)(E:Value→Shared→Prop):Inv (X.wish E) pins σ H s:=⟨I.ok.wish E,I.os,I.bare,I.base,I.loc,I.cell,I.free,I.freeC,I.pin,I.hok,I.len⟩
theorem Inv.unwish (I:Inv (X.wish E) pins σ H s):Inv X pins σ H s:=⟨I.ok.unwish,I.os,I.bare,I.base,I.loc,I.cell,I.free,I.freeC,I.pin,I.hok,I.len⟩
theorem SP.unwish {D:zeq}{f:Flow}{s':Shared}(h:SP (X.wish E) pins D f s'):SP X pins D f s':=by
 cases f with
 | next=>obtain⟨σ',H',I,q⟩:=h; exact⟨σ',H',I.unwish,q⟩
 | brk=>obtain⟨σ',H',I,q⟩:=h; exact⟨σ',H',I.unwish,q⟩
 | cont=>obtain⟨σ',H',I,q⟩:=h; exact⟨σ',H',I.unwish,q⟩
 | ret u=>obtain⟨v,σ',H',I,r,q⟩:=h; exact⟨v,σ',H',I.unwish,r,q⟩
theorem PE.nox {e:Expr}{t:TE}(h:PE X.nox e t):PE X e t:=λpins s σ H Q I hw=>
 wpAny_mono (h pins s σ H Q (I.wish _) hw) (λ_ _ ⟨v,H',I',r,q⟩=>⟨v,H',I'.unwish,r,q⟩) λ_ _ z=>False.elim z
theorem PT.nox {e:Expr}{t:TT}(h:PT X.nox e t):PT X e t:=λpins s σ H Q I hw=>
 wpAny_mono (h pins s σ H Q (I.wish _) hw) (λ_ _ ⟨H',I',q⟩=>⟨H',I'.unwish,q⟩) λ_ _ z=>False.elim z
theorem PSs.nox {st:List Stmt}{t:TS}(h:PSs X.nox st t):PSs X st t:=λpins s σ H D I hw=>
 wpAny_mono (h pins s σ H D (I.wish _) hw) (λ_ _ q=>q.unwish) λ_ _ z=>False.elim z
end
section
variable {X:Cx}{st:Stmt}{zbc:List Stmt}{t u:TS}{e:Expr}{te:TE}{pos:Pos}
def tNext:TS:=λD σ H=>D.nx σ H
def tSeq (t u:TS):TS:=λD σ H=>t { D with nx:=u D } σ H
theorem zuT:PSs X [] tNext:=λ_ _ σ H _ I h=>wpAny_execs_nil ⟨σ,H,I,h⟩
theorem zwb (h1:PS X st t)(h2:PSs X zbc u):PSs X (st::zbc) (tSeq t u):=by
 intro pins s σ H D I h
 refine wpAny_execs_cons (thn (h1 pins s σ H { D with nx:=u D } I h) λf s1 q=>?_)
 cases f with
 | next=>
  obtain⟨σ',H',I',q⟩:=q
  exact h2 pins s1 σ' H' D I' q
 | ret v=>exact q
 | brk=>exact q
 | cont=>exact q
theorem zu8 (h1:PS X st t):PSs X [st] t:=by
 intro pins s σ H D I h
 refine wpAny_execs_cons (thn (h1 pins s σ H D I h) λf s1 q=>?_)
 cases f with
 | next=>exact wpAny_execs_nil q
 | ret v=>exact q
 | brk=>exact q
 | cont=>exact q
theorem Inv.quiet {pins:List (Addr×Obj)}{σ:St}{H:Hp}{s:Shared}(I:Inv X pins σ H s):interactive X.env=false:=by simp[interactive,I.ok.kind]
def tDrop (te:TE):TS:=λD σ H=>te σ H λ_ H1=>D.nx σ H1
theorem zuH (he:PE X e te)(hs:swapsWith e none pos.line X.env=pure false:=by rfl):PS X (.Expr e pos) (tDrop te):=by
 intro pins s σ H D I h
 exact wpAny_Expr_any (thn (he pins s σ H _ I h) λv s1 ⟨x,H1,I1,r1,q1⟩=>⟨σ,H1,I1,q1⟩) I.quiet hs
def tRet (te:TE):TS:=λD σ H=>te σ H D.rt
theorem zvU (he:PE X e te):PS X (.Return (some e) pos) (tRet te):=by
 intro pins s σ H D I h
 exact wpAny_Return_some (thn (he pins s σ H _ I h) λv s1 ⟨x,H1,I1,r1,q1⟩=>⟨x,σ,H1,I1,r1,q1⟩)
def tIfS (c:TT)(t u:TS):TS:=λD σ H=>c σ H λb H1=>if b=true then t D σ H1 else u D σ H1
theorem ps_if {c:Expr}{a b:List Stmt}{tc:TT}(hc:PT X c tc)(ha:PSs X a t)(hb:PSs X b u):PS X (.If c a b pos) (tIfS tc t u):=by
 intro pins s σ H D I h
 refine wpAny_If (thn (hc pins s σ H _ I h) λd s1 ⟨H1,I1,q1⟩=>?_)
 cases d with
 | true=>exact ha pins s1 σ H1 D I1 q1
 | false=>exact hb pins s1 σ H1 D I1 q1
end
abbrev TG:=V→St→Hp→(St→Hp→Prop)→Prop
abbrev TGs:=List V→St→Hp→(St→Hp→Prop)→Prop
def PG (X:Cx)(target:Expr)(t:TG):Prop:=
 ∀(pins:List (Addr×Obj)) (s:Shared) (σ:St) (H:Hp) (v:V) (u:Value) (Q:St→Hp→Prop),Inv X pins σ H s→zam v u→t v σ H Q→
  wpAny (model X.prog X.w) X.A (assign target X.env u) (λ_ s'=>∃σ' H',Inv X pins σ' H' s'∧Q σ' H') X.xe s
def PGs (X:Cx)(ts:List Expr)(t:TGs):Prop:=
 ∀(pins:List (Addr×Obj)) (s:Shared) (σ:St) (H:Hp) (vs:List V) (us:List Value) (Q:St→Hp→Prop),Inv X pins σ H s→zal vs us→t vs σ H Q→
  wpAny (model X.prog X.w) X.A (assignInOrder ((assignEach ts X.env).map (·.2)) us) (λ_ s'=>∃σ' H',Inv X pins σ' H' s'∧Q σ' H') X.xe s
section
variable {X:Cx}{pos:Pos}
def zpC (i:Nat):TG:=λv σ H Q=>Q (σ.set i (some v)) H
theorem zlc {i:Nat}{x:Str}(hN:X.N.Nodup)(hi:X.N[i]?=some x)(hx:Loc X.env.scope x)(hf:X.fn x=true∨X.env.scope.names.lookup x=some .local:=by first | exact .inl rfl | exact .inr rfl | assumption):PG X (.Name x pos) (zpC i):=by
 intro pins s σ H v u Q I r h
 exact wpAny_assign_Name (znh I hN hi hx r (λs' I'=>⟨_,H,I',h⟩) hf)
def gNil:TGs:=λvs σ H Q=>vs=[]∧Q σ H
def gCons (t:TG)(u:TGs):TGs:=λvs σ H Q=>∃v r,vs=v::r∧t v σ H λσ' H'=>u r σ' H' Q
theorem zuo:PGs X [] gNil:=by
 intro pins s σ H vs us Q I r h
 obtain⟨e,h⟩:=h
 subst e
 cases r
 exact assignInOrder_nil ⟨σ,H,I,h⟩
theorem zxb {e:Expr}{es:List Expr}{t:TG}{u:TGs}(h1:PG X e t)(h2:PGs X es u)
  (hs:(assignEach (e::es) X.env).map (·.2)=assign e X.env::(assignEach es X.env).map (·.2):=by rfl):PGs X (e::es) (gCons t u):=by
 intro pins s σ H vs us Q I r h
 obtain⟨v,vr,e1,h⟩:=h
 subst e1
 cases r with
 | cons r rr=>
  rw[hs]
  refine assignInOrder_cons (thn (h1 pins s σ H _ _ _ I r h) λ_ s1 ⟨σ1,H1,I1,q1⟩=>?_)
  exact h2 pins s1 σ1 H1 _ _ Q I1 rr q1
def gTup (K:PySem.W.Frag)(n:Nat)(t:TGs):TG:=λv σ H Q=>∃a xs,v=.ref a∧SqT K H a xs∧xs.length=n∧t xs σ H Q
theorem zta {es:List Expr}{k:Nat}{t:TGs}{n:Nat}(hc:X.calm=true)(h:PGs X es t)
  (hn:(assignEach es X.env).length=n:=by rfl)(hst:(assignEach es X.env).findIdx? (·.1)=none:=by rfl):PG X (.Tuple es k pos) (gTup X.K n t):=by
 intro pins s σ H v u Q I r hw
 obtain⟨a,xs,e1,hq,hl,hw⟩:=hw
 subst e1
 cases r
 obtain⟨its,rv,ht,hz⟩:=I.tuple hq
 refine assign_Tuple_tuple (I.ok.hd hc) ht (by simp[hn,← hl,rv.length]) hst λh' hx=>?_
 have I1:Inv X pins σ H { s with heap:=h' }:=I.kept (t':=s.toks) λb o e=>hx b o (Vak (Heap.lt_size e)) e
 exact h pins _ σ H xs _ Q I1 (by simpa using rv) hw
def tAsg (te:TE)(g:TG):TS:=λD σ H=>te σ H λx H1=>g x σ H1 D.nx
theorem zuU {i:Nat}{x:Str}{e:Expr}{te:TE}{pos':Pos}(hN:X.N.Nodup)(hi:X.N[i]?=some x)(hx:Loc X.env.scope x)(he:PE X e te)(hs:swapsWith e (some (.Name x pos')) pos.line X.env=pure false:=by rfl)(hf:X.fn x=true∨X.env.scope.names.lookup x=some .local:=by first | exact .inl rfl | exact .inr rfl | assumption):
  PS X (.Assign [.Name x pos'] e pos) (tAsg te (zpC i)):=by
 intro pins s σ H D I h
 refine wpAny_Assign_Name (thn (he pins s σ H _ I h) λv s1 ⟨y,H1,I1,r1,q1⟩=>?_) hs
 exact znh I1 hN hi hx r1 (λs2 I2=>⟨_,H1,I2,q1⟩) hf
end
section
variable {X:Cx}{pos:Pos}
def zvf (c:TT)(tb:TS):TS:=λD σ H=>∃W:Nat→St→Hp→Prop,(∃m,W m σ H)∧∀m σ H,W m σ H→
 c σ H λb H1=>if b=true then ∃N:St→Hp→Prop,(∀σ' H',N σ' H'→∃m',m'<m∧W m' σ' H')∧tb { D with nx:=N,ct:=N,bk:=D.nx } σ H1 else D.nx σ H1
theorem zwG {c:Expr}{body:List Stmt}{tc:TT}{tb:TS}(hp:PassesOwn (model X.prog X.w) X.A X.env X.xe)(hc:PT X c tc)(hb:PSs X body tb):PS X (.While c body [] pos) (zvf tc tb):=by
 intro pins s σ H D I h
 obtain⟨W,⟨m0,w0⟩,turn⟩:=h
 refine wpAny_While (codeAny_whileLoop (λn s'=>∃σ' H',Inv X pins σ' H' s'∧W n σ' H') ?_ m0 ⟨σ,H,I,w0⟩)
 rintro n s1 ⟨σ1,H1,I1,w1⟩
 refine wpAny_passesOwn hp (thn (hc pins s1 σ1 H1 _ I1 (turn n σ1 H1 w1)) λb s2 ⟨H2,I2,q2⟩=>?_)
 cases b with
 | true=>
  obtain⟨N,hN,q2⟩:=q2
  rw[if_pos rfl]
  refine wpAny_passesOwn hp (thn (hb pins s2 σ1 H2 _ I2 q2) λf s3 q3=>?_)
  cases f with
  | next=>
   obtain⟨σ3,H3,I3,n3⟩:=q3
   obtain⟨m',hm,w3⟩:=hN σ3 H3 n3
   exact⟨m',hm,σ3,H3,I3,w3⟩
  | cont=>
   obtain⟨σ3,H3,I3,n3⟩:=q3
   obtain⟨m',hm,w3⟩:=hN σ3 H3 n3
   exact⟨m',hm,σ3,H3,I3,w3⟩
  | brk=>exact q3
  | ret v=>exact q3
 | false=>
  rw[if_neg Val]
  exact wpAny_execs_nil ⟨σ1,H2,I2,q2⟩
end
structure It where
 go:Nat→Hp→Prop
 yld:Nat→Hp→V→Hp→Prop
 stop:Nat→Hp→Prop
def zcm (X:Cx)(pins:List (Addr×Obj))(H:Hp)(b:Addr):Prop:=
 H b=none∧b≠X.env.locals∧b ∉ X.fs∧(b∈X.ex∨X.s₀.heap.objs.size≤b)∧(∀x c,X.env.cells.lookup x=some c→c≠b)∧∀p∈X.pn++pins,p.1≠b
theorem Inv.fpOk {X:Cx}{pins:List (Addr×Obj)}{σ:St}{H H':Hp}{s:Shared}{b:Addr}(I:Inv X pins σ H s)(hb:s.heap.objs.size≤b)(hn:H' b=none):zcm X pins H' b:=by
 refine⟨hn,Nat.ne_of_gt (Vai I.lt hb),I.nofs hb,.inr (Vat I.sz hb),λx c e z=>?_,λp hp z=>?_⟩
 ·obtain⟨v,q⟩:=I.cell x c e
  exact absurd (Vai q.lt (by rw[z]; exact hb)) (Vax _)
 ·exact absurd (Vai (Heap.lt_size (I.pin p hp).1) (by rw[z]; exact hb)) (Vax _)
structure zhs (P:Program)(w:World)(K:PySem.W.Frag)(tg:Expr)(J:It)(fp:List Addr)(it:Addr)(tn:Nat→Heap→Prop):Prop where
 mem:it∈fp
 obj:∀i h,tn i h→∀b∈fp,∃o,h.get? b=some o∧∀v,o.data≠.cell v
 keep:∀i h h',tn i h→(∀b∈fp,∀o,h.get? b=some o→h'.get? b=some o)→tn i h'
 item:∀(X:Cx),X.prog=P→X.w=w→X.K=K→X.calm=true→∀(i:Nat) (pins:List (Addr×Obj)) (s:Shared) (σ:St) (H:Hp) (E:Value→Shared→Prop),Inv X pins σ H s→(∀b∈fp,zcm X pins H b)→tn i s.heap→J.go i H→
  wpAny (model P w) X.A (pyNext (.ref it)) (λr s1=>∃u,r=some u∧
   wpAny (model P w) X.A (letOwnedTupleGo tg (.ref it) u) (λ_ s2=>∃x H',Inv X pins σ H' s2∧zam x u∧J.yld i H x H'∧tn (i+1) s2.heap∧∀b∈fp,H' b=none) E s1) E s
 done:∀(X:Cx),X.prog=P→X.w=w→X.K=K→X.calm=true→∀(i:Nat) (pins:List (Addr×Obj)) (s:Shared) (σ:St) (H:Hp) (E:Value→Shared→Prop),Inv X pins σ H s→(∀b∈fp,zcm X pins H b)→tn i s.heap→J.stop i H→
  wpAny (model P w) X.A (pyNext (.ref it)) (λr s1=>r=none∧Inv X pins σ H s1) E s
 self:∀(A:Around) (i:Nat) (s:Shared) (Q:Value→Shared→Prop) (E:Value→Shared→Prop),tn i s.heap→Q (.ref it) s→wpAny (model P w) A (pyIter (.ref it)) Q E s
abbrev TI:=St→Hp→(It→Hp→Prop)→Prop
def PIE (X:Cx)(pins:List (Addr×Obj))(σ:St)(tg:Expr)(R:It→Hp→Prop)(itv:Value)(s2:Shared):Prop:=
 ∃(it:Addr) (fp:List Addr) (tn:Nat→Heap→Prop) (J:It) (H':Hp),itv=.ref it∧Inv X pins σ H' s2∧zhs X.prog X.w X.K tg J fp it tn∧tn 0 s2.heap∧(∀b∈fp,zcm X pins H' b)∧R J H'
def PI (X:Cx)(tg iter:Expr)(wi:TI):Prop:=
 ∀(pins:List (Addr×Obj)) (s:Shared) (σ:St) (H:Hp) (R:It→Hp→Prop),Inv X pins σ H s→wi σ H R→
  wpAny (model X.prog X.w) X.A (eval iter X.env) (λv s1=>wpAny (model X.prog X.w) X.A (pyIter v) (PIE X pins σ tg R) X.xe s1) X.xe s
theorem zlR {M:Model}{A:Around}{E:Value→Shared→Prop}{s:Shared}{tg:Expr}{it:Addr}{u:Value}{o:Obj}{n:String}{vs:Array Value}{Q:Unit→Shared→Prop}(ho:s.heap.get? it=some o)(hc:o.cls=.type n)(hd:o.data=.fields vs)
    (hn:["enumerate","zip","dict_itemiterator","dict_reverseitemiterator","odict_iterator","itertools.zip_longest","itertools.pairwise"].contains n=false)(hQ:Q () s):wpAny M A (letOwnedTupleGo tg (.ref it) u) Q E s:=by
  unfold letOwnedTupleGo
  cases tg <;> first
    | exact wpAny_pure hQ
    | (cases u <;> first
        | exact wpAny_pure hQ
        | (refine wpAny_bind (wpAny_load ho ?_)
           rw[hc,hd]
           show wpAny M A (if (["enumerate","zip","dict_itemiterator","dict_reverseitemiterator","odict_iterator","itertools.zip_longest","itertools.pairwise"].contains n&&vs[0]?==some (rawInt _))=true then _ else _) Q E s
           rw[if_neg (by intro h; rw[hn,VaQ] at h; cases h)]
           exact wpAny_pure hQ))
def Itl (K:PySem.W.Frag)(a:Addr):It:=
 ⟨λi H=>∃xs x,SqL K H a xs∧xs[i]?=some x,λi H x H'=>H'=H∧∀xs,SqL K H a xs→xs[i]?=some x,λi H=>∃xs,SqL K H a xs∧xs.length≤i⟩
def Itr (lo:Int)(n:Nat):It:=⟨λi _=>i<n,λi H x H'=>H'=H∧x=.int (lo+i),λi _=>n≤i⟩
theorem zsC {P:Program}{w:World}{K:PySem.W.Frag}{tg:Expr}(a it:Addr):zhs P w K tg (Itl K a) [it] it (λi h=>h.IsListIter it a i) where
 mem:=by simp
 obj:=λi h st b hb=>by
  have e:b=it:=by simpa using hb
  subst e
  obtain⟨o,e,c,d⟩:=st
  exact⟨o,e,λv z=>by rw[d] at z; cases z⟩
 keep:=λi h h' st k=>st.at λo e=>k it (by simp) o e
 item:=by
  intro X hP hw hK hc i pins s σ H E I hf st hg
  subst hP hw hK
  obtain⟨xs,x,hq,hx⟩:=hg
  obtain⟨its,rv,p,hz⟩:=I.list hq
  obtain⟨u,hu,ru⟩:=rv.get hx
  obtain⟨f0,f1,f2,f3,f4,f5⟩:=hf it (by simp)
  refine wpAny_pyNext_list_item st p.isList (x:=u) (by simpa using hu) λh' st' sb=>?_
  have I1:Inv X pins σ H { s with heap:=h' }:=I.turned (t':=s.toks) (λb o hb e=>(sb.2 b hb).trans e) f0 f1 f3 f4 f5
  obtain⟨o,e,c,d⟩:=id st'
  exact⟨u,rfl,zlR (s:={ s with heap:=h' }) e c d (by decide) ⟨x,H,I1,ru,⟨rfl,λys hy=>by rw[I.list_inj hy hq]; exact hx⟩,st',λb hb=>(hf b hb).1⟩⟩
 done:=by
  intro X hP hw hK hc i pins s σ H E I hf st hg
  subst hP hw hK
  obtain⟨xs,hq,hx⟩:=hg
  obtain⟨its,rv,p,hz⟩:=I.list hq
  obtain⟨f0,f1,f2,f3,f4,f5⟩:=hf it (by simp)
  have hl:=rv.length
  exact wpAny_pyNext_list_end (I.ok.hd hc) st p.isList (by simp; omega) λh' eb=>⟨rfl,I.turned (t':=s.toks) (λb o hb e=>eb b o hb e) f0 f1 f3 f4 f5⟩
 self:=λ_ _ _ _ _ st h=>wpAny_pyIter_listiter st h
theorem zv9 {P:Program}{w:World}{K:PySem.W.Frag}{tg:Expr}(it:Addr)(lo:Int)(n:Nat):zhs P w K tg (Itr lo n) [it] it (λi h=>IsRangeIter h it (lo+(i:Nat)*1) ((n:Int)-(i:Nat)) 1) where
 mem:=by simp
 obj:=λi h st b hb=>by
  have e:b=it:=by simpa using hb
  subst e
  exact⟨_,st,λv z=>by
   have z':Data.fields _=Data.cell v:=z
   cases z'⟩
 keep:=λi h h' st k=>k it (by simp) _ st
 item:=by
  intro X hP hw hK hc i pins s σ H E I hf st hg
  subst hP hw hK
  obtain⟨f0,f1,f2,f3,f4,f5⟩:=hf it (by simp)
  have W:=Walks.range (prog:=X.prog) (w:=X.w) (I.ok.hd hc) it lo 1 n
  refine W.item i s _ _ hg st λv h' tk hv st' kk=>?_
  obtain⟨t,rfl⟩:=hv
  have I1:Inv X pins σ H { s with heap:=h',toks:=tk }:=I.turned (λb o hb e=>kk b o (by simpa using hb) e) f0 f1 f3 f4 f5
  refine⟨_,rfl,zlR (s:={ s with heap:=h',toks:=tk }) (n:="range_iterator") st' rfl rfl (by decide) ⟨.int (lo+i),H,I1,⟨t,?_⟩,⟨rfl,rfl⟩,st',λb hb=>(hf b hb).1⟩⟩
  rw[Int.mul_one]
 done:=by
  intro X hP hw hK hc i pins s σ H E I hf st hg
  subst hP hw hK
  obtain⟨f0,f1,f2,f3,f4,f5⟩:=hf it (by simp)
  exact wpAny_pyNext_range_end (I.ok.hd hc) st (by have:n≤i:=hg; omega) λh' eb=>⟨rfl,I.turned (t':=s.toks) (λb o hb e=>eb b o hb e) f0 f1 f3 f4 f5⟩
 self:=λ_ _ _ _ _ st h=>wpAny_pyIter_rangeiter st h
end L2
namespace L2
open PySem PySem.Spec PyProof.Rows
section
variable {X:Cx}{tg:Expr}
def iList (K:PySem.W.Frag)(tl:TE):TI:=λσ H R=>tl σ H λx H1=>∃a,x=.ref a∧(∃xs,SqL K H1 a xs)∧R (Itl K a) H1
theorem zql {l:Expr}{tl:TE}(hl:PE X l tl):PI X tg l (iList X.K tl):=by
 intro pins s σ H R I h
 refine thn (hl pins s σ H _ I h) λv s1 ⟨x,H1,I1,r1,q1⟩=>?_
 obtain⟨a,e,⟨xs,hq⟩,q⟩:=q1
 subst e
 cases r1
 obtain⟨its,rv,p,hz⟩:=I1.list hq
 refine wpAny_pyIter_list p.isList ?_
 refine⟨s1.heap.objs.size,[s1.heap.objs.size],_,_,H1,rfl,I1.kept (t':=s1.toks) λb o e=>Heap.get?_push_of_some _ e,zsC a _,⟨_,Heap.get?_push_size _ rfl,rfl,rfl⟩,λb hb=>?_,q⟩
 have e:b=s1.heap.objs.size:=by simpa using hb
 subst e
 exact I1.fpOk (Vaa _) (I1.hok.fresh (Vaa _))
theorem zt6 {pins:List (Addr×Obj)}{σ:St}{H:Hp}{s:Shared}{R:It→Hp→Prop}{E:Value→Shared→Prop}{lo hi:Int}{t u v:Tok}{tk:Nat}(I:Inv X pins σ H s)(h1:-(2^62)≤lo)(h2:lo<2^62)(h3:-(2^62)≤hi)(h4:hi<2^62)
  (q:R (Itr lo (hi-lo).toNat) H):wpAny (model X.prog X.w) X.A (pyIter (.ref s.heap.objs.size)) (PIE X pins σ tg R) E { s with heap:=s.heap.push { cls:=.type "range",data:=.fields #[.int lo t,.int hi u,.int 1 v] },toks:=tk }:=by
 refine wpAny_pyIter_range (IsRange.new ..) (small_one h1 h2 h3 h4) ?_
 have I1:Inv X pins σ H { s with heap:=s.heap.push { cls:=.type "range",data:=.fields #[.int lo t,.int hi u,.int 1 v] },toks:=tk }:=I.kept λb o e=>Heap.get?_push_of_some _ e
 refine⟨(s.heap.push { cls:=.type "range",data:=.fields #[.int lo t,.int hi u,.int 1 v] }).objs.size,[(s.heap.push { cls:=.type "range",data:=.fields #[.int lo t,.int hi u,.int 1 v] }).objs.size],_,_,H,rfl,
  I1.kept (t':=tk) λb o e=>Heap.get?_push_of_some _ e,zv9 _ lo (hi-lo).toNat,?_,λb hb=>?_,q⟩
 ·have e1:lo+((0:Nat):Int)*1=lo:=by simp
  have e2:(((hi-lo).toNat:Nat):Int)-((0:Nat):Int)=Builtin.Range.rangeSize lo hi 1:=by rw[rangeSize_one]; split <;> omega
  show IsRangeIter _ _ (lo+((0:Nat):Int)*1) ((((hi-lo).toNat:Nat):Int)-((0:Nat):Int)) 1
  rw[e1,e2]
  exact Heap.get?_push_size _ rfl
 ·have e:b=(s.heap.push { cls:=.type "range",data:=.fields #[.int lo t,.int hi u,.int 1 v] }).objs.size:=by simpa using hb
  subst e
  exact I1.fpOk (Vaa _) (I1.hok.fresh (Vaa _))
def iRng2 (ta:TA):TI:=λσ H R=>ta σ H λvs H1=>∃i j:Int,vs=[.int i,.int j]∧(-(2^62)≤i∧i<2^62∧-(2^62)≤j∧j<2^62)∧R (Itr i (j-i).toNat) H1
theorem zv4 {a b:Expr}{ta:TA}{p pos:Pos}(hg:Gl X "range")(hm:X.mg "range"=none)(ha:PA X [a,b] ta)(hs:starEach [a,b] X.env=[(false,eval a X.env),(false,eval b X.env)]:=by rfl)(hs2:starEach [b] X.env=[(false,eval b X.env)]:=by rfl):
  PI X tg (.Call (.Name "range" p) [a,b] [] pos) (iRng2 ta):=by
 intro pins s σ H R I h
 refine Call_ (zij I hg hm boot_range (PyProof.Rows.callWith_type1 (thn (ha pos pins s σ H _ I h) λus s1 ⟨vs,H1,I1,r1,q1⟩=>?_) (by rw[hs,hs2]) (by rw[hs2]; rfl)))
 obtain⟨i,j,e,⟨q1,q2,q3,q4⟩,q⟩:=q1
 subst e
 cases r1 with
 | cons r rr=>
  cases rr with
  | cons r' rr=>
   cases rr
   obtain⟨t,rfl⟩:=r
   obtain⟨t',rfl⟩:=r'
   exact call_range_2 (zt6 I1 q1 q2 q3 q4 q)
def tFor (wi:TI)(g:TG)(tb:TS):TS:=λD σ H=>wi σ H λJ H1=>∃W:Nat→Nat→St→Hp→Prop,(∃m,W 0 m σ H1)∧∀i m σ H,W i m σ H→
 (J.stop i H∧D.nx σ H)∨(J.go i H∧∃N:St→Hp→Prop,(∀σ' H',N σ' H'→∃m',m'<m∧W (i+1) m' σ' H')∧∀x H',J.yld i H x H'→g x σ H' λσ2 H2=>tb { D with nx:=N,ct:=N,bk:=D.nx } σ2 H2)
def zgw (fp:List Addr)(h:Heap):List (Addr×Obj):=fp.filterMap λb=>(h.get? b).map λo=>(b,o)
theorem zlg {fp:List Addr}{h:Heap}{b:Addr}{o:Obj}(hb:b∈fp)(e:h.get? b=some o):(b,o)∈zgw fp h:=List.mem_filterMap.mpr ⟨b,hb,by rw[e]; rfl⟩
theorem zvK {fp:List Addr}{h:Heap}{p:Addr×Obj}(hp:p∈zgw fp h):p.1∈fp∧h.get? p.1=some p.2:=by
 obtain⟨b,hb,e⟩:=List.mem_filterMap.mp hp
 cases q:h.get? b with
 | none=>rw[q] at e; cases e
 | some o=>
  rw[q] at e
  have e':(b,o)=p:=Option.some.inj e
  subst e'
  exact⟨hb,q⟩
theorem Inv.pinned {pins:List (Addr×Obj)}{σ:St}{H:Hp}{s:Shared}{fp:List Addr}(I:Inv X pins σ H s)(hf:∀b∈fp,zcm X pins H b)(ho:∀b∈fp,∃o,s.heap.get? b=some o∧∀v,o.data≠.cell v):Inv X (pins++zgw fp s.heap) σ H s:=
 I.pins_of λp hp=>(Vae.mp hp).elim (λz=>I.pin p (Var _ z)) λz=>by
  obtain⟨hb,e⟩:=zvK z
  obtain⟨f0,f1,f2,_⟩:=hf p.1 hb
  obtain⟨o,e',d⟩:=ho p.1 hb
  rw[e] at e'; cases e'
  exact⟨e,f0,f1,f2,d⟩
theorem Inv.unpinned {pins pl:List (Addr×Obj)}{σ:St}{H:Hp}{s:Shared}(I:Inv X (pins++pl) σ H s):Inv X pins σ H s:=I.pins_of λp hp=>I.pin p (Var _ (VaA _ hp))
theorem zlE {iter:Expr}{body:List Stmt}{wi:TI}{g:TG}{tb:TS}{pos:Pos}(hp:PassesOwn (model X.prog X.w) X.A X.env X.xe)(hc:X.calm=true)(hi:PI X tg iter wi)(hg:PG X tg g)(hb:PSs X body tb)
  (hs:∀x,foldedSetIterable iter X.env x=pure x:=by intro _; rfl):PS X (.For tg iter body [] pos) (tFor wi g tb):=by
 intro pins s σ H D I h
 refine wpAny_For (thn (hi pins s σ H _ I h) λv s1 h1=>thn h1 λitv s2 h2=>?_) hs
 obtain⟨it,fp,tn,J,H2,e,I2,T,st2,f2,W,⟨m0,w0⟩,turn⟩:=h2
 subst e
 have stat:∀ {H':Hp},(∀b∈fp,H' b=none)→∀b∈fp,zcm X pins H' b:=λhn b hb=>⟨hn b hb,(f2 b hb).2⟩
 refine codeAny_forLoop_any (λn s'=>∃i σ' H',Inv X pins σ' H' s'∧tn i s'.heap∧(∀b∈fp,H' b=none)∧W i n σ' H') ?_ m0 ⟨0,σ,H2,I2,st2,λb hb=>(f2 b hb).1,w0⟩
 rintro n s3 ⟨i,σ3,H3,I3,st3,fr3,w3⟩
 rcases turn i n σ3 H3 w3 with ⟨stop,qn⟩ | ⟨go,N,hN,step⟩
 ·refine wpAny_passesOwn hp (thn (T.done X rfl rfl rfl hc i pins s3 σ3 H3 X.xe I3 (stat fr3) st3 stop) λr s4 ⟨hr,I4⟩=>?_)
  subst hr
  exact wpAny_execs_nil ⟨σ3,H3,I4,qn⟩
 ·refine wpAny_passesOwn hp (thn (T.item X rfl rfl rfl hc i pins s3 σ3 H3 X.xe I3 (stat fr3) st3 go) λr s4 ⟨u,hr,h4⟩=>?_)
  subst hr
  refine wpAny_passesOwn hp (thn h4 λ_ s5 ⟨x,H5,I5,r5,y5,st5,fr5⟩=>?_)
  have I5':=I5.pinned (stat fr5) (T.obj _ _ st5)
  refine wpAny_passesOwn hp (thn (hg _ s5 σ3 H5 x u _ I5' r5 (step x H5 y5)) λ_ s6 ⟨σ6,H6,I6,q6⟩=>?_)
  refine wpAny_passesOwn hp (thn (hb _ s6 σ6 H6 _ I6 q6) λf s7 q7=>?_)
  have again:∀ {σ7:St} {H7:Hp},Inv X (pins++zgw fp s5.heap) σ7 H7 s7→N σ7 H7→∃m,m<n∧∃i σ' H',Inv X pins σ' H' s7∧tn i s7.heap∧(∀b∈fp,H' b=none)∧W i m σ' H':=λ{σ7 H7} I7 n7=>by
   obtain⟨m',hm,w7⟩:=hN σ7 H7 n7
   refine⟨m',hm,i+1,σ7,H7,I7.unpinned,T.keep _ _ _ st5 λb hb o e=>(I7.pin (b,o) (Var _ (Var _ (zlg hb e)))).1,λb hb=>?_,w7⟩
   obtain⟨o,e,d⟩:=T.obj _ _ st5 b hb
   exact(I7.pin (b,o) (Var _ (Var _ (zlg hb e)))).2.1
  cases f with
  | next=>obtain⟨σ7,H7,I7,n7⟩:=q7; exact again I7 n7
  | cont=>obtain⟨σ7,H7,I7,n7⟩:=q7; exact again I7 n7
  | brk=>obtain⟨σ7,H7,I7,q7⟩:=q7; exact⟨σ7,H7,I7.unpinned,q7⟩
  | ret v=>obtain⟨x7,σ7,H7,I7,r7,q7⟩:=q7; exact⟨x7,σ7,H7,I7.unpinned,r7,q7⟩
end
end L2
namespace L2
open PySem PySem.Spec PyProof.Rows
abbrev R2:=V→V→Hp→VK→Prop
def OpR (X:Cx)(f:Value→Value→Sem Value)(r:R2):Prop:=
 ∀(pins:List (Addr×Obj)) (s:Shared) (σ:St) (H:Hp) (x y:V) (v u:Value) (Q:VK),Inv X pins σ H s→zam x v→zam y u→r x y H Q→
  wpAny (model X.prog X.w) X.A (f v u) (EP X pins σ Q) X.xe s
def UnR (X:Cx)(f:Value→Sem Value)(r:V→Hp→VK→Prop):Prop:=
 ∀(pins:List (Addr×Obj)) (s:Shared) (σ:St) (H:Hp) (x:V) (v:Value) (Q:VK),Inv X pins σ H s→zam x v→r x H Q→
  wpAny (model X.prog X.w) X.A (f v) (EP X pins σ Q) X.xe s
def za3 (X:Cx)(f:Value)(r:List V→Hp→VK→Prop):Prop:=
 ∀(pins:List (Addr×Obj)) (s:Shared) (σ:St) (H:Hp) (xs:List V) (us:List Value) (Q:VK),Inv X pins σ H s→zal xs us→r xs H Q→
  wpAny (model X.prog X.w) X.A (call f us) (EP X pins σ Q) X.xe s
def tOp (r:R2)(ta tb:TE):TE:=λσ H Q=>ta σ H λx H1=>tb σ H1 λy H2=>r x y H2 Q
def tUn (r:V→Hp→VK→Prop)(ta:TE):TE:=λσ H Q=>ta σ H λx H1=>r x H1 Q
def rI (C:Int→Int→Prop)(g:Int→Int→V):R2:=λx y H Q=>∃i j,x=.int i∧y=.int j∧C i j∧Q (g i j) H
def rI0 (g:Int→Int→V):R2:=λx y H Q=>∃i j,x=.int i∧y=.int j∧Q (g i j) H
def rU (g:Int→V):V→Hp→VK→Prop:=λx H Q=>∃i,x=.int i∧Q (g i) H
section
variable {X:Cx}{a b c:Expr}{ta tb tc:TE}{pos:Pos}
theorem zju (ha:PE X a ta)(hb:PE X b tb){pins:List (Addr×Obj)}{s:Shared}{σ:St}{H:Hp}{R:V→V→Hp→Prop}(I:Inv X pins σ H s)
  (h:ta σ H λx H1=>tb σ H1 λy H2=>R x y H2){Q:Value→Shared→Prop}{f:Value→Value→Sem Value}
  (hf:∀v u s2 x y H2,Inv X pins σ H2 s2→zam x v→zam y u→R x y H2→wpAny (model X.prog X.w) X.A (f v u) Q X.xe s2):
  wpAny (model X.prog X.w) X.A (eval a X.env) (λv s₁=>wpAny (model X.prog X.w) X.A (eval b X.env) (λu s₂=>wpAny (model X.prog X.w) X.A (f v u) Q X.xe s₂) X.xe s₁) X.xe s:=by
 refine thn (ha pins s σ H _ I h) λv s1 ⟨x,H1,I1,r1,q1⟩=>?_
 refine thn (hb pins s1 σ H1 _ I1 q1) λu s2 ⟨y,H2,I2,r2,q2⟩=>?_
 exact hf v u s2 x y H2 I2 r1 r2 q2
theorem pe_op {op:Operator}{r:R2}(ho:OpR X (binaryOp op) r)(ha:PE X a ta)(hb:PE X b tb):PE X (.BinOp a op b pos) (tOp r ta tb):=by
 intro pins s σ H Q I h
 exact wpAny_BinOp (zju ha hb I h λv u s2 x y H2 I2 rx ry q=>ho pins s2 σ H2 x y v u Q I2 rx ry q)
theorem pe_un {op:UnaryOp}{r:V→Hp→VK→Prop}(ho:UnR X (unaryOp op) r)(ha:PE X a ta):PE X (.UnaryOp op a pos) (tUn r ta):=by
 intro pins s σ H Q I h
 exact UnaryOp_ (thn (ha pins s σ H _ I h) λv s1 ⟨x,H1,I1,r1,q1⟩=>ho pins s1 σ H1 x v Q I1 r1 q1)
theorem opI {f:Value→Value→Sem Value}{C:Int→Int→Prop}{g:Int→Int→Int}
  (rule:∀(i j:Int) (t u:Tok) (s:Shared) (Q:Value→Shared→Prop) (E:Value→Shared→Prop),C i j→Q (.int (g i j) s.toks) { s with toks:=s.toks+1 }→wpAny (model X.prog X.w) X.A (f (.int i t) (.int j u)) Q E s):
  OpR X f (rI C λi j=>.int (g i j)):=by
 intro pins s σ H x y v u Q I rx ry h
 obtain⟨i,j,rfl,rfl,hc,q⟩:=h
 obtain⟨t,rfl⟩:=rx
 obtain⟨t',rfl⟩:=ry
 exact rule i j t t' s _ _ hc ⟨.int (g i j),H,I.tok _,⟨_,rfl⟩,q⟩
theorem opI0 {f:Value→Value→Sem Value}{g:Int→Int→Int}
  (rule:∀(i j:Int) (t u:Tok) (s:Shared) (Q:Value→Shared→Prop) (E:Value→Shared→Prop),Q (.int (g i j) s.toks) { s with toks:=s.toks+1 }→wpAny (model X.prog X.w) X.A (f (.int i t) (.int j u)) Q E s):
  OpR X f (rI0 λi j=>.int (g i j)):=by
 intro pins s σ H x y v u Q I rx ry h
 obtain⟨i,j,rfl,rfl,q⟩:=h
 obtain⟨t,rfl⟩:=rx
 obtain⟨t',rfl⟩:=ry
 exact rule i j t t' s _ _ ⟨.int (g i j),H,I.tok _,⟨_,rfl⟩,q⟩
theorem zjZ {f:Value→Value→Sem Value}{g:Int→Int→Bool}
  (rule:∀(i j:Int) (t u:Tok) (s:Shared) (Q:Value→Shared→Prop) (E:Value→Shared→Prop),Q (.bool (g i j)) s→wpAny (model X.prog X.w) X.A (f (.int i t) (.int j u)) Q E s):
  OpR X f (rI0 λi j=>.bl (g i j)):=by
 intro pins s σ H x y v u Q I rx ry h
 obtain⟨i,j,rfl,rfl,q⟩:=h
 obtain⟨t,rfl⟩:=rx
 obtain⟨t',rfl⟩:=ry
 exact rule i j t t' s _ _ ⟨.bl (g i j),H,I,rfl,q⟩
def CPow (i j:Int):Prop:=0≤j∧j≤1000000∧i.natAbs<2^64
def CMul (i j:Int):Prop:=(-(2^64)<i∧i<2^64)∨(-(2^64)<j∧j<2^64)
theorem CMul.ok {i j:Int}(h:CMul i j):IntMulOk i j:=by
 rcases h with ⟨h1,h2⟩ | ⟨h1,h2⟩
 ·exact .of_left (intBits_le_64 h1 h2)
 ·exact .of_right (intBits_le_64 h1 h2)
theorem zqj:OpR X (binaryOp .Add) (rI0 λi j=>.int (i+j)):=opI0 λ_ _ _ _ _ _ _ q=>add_int q
theorem zsx:OpR X (binaryOp .Sub) (rI0 λi j=>.int (i-j)):=opI0 λ_ _ _ _ _ _ _ q=>sub_int q
theorem ztJ:OpR X (binaryOp .Mod) (rI (λ_ j=>0<j) λi j=>.int (i%j)):=opI λi j _ _ _ _ _ hc q=>by
 have h1:(0:Int)<j:=hc
 exact mod_int' (by omega) (by rw[Int.fmod_eq_emod_of_nonneg i (by omega)]; exact q)
theorem zuO:OpR X (binaryOp .Pow) (rI CPow λi j=>.int (i^j.toNat)):=opI λ_ _ _ _ _ _ _ hc q=>pow_int_small hc.1 hc.2.1 hc.2.2 q
theorem unI {f:Value→Sem Value}{g:Int→Int}
  (rule:∀(i:Int) (t:Tok) (s:Shared) (Q:Value→Shared→Prop) (E:Value→Shared→Prop),Q (.int (g i) s.toks) { s with toks:=s.toks+1 }→wpAny (model X.prog X.w) X.A (f (.int i t)) Q E s):
  UnR X f (rU λi=>.int (g i)):=by
 intro pins s σ H x v Q I rx h
 obtain⟨i,rfl,q⟩:=h
 obtain⟨t,rfl⟩:=rx
 exact rule i t s _ _ ⟨.int (g i),H,I.tok _,⟨_,rfl⟩,q⟩
theorem zur:UnR X (unaryOp .USub) (rU λi=>.int (-i)):=unI λ_ _ _ _ _ q=>neg_int q
end
def zlw:V→V→Bool
 | .non,.non=>true | .non,.int _=>true | .int _,.non=>true | .non,.bl _=>true | .bl _,.non=>true | .non,.str _=>true | .str _,.non=>true
 | .int _,.int _=>true | .bl _,.bl _=>true | .str _,.str _=>true | .byt _,.byt _=>true
 | .int _,.str _=>true | .str _,.int _=>true | .bl _,.str _=>true | .str _,.bl _=>true
 | _,_=>false
def rEq:R2:=λx y H Q=>zlw x y=true∧Q (.bl (decide (x=y))) H
def rNe:R2:=λx y H Q=>zlw x y=true∧Q (.bl (!decide (x=y))) H
theorem znc {i j:Int}:decide (V.int i=V.int j)=(i==j):=by
 rw[VaO]
 simp
theorem zm6 {i j:Bool}:decide (V.bl i=V.bl j)=(i==j):=by
 rw[VaO]
 simp
theorem zoX {i j:Str}:decide (V.str i=V.str j)=(i==j):=by
 rw[VaO]
 simp
theorem znD {i j:Array UInt8}:decide (V.byt i=V.byt j)=(i.toList==j.toList):=by
 rw[VaO]
 cases i
 cases j
 simp
section
variable {X:Cx}{a b c:Expr}{ta tb tc:TE}{pos:Pos}
theorem zaZ {pins:List (Addr×Obj)}{σ:St}{H:Hp}{s:Shared}{Q:VK}{k k':Bool}(I:Inv X pins σ H s)(q:Q (.bl k) H)(e:k=k'):EP X pins σ Q (.bool k') s:=by
 subst e
 exact⟨.bl k,H,I,rfl,q⟩
theorem zl9:OpR X (compareOp .Eq) rEq:=by
 intro pins s σ H x y v u Q I rx ry h
 obtain⟨hs,q⟩:=h
 cases x with
 | non=>
  cases rx
  cases y with
  | non=>cases ry; exact PySem.EqNone.eq_none_none (zaZ I q (by simp))
  | bl j=>cases ry; exact PySem.EqNone.eq_none_bool (zaZ I q (by simp))
  | int j=>obtain⟨t',rfl⟩:=ry; exact PySem.EqNone.eq_none_int (zaZ I q (by simp))
  | str j=>obtain⟨t',rfl⟩:=ry; exact PySem.EqNone.eq_none_str (zaZ I q (by simp))
  | _=>exact absurd (show false=true from hs) Val
 | bl i=>
  cases rx
  cases y with
  | non=>cases ry; exact PySem.EqNone.eq_bool_none (zaZ I q (by simp))
  | bl j=>cases ry; exact eq_bool (zaZ I q zm6)
  | str j=>obtain⟨t',rfl⟩:=ry; exact PySem.EqMixed.eq_bool_str (zaZ I q (by simp))
  | _=>exact absurd (show false=true from hs) Val
 | int i=>
  obtain⟨t,rfl⟩:=rx
  cases y with
  | non=>cases ry; exact PySem.EqNone.eq_int_none (zaZ I q (by simp))
  | int j=>obtain⟨t',rfl⟩:=ry; exact eq_int (zaZ I q znc)
  | str j=>obtain⟨t',rfl⟩:=ry; exact PySem.EqMixed.eq_int_str (zaZ I q (by simp))
  | _=>exact absurd (show false=true from hs) Val
 | str i=>
  obtain⟨t,rfl⟩:=rx
  cases y with
  | non=>cases ry; exact PySem.EqNone.eq_str_none (zaZ I q (by simp))
  | bl j=>cases ry; exact PySem.EqMixed.eq_str_bool (zaZ I q (by simp))
  | int j=>obtain⟨t',rfl⟩:=ry; exact PySem.EqMixed.eq_str_int (zaZ I q (by simp))
  | str j=>obtain⟨t',rfl⟩:=ry; exact eq_str (zaZ I q zoX)
  | _=>exact absurd (show false=true from hs) Val
 | byt i=>
  obtain⟨t,rfl⟩:=rx
  cases y with
  | byt j=>obtain⟨t',rfl⟩:=ry; exact PySem.W.eq_bytes (zaZ I q znD)
  | _=>exact absurd (show false=true from hs) Val
 | _=>cases y <;> exact absurd (show false=true from hs) Val
theorem op_ne:OpR X (compareOp .NotEq) rNe:=by
 intro pins s σ H x y v u Q I rx ry h
 obtain⟨hs,q⟩:=h
 cases x with
 | non=>
  cases rx
  cases y with
  | non=>cases ry; exact PySem.EqNone.ne_none_none (zaZ I q (by simp))
  | bl j=>cases ry; exact PySem.EqNone.ne_none_bool (zaZ I q (by simp))
  | int j=>obtain⟨t',rfl⟩:=ry; exact PySem.EqNone.ne_none_int (zaZ I q (by simp))
  | str j=>obtain⟨t',rfl⟩:=ry; exact PySem.EqNone.ne_none_str (zaZ I q (by simp))
  | _=>exact absurd (show false=true from hs) Val
 | bl i=>
  cases rx
  cases y with
  | non=>cases ry; exact PySem.EqNone.ne_bool_none (zaZ I q (by simp))
  | bl j=>cases ry; exact ne_bool (zaZ I q (congrArg not zm6))
  | str j=>obtain⟨t',rfl⟩:=ry; exact PySem.EqMixed.ne_bool_str (zaZ I q (by simp))
  | _=>exact absurd (show false=true from hs) Val
 | int i=>
  obtain⟨t,rfl⟩:=rx
  cases y with
  | non=>cases ry; exact PySem.EqNone.ne_int_none (zaZ I q (by simp))
  | int j=>obtain⟨t',rfl⟩:=ry; exact ne_int (zaZ I q (congrArg not znc))
  | str j=>obtain⟨t',rfl⟩:=ry; exact PySem.EqMixed.ne_int_str (zaZ I q (by simp))
  | _=>exact absurd (show false=true from hs) Val
 | str i=>
  obtain⟨t,rfl⟩:=rx
  cases y with
  | non=>cases ry; exact PySem.EqNone.ne_str_none (zaZ I q (by simp))
  | bl j=>cases ry; exact PySem.EqMixed.ne_str_bool (zaZ I q (by simp))
  | int j=>obtain⟨t',rfl⟩:=ry; exact PySem.EqMixed.ne_str_int (zaZ I q (by simp))
  | str j=>obtain⟨t',rfl⟩:=ry; exact ne_str (zaZ I q (congrArg not zoX))
  | _=>exact absurd (show false=true from hs) Val
 | byt i=>
  obtain⟨t,rfl⟩:=rx
  cases y with
  | byt j=>obtain⟨t',rfl⟩:=ry; exact PySem.W.ne_bytes (zaZ I q (congrArg not znD))
  | _=>exact absurd (show false=true from hs) Val
 | _=>cases y <;> exact absurd (show false=true from hs) Val
theorem op_lt:OpR X (compareOp .Lt) (rI0 λi j=>.bl (decide (i<j))):=zjZ λ_ _ _ _ _ _ _ q=>lt_int q
theorem op_le:OpR X (compareOp .LtE) (rI0 λi j=>.bl (decide (i≤j))):=zjZ λ_ _ _ _ _ _ _ q=>le_int q
theorem op_gt:OpR X (compareOp .Gt) (rI0 λi j=>.bl (decide (j<i))):=zjZ λ_ _ _ _ _ _ _ q=>gt_int q
theorem op_ge:OpR X (compareOp .GtE) (rI0 λi j=>.bl (decide (j≤i))):=zjZ λ_ _ _ _ _ _ _ q=>ge_int q
theorem zw1:OpR X (compareOp .In) (λx y H Q=>∃i j,x=.str i∧y=.str j∧Q (.bl (!(Builtin.Str.occurrences j i 0 j.length 1).isEmpty)) H):=by
 intro pins s σ H x y v u Q I rx ry h
 obtain⟨i,j,rfl,rfl,q⟩:=h
 obtain⟨t,rfl⟩:=rx
 obtain⟨t',rfl⟩:=ry
 exact in_str (zaZ I q rfl)
theorem OpR.or {f:Value→Value→Sem Value}{r r':R2}(h:OpR X f r)(h':OpR X f r'):OpR X f (λx y H Q=>r x y H Q∨r' x y H Q):=by
 intro pins s σ H x y v u Q I rx ry q
 rcases q with q | q
 ·exact h pins s σ H x y v u Q I rx ry q
 ·exact h' pins s σ H x y v u Q I rx ry q
theorem zaq (b:Expr){op:CmpOp}(h:op≠.In:=by decide)(h2:op≠.NotIn:=by decide):behindInMarks op b=false:=by
 have e1:(op==CmpOp.In)=false:=by cases op <;> first | rfl | exact absurd rfl h
 have e2:(op==CmpOp.NotIn)=false:=by cases op <;> first | rfl | exact absurd rfl h2
 cases b <;> simp[behindInMarks,e1,e2]
theorem znZ {op:CmpOp}{r:R2}(ho:OpR X (compareOp op) r)(ha:PE X a ta)(hb:PE X b tb)(hm:behindInMarks op b=false):PE X (.Compare a [op] [b] pos) (tOp r ta tb):=by
 intro pins s σ H Q I h
 exact wpAny_Compare1 (zju ha hb I h λv u s2 x y H2 I2 rx ry q=>ho pins s2 σ H2 x y v u Q I2 rx ry q) hm
def tTest (t:TE):TT:=λσ H Q=>t σ H λx H'=>∃k,x=.bl k∧Q k H'
theorem zvm {op:CmpOp}{r:R2}(ho:OpR X (compareOp op) r)(ha:PE X a ta)(hb:PE X b tb)(hm:behindInMarks op b=false):PT X (.Compare a [op] [b] pos) (tTest (tOp r ta tb)):=by
 intro pins s σ H Q I h
 refine wpAny_isTrue_Compare1 (thn (ha pins s σ H _ I h) λv s1 ⟨x,H1,I1,r1,q1⟩=>thn (hb pins s1 σ H1 _ I1 q1) λu s2 ⟨y,H2,I2,r2,q2⟩=>
  thn (ho pins s2 σ H2 x y v u _ I2 r1 r2 q2) λc s3 ⟨z,H3,I3,r3,k,e,q3⟩=>?_) hm
 subst e
 cases r3
 exact wpAny_truthy_bool ⟨H3,I3,q3⟩
def zop (r r':R2)(ta tb tc:TE):TE:=λσ H Q=>ta σ H λx H1=>tb σ H1 λy H2=>r x y H2 λz H3=>∃k,z=.bl k∧
 (if k=true then tc σ H3 λw' H4=>r' y w' H4 Q else Q (.bl false) H3)
theorem zwx {op op':CmpOp}{r r':R2}(ho:OpR X (compareOp op) r)(ho':OpR X (compareOp op') r')(ha:PE X a ta)(hb:PE X b tb)(hc:PE X c tc)
  (hm:lastMarks [op,op'] [b,c]=false:=by with_unfolding_all rfl):PE X (.Compare a [op,op'] [b,c] pos) (zop r r' ta tb tc):=by
 intro pins s σ H Q I h
 refine Compare_chain (thn (ha pins s σ H _ I h) λv s1 ⟨x,H1,I1,r1,q1⟩=>chain_link (thn (hb pins s1 σ H1 _ I1 q1) λu s2 ⟨y,H2,I2,r2,q2⟩=>
  thn (ho pins s2 σ H2 x y v u _ I2 r1 r2 q2) λd s3 ⟨z,H3,I3,r3,k,e,q3⟩=>?_)) hm
 subst e
 cases r3
 refine wpAny_truthy_bool ?_
 cases k with
 | false=>exact ite_ff ⟨.bl false,H3,I3,rfl,q3⟩
 | true=>exact ite_tt (chain_last (thn (hc pins s3 σ H3 _ I3 q3) λw' s4 ⟨z',H4,I4,r4,q4⟩=>ho' pins s4 σ H4 y z' u w' Q I4 r2 r4 q4))
theorem zkF:(sizeLine:Nat)<2^63:=by rw[sizeLine_eq]; decide
theorem ztV:OpR X (binaryOp .Add) (λx y H Q=>∃i j,x=.str i∧y=.str j∧i.length+j.length≤sizeLine∧Q (.str (i++j)) H):=by
 intro pins s σ H x y v u Q I rx ry h
 obtain⟨i,j,rfl,rfl,hz,q⟩:=h
 obtain⟨t,rfl⟩:=rx
 obtain⟨t',rfl⟩:=ry
 exact add_str (λt' tk=>⟨.str (i++j),H,I.tok _,⟨_,rfl⟩,q⟩) hz
def zqe (b:Expr):Prop:=∀o i,subscripted b false o i=operate [o,i] (getItem o i)
theorem zr7 (ha:PE X a ta)(hb:PE X b tb)(hs:zqe b):
  PE X (.Subscript a b pos) (tOp (λx y H Q=>∃z i c,x=.str z∧y=.int i∧0≤i∧i<2^63∧i<z.length∧z.cps[i.toNat]?=some c∧Q (.str ⟨#[c]⟩) H) ta tb):=by
 intro pins s σ H Q I h
 refine Subscript_ (zju ha hb I h λv u s2 x y H2 I2 rx ry q=>?_)
 obtain⟨z,i,c,rfl,rfl,h0,h63,h1,hc,q⟩:=q
 obtain⟨t,rfl⟩:=rx
 obtain⟨t',rfl⟩:=ry
 have e:seqIndex? i z.length=some i.toNat:=PySem.StrLaws.seqIndex_nonneg h0 h1
 exact tail_any (typeIs_str s2 z t) slot_str_getitem.lookup (getItem_str (c:=c) (by
  have e1:decide (i < -(2^63:Int))=false:=decide_eq_false (by omega)
  have e2:decide (i≥2^63)=false:=decide_eq_false (by omega)
  rw[e1,e2] <;> rfl) (by rw[e]; exact hc) ⟨.str ⟨#[c]⟩,H2,I2.tok _,⟨_,rfl⟩,q⟩) (hs _ _)
theorem zb4 {x:V}{us:List Value}(r:zal [x] us):∃u,us=[u]∧zam x u:=by
 cases r with
 | cons r1 r2=>cases r2; exact⟨_,rfl,r1⟩
theorem zpa {x y:V}{us:List Value}(r:zal [x,y] us):∃u w',us=[u,w']∧zam x u∧zam y w':=by
 cases r with
 | cons r1 r2=>
  cases r2 with
  | cons r3 r4=>cases r4; exact⟨_,_,rfl,r1,r3⟩
theorem zwS:za3 X (.builtin "abs") (λxs H Q=>∃i,xs=[.int i]∧Q (.int (if i<0 then -i else i)) H):=by
 intro pins s σ H xs us Q I r h
 obtain⟨i,rfl,q⟩:=h
 obtain⟨u,rfl,t,rfl⟩:=zb4 r
 exact call_abs_int λu tk=>⟨.int (if i<0 then -i else i),H,I.tok _,⟨_,rfl⟩,q⟩
theorem zuZ (hc:X.calm=true):za3 X (.builtin "min") (λxs H Q=>∃i j,xs=[.int i,.int j]∧Q (.int (if j<i then j else i)) H):=by
 intro pins s σ H xs us Q I r h
 obtain⟨i,j,rfl,q⟩:=h
 obtain⟨u,w',rfl,⟨t,rfl⟩,⟨t',rfl⟩⟩:=zpa r
 refine min_two_ints (I.ok.hd hc) λh' tk k=>⟨_,H,I.kept k,?_,q⟩
 by_cases hj:j<i
 ·rw[if_pos hj,if_pos hj]; exact⟨_,rfl⟩
 ·rw[if_neg hj,if_neg hj]; exact⟨_,rfl⟩
end
end L2
namespace L2
open PySem PySem.Spec PyProof.Rows
structure zen (h:Heap)(x dx C:Addr)(mA:Str→Option Value):Prop where
 obj:h.get? x=some (PySem.W.instObj C dx)
 ns:h.Ns1 dx mA
 ne:dx≠x
theorem zsS {h:Heap}{dx:Addr}{mA:Str→Option Value}(n:h.Ns1 dx mA):∃od,h.get? dx=some od∧∀name,PySem.W.lookIn name od=some (mA name):=by
 obtain⟨o,es,ep,ho,hd,hk,_,hm⟩:=n
 refine⟨o,ho,λname=>?_⟩
 have e:=hm name
 unfold nsFind findBy at e
 rw[← Array.find?_toList] at e
 unfold PySem.W.lookIn
 rw[hd]
 dsimp only
 split
 ·rename_i y q
  rw[q] at e
  exact congrArg some e
 ·rename_i q
  rw[q] at e
  have a:es.toList.any (·.refKey)=false:=by
   rw[List.any_eq_false]
   intro y hy
   obtain⟨z,t,hkey⟩:=hk y (Array.mem_toList_iff.mp hy)
   simp[DictEntry.refKey,hkey]
  have a':¬ es.toList.any (·.refKey)=true:=by rw[a]; exact Val
  rw[if_neg a']
  exact congrArg some e
theorem zen.look {h:Heap}{x dx C:Addr}{mA:Str→Option Value}(I:zen h x dx C mA):∃od,PySem.W.InstAt h x (PySem.W.instObj C dx) C (some od)∧∀name,PySem.W.lookIn name od=some (mA name):=
 let ⟨od,ho,hl⟩:=zsS I.ns
 ⟨od,⟨I.obj,rfl,rfl,ho⟩,hl⟩
section
variable {prog:Program}{w:World}{A:Around}{E:Value→Shared→Prop}{s:Shared}{K:PySem.W.Frag}{x dx C f:Addr}{mA:Str→Option Value}{name:Str}{v:Value}
theorem zt4 {expr:Bool}{Q:Value→Shared→Prop}(X:K.In s.heap)(I:zen s.heap x dx C mA)(hg:PySem.W.plainGet K C name=true)(hh:PySem.W.hasDictIn K C=true)
  (ha:PySem.W.findIn K (.ref C) name=some none)(hv:mA name=some v)(hv':PySem.W.handedIn v=true)(h:Q v { s with toks:=s.toks+1 }):
  wpAny (model prog w) A (getAttr (.ref x) name expr) Q E s:=by
 obtain⟨od,J,hl⟩:=I.look
 exact PySem.W.get_value X J (PySem.W.plainGet_of hg).1 (PySem.W.findObj_own hh ha rfl (by rw[hl,hv])) hv' h
theorem ztE {pl:Sem Bool}{Q:Value×List Value→Shared→Prop}(X:K.In s.heap)(I:zen s.heap x dx C mA)(hg:PySem.W.plainGet K C name=true)
  (hf:PySem.W.findIn K (.ref C) name=some (some (.ref f)))(ht:PySem.W.isFn K (.ref f)=true)(hv:mA name=none)(h:Q (.ref f,[.ref x]) s):
  wpAny (model prog w) A (getMethod (.ref x) name pl) Q E s:=by
 obtain⟨od,J,hl⟩:=I.look
 exact PySem.W.method_fn X J (PySem.W.plainGet_of hg).1 (PySem.W.plainGet_of hg).2 hf (beq_iff_eq.mp ht) (by show (PySem.W.lookIn name od).map (·.isSome)=some false; rw[hl,hv]; rfl) h
theorem zsi {ns:List Str}{Q:Unit→Shared→Prop}(X:K.In s.heap)(I:zen s.heap x dx C mA)
  (hs:PySem.W.findIn K (.ref C) "__setattr__"=some (some (.builtin "object.__setattr__")))(hp:PySem.W.plainOver K C=true)(ht:PySem.W.takerIn K C name=some none)(hh:PySem.W.hasDictIn K C=true)
  (hw:PySem.Within mA ns)(hsz:ns.length≤sizeLine)
  (h:∀h',zen h' x dx C (λy=>if y=name then some v else mA y)→Heap.SameBut dx s.heap h'→Q () { s with heap:=h',toks:=s.toks+2 }):
  wpAny (model prog w) A (setAttr (.ref x) name v) Q E s:=by
 obtain⟨od,J,hl⟩:=I.look
 refine PySem.W.set_plain X J hs (PySem.W.osa_open (s:={ s with toks:=s.toks+1 }) (r:=none) X J hp ht λb=>?_)
 obtain⟨cd,hc,hd'⟩:=PySem.W.any_some hh
 have hx:s.heap.get? x=some ⟨.ref C,some dx,.plain,#[]⟩:=I.obj
 refine wpAny_bind (wpAny_pure (wpAny_bind (wpAny_bind (wpAny_loadPart hx (wpAny_bind (PySem.W.Looks.here (s:={ s with toks:=s.toks+1 }) (PySem.W.looks_clsIn X hc) ?_))))))
 rw[hd']
 refine wpAny_pure (a:=some dx) (wpAny_bind (wpAny_pure (wpAny_bind ?_)))
 refine wpAny_nsSet1 (s:={ s with toks:=s.toks+1 }) I.ns λh' hn2 hs2=>?_
 obtain⟨oD,esD,epD,hoD,hdD,hcD⟩:=hn2.count (PySem.Within.cons name v hw)
 refine wpAny_bind (wpAny_lookBehind hoD (by rw[hdD]; exact pastItsLine_dict (Vat hcD (by rw[Vaq]; omega))) ?_)
 exact wpAny_pure (h _ ⟨(hs2.2 _ (Ne.symm I.ne)).trans I.obj,hn2,I.ne⟩ hs2)
theorem zrc {R:Result→Shared→Prop}{vs:List Value}{kw:List (Str×Value)}(X:K.In s.heap)(hm:PySem.W.makesIn K C=true)
  (hi:PySem.W.findIn K (.ref C) "__init__"=some (some (.ref f)))(hf:PySem.W.typeIn K (.ref f)=some (.type "function"))
  (h:codeAny (model prog w) (A.under (.builtin "type.__call__" ⟨.ref C::vs,kw⟩)) (.call (.ref f) ⟨.ref (s.heap.objs.size+1)::vs,kw⟩) (PySem.W.InitBack (s.heap.objs.size+1) R)
   { s with heap:=(s.heap.push PySem.W.emptyDict).push (PySem.W.instObj C s.heap.objs.size) }):
  codeAny (model prog w) A (.call (.ref C) ⟨vs,kw⟩) R s:=by
 obtain⟨hh,g,d,t,os⟩:=s
 exact PySem.W.make_core (PySem.W.makes_of X hm) (PySem.W.looks_findIn X hi) (λself=>PySem.W.bind_fn X self hf) (.inl rfl) h
end
def zbC (f:Str)(v:V):List (Str×V)→List (Str×V)
 | []=>[(f,v)]
 | (g,x)::r=>if g=f then (g,v)::r else (g,x)::zbC f v r
theorem znE (f g:Str)(v:V):∀fs:List (Str×V),(zbC f v fs).lookup g=if g=f then some v else fs.lookup g
 | []=>by
  show List.lookup g [(f,v)]=_
  by_cases h:g=f
  ·have hb:(g==f)=true:=beq_iff_eq.mpr h
   simp only[List.lookup,hb,if_pos h]
  ·have hb:(g==f)=false:=beq_eq_false_iff_ne.mpr h
   simp only[List.lookup,hb,if_neg h]
 | (k,x)::r=>by
  have ih:=znE f g v r
  rw[show zbC f v ((k,x)::r)=(if k=f then (k,v)::r else (k,x)::zbC f v r) from rfl]
  by_cases hk:k=f
  ·rw[if_pos hk]
   by_cases h:g=k
   ·have hb:(g==k)=true:=beq_iff_eq.mpr h
    simp only[List.lookup,hb,if_pos (h.trans hk)]
   ·have hb:(g==k)=false:=beq_eq_false_iff_ne.mpr h
    simp only[List.lookup,hb,if_neg (λe:g=f=>h (e.trans hk.symm))]
  ·rw[if_neg hk]
   by_cases h:g=k
   ·have hb:(g==k)=true:=beq_iff_eq.mpr h
    simp only[List.lookup,hb,if_neg (λe:g=f=>hk (h.symm.trans e))]
   ·have hb:(g==k)=false:=beq_eq_false_iff_ne.mpr h
    simp only[List.lookup,hb]
    exact ih
theorem zl7 (f:Str)(v:V):∀fs:List (Str×V),f∈(zbC f v fs).map (·.1)∧∀g,g∈fs.map (·.1)→g∈(zbC f v fs).map (·.1)
 | []=>⟨by simp[zbC],λg h=>by simp at h⟩
 | (k,x)::r=>by
  obtain⟨i1,i2⟩:=zl7 f v r
  rw[show zbC f v ((k,x)::r)=(if k=f then (k,v)::r else (k,x)::zbC f v r) from rfl]
  by_cases hk:k=f
  ·rw[if_pos hk]
   subst hk
   exact⟨by simp,λg h=>by simpa using h⟩
  ·rw[if_neg hk]
   refine⟨?_,λg h=>?_⟩
   ·rw[Vaj]
    exact Vam _ i1
   ·rw[Vaj] at h ⊢
    rcases Vab.mp h with e | e
    ·exact Vab.mpr (.inl e)
    ·exact Vam _ (i2 g e)
theorem zpg (f:Str)(v:V):∀fs:List (Str×V),(zbC f v fs).length≤fs.length+1
 | []=>by simp[zbC]
 | (k,x)::r=>by
  have ih:=zpg f v r
  rw[show zbC f v ((k,x)::r)=(if k=f then (k,v)::r else (k,x)::zbC f v r) from rfl]
  by_cases hk:k=f
  ·rw[if_pos hk,Vaq,Vaq]; omega
  ·rw[if_neg hk,Vaq,Vaq]; omega
theorem zbO.some_of {v:V}{o:Option Value}(r:zbO (some v) o):∃u,o=some u∧zam v u:=by
 cases o with
 | none=>exact(show False from r).elim
 | some u=>exact⟨u,rfl,r⟩
theorem zbO.none_of {o:Option Value}(r:zbO none o):o=none:=by
 cases o with
 | none=>rfl
 | some u=>exact(show False from r).elim
theorem zsn {v:V}{u:Value}(r:zam v u):PySem.W.handedIn u=true:=by
 cases v with
 | non=>cases (show u=Value.none from r); rfl
 | bl b=>cases (show u=Value.bool b from r); rfl
 | int i=>obtain⟨t,e⟩:=(show ∃t,u=Value.int i t from r); cases e; rfl
 | str x=>obtain⟨t,e⟩:=(show ∃t,u=Value.str x t from r); cases e; rfl
 | byt b=>obtain⟨t,e⟩:=(show ∃t,u=Value.bytes b t from r); cases e; rfl
 | flt b=>obtain⟨t,e⟩:=(show ∃t,u=Value.float b t from r); cases e; rfl
 | ref a=>cases (show u=Value.ref a from r); rfl
 | ty n=>cases (show u=Value.type n from r); rfl
section
variable {P:Program}{w:World}{H H':Hp}{h h':Heap}{a C dx:Addr}{fs fs':List (Str×V)}
theorem zkO (hok:HOk P w H h)(e:H a=some (.ins C dx fs)):∃mA,zen h a dx C mA∧(∀f,zbO (fs.lookup f) (mA f))∧PySem.Within mA (fs.map (·.1))∧fs.length≤1000∧H dx=some (.own a):=by
 obtain⟨d,z,ne,ob,mA,n,r,q⟩:=(show za7 P w H h a (.ins C dx fs) from hok a _ e)
 exact⟨mA,⟨ob,n,ne⟩,r,q,z,d⟩
end
structure Cls (K:PySem.W.Frag)(C:Addr):Prop where
 pg:PySem.W.plainGet K C Str.empty=true
 hd:PySem.W.hasDictIn K C=true
 po:PySem.W.plainOver K C=true
 sa:PySem.W.findIn K (.ref C) "__setattr__"=some (some (.builtin "object.__setattr__"))
theorem Cls.get {K:PySem.W.Frag}{C:Addr}(c:Cls K C)(f:Str):PySem.W.plainGet K C f=true:=c.pg
def zbq (K:PySem.W.Frag)(C:Addr)(f:Str):Prop:=PySem.W.findIn K (.ref C) f=some none
theorem zbq.taker {K:PySem.W.Frag}{C:Addr}{f:Str}(n:zbq K C f):PySem.W.takerIn K C f=some none:=by
 unfold PySem.W.takerIn
 rw[show PySem.W.findIn K (.ref C) f=some none from n]
 rfl
structure Con (K:PySem.W.Frag)(C:Addr)(f:Str)(v:V)(u:Value):Prop where
 at_:PySem.W.findIn K (.ref C) f=some (some u)
 rel:zam v u
 get:PySem.W.specialIn K u "__get__"=some none
 cp:PySem.W.copiedNames.contains f=false
structure zeN (K:PySem.W.Frag)(C:Addr)(m:Str)(f:Addr):Prop where
 at_:PySem.W.findIn K (.ref C) m=some (some (.ref f))
 fn:PySem.W.isFn K (.ref f)=true
 kp:PySem.W.keepIn K (.ref f)=true
section
variable {X:Cx}{pins:List (Addr×Obj)}{σ:St}{H:Hp}{s:Shared}{a C dx:Addr}{fs:List (Str×V)}{f:Str}{v:V}{A:Around}{E:Value→Shared→Prop}
theorem zpF {b:Bool}{Q:Value→Shared→Prop}(I:Inv X pins σ H s)(e:H a=some (.ins C dx fs))(c:Cls X.K C)(n:zbq X.K C f)(l:fs.lookup f=some v)
  (h:∀u s',Inv X pins σ H s'→zam v u→Q u s'):wpAny (model X.prog X.w) A (getAttr (.ref a) f b) Q E s:=by
 obtain⟨mA,O,r,_,_,_⟩:=zkO I.hok e
 obtain⟨u,hu,ru⟩:=zbO.some_of (v:=v) (o:=mA f) (by rw[← l]; exact r f)
 exact zt4 I.kIn O (c.get f) c.hd n hu (zsn ru) (h u _ (I.tok _) ru)
theorem zpn {m:Str}{g:Addr}{pl:Sem Bool}{Q:Value×List Value→Shared→Prop}(I:Inv X pins σ H s)(e:H a=some (.ins C dx fs))(c:Cls X.K C)(k:zeN X.K C m g)(l:fs.lookup m=none)
  (h:Q (.ref g,[.ref a]) s):wpAny (model X.prog X.w) A (getMethod (.ref a) m pl) Q E s:=by
 obtain⟨mA,O,r,_,_,_⟩:=zkO I.hok e
 have hn:mA m=none:=zbO.none_of (by rw[← l]; exact r m)
 exact ztE I.kIn O (c.get m) k.at_ k.fn hn h
theorem zoi {y:V}{u:Value}{Q:Unit→Shared→Prop}(I:Inv X pins σ H s)(e:H a=some (.ins C dx fs))(c:Cls X.K C)(n:zbq X.K C f)(hl:fs.length<1000)(ry:zam y u)
  (h:∀s',Inv X pins σ (upd H a (.ins C dx (zbC f y fs))) s'→Q () s'):wpAny (model X.prog X.w) A (setAttr (.ref a) f u) Q E s:=by
 obtain⟨mA,O,r,wi,_,ho⟩:=zkO I.hok e
 have hz:(fs.map (·.1)).length≤sizeLine:=by rw[Vac,sizeLine_eq]; omega
 refine zsi I.kIn O c.sa c.po n.taker c.hd wi hz λh' O' sb=>h _ ?_
 have hd:∃o,h'.get? dx=some o:=let ⟨o,_,_,e',_⟩:=O'.ns; ⟨o,e'⟩
 refine I.write (x:=a) (e:=dx) (by rw[e]; exact True.intro) (.inr ho) (λb q hb z=>(sb.2 b hb).trans z) hd ?_
 refine⟨by rw[za2 O.ne]; exact ho,?_,O.ne,O'.obj,_,O'.ns,λg=>?_,λg hg=>?_⟩
 ·have:=zpg f y fs; omega
 ·show zbO ((zbC f y fs).lookup g) (if g=f then some u else mA g)
  rw[znE]
  by_cases q:g=f
  ·rw[if_pos q,if_pos q]; exact ry
  ·rw[if_neg q,if_neg q]; exact r g
 ·by_cases q:g=f
  ·rw[q]; exact(zl7 f y fs).1
  ·refine(zl7 f y fs).2 g (wi g λz=>hg ?_)
   show (if g=f then some u else mA g)=none
   rw[if_neg q]; exact z
theorem Inv.made (I:Inv X pins σ H s):Inv X pins σ (upd (upd H s.heap.objs.size (.own (s.heap.objs.size+1))) (s.heap.objs.size+1) (.ins C s.heap.objs.size []))
  { s with heap:=(s.heap.push PySem.W.emptyDict).push (PySem.W.instObj C s.heap.objs.size) }:=by
 have e1:(s.heap.push PySem.W.emptyDict).get? s.heap.objs.size=some PySem.W.emptyDict:=Heap.get?_push_size s.heap rfl
 have e2:((s.heap.push PySem.W.emptyDict).push (PySem.W.instObj C s.heap.objs.size)).get? (s.heap.objs.size+1)=some (PySem.W.instObj C s.heap.objs.size):=by
  have:=Heap.get?_push_size (s.heap.push PySem.W.emptyDict) (o:=PySem.W.instObj C s.heap.objs.size) rfl
  rwa [Heap.size_push] at this
 have e3:(s.heap.push PySem.W.emptyDict).Ns s.heap.objs.size (λ_=>none):=⟨PySem.W.emptyDict,#[],_,e1,rfl,(λe he=>absurd he (by simp)),λ_=>rfl⟩
 have I1:=I.laid (a:=s.heap.objs.size) (o:=.own (s.heap.objs.size+1)) (h':=s.heap.push PySem.W.emptyDict) (t':=s.toks) (λb u q=>Heap.get?_push_of_some _ q) (Vaa _) ⟨_,e1⟩
 refine I1.laid (a:=s.heap.objs.size+1) (o:=.ins C s.heap.objs.size []) (t':=s.toks) (λb u q=>Heap.get?_push_of_some _ q) (Nat.le_of_eq (Heap.size_push _ _)) ?_
 have ne:s.heap.objs.size≠s.heap.objs.size+1:=Vak (Nat.lt_succ_self _)
 refine⟨by rw[za2 ne,zbR],Vaz _,ne,e2,λ_=>none,(Heap.Ns1.of_empty e3).at λo q=>Heap.get?_push_of_some _ q,λ_=>True.intro,λy hy=>absurd rfl hy⟩
theorem zvb {prog:Program}{w:World}{env:Env}{e:Expr}{f:Str}{pos:Pos}{s:Shared}{Q:Value→Shared→Prop}(hb:attributeBase e f env (eval e env)=eval e env)
  (h:wpAny (model prog w) A (eval e env) (λo s₁=>wpAny (model prog w) A (getAttr o f true) Q E s₁) E s):wpAny (model prog w) A (eval (.Attribute e f pos) env) Q E s:=
 Attribute_any_ h (by rw[arm_eval_Attribute,hb])
end
def tFld (K:PySem.W.Frag)(ta:TE)(f:Str):TE:=λσ H Q=>ta σ H λx H1=>∃a C dx fs v,x=.ref a∧H1 a=some (.ins C dx fs)∧Cls K C∧zbq K C f∧fs.lookup f=some v∧Q v H1
def sFld (K:PySem.W.Frag)(ta tv:TE)(f:Str):TS:=λD σ H=>tv σ H λy H1=>ta σ H1 λx H2=>∃a C dx fs,x=.ref a∧H2 a=some (.ins C dx fs)∧Cls K C∧zbq K C f∧fs.length<1000∧
 D.nx σ (upd H2 a (.ins C dx (zbC f y fs)))
def zjr (X:Cx)(op:Operator)(rd:V→V→Hp→VK→Prop):Prop:=
 ∀(pins:List (Addr×Obj)) (s:Shared) (σ:St) (H:Hp) (x y:V) (u v:Value) (Q:VK),Inv X pins σ H s→zam x u→zam y v→rd x y H Q→wpAny (model X.prog X.w) X.A (inplaceOp op u v) (EP X pins σ Q) X.xe s
def zuv (K:PySem.W.Frag)(ta tv:TE)(rd:V→V→Hp→VK→Prop)(f:Str):TS:=λD σ H=>ta σ H λx H1=>∃a C dx fs v,x=.ref a∧H1 a=some (.ins C dx fs)∧Cls K C∧zbq K C f∧fs.lookup f=some v∧
 tv σ H1 λy H2=>rd v y H2 λz H3=>∃dx' fs',H3 a=some (.ins C dx' fs')∧fs'.length<1000∧D.nx σ (upd H3 a (.ins C dx' (zbC f z fs')))
section
variable {X:Cx}{o e value:Expr}{f:Str}{pos pos' tpos:Pos}{ta tv:TE}
theorem zq2 (he:PE X e ta)(hb:attributeBase e f X.env (eval e X.env)=eval e X.env):PE X (.Attribute e f pos) (tFld X.K ta f):=by
 intro pins s σ H Q I h
 refine zvb hb (thn (he pins s σ H _ I h) λu s1 ⟨x,H1,I1,rx,a,C,dx,fs,v,ex,ea,c,n,l,q⟩=>?_)
 subst ex
 obtain rfl:u=Value.ref a:=rx
 exact zpF I1 ea c n l λu' s2 I2 ru=>⟨v,H1,I2,ru,q⟩
theorem zty (ha:PE X o ta)(hv:PE X value tv)(hs:swapsWith value (some (.Attribute o f pos')) pos.line X.env=pure false):PS X (.Assign [.Attribute o f pos'] value pos) (sFld X.K ta tv f):=by
 intro pins s σ H D I h
 refine plainObj_wpAny_Assign_Attribute (thn (hv pins s σ H _ I h) λu s1 ⟨y,H1,I1,ry,q⟩=>thn (ha pins s1 σ H1 _ I1 q) λov s2 ⟨x,H2,I2,rx,a,C,dx,fs,ex,ea,c,n,l,q2⟩=>?_) hs
 subst ex
 obtain rfl:ov=Value.ref a:=rx
 exact zoi I2 ea c n l ry λs3 I3=>⟨σ,_,I3,q2⟩
theorem zsv {op:Operator}{rd:V→V→Hp→VK→Prop}(ha:PE X o ta)(hv:PE X value tv)(hop:zjr X op rd):PS X (.AugAssign (.Attribute o f tpos) op value pos) (zuv X.K ta tv rd f):=by
 intro pins s σ H D I h
 refine wpAny_AugAssign_AttributeAny (thn (ha pins s σ H _ I h) λov s1 ⟨x,H1,I1,rx,a,C,dx,fs,v,ex,ea,c,n,l,q⟩=>?_)
 subst ex
 obtain rfl:ov=Value.ref a:=rx
 refine zpF I1 ea c n l λu s2 I2 ru=>thn (hv pins s2 σ H1 _ I2 q) λw3 s3 ⟨y,H2,I3,ry,q3⟩=>thn (hop pins s3 σ H2 v y u w3 _ I3 ru ry q3) λw4 s4 ⟨z,H3,I4,rz,dx',fs',ea',l',q4⟩=>?_
 exact zoi I4 ea' c n l' rz λs5 I5=>⟨σ,_,I5,q4⟩
def rAdd:V→V→Hp→VK→Prop:=λx y H Q=>∃i j,x=.int i∧y=.int j∧Q (.int (i+j)) H
def rSub:V→V→Hp→VK→Prop:=λx y H Q=>∃i j,x=.int i∧y=.int j∧Q (.int (i-j)) H
theorem zwq:zjr X .Add rAdd:=by
 rintro pins s σ H x y u v Q I rx ry ⟨i,j,rfl,rfl,q⟩
 obtain⟨t,rfl⟩:=(show ∃t,u=Value.int i t from rx)
 obtain⟨t',rfl⟩:=(show ∃t',v=Value.int j t' from ry)
 exact PyProof.Rows.iadd_int ⟨.int (i+j),H,I.tok _,⟨_,rfl⟩,q⟩
theorem zuS:zjr X .Sub rSub:=by
 rintro pins s σ H x y u v Q I rx ry ⟨i,j,rfl,rfl,q⟩
 obtain⟨t,rfl⟩:=(show ∃t,u=Value.int i t from rx)
 obtain⟨t',rfl⟩:=(show ∃t',v=Value.int j t' from ry)
 exact PyProof.Rows.isub_int ⟨.int (i-j),H,I.tok _,⟨_,rfl⟩,q⟩
end
section
variable {X:Cx}{pins:List (Addr×Obj)}{σ:St}{H:Hp}{s:Shared}{A:Around}{E:Value→Shared→Prop}{Q:Value→Shared→Prop}{c:Value}{b:Bool}
inductive zcu (K:PySem.W.Frag)(H:Hp):V→Value→Prop where
 | non:zcu K H .non (.type "NoneType")
 | bl (x:Bool):zcu K H (.bl x) (.type "bool")
 | int (i:Int):zcu K H (.int i) (.type "int")
 | str (x:Str):zcu K H (.str x) (.type "str")
 | flt (x:UInt64):zcu K H (.flt x) (.type "float")
 | lst {a:Addr} {xs:List V} (e:H a=some (.lst xs)):zcu K H (.ref a) (.type "list")
 | frz {a:Addr} {o:Obj} {xs:List V} (e:H a=some (.frz o (.lst xs))):zcu K H (.ref a) (.type "list")
 | tup {a:Addr} {xs:List V} (e:H a=some (.tup xs)):zcu K H (.ref a) (.type "tuple")
 | dK {a:Addr} {kvs:List (Key×V)} (e:H a=some (.dK kvs)):zcu K H (.ref a) (.type "dict")
 | dT {a:Addr} {kvs:List (List Key×V)} (e:H a=some (.dT kvs)):zcu K H (.ref a) (.type "dict")
 | ins {a C dx:Addr} {fs:List (Str×V)} (e:H a=some (.ins C dx fs)) (cl:Cls K C) (ha:PySem.W.findIn K (.ref C) "__class__"=some (some (.builtin "object.__class__")))
   (hn:PySem.W.specialIn K (.builtin "object.__class__") "__get__"=some (some (.builtin "getset_descriptor.__get__"))) (htk:PySem.W.takesIn K (.builtin "object.__class__")=some true)
   (hm:PySem.W.mroIn K C (.type "object")=some true):zcu K H (.ref a) (.ref C)
theorem zsf {x:V}{u t:Value}(I:Inv X pins σ H s)(rx:zam x u)(ty:zcu X.K H x t)(e:PySem.W.kitOne X.K t c=some b)(h:∀tk,Q (.bool b) { s with toks:=tk }):
  wpAny (model X.prog X.w) A (call (.builtin "isinstance") [u,c]) Q E s:=by
 cases ty with
 | non=>cases (show u=Value.none from rx); exact PySem.W.kia_one PySem.W.kitx_none I.kIn True.intro e (λz=>nomatch z) h
 | bl y=>cases (show u=Value.bool y from rx); exact PySem.W.kia_one PySem.W.kitx_bool I.kIn True.intro e (λz=>nomatch z) h
 | int i=>obtain⟨t,q⟩:=(show ∃t,u=Value.int i t from rx); cases q; exact PySem.W.kia_one PySem.W.kitx_int I.kIn True.intro e (λz=>nomatch z) h
 | str y=>obtain⟨t,q⟩:=(show ∃t,u=Value.str y t from rx); cases q; exact PySem.W.kia_one PySem.W.kitx_str I.kIn True.intro e (λz=>nomatch z) h
 | flt y=>obtain⟨t,q⟩:=(show ∃t,u=Value.float y t from rx); cases q; exact PySem.W.kia_one PySem.W.kitx_float I.kIn True.intro e (λz=>nomatch z) h
 | @lst a xs ea=>
  cases (show u=Value.ref a from rx)
  obtain⟨_,_,n,_,h1⟩:=(show za7 X.prog X.w H s.heap a (.lst xs) from I.hok a _ ea)
  exact PySem.W.kia_one PySem.W.kitx_list I.kIn ⟨_,h1,rfl⟩ e (λz=>nomatch z) h
 | @frz a ob xs ea=>
  cases (show u=Value.ref a from rx)
  obtain⟨_,_,_,n,_,h1⟩:=(show za7 X.prog X.w H s.heap a (.frz ob (.lst xs)) from I.hok a _ ea)
  exact PySem.W.kia_one PySem.W.kitx_list I.kIn ⟨_,h1,rfl⟩ e (λz=>nomatch z) h
 | @tup a xs ea=>
  cases (show u=Value.ref a from rx)
  obtain⟨_,_,_,p⟩:=(show za7 X.prog X.w H s.heap a (.tup xs) from I.hok a _ ea)
  obtain⟨o,h1,h2,_⟩:=p
  exact PySem.W.kia_one PySem.W.kitx_tuple I.kIn ⟨o,h1,h2⟩ e (λz=>nomatch z) h
 | @dK a kvs ea=>
  cases (show u=Value.ref a from rx)
  obtain⟨_,_,vs,_,p⟩:=(show za7 X.prog X.w H s.heap a (.dK kvs) from I.hok a _ ea)
  obtain⟨o,es,ep,h1,h2,_⟩:=p
  exact PySem.W.kia_one PySem.W.kitx_dict I.kIn ⟨o,h1,h2.1⟩ e (λz=>nomatch z) h
 | @dT a kvs ea=>
  cases (show u=Value.ref a from rx)
  obtain⟨_,_,xs,_,o,es,ep,h1,h2,_⟩:=(show za7 X.prog X.w H s.heap a (.dT kvs) from I.hok a _ ea)
  exact PySem.W.kia_one PySem.W.kitx_dict I.kIn ⟨o,h1,h2.1⟩ e (λz=>nomatch z) h
 | @ins a C dx fs ea cl ha hn htk hm=>
  cases (show u=Value.ref a from rx)
  obtain⟨mA,O,_⟩:=zkO I.hok ea
  obtain⟨od,J,_⟩:=O.look
  exact PySem.W.kia_one (PySem.W.kitx_own (cl.get _) cl.hd ha hn htk hm) I.kIn J e (λz=>nomatch z) h
end
end L2
namespace L2
open PySem PySem.Spec PyProof.Rows
structure zaC (k:Nat)(A:Around):Prop where
 hd:A.handled=none
 dp:A.depth+3*k+5<recursionLimit
 un:A.units+16*k+200<cLine
theorem zaC.mono {j k:Nat}{A:Around}(r:zaC k A)(h:j≤k):zaC j A:=⟨r.hd,by have:=r.dp; omega,by have:=r.un; omega⟩
theorem zaC.deeper {k:Nat}{A:Around}(r:zaC (k+1) A)(env:Env):zaC k (A.deeper env):=
 ⟨r.hd,by have:=r.dp; show A.depth+1+3*k+5<_; omega,by have:=r.un; show A.units+3+16*k+200<_; omega⟩
theorem zaC.in1 {k:Nat}{A:Around}(r:zaC (k+1) A):zaC k A.in1:=
 ⟨r.hd,by have:=r.dp; show A.depth+3*k+5<_; omega,by have:=r.un; show A.units+1+16*k+200<_; omega⟩
theorem zsj {A:Around}{C:Addr}{us:List Value}{kw:List (Str×Value)}:(A.under (.builtin "type.__call__" ⟨.ref C::us,kw⟩)).depth=A.depth+1:=by
 first | rfl | simp[Around.under,Code.weight,Code.isCreation,Code.isGuard,Code.isCaller,Code.frames,Code.isFrame,guardIds]
theorem ztK {A:Around}{C:Addr}{us:List Value}{kw:List (Str×Value)}:(A.under (.builtin "type.__call__" ⟨.ref C::us,kw⟩)).units=A.units+1:=by
 first | rfl | simp[Around.under,Code.cUnits,Code.frames,Code.isFrame]
theorem zaC.make {k:Nat}{A:Around}(r:zaC (k+1) A)(C:Addr)(us:List Value)(kw:List (Str×Value)):zaC k (A.under (.builtin "type.__call__" ⟨.ref C::us,kw⟩)):=
 ⟨r.hd,by have:=r.dp; rw[zsj]; omega,by have:=r.un; rw[ztK]; omega⟩
theorem zaC.depth {k:Nat}{A:Around}(r:zaC k A):A.depth<recursionLimit:=by have:=r.dp; omega
theorem zaC.units {k:Nat}{A:Around}(r:zaC k A):A.units+64<cLine:=by have:=r.un; omega
def tNil:TA:=λ_ H Q=>Q [] H
def tCons (ta:TE)(tr:TA):TA:=λσ H Q=>ta σ H λx H1=>tr σ H1 λxs H2=>Q (x::xs) H2
section
variable {X:Cx}{e:Expr}{es:List Expr}{te:TE}{t:TA}{pos:Pos}
theorem zfm:PA X [] tNil:=λ_ _ _ _ H Q I h=>Calls.spliced_nil ⟨[],H,I,.nil,h⟩
theorem zdX (ha:PE X e te)(hr:PA X es t)(hs:starEach (e::es) X.env=(false,eval e X.env)::starEach es X.env:=by rfl):PA X (e::es) (tCons te t):=by
 intro pos pins s σ H Q I h
 rw[hs]
 show wpAny _ _ (spliced ((false,eval e X.env)::backTo pos (starEach es X.env))) _ _ s
 refine Calls.spliced_cons (thn (ha pins s σ H _ I h) λu s1 ⟨x,H1,I1,r1,q1⟩=>?_)
 exact thn (hr pos pins s1 σ H1 _ I1 q1) λus s2 ⟨xs,H2,I2,r2,q2⟩=>⟨x::xs,H2,I2,.cons r1 r2,q2⟩
def tTup (t:TA):TE:=λσ H Q=>t σ H λxs H1=>xs.length≤sizeLine∧∀p,H1 p=none→Q (.ref p) (upd H1 p (.tup xs))
def tLst (t:TA):TE:=λσ H Q=>t σ H λxs H1=>xs.length≤sizeLine∧∀p,H1 p=none→Q (.ref p) (upd H1 p (.lst xs))
theorem zsG {x1}(h:PA X es t):PE X (.Tuple es x1 pos) (tTup t):=by
 intro pins s σ H Q I hq
 refine wpAny_Tuple_spliced (thn (h pos pins s σ H _ I hq) λus s1 ⟨xs,H1,I1,r,z,q⟩=>⟨by rw[← r.length]; exact z,?_⟩)
 have hf:H1 s1.heap.objs.size=none:=I1.hok.fresh (Vaa _)
 refine⟨.ref s1.heap.objs.size,upd H1 s1.heap.objs.size (.tup xs),I1.laid (t':=s1.toks) (λb u e=>Heap.get?_push_of_some _ e) (Vaa _) ?_,rfl,q _ hf⟩
 exact⟨z,us,r,⟨_,Heap.get?_push_size _ rfl,rfl,_,rfl⟩⟩
theorem ztj (h:PA X es t):PE X (.List es pos) (tLst t):=by
 intro pins s σ H Q I hq
 refine wpAny_List_spliced (thn (h pos pins s σ H _ I hq) λus s1 ⟨xs,H1,I1,r,z,q⟩=>⟨by rw[← r.length]; exact z,?_⟩)
 have hf:H1 s1.heap.objs.size=none:=I1.hok.fresh (Vaa _)
 refine⟨.ref s1.heap.objs.size,upd H1 s1.heap.objs.size (.lst xs),I1.laid (t':=s1.toks) (λb u e=>Heap.get?_push_of_some _ e) (Vaa _) ?_,rfl,q _ hf⟩
 exact⟨z,us,0,r,Heap.get?_push_size _ rfl⟩
end
abbrev Sp:=List V→Hp→VK→XK→Prop
abbrev CXT:=List Env→Hp→Shared→XK→Value→Shared→Prop
structure zc6 (P:Program)(w:World)(K:PySem.W.Frag)(mg:Str→Option Value)(base:Heap)(A:Around)(outer:List Env)(s:Shared)(H:Hp):Prop where
 frames:A.frames=some outer
 mod:Mod K mg base
 bs:∀b o,base.get? b=some o→s.heap.get? b=some o∧H b=none
 bsz:base.objs.size≤s.heap.objs.size
 funs:s.heap.FunFrames base outer
 frf:∀b∈frs outer,H b=none
 hok:HOk P w H s.heap
 bare:AllBare s.gens
def CE (outer:List Env)(P:Program)(w:World)(H:Hp)(s:Shared)(Q:VK)(u:Value)(s':Shared):Prop:=
 ∃v H',s'.os=s.os∧AllBare s'.gens∧Un (frs outer) [] H H' s.heap s'.heap∧HOk P w H' s'.heap∧zam v u∧Q v H'
def CR (CX:CXT)(outer:List Env)(P:Program)(w:World)(H:Hp)(s:Shared)(Q:VK)(E:XK)(r:Result)(s':Shared):Prop:=
 match r with
 | .ok (.ret u)=>CE outer P w H s Q u s'
 | .ok _=>False
 | .error e=>CX outer H s E e s'
structure zaV (P:Program)(w:World)(K:PySem.W.Frag)(mg:Str→Option Value)(base:Heap)(CX:CXT)(k:Nat)(f:Addr)(fd:FuncData)(ps:List Str)(sp:Sp):Prop where
 len:∀vs H Q E,sp vs H Q E→vs.length=ps.length
 run:∀(A:Around) (outer:List Env) (s:Shared) (H:Hp) (args:Args) (us:List Value) (vs:List V) (Q:VK) (E:XK),zaC k A→zc6 P w K mg base A outer s H→BindsTo s fd args (ps.zip us)→zal vs us→sp vs H Q E→
  codeAny (model P w) A (.call (.ref f) args) (CR CX outer P w H s Q E) s
theorem zaV.mono {P:Program}{w:World}{K:PySem.W.Frag}{mg:Str→Option Value}{base:Heap}{CX:CXT}{j k:Nat}{f:Addr}{fd:FuncData}{ps:List Str}{sp:Sp}(F:zaV P w K mg base CX j f fd ps sp)(h:j≤k):
  zaV P w K mg base CX k f fd ps sp:=⟨F.len,λA outer s H args us vs Q E hr=>F.run A outer s H args us vs Q E (hr.mono h)⟩
theorem zaV.imp {P:Program}{w:World}{K:PySem.W.Frag}{mg:Str→Option Value}{base:Heap}{CX:CXT}{k:Nat}{f:Addr}{fd:FuncData}{ps:List Str}{sp sp':Sp}(F:zaV P w K mg base CX k f fd ps sp)
  (h:∀vs H Q E,sp' vs H Q E→sp vs H Q E):zaV P w K mg base CX k f fd ps sp':=
 ⟨λvs H Q E q=>F.len vs H Q E (h _ _ _ _ q),λA outer s H args us vs Q E hr he hb hv hs=>F.run A outer s H args us vs Q E hr he hb hv (h _ _ _ _ hs)⟩
theorem zc6.make {P:Program}{w:World}{K:PySem.W.Frag}{mg:Str→Option Value}{base:Heap}{A:Around}{outer:List Env}{s:Shared}{H:Hp}(e:zc6 P w K mg base A outer s H)(C:Addr)(us:List Value)(kw:List (Str×Value)):
  zc6 P w K mg base (A.under (.builtin "type.__call__" ⟨.ref C::us,kw⟩)) outer s H:=⟨by first | exact e.frames | (simpa [Around.under,Code.envs,Code.isFrame,pushEnvs] using e.frames),e.mod,e.bs,e.bsz,e.funs,e.frf,e.hok,e.bare⟩
theorem zc6.in1 {P:Program}{w:World}{K:PySem.W.Frag}{mg:Str→Option Value}{base:Heap}{A:Around}{outer:List Env}{s:Shared}{H:Hp}(e:zc6 P w K mg base A outer s H):
  zc6 P w K mg base A.in1 outer s H:=⟨e.frames,e.mod,e.bs,e.bsz,e.funs,e.frf,e.hok,e.bare⟩
section
variable {X:Cx}{pins:List (Addr×Obj)}{σ:St}{H:Hp}{s s':Shared}
theorem Inv.env0 (I:Inv X pins σ H s):zc6 X.prog X.w X.K X.mg X.base X.A X.stack s H:=
 ⟨I.ok.frames,I.ok.mod,I.bs,Vat I.ok.bsz I.sz,I.stack,I.stkFree,I.hok,I.bare⟩
theorem Inv.after {Q:VK}{u:Value}(I:Inv X pins σ H s)(h:CE X.stack X.prog X.w H s Q u s'):EP X pins σ Q u s':=by
 obtain⟨v,H',os,bare,un,hok,r,q⟩:=h
 obtain⟨hh,g,d,t,os'⟩:=s'
 obtain rfl:os'=s.os:=os
 exact⟨v,H',I.call (h':=hh) (g':=g) (d':=d) (t':=t) (ch:=[]) un hok bare (λb z=>absurd z (by simp)),r,q⟩
end
def znN (C:Addr)(sp:Sp)(dvs:List V)(E:XK)(t:TA):TE:=λσ H Q=>t σ H λvs H1=>∀x dx,H1 x=none→H1 dx=none→dx≠x→
 sp (.ref x::(vs++dvs)) (upd (upd H1 dx (.own x)) x (.ins C dx [])) (λv H2=>v=.non∧Q (.ref x) H2) E
def zbE (K:PySem.W.Frag)(fd:FuncData)(ps:List Str)(ds:List Value):Prop:=
 ∀(s:Shared) (us:List Value),K.In s.heap→(us++ds).length=ps.length→BindsTo s fd ⟨us,[]⟩ (ps.zip (us++ds))
theorem zbE.all {K:PySem.W.Frag}{fd:FuncData}{ps:List Str}(h:∀us:List Value,us.length=ps.length→bindArgs fd ⟨us,[]⟩=pure (ps.zip us)):zbE K fd ps []:=λs us _ hl=>by
 rw[Vav] at hl ⊢
 exact .of_eq (h us hl)
def ze1 (CX:CXT)(X:Cx)(E:XK):Prop:=∀(pins:List (Addr×Obj)) (σ:St) (H:Hp) (s:Shared) (e:Value) (s':Shared),Inv X pins σ H s→CX X.stack H s E e s'→X.xe e s'
section
variable {X:Cx}{CX:CXT}{k:Nat}{f C:Addr}{fd:FuncData}{ps:List Str}{sp:Sp}{dvs:List V}{ds:List Value}{E:XK}{x m:Str}{p pos apos:Pos}{e o:Expr}{es:List Expr}{ta:TE}{t:TA}
structure Mk (K:PySem.W.Frag)(C f:Addr):Prop where
 makes:PySem.W.makesIn K C=true
 init:PySem.W.findIn K (.ref C) "__init__"=some (some (.ref f))
 fn:PySem.W.isFn K (.ref f)=true
 kp:PySem.W.keepIn K (.ref C)=true
theorem znI {pins:List (Addr×Obj)}{σ:St}{H:Hp}{s:Shared}{Q:VK}{us:List Value}{vs:List V}(M:Mk X.K C f)(F:zaV X.prog X.w X.K X.mg X.base CX k f fd ps sp)(hr:zaC (k+1) X.A)(hb:zbE X.K fd ps ds)(hd:zal dvs ds)
  (hx:ze1 CX X E)(I:Inv X pins σ H s)(r:zal vs us)
  (h:∀x dx,H x=none→H dx=none→dx≠x→sp (.ref x::(vs++dvs)) (upd (upd H dx (.own x)) x (.ins C dx [])) (λv H2=>v=.non∧Q (.ref x) H2) E):
  wpAny (model X.prog X.w) X.A (call (.ref C) us) (EP X pins σ Q) X.xe s:=by
 have hq:=h (s.heap.objs.size+1) s.heap.objs.size (I.hok.fresh (Nat.le_succ _)) (I.hok.fresh (Vaa _)) (Vak (Nat.lt_succ_self _))
 have I2:=Inv.made (C:=C) I
 have r2:zal (V.ref (s.heap.objs.size+1)::(vs++dvs)) (Value.ref (s.heap.objs.size+1)::(us++ds)):=.cons rfl (r.append hd)
 have hl:(Value.ref (s.heap.objs.size+1)::us++ds).length=ps.length:=by
  have e:=r2.length
  rw[F.len _ _ _ _ hq] at e
  exact e.symm
 refine wpAny_call (zrc (f:=f) I.kIn M.makes M.init (beq_iff_eq.mp M.fn) (codeAny_mono (F.run _ X.stack _ _ ⟨Value.ref (s.heap.objs.size+1)::us,[]⟩ (Value.ref (s.heap.objs.size+1)::(us++ds)) _ _ E (hr.make C us [])
  (I2.env0.make C us []) (hb _ (Value.ref (s.heap.objs.size+1)::us) I2.kIn hl) r2 hq) λr s' hq'=>?_))
 cases r with
 | error e=>exact hx pins σ _ _ e s' I2 hq'
 | ok fl=>
  cases fl with
  | ret u=>
   obtain⟨v,H',I3,rv,ev,q3⟩:=I2.after hq'
   subst ev
   exact⟨rv,⟨V.ref (s.heap.objs.size+1),H',I3,rfl,q3⟩⟩
  | next=>exact False.elim hq'
  | brk=>exact False.elim hq'
  | cont=>exact False.elim hq'
theorem zqt (M:Mk X.K C f)(F:zaV X.prog X.w X.K X.mg X.base CX k f fd ps sp)(hr:zaC (k+1) X.A)(hg:Gl X x)(hm:X.mg x=some (.ref C))(hb:zbE X.K fd ps ds)(hd:zal dvs ds)(hx:ze1 CX X E)
  (ha:PA X (e::es) t)(hdb:(x==("__debug__":Str))=false:=by decide)(he:starEach (e::es) X.env=(false,eval e X.env)::starEach es X.env:=by rfl)(hpl:(backTo pos (starEach es X.env)).any (·.1)=false:=by rfl):
  PE X (.Call (.Name x p) (e::es) [] pos) (znN C sp dvs E t):=by
 intro pins s σ H Q I h
 refine wpAny_Call_Name_kw (zhl I hg hm ?_ hdb)
 refine PySem.W.callWith_K (h₀:=X.base) I.ok.mod.kin M.kp (thn (ha pos pins s σ H _ I h) λus s1 ⟨vs,H1,I1,r,q⟩=>⟨I1.kIn,?_⟩) he hpl
 exact znI M F hr hb hd hx I1 r q
theorem zrS (M:Mk X.K C f)(F:zaV X.prog X.w X.K X.mg X.base CX k f fd ps sp)(hr:zaC (k+1) X.A)(hg:Gl X x)(hm:X.mg x=some (.ref C))(hb:zbE X.K fd ps ds)(hd:zal dvs ds)(hx:ze1 CX X E)
  (hdb:(x==("__debug__":Str))=false:=by decide):PE X (.Call (.Name x p) [] [] pos) (znN C sp dvs E tNil):=by
 intro pins s σ H Q I h
 refine wpAny_Call_Name_kw (zhl I hg hm ?_ hdb)
 exact PySem.W.callWith_K0 I.kIn M.kp (znI (us:=[]) M F hr hb hd hx I .nil h)
end
section
variable {X:Cx}{CX:CXT}{k:Nat}{f C:Addr}{fd:FuncData}{ps ks:List Str}{sp:Sp}{E:XK}{x m:Str}{p pos apos kpos:Pos}{e o:Expr}{es:List Expr}{kws:List Keyword}{te ta:TE}{t tk:TA}{nm:Option Str}
structure KBinds (K:PySem.W.Frag)(fd:FuncData)(ps ks:List Str)(g:List Value→List Value→List Value)(gV:List V→List V→List V):Prop where
 to:∀(s:Shared) (us ws:List Value),K.In s.heap→(g us ws).length=ps.length→BindsTo s fd ⟨us,ks.zip ws⟩ (ps.zip (g us ws))
 rel:∀ {vs:List V} {us:List Value} {zs:List V} {ws:List Value},zal vs us→zal zs ws→zal (gV vs zs) (g us ws)
variable {g:List Value→List Value→List Value}{gV:List V→List V→List V}
end
structure zaB (N P:List Str)(sc:Scope):Prop where
 kind:sc.kind=.function
 co:sc.isCoroutine=false
 gen:sc.isGenerator=false
 nd:N.Nodup
 pre:N.take P.length=P
 par:∀x∈P,sc.names.lookup x=some .local∨sc.names.lookup x=some .cell
 nofree:∀y∈sc.names,y.2≠.free
theorem zpG {kindOf:Str→Option NameKind}{x:Str}:∀ {binds:List (Str×Value)} {m:Str→Option Value},(∀v,(x,v) ∉ binds)→bindL kindOf binds m x=m x
 | [],_,_=>rfl
 | (n,v)::r,m,h=>by
  unfold bindL
  rw[zpG λw hw=>h w (Vam _ hw)]
  split
  ·have:x≠n:=by rintro rfl; exact h v Vau
   simp[this]
  ·rfl
theorem zqc {kindOf:Str→Option NameKind}{x:Str}:∀ {binds:List (Str×Value)} {m:Str→Option Value},(∀v,(x,v) ∉ binds)→bindC kindOf binds m x=m x
 | [],_,_=>rfl
 | (n,v)::r,m,h=>by
  unfold bindC
  rw[zqc λw hw=>h w (Vam _ hw)]
  split
  ·rfl
  ·have:x≠n:=by rintro rfl; exact h v Vau
   simp[this]
theorem zp8 {kindOf:Str→Option NameKind}{x:Str}{v:Value}:∀ {P:List Str} {vs:List Value} {i:Nat} {m:Str→Option Value},P.Nodup→P[i]?=some x→vs[i]?=some v→kindOf x=some .local→
  bindL kindOf (P.zip vs) m x=some v
 | [],_,_,_,_,h,_,_=>by simp at h
 | _::_,[],_,_,_,_,h,_=>by simp at h
 | p::P,w::vs,0,m,nd,h1,h2,hk=>by
  simp at h1 h2; subst h1; subst h2
  show bindL kindOf ((p,w)::P.zip vs) m p=_
  unfold bindL
  rw[zpG λv hv=>(VaP.mp nd).1 (List.of_mem_zip hv).1,if_pos hk]
  simp
 | p::P,w::vs,i+1,m,nd,h1,h2,hk=>by
  show bindL kindOf ((p,w)::P.zip vs) m x=_
  unfold bindL
  exact zp8 (i:=i) (VaP.mp nd).2 (by simpa using h1) (by simpa using h2) hk
theorem znv {kindOf:Str→Option NameKind}{x:Str}{v:Value}:∀ {P:List Str} {vs:List Value} {i:Nat} {m:Str→Option Value},P.Nodup→P[i]?=some x→vs[i]?=some v→kindOf x≠some .local→
  bindC kindOf (P.zip vs) m x=some v
 | [],_,_,_,_,h,_,_=>by simp at h
 | _::_,[],_,_,_,_,h,_=>by simp at h
 | p::P,w::vs,0,m,nd,h1,h2,hk=>by
  simp at h1 h2; subst h1; subst h2
  show bindC kindOf ((p,w)::P.zip vs) m p=_
  unfold bindC
  rw[zqc λv hv=>(VaP.mp nd).1 (List.of_mem_zip hv).1,if_neg hk]
  simp
 | p::P,w::vs,i+1,m,nd,h1,h2,hk=>by
  show bindC kindOf ((p,w)::P.zip vs) m x=_
  unfold bindC
  exact znv (i:=i) (VaP.mp nd).2 (by simpa using h1) (by simpa using h2) hk
def zcR (N:List Str)(vs:List V):St:=vs.map some++List.replicate (N.length-vs.length) none
def zbj (CX:CXT)(P:Program)(w:World)(K:PySem.W.Frag)(mg:Str→Option Value)(base:Heap)(N:List Str)(qual:Str)(scope:Scope)(f:Addr)(cd:Value)(A:Around)(outer:List Env)(s:Shared)(H:Hp)(E:XK):Cx where
 prog:=P
 w:=w
 K:=K
 mg:=mg
 base:=base
 A:=A.deeper (envOfC qual scope s.heap.objs.size f cd)
 N:=N
 s₀:=s
 H₀:=H
 env:=envOfC qual scope s.heap.objs.size f cd
 outer:=outer
 stack:=envOfC qual scope s.heap.objs.size f cd::outer
 ex:=[]
 calm:=true
 fn:=λ_=>true
 pn:=[]
 xe:=λe s'=>wpAny (model P w) (A.deeper (envOfC qual scope s.heap.objs.size f cd)) (leaving (envOfC qual scope s.heap.objs.size f cd) e) (λ_ s''=>CX outer H s E e s'') (λe' s''=>CX outer H s E e' s'') s'
theorem zpH {sc:Scope}{n:Nat}{x:Str}(h:sc.names.lookup x=some .cell):∃c,(cellsFrom n sc.names []).lookup x=some c:=by
 have q:=PySem.W.cellsFrom_some sc.names n [] (.inl h)
 exact Option.isSome_iff_exists.mp q
theorem zva {CX:CXT}{P:Program}{w:World}{K:PySem.W.Frag}{mg:Str→Option Value}{base:Heap}{N ps:List Str}{qual:Str}{scope:Scope}{f:Addr}{cd:Value}{A:Around}{outer:List Env}{s s1:Shared}{H:Hp}{E:XK}{us:List Value}{vs:List V}
  (S:zaB N ps scope)(hd:A.handled=none)(e0:zc6 P w K mg base A outer s H)(hl:vs.length=ps.length)(r:zal vs us)
  (x:InCallC s s.heap.objs.size (bindL (envOfC qual scope s.heap.objs.size f cd).kindOf (ps.zip us) λ_=>none) (cellsFrom (s.heap.objs.size+1) scope.names []) (bindC (envOfC qual scope s.heap.objs.size f cd).kindOf (ps.zip us) λ_=>none) s1):
  Inv (zbj CX P w K mg base N qual scope f cd A outer s H E) [] (zcR N vs) H s1:=by
 have hpl:ps.length≤N.length:=by have:=congrArg List.length S.pre; rw[VaR] at this; omega
 obtain⟨h1,tk,rfl,hk⟩:=x.done
 have noA:∀b:Addr,b ∉ (zbj CX P w K mg base N qual scope f cd A outer s H E).ex:=λb z=>absurd (show b∈([]:List Addr) from z) (by simp)
 refine⟨⟨e0.mod,S.kind,rfl,rfl,Vaa _,λy z c h1 h2=>?_,λy hy=>?_,λy c _ h=>?_,λ_=>hd,Around.frames_deeper e0.frames,.inr ⟨rfl,rfl⟩,λb z=>absurd z (noA b),e0.bs,e0.bsz,λb _ _=>noA b,λb z=>absurd z (noA b),e0.funs,e0.frf⟩,
  rfl,e0.bare,Un.kept hk,⟨_,x.toInCall.ns,λi y v h1 h2 h3=>?_⟩,λy c h=>⟨_,x.cell y c h⟩,e0.hok.fresh (Vaa _),λy c h=>?_,λp hp=>absurd (show p∈([]:List (Addr×Obj)) from hp) (by simp),e0.hok.kept hk,?_⟩
 ·exact name_of_addr x.apart (PySem.mem_of_lookup h1) (PySem.mem_of_lookup h2)
 ·have hy:scope.names.lookup y=some .cell∨scope.names.lookup y=some .free:=hy
  rcases hy with hy | hy
  ·exact zpH hy
  ·exact absurd rfl (S.nofree _ (PySem.mem_of_lookup hy))
 ·exact VaC (x.above y c (PySem.mem_of_lookup h))
 ·have hi:i<vs.length:=by
   unfold zcR at h2
   by_cases hi:i<vs.length
   ·exact hi
   ·rw[VaG (by simpa using hi)] at h2
    rw[List.getElem?_replicate] at h2
    split at h2 <;> cases h2
  have ha:vs[i]?=some v:=by
   unfold zcR at h2
   rw[Van (by simpa using hi),Vao] at h2
   cases e:vs[i]? with
   | none=>rw[e] at h2; cases h2
   | some a=>rw[e] at h2; cases h2; rfl
  obtain⟨u,hu,rv⟩:=r.get ha
  have hp:ps[i]?=some y:=by
   rw[← S.pre,List.getElem?_take_of_lt (by omega)]; exact h1
  have ndP:ps.Nodup:=by rw[← S.pre]; exact S.nd.sublist (List.take_sublist _ _)
  refine⟨u,rv,?_⟩
  rcases S.par y (VaI hp) with k | k
  ·exact .inl ⟨k,zp8 ndP hp hu k⟩
  ·obtain⟨c,e⟩:=zpH (n:=s.heap.objs.size+1) k
   refine .inr ⟨.inl k,c,e,?_⟩
   have q:=x.cell y c e
   rw[znv ndP hp hu (by show scope.names.lookup y≠_; rw[k]; decide)] at q
   exact q
 ·exact e0.hok.fresh (VaC (x.above y c (PySem.mem_of_lookup h)))
 ·unfold zcR
  show _=N.length
  rw[Vad,Vac,List.length_replicate]
  omega
theorem zl2 {CX:CXT}{P:Program}{w:World}{K:PySem.W.Frag}{mg:Str→Option Value}{base:Heap}{k:Nat}{f:Addr}{name qual:Str}{params:Arguments}{body:List Stmt}{scope:Scope}{dV kV doc pm cdv ct oc:Value}{an od:Option Addr}
  {osl:Array (Option Value)}{N ps:List Str}{sp:Sp}(lk:K.lookup f=some ⟨oc,od,.func (PySem.W.fnOf name qual params body scope dV kV doc pm an cdv ct),osl⟩)(hcd:PySem.W.codeIn K cdv qual=true)(S:zaB N ps scope)
  (len:∀vs H Q E,sp vs H Q E→vs.length=ps.length)
  (hbody:∀(A:Around) (outer:List Env) (s:Shared) (H:Hp) (vs:List V) (Q:VK) (E:XK),zaC k (A.deeper (envOfC qual scope s.heap.objs.size f cdv))→sp vs H Q E→
   ∃t,PSs (zbj CX P w K mg base N qual scope f cdv A outer s H E) body t∧t { nx:=λ_ H'=>Q .non H',rt:=Q } (zcR N vs) H):
  zaV P w K mg base CX (k+1) f (PySem.W.fnOf name qual params body scope dV kV doc pm an cdv ct) ps sp:=by
 refine⟨len,λA outer s H args us vs Q E hr e0 hb r hsp=>?_⟩
 have hl:=len _ _ _ _ hsp
 have KX:K.In s.heap:=e0.mod.kin.keeps λb o e=>(e0.bs b o e).1
 have lim:s.heap.NoLimit:=e0.mod.nolimit.keeps λb o e=>(e0.bs b o e).1
 have hkind:∀y∈ps.zip us,scope.names.lookup y.1=some .local∨(scope.names.lookup y.1=some .cell∧((cellsFrom (s.heap.objs.size+1) scope.names []).lookup y.1).isSome=true):=λ⟨n,v⟩ hy=>by
  rcases S.par n (List.of_mem_zip hy).1 with q | q
  ·exact .inl q
  ·exact .inr ⟨q,PySem.W.cellsFrom_some _ _ _ (.inl q)⟩
 refine codeAny_call_function hr.depth (KX _ _ lk) rfl S.co S.gen rfl (PySem.W.codeRec_of KX hcd) (hb _ _ _ _ ?_)
 refine wpAny_newFunctionEnv_cells S.kind hkind λenv he s1 x=>?_
 subst he
 refine⟨lim.keeps x.toInCall.keep,codeAny_func ?_⟩
 obtain⟨t,ht,hq⟩:=hbody A outer s H vs Q E (hr.deeper _) hsp
 have I:Inv (zbj CX P w K mg base N qual scope f cdv A outer s H E) [] (zcR N vs) H s1:=zva S hr.hd e0 hl r x
 refine wpAny_mono (ht [] s1 (zcR N vs) H _ I hq) (λfl s' hs=>?_) λe s' hs=>hs
 have fin:∀ {σ':St} {H':Hp} {v:V} {u:Value},Inv (zbj CX P w K mg base N qual scope f cdv A outer s H E) [] σ' H' s'→zam v u→Q v H'→CE outer P w H s Q u s':=
  λ{σ' H' v u} J rv q=>⟨v,H',J.os,J.bare,J.base,J.hok,rv,q⟩
 cases fl with
 | ret u=>
  obtain⟨v,σ',H',J,rv,q⟩:=hs
  exact fin J rv q
 | next=>
  obtain⟨σ',H',J,q⟩:=hs
  exact fin (v:=V.non) (u:=Value.none) J rfl q
 | brk=>
  obtain⟨_,_,_,q⟩:=hs
  exact False.elim q
 | cont=>
  obtain⟨_,_,_,q⟩:=hs
  exact False.elim q
end L2
namespace L2
open PySem PySem.Spec PyProof.Rows
section
variable {X:Cx}{x:Str}{p pos:Pos}{e:Expr}{es:List Expr}{t:TA}{id T:String}{r:List V→Hp→VK→Prop}
def tCB (r:List V→Hp→VK→Prop)(t:TA):TE:=λσ H Q=>t σ H λvs H1=>r vs H1 Q
theorem zlH (hc:za3 X (.builtin id) r)(hg:Gl X x)(hm:X.mg x=none)(hv:bootBuiltins x=some (.builtin id))(ha:PA X (e::es) t)(hn:x≠"__name__":=by decide)(hdb:(x==("__debug__":Str))=false:=by decide)
  (he:starEach (e::es) X.env=(false,eval e X.env)::starEach es X.env:=by rfl)(hpl:(backTo pos (starEach es X.env)).any (·.1)=false:=by rfl):PE X (.Call (.Name x p) (e::es) [] pos) (tCB r t):=by
 intro pins s σ H Q I h
 refine wpAny_Call_Name_kw (zij I hg hm hv ?_ hn hdb)
 exact PyProof.Rows.callWith_builtin1 (thn (ha pos pins s σ H _ I h) λus s1 ⟨vs,H1,I1,r1,q1⟩=>hc pins s1 σ H1 vs us Q I1 r1 q1) he hpl
theorem zpD (hc:za3 X (.type T) r)(hg:Gl X x)(hm:X.mg x=none)(hv:bootBuiltins x=some (.type T))(ha:PA X (e::es) t)(hn:x≠"__name__":=by decide)(hdb:(x==("__debug__":Str))=false:=by decide)
  (he:starEach (e::es) X.env=(false,eval e X.env)::starEach es X.env:=by rfl)(hpl:(backTo pos (starEach es X.env)).any (·.1)=false:=by rfl):PE X (.Call (.Name x p) (e::es) [] pos) (tCB r t):=by
 intro pins s σ H Q I h
 refine wpAny_Call_Name_kw (zij I hg hm hv ?_ hn hdb)
 exact PyProof.Rows.callWith_type1 (thn (ha pos pins s σ H _ I h) λus s1 ⟨vs,H1,I1,r1,q1⟩=>hc pins s1 σ H1 vs us Q I1 r1 q1) he hpl
end
end L2
namespace HT
open PySem PyProof.Rows
section
open PySem.SeqAt
open PySem.AutoSeq1 (wpAny_loadPart')
open PySem.MeetsSeq PySem.MeetsSeq2 PySem.MeetsSeq3
end
section
variable {prog:Program}{w:World}{A:Around}{E:Value→Shared→Prop}{s:Shared}
def sIx (n d:Nat):Option Int→Nat
 | none=>d
 | some v=>if v<0 then (v+(n:Int)).toNat else min v.toNat n
theorem sIx_none (n d:Nat):sIx n d none=d:=rfl
theorem sIx_nat (n d k:Nat):sIx n d (some (k:Int))=min k n:=by
 show (if (k:Int)<0 then ((k:Int)+(n:Int)).toNat else min (k:Int).toNat n)=min k n
 rw[if_neg (by omega),VaS]
end
end HT
namespace L2
open PySem PySem.Spec PyProof.Rows
abbrev TO:=St→Hp→(Option Int→Hp→Prop)→Prop
def PO (X:Cx)(e:Option Expr)(t:TO):Prop:=
 ∀(pins:List (Addr×Obj)) (s:Shared) (σ:St) (H:Hp) (Q:Option Int→Hp→Prop),Inv X pins σ H s→t σ H Q→
  wpAny (model X.prog X.w) X.A (evalPart e X.env) (λu s'=>∃o H',Inv X pins σ H' s'∧IsPart u o∧Q o H') X.xe s
def zqS:TO:=λ_ H Q=>Q none H
def tPart (t:TE):TO:=λσ H Q=>t σ H λx H1=>∃i,x=.int i∧Q (some i) H1
section
variable {X:Cx}{e:Expr}{te:TE}{lo hi:Option Expr}{tl th:TO}{pos p2:Pos}
theorem ztX:PO X none zqS:=by
 intro pins s σ H Q I h
 rw[evalPart_none]
 exact wpAny_pure ⟨none,H,I,.none,h⟩
theorem zwg (h:PE X e te):PO X (some e) (tPart te):=by
 intro pins s σ H Q I hw
 rw[evalPart_some]
 refine thn (h pins s σ H _ I hw) λu s1 ⟨x,H1,I1,r1,q1⟩=>?_
 obtain⟨i,rfl,q⟩:=q1
 obtain⟨t,rfl⟩:=r1
 exact⟨some i,H1,I1,.int i t,q⟩
def SlR (X:Cx)(r:V→Option Int→Option Int→Hp→VK→Prop):Prop:=
 ∀(pins:List (Addr×Obj)) (s:Shared) (σ:St) (H:Hp) (x:V) (v vl vu:Value) (lo hi:Option Int) (sl:Addr) (Q:VK),Inv X pins σ H s→zam x v→s.heap.IsSliceOf sl vl vu .none→IsPart vl lo→IsPart vu hi→r x lo hi H Q→
  ∃T id,typeLookup (.type T) "__getitem__"=pure (some (.builtin id))∧s.TypeIs v T∧wpAny (model X.prog X.w) X.A (getItem v (.ref sl)) (EP X pins σ Q) X.xe s
theorem SlR.or {r r':V→Option Int→Option Int→Hp→VK→Prop}(h:SlR X r)(h':SlR X r'):SlR X (λx lo hi H Q=>r x lo hi H Q∨r' x lo hi H Q):=by
 intro pins s σ H x v vl vu lo hi sl Q I rx hs pl pu q
 rcases q with q | q
 ·exact h pins s σ H x v vl vu lo hi sl Q I rx hs pl pu q
 ·exact h' pins s σ H x v vl vu lo hi sl Q I rx hs pl pu q
def tSl (r:V→Option Int→Option Int→Hp→VK→Prop)(te:TE)(tl th:TO):TE:=λσ H Q=>te σ H λx H1=>tl σ H1 λl H2=>th σ H2 λu H3=>r x l u H3 Q
theorem znx {r:V→Option Int→Option Int→Hp→VK→Prop}(hr:SlR X r)(he:PE X e te)(hl:PO X lo tl)(hu:PO X hi th):PE X (.Subscript e (.Slice lo hi none p2) pos) (tSl r te tl th):=by
 intro pins s σ H Q I h
 refine Subscript_ (thn (he pins s σ H _ I h) λv s1 ⟨x,H1,I1,r1,q1⟩=>?_)
 refine wpAny_Slice (thn (hl pins s1 σ H1 _ I1 q1) λvl s2 ⟨l,H2,I2,pl,q2⟩=>thn (hu pins s2 σ H2 _ I2 q2) λvu s3 ⟨u,H3,I3,pu,q3⟩=>?_)
 rw[evalPart_none]
 refine wpAny_pure ?_
 have I4:Inv X pins σ H3 { s3 with heap:=s3.heap.push { cls:=.type "slice",data:=.fields #[vl,vu,.none] } }:=I3.kept (t':=s3.toks) λb ob q=>Heap.get?_push_of_some _ q
 obtain⟨T,id,hT,ht,hg⟩:=hr pins { s3 with heap:=s3.heap.push { cls:=.type "slice",data:=.fields #[vl,vu,.none] } } σ H3 x v vl vu l u s3.heap.objs.size Q I4 r1 (Heap.IsSliceOf.new ..) pl pu q3
 show wpAny (model X.prog X.w) X.A (subscriptTail e (.Slice lo hi none p2) v (.ref s3.heap.objs.size)) (EP X pins σ Q) X.xe { s3 with heap:=s3.heap.push { cls:=.type "slice",data:=.fields #[vl,vu,.none] } }
 exact tail_any (ops:=[.ref s3.heap.objs.size,v]) ht hT hg (by with_unfolding_all rfl)
def zf2 (xs:List V)(lo hi:Option Int):List V:=(xs.drop (HT.sIx xs.length 0 lo)).take (HT.sIx xs.length xs.length hi-HT.sIx xs.length 0 lo)
theorem zrR (xs:List V)(lo hi:Option Int):(zf2 xs lo hi).length≤xs.length:=by
 unfold zf2
 rw[VaR,List.length_drop]
 omega
end
end L2
namespace L2
open PySem PySem.Spec PyProof.Rows
def ixN (n:Nat)(i:Int):Option Nat:=if 0≤i then (if i<n then some i.toNat else none) else if -(n:Int)≤i then some (i+n).toNat else none
def atI {α:Type}(xs:List α)(i:Int):Option α:=(ixN xs.length i).bind λj=>xs[j]?
theorem zxm {n:Nat}{i:Int}{j:Nat}(h:ixN n i=some j):seqIndex? i n=some j∧j<n∧-(n:Int)≤i∧i<n:=by
 unfold ixN at h
 by_cases h0:0≤i
 ·rw[if_pos h0] at h
  by_cases h1:i<n
  ·rw[if_pos h1] at h
   have e:i.toNat=j:=Option.some.inj h
   exact⟨by rw[seqIndex_of h0 h1,e],by omega,by omega,h1⟩
  ·rw[if_neg h1] at h; cases h
 ·rw[if_neg h0] at h
  by_cases h1:-(n:Int)≤i
  ·rw[if_pos h1] at h
   have e:(i+n).toNat=j:=Option.some.inj h
   exact⟨by rw[seqIndex_neg (by omega) h1,e],by omega,h1,by omega⟩
  ·rw[if_neg h1] at h; cases h
theorem zoD {α:Type}{xs:List α}{i:Int}{v:α}(h:atI xs i=some v):∃j,seqIndex? i xs.length=some j∧xs[j]?=some v∧j<xs.length∧-(xs.length:Int)≤i∧i<xs.length:=by
 unfold atI at h
 cases e:ixN xs.length i with
 | none=>rw[e] at h; cases h
 | some j=>
  rw[e] at h
  obtain⟨h1,h2,h3,h4⟩:=zxm e
  exact⟨j,h1,h,h2,h3,h4⟩
theorem zex {α:Type}{xs:List α}{j:Nat}{v:α}(h:xs[j]?=some v):atI xs (j:Int)=some v:=by
 have hj:j<xs.length:=(Vaf.mp h).1
 have e:ixN xs.length (j:Int)=some j:=by
  unfold ixN
  rw[if_pos (by omega),if_pos (by omega)]; simp
 unfold atI; rw[e]; exact h
def zjg (b:Expr):Prop:=∀o i,subscripted b false o i=operate [o,i] (getItem o i)
def IxR (X:Cx)(r:R2):Prop:=
 ∀(value slice:Expr) (pins:List (Addr×Obj)) (s:Shared) (σ:St) (H:Hp) (x y:V) (v u:Value) (Q:VK),Inv X pins σ H s→zam x v→zam y u→r x y H Q→
  subscripted slice false v u=operate [v,u] (getItem v u)→wpAny (model X.prog X.w) X.A (subscriptTail value slice v u) (EP X pins σ Q) X.xe s
def MtR (X:Cx)(id:String)(r:V→List V→Hp→VK→Prop):Prop:=
 ∀(pins:List (Addr×Obj)) (s:Shared) (σ:St) (H:Hp) (x:V) (xs:List V) (v:Value) (us:List Value) (Q:VK),Inv X pins σ H s→zam x v→zal xs us→r x xs H Q→
  wpAny (model X.prog X.w) X.A (call (.builtin id) (v::us)) (EP X pins σ Q) X.xe s
section
variable {X:Cx}{a b:Expr}{ta tb:TE}{pos:Pos}
theorem IxR.or {r r':R2}(h:IxR X r)(h':IxR X r'):IxR X (λx y H Q=>r x y H Q∨r' x y H Q):=by
 intro value slice pins s σ H x y v u Q I rx ry q hs
 rcases q with q | q
 ·exact h value slice pins s σ H x y v u Q I rx ry q hs
 ·exact h' value slice pins s σ H x y v u Q I rx ry q hs
theorem MtR.or {id:String}{r r':V→List V→Hp→VK→Prop}(h:MtR X id r)(h':MtR X id r'):MtR X id (λx xs H Q=>r x xs H Q∨r' x xs H Q):=by
 intro pins s σ H x xs v us Q I rx rs q
 rcases q with q | q
 ·exact h pins s σ H x xs v us Q I rx rs q
 ·exact h' pins s σ H x xs v us Q I rx rs q
theorem pe_ix {r:R2}(hr:IxR X r)(ha:PE X a ta)(hb:PE X b tb)(hs:zjg b):PE X (.Subscript a b pos) (tOp r ta tb):=by
 intro pins s σ H Q I h
 exact Subscript_ (zju ha hb I h λv u s2 x y H2 I2 rx ry q=>hr a b pins s2 σ H2 x y v u Q I2 rx ry q (hs _ _))
def rIxL (K:PySem.W.Frag):R2:=λx y H Q=>∃p xs i v,x=.ref p∧y=.int i∧SqL K H p xs∧atI xs i=some v∧Q v H
def rIxT (K:PySem.W.Frag):R2:=λx y H Q=>∃p xs i v,x=.ref p∧y=.int i∧SqT K H p xs∧atI xs i=some v∧Q v H
theorem zrE:IxR X (rIxL X.K):=by
 intro value slice pins s σ H x y v u Q I rx ry h hs
 obtain⟨p,xs,i,z,rfl,rfl,hq,he,q⟩:=h
 cases rx
 obtain⟨t,rfl⟩:=ry
 obtain⟨its,r,pl,hz⟩:=I.list hq
 obtain⟨j,h1,h2,h3,h4,h5⟩:=zoD he
 obtain⟨w,ew,rw'⟩:=r.get h2
 have hl:=r.length
 have hn:=zkF
 have fin:EP X pins σ Q w s:=⟨z,H,I,rw',q⟩
 by_cases h0:0≤i
 ·have hj:i.toNat=j:=by
   rw[seqIndex_of h0 h5] at h1
   exact Option.some.inj h1
  exact item_listR pl.isList h0 (by omega) (by rw[hj]; simpa using ew) fin hs
 ·have hj:(i+(its.toArray.size:Int)).toNat=j:=by
   rw[seqIndex_neg (by omega) h4] at h1
   rw[Vap,← hl]
   exact Option.some.inj h1
  exact subscriptTail_builtinR (x:=w) pl.isList.typeIs slot_list_getitem.lookup
   (wpAny_getItem_list_neg (Q:=λr s'=>r=w∧EP X pins σ Q r s') pl.isList (by omega) (by rw[Vap] <;> omega) (by omega) (by rw[hj]; simpa using ew) ⟨rfl,fin⟩) hs
theorem zvV:IxR X (rIxT X.K):=by
 intro value slice pins s σ H x y v u Q I rx ry h hs
 obtain⟨p,xs,i,z,rfl,rfl,hq,he,q⟩:=h
 cases rx
 obtain⟨t,rfl⟩:=ry
 obtain⟨its,r,pl,hz⟩:=I.tuple hq
 obtain⟨j,h1,h2,h3,h4,h5⟩:=zoD he
 obtain⟨w,ew,rw'⟩:=r.get h2
 have hl:=r.length
 have hn:=zkF
 have fin:EP X pins σ Q w s:=⟨z,H,I,rw',q⟩
 exact subscriptTail_builtinR (x:=w) pl.typeIs slot_tuple_getitem.lookup
  (getItem_tuple (j:=j) (Q:=λr s'=>r=w∧EP X pins σ Q r s') pl (by omega) (by omega) (by rw[Vap,← hl]; exact h1) (by simpa using ew) ⟨rfl,fin⟩) hs
theorem Inv.lst {pins:List (Addr×Obj)}{σ:St}{H:Hp}{s:Shared}{p:Addr}{xs:List V}(I:Inv X pins σ H s)(h:H p=some (.lst xs)):
  ∃(its:List Value) (n:Nat),zal xs its∧s.heap.get? p=some { cls:=.type "list",data:=.seq its.toArray n }∧xs.length≤sizeLine:=by
 obtain⟨z,its,n,r,e⟩:=I.hok p _ h
 exact⟨its,n,r,e,z⟩
theorem zrH (lo hi:Option Int)(n:Nat):(sliceBounds lo hi none n).1=((HT.sIx n 0 lo:Nat):Int)∧(sliceBounds lo hi none n).2.1=((HT.sIx n n hi:Nat):Int)∧(sliceBounds lo hi none n).2.2=1:=by
 refine⟨?_,?_,rfl⟩
 ·cases lo with
  | none=>simp[sliceBounds,HT.sIx]
  | some i=>
   simp only[sliceBounds,HT.sIx,Option.getD_none,show (1:Int) > 0 by decide,if_true]
   by_cases h:i<0
   ·simp only[h,if_true] <;> omega
   ·simp only[h,if_false] <;> omega
 ·cases hi with
  | none=>simp[sliceBounds,HT.sIx]
  | some i=>
   simp only[sliceBounds,HT.sIx,Option.getD_none,show (1:Int) > 0 by decide,if_true]
   by_cases h:i<0
   ·simp only[h,if_true] <;> omega
   ·simp only[h,if_false] <;> omega
theorem zqR (its:List Value)(lo hi:Option Int):slicePick its.toArray lo hi none=((its.drop (HT.sIx its.length 0 lo)).take (HT.sIx its.length its.length hi-HT.sIx its.length 0 lo)).toArray:=by
 obtain⟨h1,h2,h3⟩:=zrH lo hi its.toArray.size
 unfold slicePick
 rw[h1,h2,h3]
 simp only[sliceRange_one,pick_run,Vap] <;> rfl
def rSlL (K:PySem.W.Frag):V→Option Int→Option Int→Hp→VK→Prop:=λx lo hi H Q=>∃a xs,x=.ref a∧SqL K H a xs∧∀p,H p=none→Q (.ref p) (upd H p (.lst (zf2 xs lo hi)))
theorem zq1:SlR X (rSlL X.K):=by
 intro pins s σ H x v vl vu lo hi sl Q I rx hs pl pu h
 obtain⟨a,xs,rfl,hx,q⟩:=h
 cases rx
 obtain⟨its,r,ht,hz⟩:=I.list hx
 have hlen:=r.length
 refine⟨"list",_,slot_list_getitem.lookup,ht.isList.typeIs,?_⟩
 refine wpAny_getItem_list_slice ht.isList hs pl pu .none (by simp) ?_ (by rw[Vap] <;> omega)
 rw[zqR,← hlen]
 refine⟨.ref s.heap.objs.size,_,I.laid (t':=s.toks) (o:=.lst (zf2 xs lo hi)) (λb ob q=>Heap.get?_push_of_some _ q) (Vaa _) ?_,rfl,q _ (I.hok.fresh (Vaa _))⟩
 exact⟨Vat (zrR xs lo hi) hz,_,0,(r.drop (HT.sIx xs.length 0 lo)).take (HT.sIx xs.length xs.length hi-HT.sIx xs.length 0 lo),Heap.get?_push_size _ rfl⟩
def zcY:V→Bool
 | .non=>true
 | .bl _=>true
 | .int _=>true
 | .str _=>true
 | _=>false
def eqV:V→V→Bool
 | .non,.non=>true
 | .bl a,.bl b=>a==b
 | .bl a,.int b=>(if a then 1 else 0)==b
 | .int a,.bl b=>a==(if b then 1 else 0)
 | .int a,.int b=>a==b
 | .str a,.str b=>a==b
 | _,_=>false
theorem zod {A:Around}{s:Shared}{y x:V}{u v:Value}(ry:zam y u)(rx:zam x v)(fy:zcY y=true)(fx:zcY x=true):SeqAt.EqAt A s u v (eqV y x):=by
 cases y with
 | non=>
  cases ry
  cases x with
  | non=>cases rx; exact SeqAt.EqAt.same _
  | bl b=>cases rx; exact SeqAt.EqAt.none_bool b
  | int b=>obtain⟨t,rfl⟩:=rx; exact SeqAt.EqAt.none_int b t
  | str b=>obtain⟨t,rfl⟩:=rx; exact SeqAt.EqAt.none_str b t
  | _=>exact absurd (show false=true from fx) Val
 | bl a=>
  cases ry
  cases x with
  | non=>cases rx; exact SeqAt.EqAt.bool_none a
  | bl b=>cases rx; exact SeqAt.EqAt.bool_bool a b
  | int b=>obtain⟨t,rfl⟩:=rx; exact SeqAt.EqAt.bool_int a b t
  | str b=>obtain⟨t,rfl⟩:=rx; exact SeqAt.EqAt.bool_str a b t
  | _=>exact absurd (show false=true from fx) Val
 | int a=>
  obtain⟨t',rfl⟩:=ry
  cases x with
  | non=>cases rx; exact SeqAt.EqAt.int_none a t'
  | bl b=>cases rx; exact SeqAt.EqAt.int_bool a t' b
  | int b=>obtain⟨t,rfl⟩:=rx; exact SeqAt.EqAt.int_int a t' b t
  | str b=>obtain⟨t,rfl⟩:=rx; exact SeqAt.EqAt.int_str a t' b t
  | _=>exact absurd (show false=true from fx) Val
 | str a=>
  obtain⟨t',rfl⟩:=ry
  cases x with
  | non=>cases rx; exact SeqAt.EqAt.str_none a t'
  | bl b=>cases rx; exact SeqAt.EqAt.str_bool a t' b
  | int b=>obtain⟨t,rfl⟩:=rx; exact SeqAt.EqAt.str_int a t' b t
  | str b=>obtain⟨t,rfl⟩:=rx; exact SeqAt.EqAt.str_str a t' b t
  | _=>exact absurd (show false=true from fx) Val
 | _=>exact absurd (show false=true from fy) Val
def eqU (x:V)(u:Value):Bool:=match u with
 | .none=>eqV .non x
 | .bool b=>eqV (.bl b) x
 | .int i _=>eqV (.int i) x
 | .str z _=>eqV (.str z) x
 | _=>false
theorem zp6 {x y:V}{u:Value}(r:zam y u)(f:zcY y=true):eqU x u=eqV y x:=by
 cases y with
 | non=>cases r; rfl
 | bl b=>cases r; rfl
 | int i=>obtain⟨t,rfl⟩:=r; rfl
 | str z=>obtain⟨t,rfl⟩:=r; rfl
 | _=>exact absurd (show false=true from f) Val
theorem zgf {x:V}:∀ {xs:List V} {us:List Value},zal xs us→xs.all zcY=true→us.any (eqU x)=xs.any λy=>eqV y x
 | _,_,.nil,_=>rfl
 | y::xs,u::us,.cons r t,f=>by
  rw[List.all_cons,Vay] at f
  rw[VaJ,VaJ,zp6 r f.1,zgf t f.2]
theorem zif {A:Around}{s:Shared}{x:V}{v:Value}(rx:zam x v)(fx:zcY x=true):∀ {xs:List V} {us:List Value},zal xs us→xs.all zcY=true→∀u∈us,SeqAt.EqAt A s u v (eqU x u)
 | _,_,.nil,_=>λu hu=>by cases hu
 | y::xs,u::us,.cons r t,f=>λu' hu=>by
  rw[List.all_cons,Vay] at f
  rcases Vab.mp hu with rfl | hu
  ·rw[zp6 r f.1]; exact zod r rx f.1 fx
  ·exact zif rx fx t f.2 u' hu
def inV (x:V)(xs:List V):Bool:=xs.any λy=>eqV y x
def rIn (K:PySem.W.Frag)(neg:Bool):R2:=λx y H Q=>∃p xs,y=.ref p∧(SqL K H p xs∨SqT K H p xs)∧zcY x=true∧xs.all zcY=true∧Q (.bl (if neg then !inV x xs else inV x xs)) H
theorem zrZ:OpR X (compareOp .In) (rIn X.K false):=by
 intro pins s σ H x y v u Q I rx ry h
 obtain⟨p,xs,rfl,hq,fx,fs,q⟩:=h
 cases ry
 rcases hq with hq | hq
 ·obtain⟨its,r,pl,hz⟩:=I.list hq
  refine SeqAt.in_listAt (eqU x) pl.isList (λw hw=>zif rx fx r fs w (by simpa using hw)) ⟨.bl _,H,I,rfl,?_⟩
  rw[show its.toArray.any (eqU x)=its.any (eqU x) by simp,zgf r fs]
  exact q
 ·obtain⟨its,r,pl,hz⟩:=I.tuple hq
  refine SeqAt.in_tupleAt (eqU x) pl (λw hw=>zif rx fx r fs w (by simpa using hw)) ⟨.bl _,H,I,rfl,?_⟩
  rw[show its.toArray.any (eqU x)=its.any (eqU x) by simp,zgf r fs]
  exact q
theorem zua:OpR X (compareOp .NotIn) (rIn X.K true):=by
 intro pins s σ H x y v u Q I rx ry h
 obtain⟨p,xs,rfl,hq,fx,fs,q⟩:=h
 cases ry
 rcases hq with hq | hq
 ·obtain⟨its,r,pl,hz⟩:=I.list hq
  refine SeqAt.notIn_listAt (eqU x) pl.isList (λw hw=>zif rx fx r fs w (by simpa using hw)) ⟨.bl _,H,I,rfl,?_⟩
  rw[show its.toArray.any (eqU x)=its.any (eqU x) by simp,zgf r fs]
  exact q
 ·obtain⟨its,r,pl,hz⟩:=I.tuple hq
  refine SeqAt.notIn_tupleAt (eqU x) pl (λw hw=>zif rx fx r fs w (by simpa using hw)) ⟨.bl _,H,I,rfl,?_⟩
  rw[show its.toArray.any (eqU x)=its.any (eqU x) by simp,zgf r fs]
  exact q
theorem zr9:za3 X (.builtin "len") (λxs H Q=>∃p ys,xs=[.ref p]∧(SqL X.K H p ys∨SqT X.K H p ys)∧Q (.int ys.length) H):=by
 intro pins s σ H xs us Q I r h
 obtain⟨p,ys,rfl,hq,q⟩:=h
 obtain⟨u,rfl,rx⟩:=zb4 r
 cases rx
 have hn:=zkF
 rcases hq with hq | hq
 ·obtain⟨its,r',pl,hz⟩:=I.list hq
  have hlen:=r'.length
  exact Calls.call_len_list pl.isList (by simp only[Vap] <;> omega) ⟨.int ys.length,H,I.tok _,⟨s.toks+1,by rw[Vap,hlen]⟩,q⟩
 ·obtain⟨its,r',pl,hz⟩:=I.tuple hq
  have hlen:=r'.length
  exact len_tuple pl (by simp only[Vap] <;> omega) ⟨.int ys.length,H,I.tok _,⟨s.toks+1,by rw[Vap,hlen]⟩,q⟩
theorem zwM:za3 X (.builtin "len") (λxs H Q=>∃z,xs=[.str z]∧z.length≤sizeLine∧Q (.int z.length) H):=by
 intro pins s σ H xs us Q I r h
 obtain⟨z,rfl,hz,q⟩:=h
 obtain⟨u,rfl,t,rfl⟩:=zb4 r
 have hn:=zkF
 exact len_str (by omega) ⟨.int z.length,H,I.tok _,⟨_,rfl⟩,q⟩
theorem za3.or {f:Value}{r r':List V→Hp→VK→Prop}(h:za3 X f r)(h':za3 X f r'):za3 X f (λxs H Q=>r xs H Q∨r' xs H Q):=by
 intro pins s σ H xs us Q I rs q
 rcases q with q | q
 ·exact h pins s σ H xs us Q I rs q
 ·exact h' pins s σ H xs us Q I rs q
theorem zqh:za3 X (.type "list") (λxs H Q=>∃p ys,xs=[.ref p]∧(SqL X.K H p ys∨SqT X.K H p ys)∧∀l,H l=none→Q (.ref l) (upd H l (.lst ys))):=by
 intro pins s σ H xs us Q I r h
 obtain⟨p,ys,rfl,hq,q⟩:=h
 obtain⟨u,rfl,rx⟩:=zb4 r
 cases rx
 have fin:∀(its:List Value),zal ys its→ys.length≤sizeLine→∀(h':Heap) (c':Nat),(∀b o',s.heap.get? b=some o'→h'.get? b=some o')→
   h'.get? s.heap.objs.size=some { cls:=.type "list",dict:=none,data:=.seq its.toArray c',slots:=#[] }→EP X pins σ Q (.ref s.heap.objs.size) { s with heap:=h' }:=λits r' hz h' c' kp e=>
  ⟨.ref s.heap.objs.size,_,I.laid (t':=s.toks) kp (Vaa _) (show za7 X.prog X.w _ h' _ (.lst ys) from ⟨hz,its,c',r',e⟩),rfl,q _ (I.hok.fresh (Vaa _))⟩
 rcases hq with hq | hq
 ·obtain⟨its,r',pl,hz⟩:=I.list hq
  have hlen:=r'.length
  obtain⟨o,ho,hc,n,hd⟩:=pl.isList
  exact call_list_seq p (.inl rfl) ho hc hd (λh' c' kp e=>fin its r' hz h' c' kp e) (by simp only[Vap] <;> omega)
 ·obtain⟨its,r',pl,hz⟩:=I.tuple hq
  have hlen:=r'.length
  obtain⟨o,ho,hc,n,hd⟩:=pl
  exact call_list_seq p (.inr rfl) ho hc hd (λh' c' kp e=>fin its r' hz h' c' kp e) (by simp only[Vap] <;> omega)
def tyV (K:PySem.W.Frag)(T:String)(x:V)(H:Hp):Prop:=match x with
 | .str _=>T="str"
 | .int _=>T="int"
 | .ref p=>(T="list"∧∃xs,SqL K H p xs)∨(T="tuple"∧∃o,K.lookup p=some o∧o.cls=.type "tuple"∧o.dict=none)∨
   (T="dict"∧((∃kvs,H p=some (.dK kvs))∨∃kvs,H p=some (.dT kvs)))∨(T="set"∧∃S n,H p=some (.set S n))
 | _=>False
theorem zuK {pins:List (Addr×Obj)}{σ:St}{H:Hp}{s:Shared}{T:String}{x:V}{v:Value}(I:Inv X pins σ H s)(r:zam x v)(ty:tyV X.K T x H):
  s.TypeIs v T∧∀a,v=.ref a→∃ob,s.heap.get? a=some ob∧ob.dict=none:=by
 cases x with
 | str z=>
  obtain⟨t,rfl⟩:=r
  cases (show T="str" from ty)
  exact⟨typeIs_str s z t,λ_ e=>nomatch e⟩
 | int i=>
  obtain⟨t,rfl⟩:=r
  cases (show T="int" from ty)
  exact⟨typeIs_int s i t,λ_ e=>nomatch e⟩
 | ref p=>
  cases r
  rcases ty with ⟨rfl,xs,hq⟩ | ⟨rfl,o,hk,hc,hd⟩ | ⟨rfl,hk⟩ | ⟨rfl,S,n,hk⟩
  ·obtain⟨its,_,pl,_⟩:=I.list hq
   refine⟨pl.isList.typeIs,λa e=>?_⟩
   cases e
   obtain⟨o,n,e,c,hd,_⟩:=pl
   exact⟨o,e,hd⟩
  ·refine⟨⟨o,I.kIn p o hk,hc⟩,λa e=>?_⟩
   cases e
   exact⟨o,I.kIn _ o hk,hd⟩
  ·have z:∃o,s.heap.get? p=some o∧o.ExactDict:=by
    rcases hk with ⟨kvs,hk⟩ | ⟨kvs,hk⟩
    ·obtain⟨_,_,_,_,o,_,_,e,ex,_⟩:=I.hok p _ hk
     exact⟨o,e,ex⟩
    ·obtain⟨_,_,_,_,o,_,_,e,ex,_⟩:=I.hok p _ hk
     exact⟨o,e,ex⟩
   obtain⟨o,e,ex⟩:=z
   refine⟨⟨o,e,ex.1⟩,λa e2=>?_⟩
   cases e2
   exact⟨o,e,ex.2.1⟩
  ·obtain⟨o,_,_,_,e,ex,_⟩:=I.hok p _ hk
   refine⟨⟨o,e,ex.1⟩,λa e2=>?_⟩
   cases e2
   exact⟨o,e,ex.2.1⟩
 | _=>exact False.elim ty
def tBM (K:PySem.W.Frag)(T:String)(r:V→List V→Hp→VK→Prop)(to:TE)(t:TA):TE:=λσ H Q=>to σ H λx H1=>tyV K T x H1∧t σ H1 λxs H2=>r x xs H2 Q
variable {o e:Expr}{es:List Expr}{to:TE}{t:TA}{name:Str}{apos cpos:Pos}{T id:String}{r:V→List V→Hp→VK→Prop}
theorem zem (pa:PlainAttrs T)(slot:Slot T name id)(hty:typeOf (.builtin id)=pure (.type "method_descriptor"))(hm:MtR X id r)(ho:PE X o to)(ha:PA X (e::es) t)
  (hbase:attributeBase o name X.env (eval o X.env)=eval o X.env:=by rfl)
  (hfew:((backTo cpos (starEach (e::es) X.env)).all (λx=>!x.1)&&(backToKw cpos (keywordEach [] X.env)).all (λx=>x.1.isSome)
  &&decide ((e::es).length+([]:List Keyword).length+(if ([]:List Keyword).isEmpty then 0 else 1)<30))=true:=by rfl)
  (hline:(apos.endLine==cpos.line)=true:=by rfl)(hs:starEach (e::es) X.env=(false,eval e X.env)::starEach es X.env:=by rfl)(hplain:(backTo cpos (starEach es X.env)).any (·.1)=false:=by rfl):
  PE X (.Call (.Attribute o name apos) (e::es) [] cpos) (tBM X.K T r to t):=by
 intro pins s σ H Q I h
 refine wpAny_Call_method_late hbase hfew hline rfl (thn (ho pins s σ H _ I h) λv s1 ⟨x,H1,I1,r1,ty,q1⟩=>?_)
 obtain⟨h1,h2⟩:=zuK I1 r1 ty
 refine⟨T,id,pa,slot,hty,h1,h2,?_⟩
 have hA:=ha cpos pins s1 σ H1 _ I1 q1
 rw[hs] at hA ⊢
 refine Calls.callWith_builtin (by show (false||(backTo cpos (starEach es X.env)).any (·.1))=false; rw[hplain] <;> rfl) (Calls.evalArgs_plain ?_)
 exact thn hA λus s2 ⟨vs,H2,I2,r2,q2⟩=>hm pins s2 σ H2 x vs v us Q I2 r1 r2 q2
end
end L2
namespace L2
open PySem PySem.Spec PyProof.Rows
def MtM (X:Cx)(id:String)(r:V→List V→Hp→VK→Prop):Prop:=
 ∀(pins:List (Addr×Obj)) (s:Shared) (σ:St) (H:Hp) (x:V) (xs:List V) (v:Value) (us:List Value) (Q:VK),Inv X pins σ H s→zam x v→zal xs us→r x xs H Q→
  wpAny (model X.prog X.w) X.A (call (.builtin id) (v::us)) (EP X pins σ Q) X.xe s
theorem zal.one:∀ {x:V} {us:List Value},zal [x] us→∃u,us=[u]∧zam x u
 | _,_,.cons r .nil=>⟨_,rfl,r⟩
theorem zal.two:∀ {x y:V} {us:List Value},zal [x,y] us→∃u v,us=[u,v]∧zam x u∧zam y v
 | _,_,_,.cons r (.cons q .nil)=>⟨_,_,rfl,r,q⟩
theorem zal.zero:∀ {us:List Value},zal [] us→us=[]
 | _,.nil=>rfl
theorem zal.reverse {xs:List V}{us:List Value}(h:zal xs us):zal xs.reverse us.reverse:=by
 induction h with
 | nil=>exact .nil
 | cons r t ih=>rw[List.reverse_cons,List.reverse_cons]; exact zal.append ih (.cons r .nil)
section
variable {X:Cx}{pins:List (Addr×Obj)}{σ:St}{H:Hp}{s:Shared}{l b:Addr}{xs ys zs:List V}
theorem Inv.lset {its its':List Value}{n:Nat}{f:Array Value→Array Value}{t':Nat}(I:Inv X pins σ H s)(hH:H l=some (.lst xs))
  (e:s.heap.get? l=some { cls:=.type "list",data:=.seq its.toArray n })(hf:f its.toArray=its'.toArray)(hv:zal ys its')(hz:ys.length≤sizeLine):
  Inv X pins σ (upd H l (.lst ys)) { s with heap:=s.heap.update l (Obj.mapSeq f),toks:=t' }:=by
 have q:=PySem.IsL.update e f
 rw[hf] at q
 refine I.write (x:=l) (e:=l) (by rw[hH]; exact trivial) (.inl rfl) (λb' u hb hu=>(Heap.get?_update_other s.heap (Obj.mapSeq f) (Ne.symm hb)).trans hu) ⟨_,q⟩ ?_
 exact⟨hz,its',_,hv,q⟩
theorem Inv.lnew {its:List Value}{t':Nat}(I:Inv X pins σ H s)(hv:zal ys its)(hz:ys.length≤sizeLine):
  Inv X pins σ (upd H s.heap.objs.size (.lst ys)) { s with heap:=s.heap.push { cls:=.type "list",data:=.seq its.toArray },toks:=t' }:=
 I.laid (λ_ _ q=>Heap.get?_push_of_some _ q) (Vaa _) ⟨hz,its,0,hv,Heap.get?_push_size _ rfl⟩
theorem Inv.fresh (I:Inv X pins σ H s):H s.heap.objs.size=none:=I.hok.fresh (Vaa _)
theorem Inv.lstM (I:Inv X pins σ H s)(hH:H l=some (.lst xs)):xs.length≤sizeLine∧∃(its:List Value) (n:Nat),zal xs its∧xs.length=its.length∧s.heap.get? l=some { cls:=.type "list",data:=.seq its.toArray n }:=by
 obtain⟨z,its,n,r,e⟩:=I.hok l _ hH
 exact⟨z,its,n,r,r.length,e⟩
end
section
variable {X:Cx}
def zww:V→List V→Hp→VK→Prop:=λx vs H Q=>∃l xs y,x=.ref l∧vs=[y]∧H l=some (.lst xs)∧xs.length<sizeLine∧Q .non (upd H l (.lst (xs++[y])))
theorem zn4:MtM X "list.append" zww:=by
 intro pins s σ H x vs v us Q I rx rv h
 obtain⟨l,xs,y,rfl,rfl,hH,hz,q⟩:=h
 cases rx
 obtain⟨u,rfl,ru⟩:=rv.one
 obtain⟨z,its,n,r,hl,e⟩:=I.lstM hH
 refine call_meets F.slot_list_append ⟨_,e,rfl⟩ F.entry_list_append (F.args_list_append_2 _ _) (PySem.list_append l its.toArray n u (by rw[Vap]; omega)) ⟨e,?_⟩
 refine⟨.non,_,I.lset (its':=its++[u]) hH e (by simp) (r.append (.cons ru .nil)) ?_,rfl,q⟩
 rw[Vad,List.length_singleton]
 omega
def rCat:R2:=λx y H Q=>∃l b xs zs,x=.ref l∧y=.ref b∧H l=some (.lst xs)∧H b=some (.lst zs)∧xs.length+zs.length≤sizeLine∧∀p,H p=none→Q (.ref p) (upd H p (.lst (xs++zs)))
theorem zwH:OpR X (binaryOp .Add) rCat:=by
 intro pins s σ H x y v u Q I rx ry h
 obtain⟨l,b,xs,zs,rfl,rfl,hH,hB,hz,q⟩:=h
 cases rx
 cases ry
 obtain⟨z,its,n,r,hl,e⟩:=I.lstM hH
 obtain⟨z2,its2,n2,r2,hl2,e2⟩:=I.lstM hB
 refine PySem.P.add_list e e2 ?_ (by rw[Vap,Vap]; omega)
 have ea:its.toArray++its2.toArray=(its++its2).toArray:=by simp
 rw[ea]
 exact⟨.ref _,_,I.lnew (t':=s.toks) (r.append r2) (by rw[Vad]; omega),rfl,q _ I.fresh⟩
end
section
variable {prog:Program}{w:World}{A:Around}{E:Value→Shared→Prop}{s:Shared}
set_option maxRecDepth 100000 in
end
section
variable {X:Cx}
end
end L2
namespace Att
open PySem PySem.W PySem.Calls PyProof.Rows
theorem zvg {P:Params}{h:Heap}:∀(ns:List Int) (vs:List Value),WellAll P h vs (ns.map WData.int)→IntsAre vs ns:=by
 intro ns
 induction ns with
 | nil=>
  intro vs w
  rw[List.map_nil] at w
  cases w
  exact .nil
 | cons n ns ih=>
  intro vs w
  rw[Vaj] at w
  cases w with
  | cons a b=>
   cases a
   exact .cons _ _ (ih _ b)
theorem ztG {l:OpenLaw}{n:Nat}(hn:l.most=some n){P:Params}{h:Heap}{args:List WData}{vals:List Value}
  (hpre:l.row.toRowW.claim.pre args=true)(hwl:WellAll P h vals args):
  ∃a vs ns,vals=[Value.ref a]∧args=[WData.list (ns.map WData.int)]∧h.get? a=some { cls:=.type "list",data:=.seq vs.toArray }∧IntsAre vs ns∧ns.length≤n:=by
 have hsh:WShape.hasAll [] args [.list .int]=true:=(pre_splitW hpre).1
 have hc:l.pre.holds [] { args:=args }=true:=(pre_splitW hpre).2
 obtain⟨d,r,rfl,h1,h2⟩:=hasAllW_cons hsh
 obtain rfl:=hasAllW_nil h2
 obtain⟨xs,rfl,h3⟩:=hasW_list h1
 obtain⟨ns,rfl⟩:=items_int h3
 have hlen:ns.length≤n:=by
  unfold OpenLaw.pre at hc
  have h4:(WTm.not (.lt (.lit (.int (n:Int))) (.len (.arg 0)))).holds [] { args:=[.list (ns.map .int)] }=true:=by
   have h4:=(holds_andW hc).1
   rw[hn] at h4
   exact h4
  have h5:=condW_of h4 (w_not (w_lt w_lit (w_len_list (w_arg rfl))))
  rw[Vac] at h5
  refine Nat.le_of_not_lt λq=>?_
  have q':(n:Int)<((ns.length:Nat):Int):=by omega
  first
   | (rw[decide_eq_true q'] at h5; exact absurd h5 (by decide))
   | (simp at h5; omega)
 cases hwl with
 | cons w1 w2=>
  cases w2
  cases w1 with
  | list ho hall=>exact⟨_,_,ns,rfl,rfl,ho,zvg ns _ hall,hlen⟩
theorem zqp (l:OpenLaw)(args:List WData):l.row.toRowW.claim.post args (.bool true) args=true:=
 postW_of (r:=l.row.toRowW) (X:=(true==true))
  (show WShape.has [] (.bool true) .bool=true by first | rfl | decide | simp[WShape.has,WShape.arms,WShape.armsAll])
  (show (WTm.eq .res (.lit (.bool true))).value [] { args:=args,res:=some (.bool true),after:=args }=some (.bool (true==true)) from w_eq_bool (w_res rfl) w_lit) rfl
theorem attach_call {l:OpenLaw}{n:Nat}{q:Program}{loose:List Str}{XP:(Str→Option Value)→Heap→Prop}{YP:World→Heap→Prop}{d:DefRec}
  (hn:l.most=some n)(hdf:d.params.defaults=[])
  (call:∀(w:World) (s₀ s₁:Shared) (mg mb:Str→Option Value) (fa:Addr) (o:Obj) (pm cd doc:Value) (a:Addr) (vs:List Value) (ns:List Int),
   Ground q loose [] XP w s₀ mg mb s₁.heap→YP w s₁.heap→
   s₁.heap.get? fa=some o→o.data=.func (docDef d.name d.params d.body d.scope pm cd doc)→s₁.heap.CodeRec cd d.name→mg d.name=some (.ref fa)→
   s₁.heap.get? a=some { cls:=.type "list",data:=.seq vs.toArray }→IntsAre vs ns→ns.length≤n→s₁.gens=#[]→
   codeAny (model l.prog w) callerA (.call (.ref fa) ⟨[.ref a],[]⟩) (λr s'=>r=.ok (.ret (.bool true))∧OldK s₁.heap s'.heap∧s'.os=s₁.os∧AllBare s'.gens) s₁):
  WalkO q loose XP YP l.row.toRowW d [] (λf vs=>PySem.call f vs):=by
 intro w s₀ s₁ mg mb G Y fa o pm cd doc dV kV ho hd hcd hD hmg hg args vals as hpre hlay hrd hwl hlo
 obtain rfl:dV=.none:=Dflts.none hD hdf
 obtain rfl:kV=.none:=Dflts.noKw hD
 obtain⟨a,vs,ns,rfl,rfl,hobj,hints,hlen⟩:=ztG hn hpre hwl
 refine enter_call (codeAny_mono (call w s₀ s₁ mg mb fa o pm cd doc a vs ns G Y ho (fd_plain hd) hcd hmg hobj hints hlen hg) λr s' hq=>?_)
 obtain⟨rfl,h2,h3,h4⟩:=hq
 exact⟨.inl ⟨.bool true,.bool true,[],rfl,λ_=>rfl,.bool true,zqp l _,λ_=>⟨List.Pairwise.nil,λ_ hm=>(nomatch hm)⟩⟩,h2,h3,h4⟩
section
variable {prog:Program}{w:World}{A:Around}{E:Value→Shared→Prop}{s:Shared}{K:Frag}
def ledger (h:Heap)(L d:Addr):List (Addr×Obj):=(List.range h.objs.size).filterMap λa=>if a=L∨a=d then none else (h.get? a).map λo=>(a,o)
end
end Att
namespace L2
open PySem PySem.Spec PyProof.Rows
theorem zjn:∀ {vs:List Value} {ns:List Int},IntsAre vs ns→zal (ns.map V.int) vs
 | _,_,.nil=>.nil
 | _,_,.cons n t h=>.cons ⟨t,rfl⟩ (zjn h)
def zh3 (H:Hp):Prop:=∀b,H b=none∨∃o xs,H b=some (.frz o (.lst xs))
theorem zve {P:Program}{w:World}{K:PySem.W.Frag}{mg mb:Str→Option Value}{CX:CXT}{k:Nat}{fa a:Addr}{fd:FuncData}{x:Str}{sp:Sp}{s₁:Shared}{vs:List Value}{ns:List Int}
  (KX:K.In s₁.heap)(hns:s₁.heap.Ns mainGlobals mg)(hb:s₁.heap.Ns builtinsNs mb)(hbb:∀x:Str,x≠"__name__"→mb x=bootBuiltins x)(hlim:s₁.heap.NoLimit)(hg:s₁.gens=#[])
  (ha:s₁.heap.get? a=some { cls:=.type "list",data:=.seq vs.toArray })(hi:IntsAre vs ns)(hl:ns.length≤sizeLine)(hr:zaC k callerA)
  (F:∀base:Heap,K.In base→base.Ns mainGlobals mg→zaV P w K mg base CX k fa fd [x] sp)(hbind:∀(s:Shared) (u:Value),BindsTo s fd ⟨[u],[]⟩ [(x,u)])
  (hsp:∀H:Hp,zh3 H→SqL K H a (ns.map V.int)→sp [.ref a] H (λv _=>v=.bl true) λ_ _ _=>False)
  (hCX:∀H e s',CX [] H s₁ (λ_ _ _=>False) e s'→False):
  codeAny (model P w) callerA (.call (.ref fa) ⟨[.ref a],[]⟩) (λr s'=>r=.ok (.ret (.bool true))∧OldK s₁.heap s'.heap∧s'.os=s₁.os∧AllBare s'.gens) s₁:=by
 have rv:=zjn hi
 have lenV:=hi.length
 have core:∀H:Hp,zh3 H→SqL K H a (ns.map V.int)→HOk P w H s₁.heap→(∀b,H b≠none→b=a)→(H a≠none→K.lookup a=none)→
   codeAny (model P w) callerA (.call (.ref fa) ⟨[.ref a],[]⟩) (λr s'=>r=.ok (.ret (.bool true))∧OldK s₁.heap s'.heap∧s'.os=s₁.os∧AllBare s'.gens) s₁:=by
  intro H hO hS hok hA hK
  have base_of:∀ {b:Addr} {o:Obj},s₁.heap.get? b=some o→H b=none→(zdC s₁.heap H).get? b=some o:=λe n=>zwi e n
  have noA:∀ {b:Addr} {o:Obj} {es:Array DictEntry} {ep:Nat},s₁.heap.get? b=some o→o.data=.dict es ep→H b=none:=λ{b o es ep} e d=>by
   cases q:H b with
   | none=>rfl
   | some u=>
    have e':b=a:=hA b (by rw[q]; simp)
    subst e'
    rw[ha] at e; cases e
    have d':Data.seq vs.toArray _=Data.dict es ep:=d
    cases d'
  have nsK:∀ {b:Addr} {m:Str→Option Value},s₁.heap.Ns b m→(zdC s₁.heap H).Ns b m:=λ{b m} ⟨o,es,ep,e,d,r⟩=>⟨o,es,ep,base_of e (noA e d),d,r⟩
  have hKb:K.In (zdC s₁.heap H):=λb o e=>base_of (KX b o e) (by
   cases q:H b with
   | none=>rfl
   | some u=>
    have e':b=a:=hA b (by rw[q]; simp)
    subst e'
    rw[hK (by rw[q]; simp)] at e; cases e)
  have hM:Mod K mg (zdC s₁.heap H):=⟨hKb,nsK hns,⟨mb,nsK hb,hbb⟩,let ⟨mc,h1,h2⟩:=hlim; ⟨mc,nsK h1,h2⟩⟩
  have e0:zc6 P w K mg (zdC s₁.heap H) callerA [] s₁ H:=⟨rfl,hM,λb o e=>zum e,Nat.le_of_eq (zsO _ _),trivial,λb hb=>absurd (show b∈([]:List Addr) from hb) (by simp),hok,.of_eq hg⟩
  refine codeAny_mono ((F _ hKb (nsK hns)).run callerA [] s₁ H ⟨[.ref a],[]⟩ [.ref a] [.ref a] _ _ hr e0 (hbind s₁ (.ref a)) (.cons rfl .nil) (hsp H hO hS)) λr s' h=>?_
  cases r with
  | error e=>exact(hCX H e s' h).elim
  | ok fl=>
   cases fl with
   | next=>exact False.elim h
   | brk=>exact False.elim h
   | cont=>exact False.elim h
   | ret u=>
    obtain⟨v,H',os,bare,un,hok',r',q⟩:=h
    have q':v=.bl true:=q
    subst q'
    obtain rfl:u=Value.bool true:=r'
    refine⟨rfl,OldK.of_keep λb o e=>?_,os,bare⟩
    cases q:H b with
    | none=>exact un.keep b o e q (by intro z; exact absurd (show b∈([]:List Addr) from z) (by simp)) (by simp)
    | some u=>
     rcases hO b with z | ⟨ob,xs,z⟩
     ·rw[q] at z; cases z
     ·have z2:=un.frzs b ob _ z
      obtain⟨e1,_⟩:=hok b _ z
      obtain⟨e2,_⟩:=hok' b _ z2
      rw[e] at e1; cases e1
      exact e2
 cases hk:K.lookup a with
 | some o=>
  have e:=KX a o hk
  rw[ha] at e
  cases e
  refine core (λ_=>none) (λ_=>.inl rfl) (.inr ⟨_,vs.toArray,_,hk,rfl,rfl,rfl,by rw[Vap,lenV]; exact hl,by simpa using rv⟩) (λb u z=>by have z':(none:Option HO)=some u:=z; cases z') (λb z=>absurd rfl z) λz=>absurd rfl z
 | none=>
  refine core (λb=>if b=a then some (.frz { cls:=.type "list",data:=.seq vs.toArray } (.lst (ns.map V.int))) else none) (λb=>?_) (.inl (.inr ⟨{ cls:=.type "list",data:=.seq vs.toArray },if_pos rfl⟩)) (λb u z=>?_) (λb z=>?_) λ_=>hk
  ·by_cases hb:b=a
   ·exact .inr ⟨_,_,if_pos hb⟩
   ·exact .inl (if_neg hb)
  ·by_cases hb:b=a
   ·have z':=(if_pos hb).symm.trans z
    cases z'
    subst hb
    exact⟨ha,by rw[Vac]; exact hl,vs,_,rv,ha⟩
   ·have z':=(if_neg hb).symm.trans z
    cases z'
  ·by_cases hb:b=a
   ·exact hb
   ·exact absurd (if_neg hb) z
end L2
namespace L2
open PySem PySem.Spec PyProof.Rows
theorem zrL {l:PySem.W.OpenLaw}{n k:Nat}{q:Program}{loose:List Str}{XP:(Str→Option Value)→Heap→Prop}{YP:World→Heap→Prop}{d:DefRec}{K:Params→PySem.W.Frag}{CX:World→CXT}{sp:World→Sp}{x:Str}
  (hn:l.most=some n)(hn2:n≤sizeLine)(hdf:d.params.defaults=[])(hr:zaC k callerA)
  (hY:∀(w:World) (h:Heap),YP w h→(K w.params).In h)
  (F:∀(w:World) (mg:Str→Option Value) (fa:Addr) (h:Heap),(K w.params).In h→h.Ns mainGlobals mg→mg d.name=some (.ref fa)→
   ∃fd:FuncData,(∀(s:Shared) (u:Value),BindsTo s fd ⟨[u],[]⟩ [(x,u)])∧
    ∀base:Heap,(K w.params).In base→base.Ns mainGlobals mg→zaV l.prog w (K w.params) mg base (CX w) k fa fd [x] (sp w))
  (hsp:∀(w:World) (H:Hp) (a:Addr) (ns:List Int),ns.length≤n→zh3 H→SqL (K w.params) H a (ns.map V.int)→sp w [.ref a] H (λv _=>v=.bl true) λ_ _ _=>False)
  (hCX:∀(w:World) (H:Hp) (s:Shared) (e:Value) (s':Shared),CX w [] H s (λ_ _ _=>False) e s'→False):
  PySem.W.WalkO q loose XP YP l.row.toRowW d [] (λf vs=>PySem.call f vs):=by
 refine Att.attach_call hn hdf λw s₀ s₁ mg mb fa o pm cd doc a vs ns G Y ho hd hcd hmg hobj hints hlen hg=>?_
 have KX:=hY w _ Y
 obtain⟨fd,hb,hF⟩:=F w mg fa _ KX G.T.g hmg
 exact zve KX G.T.g G.T.b G.T.builtins G.T.nolimit hg hobj hints (Vat hlen hn2) hr hF hb (λH hO hS=>hsp w H a ns hlen hO hS) λH e s'=>hCX w H s₁ e s'
end L2
namespace L2
open PySem PySem.Spec PyProof.Rows
abbrev CX0:CXT:=λ_ _ _ _ _ _=>False
structure Fun (K:PySem.W.Frag)(x qual:Str)(st:Stmt)(f:Addr)(fd:FuncData):Prop where
 ex:∃(oc:Value) (od:Option Addr) (kV doc pm:Value) (an:Option Addr) (cdv ct:Value) (osl:Array (Option Value)),
  fd=PySem.W.fnOf x qual (zeZ st) (zcW st) (zau st) .none kV doc pm an cdv ct∧K.lookup f=some ⟨oc,od,.func fd,osl⟩∧PySem.W.codeIn K cdv qual=true
 kp:PySem.W.keepIn K (.ref f)=true
section
variable {P:Program}{w:World}{K:PySem.W.Frag}{mg:Str→Option Value}{base:Heap}
theorem Fun.ok {x qual:Str}{st:Stmt}{f:Addr}{fd:FuncData}{N ps:List Str}{k:Nat}{sp:Sp}(F:Fun K x qual st f fd)(S:zaB N ps (zau st))(len:∀vs H Q E,sp vs H Q E→vs.length=ps.length)
  (hbody:∀(cdv:Value) (A:Around) (outer:List Env) (s:Shared) (H:Hp) (vs:List V) (Q:VK) (E:XK),zaC k (A.deeper (envOfC qual (zau st) s.heap.objs.size f cdv))→sp vs H Q E→
   ∃t,PSs (zbj CX0 P w K mg base N qual (zau st) f cdv A outer s H E).nox (zcW st) t∧t { nx:=λ_ H'=>Q .non H',rt:=Q } (zcR N vs) H):zaV P w K mg base CX0 (k+1) f fd ps sp:=by
 obtain⟨oc,od,kV,doc,pm,an,cdv,ct,osl,rfl,lk,hcd⟩:=F.ex
 refine zl2 lk hcd S len λA outer s H vs Q E hr hsp=>?_
 obtain⟨t,h,q⟩:=hbody cdv A outer s H vs Q E hr hsp
 exact⟨t,h.nox,q⟩
theorem Fun.binds {x qual:Str}{st:Stmt}{f:Addr}{fd:FuncData}{ps:List Str}(F:Fun K x qual st f fd)
  (h:∀(kV doc pm:Value) (an:Option Addr) (cdv ct:Value) (us:List Value),us.length=ps.length→bindArgs (PySem.W.fnOf x qual (zeZ st) (zcW st) (zau st) .none kV doc pm an cdv ct) ⟨us,[]⟩=pure (ps.zip us)):zbE K fd ps []:=by
 obtain⟨oc,od,kV,doc,pm,an,cdv,ct,osl,rfl,lk,hcd⟩:=F.ex
 exact .all (h kV doc pm an cdv ct)
theorem zkr {x qual:Str}{st:Stmt}{f:Addr}{oc:Value}{od an:Option Addr}{osl:Array (Option Value)}{kV doc pm cdv ct:Value}(l:K.lookup f=some ⟨oc,od,.func (PySem.W.fnOf x qual (zeZ st) (zcW st) (zau st) .none kV doc pm an cdv ct),osl⟩)
  (c:PySem.W.codeIn K cdv qual=true)(k:PySem.W.keepIn K (.ref f)=true):Fun K x qual st f (PySem.W.fnOf x qual (zeZ st) (zcW st) (zau st) .none kV doc pm an cdv ct):=⟨⟨oc,od,kV,doc,pm,an,cdv,ct,osl,rfl,l,c⟩,k⟩
end
theorem zie {n:Nat}(h:n≤1000):n<sizeLine:=Nat.lt_of_le_of_lt h (by decide)
section
variable {X:Cx}
theorem pv (i:Nat){x:Str}{pos:Pos}(hN:X.N[i]?=some x:=by rfl)(hv:Vis X.env.scope x:=by first | exact Or.inl rfl | exact Or.inr (Or.inl rfl) | exact Or.inr (Or.inr rfl))(hd:(x==("__debug__":Str))=false:=by decide)
  (hcd:(x==("__classdict__":Str))=false:=by decide):PE X (.Name x pos) (tVar i):=znW hN hv hd hcd
end
theorem zcn {A B:Prop}(h:B):if false=true then A else B:=by
 rw[if_neg Val]
 exact h
theorem zbZ {A B:Prop}(h:A):if true=true then A else B:=by
 rw[if_pos rfl]
 exact h
theorem ite2 {c A B:Prop} [Decidable c] (h1:c→A)(h2:¬ c→B):if c then A else B:=by
 by_cases h:c
 ·rw[if_pos h]
  exact h1 h
 ·rw[if_neg h]
  exact h2 h
def zdf (H H':Hp):Prop:=∀b o,H b=some o→H' b=some o
theorem zdf.refl (H:Hp):zdf H H:=λ_ _ h=>h
theorem zdf.trans {H H1 H2:Hp}(a:zdf H H1)(b:zdf H1 H2):zdf H H2:=λc o h=>b c o (a c o h)
theorem zdf.free {H H':Hp}(e:zdf H H'){l:Addr}(h:H' l=Option.none):H l=Option.none:=by
 cases q:H l with
 | none=>rfl
 | some o=>
  rw[e l o q] at h
  cases h
theorem zdf.seq {K:PySem.W.Frag}{H H':Hp}{a:Addr}{xs:List V}(e:zdf H H')(h:SqL K H a xs):SqL K H' a xs:=by
 rcases h with (h | ⟨o,h⟩) | h
 ·exact .inl (.inl (e _ _ h))
 ·exact .inl (.inr ⟨o,e _ _ h⟩)
 ·exact .inr h
end L2
namespace L2
open PySem PySem.Spec PyProof.Rows
section
variable {κ:Type} [DecidableEq κ]
def zcj (kvs:List (κ×V))(k:κ):Option V:=(kvs.find? λkv=>decide (kv.1=k)).map (·.2)
def putK (kvs:List (κ×V))(k:κ)(v:V):List (κ×V):=
 if (kvs.any λkv=>decide (kv.1=k))=true then kvs.map (λkv=>if kv.1=k then (kv.1,v) else kv) else kvs++[(k,v)]
def zp3 (kvs:List (κ×V))(k:κ):List (κ×V):=kvs.filter λkv=>decide (kv.1≠k)
theorem zi6 {p:κ×V}{r:List (κ×V)}{k:κ}(e:p.1=k):zcj (p::r) k=some p.2:=by simp[zcj,VaH,e]
theorem zkQ {p:κ×V}{r:List (κ×V)}{k:κ}(e:¬ p.1=k):zcj (p::r) k=zcj r k:=by simp[zcj,VaH,e]
theorem zob (k:κ):∀kvs:List (κ×V),(kvs.any λkv=>decide (kv.1=k))=(zcj kvs k).isSome
 | []=>rfl
 | p::r=>by
  rw[VaJ]
  by_cases e:p.1=k
  ·simp only[zi6 e,decide_eq_true e,Bool.true_or,Option.isSome_some]
  ·rw[zkQ e,decide_eq_false e,Bool.false_or]; exact zob k r
theorem zn6 (kvs:List (κ×V))(k:κ)(v:V):(putK kvs k v).length≤kvs.length+1:=by
 unfold putK
 split
 ·rw[Vac]; omega
 ·rw[Vad,Vaq,List.length_nil]; omega
theorem zbO.isSome_eq {o:Option V}{u:Option Value}(r:zbO o u):o.isSome=u.isSome:=by
 cases o with
 | none=>cases u with
  | none=>rfl
  | some _=>exact(show False from r).elim
 | some _=>cases u with
  | none=>exact(show False from r).elim
  | some _=>rfl
theorem zbO.getD {o:Option V}{u:Option Value}{d:V}{d':Value}(r:zbO o u)(rd:zam d d'):zam (o.getD d) (u.getD d'):=by
 cases o with
 | none=>cases u with
  | none=>exact rd
  | some _=>exact(show False from r).elim
 | some _=>cases u with
  | none=>exact(show False from r).elim
  | some _=>exact r
theorem KV.val {kvs:List (κ×V)}{vs:List (κ×Value)}(r:KV kvs vs)(k:κ):zbO (zcj kvs k) (valueAt vs k):=by
 unfold KV at r
 induction r with
 | nil=>exact True.intro
 | @cons p q ps qs h t ih=>
  obtain⟨h1,h2⟩:=h
  by_cases e:p.1=k
  ·have e':q.1=k:=h1.symm.trans e
   have b:valueAt (q::qs) k=some q.2:=by simp[valueAt,VaH,e']
   rw[zi6 e,b]; exact h2
  ·have e':¬ q.1=k:=λz=>e (h1.trans z)
   have b:valueAt (q::qs) k=valueAt qs k:=by simp[valueAt,VaH,e']
   rw[zkQ e,b]; exact ih
theorem KV.any {kvs:List (κ×V)}{vs:List (κ×Value)}(r:KV kvs vs)(k:κ):(kvs.any λkv=>decide (kv.1=k))=vs.any λkv=>decide (kv.1=k):=by
 unfold KV at r
 induction r with
 | nil=>rfl
 | cons h t ih=>rw[VaJ,VaJ,ih,h.1]
theorem KV.repl {kvs:List (κ×V)}{vs:List (κ×Value)}(r:KV kvs vs)(k:κ){y:V}{u:Value}(ry:zam y u):
  KV (kvs.map λkv=>if kv.1=k then (kv.1,y) else kv) (vs.map λkv=>if kv.1=k then (kv.1,u) else kv):=by
 unfold KV at r ⊢
 induction r with
 | nil=>exact .nil
 | @cons p q ps qs h t ih=>
  rw[Vaj,Vaj]
  refine .cons ?_ ih
  obtain⟨h1,h2⟩:=h
  by_cases e:p.1=k
  ·rw[if_pos e,if_pos (h1.symm.trans e)]; exact⟨h1,ry⟩
  ·rw[if_neg e,if_neg (λz=>e (h1.trans z))]; exact⟨h1,h2⟩
theorem KV.put {kvs:List (κ×V)}{vs:List (κ×Value)}(r:KV kvs vs)(k:κ){y:V}{u:Value}(ry:zam y u):KV (putK kvs k y) (stored vs k u):=by
 unfold putK stored
 rw[r.any k]
 by_cases e:(vs.any λkv=>decide (kv.1=k))=true
 ·rw[if_pos e,if_pos e]; exact r.repl k ry
 ·rw[if_neg e,if_neg e]; exact Paired.snoc r ⟨rfl,ry⟩
theorem KV.drop {kvs:List (κ×V)}{vs:List (κ×Value)}(r:KV kvs vs)(k:κ):KV (zp3 kvs k) (without vs k):=by
 unfold KV at r ⊢
 unfold zp3 without
 induction r with
 | nil=>exact .nil
 | @cons p q ps qs h t ih=>
  obtain⟨h1,h2⟩:=h
  rw[List.filter_cons,List.filter_cons]
  by_cases e:p.1=k
  ·have a:¬ decide (p.1≠k)=true:=by simp[e]
   have b:¬ decide (q.1≠k)=true:=by simp[h1.symm.trans e]
   rw[if_neg a,if_neg b]; exact ih
  ·have e':¬ q.1=k:=λz=>e (h1.trans z)
   have a:decide (p.1≠k)=true:=by simp[e]
   have b:decide (q.1≠k)=true:=by simp[e']
   rw[if_pos a,if_pos b]; exact .cons ⟨h1,h2⟩ ih
theorem KV.keys {kvs:List (κ×V)}{vs:List (κ×Value)}(r:KV kvs vs):kvs.map (·.1)=vs.map (·.1):=by
 unfold KV at r
 induction r with
 | nil=>rfl
 | cons h t ih=>rw[Vaj,Vaj,ih,h.1]
theorem KV.length {kvs:List (κ×V)}{vs:List (κ×Value)}(r:KV kvs vs):kvs.length=vs.length:=Paired.length r
end
theorem zeJ {P:Program}{w:World}{k:Key}{u:Value}(r:zam (kV k) u):(zce P w).is k u=true:=by
 cases k with
 | inl i=>obtain⟨t,e⟩:=(show ∃t,u=Value.int i t from r); subst e; exact zwK P w i t
 | inr x=>obtain⟨t,e⟩:=(show ∃t,u=Value.str x t from r); subst e; exact zg7 P w x t
theorem znQ {P:Program}{w:World}:∀ {ks:List Key} {us:List Value},zal (ks.map kV) us→ItemsAre (zce P w) ks us
 | [],_,r=>by rw[List.map_nil] at r; cases r; exact .nil
 | k::ks,_,r=>by
  rw[Vaj] at r
  cases r with
  | cons h t=>exact .cons (zeJ h) (znQ t)
abbrev KT (H:Hp):List (List Key×V)→List (List Key×Addr×Value)→Prop:=Paired λp q=>p.1=q.1∧H q.2.1=some (.tup (p.1.map kV))∧zam p.2 q.2.2
theorem KT.val {H:Hp}{kvs:List (List Key×V)}{xs:List (List Key×Addr×Value)}(r:KT H kvs xs)(k:List Key):zbO (zcj kvs k) ((atKey xs k).map (·.2)):=by
 induction r with
 | nil=>exact True.intro
 | @cons p q ps qs h t ih=>
  obtain⟨h1,_,h2⟩:=h
  by_cases e:p.1=k
  ·have e':q.1=k:=h1.symm.trans e
   have b:atKey (q::qs) k=some q.2:=by simp[atKey,VaH,e']
   rw[zi6 e,b]; exact h2
  ·have e':¬ q.1=k:=λz=>e (h1.trans z)
   have b:atKey (q::qs) k=atKey qs k:=by simp[atKey,VaH,e']
   rw[zkQ e,b]; exact ih
theorem KT.repl {H:Hp}{kvs:List (List Key×V)}{xs:List (List Key×Addr×Value)}(r:KT H kvs xs)(k:List Key){y:V}{u:Value}(ry:zam y u):
  KT H (kvs.map λkv=>if kv.1=k then (kv.1,y) else kv) (xs.map (putAt k u)):=by
 induction r with
 | nil=>exact .nil
 | @cons p q ps qs h t ih=>
  rw[Vaj,Vaj]
  refine .cons ?_ ih
  obtain⟨h1,h2,h3⟩:=h
  unfold putAt
  by_cases e:p.1=k
  ·rw[if_pos e,if_pos (h1.symm.trans e)]; exact⟨h1,h2,ry⟩
  ·rw[if_neg e,if_neg (λz=>e (h1.trans z))]; exact⟨h1,h2,h3⟩
theorem KT.put {H:Hp}{kvs:List (List Key×V)}{xs:List (List Key×Addr×Value)}(r:KT H kvs xs)(k:List Key){b:Addr}{y:V}{u:Value}(hb:H b=some (.tup (k.map kV)))(ry:zam y u):
  KT H (putK kvs k y) (storedH xs k b u):=by
 have e:(kvs.any λkv=>decide (kv.1=k))=(atKey xs k).isSome:=by
  rw[zob,(r.val k).isSome_eq,Option.isSome_map]
 unfold putK storedH
 rw[e]
 by_cases q:(atKey xs k).isSome=true
 ·rw[if_pos q,if_pos q]; exact r.repl k ry
 ·rw[if_neg q,if_neg q]; exact Paired.snoc r ⟨rfl,hb,ry⟩
theorem KT.keeps {H H':Hp}{kvs:List (List Key×V)}{xs:List (List Key×Addr×Value)}(r:KT H kvs xs)(ht:∀b ys,H b=some (.tup ys)→H' b=some (.tup ys)):KT H' kvs xs:=
 Paired.mapP r λ_ _ z=>⟨z.1,ht _ _ z.2.1,z.2.2⟩
section
variable {P:Program}{w:World}{H:Hp}{h:Heap}{a:Addr}
theorem znJ {u:HO}(ok:HOk P w H h)(e:Rd H a u):za7 P w H h a u:=e.ok ok
theorem zhA {kvs:List (Key×V)}(ok:HOk P w H h)(e:Rd H a (.dK kvs)):kvs.length≤sizeLine∧(a==sysModules)=false∧∃vs,KV kvs vs∧h.DictOf (zce P w) a vs:=
 show za7 P w H h a (.dK kvs) from znJ ok e
theorem dk_of {kvs:List (Key×V)}(ok:HOk P w H h)(e:H a=some (.dK kvs)):kvs.length≤sizeLine∧(a==sysModules)=false∧∃vs,KV kvs vs∧h.DictOf (zce P w) a vs:=zhA ok (.inl e)
theorem zgn {ks:List Key}(ok:HOk P w H h)(e:H a=some (.tup (ks.map kV))):(tupleKind (zce P w)).is h ks a:=by
 obtain⟨_,its,r,o,h1,h2,n,h3⟩:=(show za7 P w H h a (.tup (ks.map kV)) from ok a _ e)
 exact⟨o,its.toArray,n,h1,h2,h3,by simpa using znQ r⟩
theorem zh8 {kvs:List (List Key×V)}(ok:HOk P w H h)(e:Rd H a (.dT kvs)):kvs.length≤sizeLine∧(a==sysModules)=false∧
  ∃xs,KT H kvs xs∧h.DictOfH (tupleKind (zce P w)) a xs:=by
 obtain⟨z,y,xs,r,o,es,ep,h1,h2,h3,h4,h5⟩:=(show za7 P w H h a (.dT kvs) from znJ ok e)
 refine⟨z,y,xs,r,o,es,ep,h1,h2,h3,h4,λx hx=>?_,h5⟩
 have all:∀ {l:List (List Key×V)} {m:List (List Key×Addr×Value)},KT H l m→∀x∈m,(tupleKind (zce P w)).is h x.1 x.2.1:=by
  intro l m q
  induction q with
  | nil=>intro x hx; exact nomatch hx
  | @cons p q ps qs hq t ih=>
   intro x hx
   rcases Vab.mp hx with e | hx
   ·subst e
    exact zgn ok (by rw[← hq.1]; exact hq.2.1)
   ·exact ih x hx
 exact all r x hx
theorem dt_of {kvs:List (List Key×V)}(ok:HOk P w H h)(e:H a=some (.dT kvs)):kvs.length≤sizeLine∧(a==sysModules)=false∧
  ∃xs,KT H kvs xs∧h.DictOfH (tupleKind (zce P w)) a xs:=zh8 ok (.inl e)
end
def zb7 (H:Hp)(a:Addr)(y:V)(r:Option V):Prop:=
 (∃kvs k,Rd H a (.dK kvs)∧y=kV k∧r=zcj kvs k)∨∃kvs k b,Rd H a (.dT kvs)∧y=.ref b∧H b=some (.tup (k.map kV))∧r=zcj kvs k
def zd2 (H:Hp)(a:Addr)(y v:V)(H':Hp):Prop:=
 (∃kvs k,H a=some (.dK kvs)∧y=kV k∧kvs.length<sizeLine∧H'=upd H a (.dK (putK kvs k v)))∨
 ∃kvs k b,H a=some (.dT kvs)∧y=.ref b∧H b=some (.tup (k.map kV))∧kvs.length<sizeLine∧H'=upd H a (.dT (putK kvs k v))
theorem zb7.k {H:Hp}{a:Addr}{kvs:List (Key×V)}{k:Key}(e:H a=some (.dK kvs)):zb7 H a (kV k) (zcj kvs k):=.inl ⟨kvs,k,.inl e,rfl,rfl⟩
theorem zb7.t {H:Hp}{a b:Addr}{kvs:List (List Key×V)}{k:List Key}(e:H a=some (.dT kvs))(eb:H b=some (.tup (k.map kV))):zb7 H a (.ref b) (zcj kvs k):=.inr ⟨kvs,k,b,.inl e,rfl,eb,rfl⟩
theorem zd2.k {H:Hp}{a:Addr}{kvs:List (Key×V)}{k:Key}{v:V}(e:H a=some (.dK kvs))(hl:kvs.length<sizeLine):zd2 H a (kV k) v (upd H a (.dK (putK kvs k v))):=.inl ⟨kvs,k,e,rfl,hl,rfl⟩
theorem zd2.t {H:Hp}{a b:Addr}{kvs:List (List Key×V)}{k:List Key}{v:V}(e:H a=some (.dT kvs))(eb:H b=some (.tup (k.map kV)))(hl:kvs.length<sizeLine):
  zd2 H a (.ref b) v (upd H a (.dT (putK kvs k v))):=.inr ⟨kvs,k,b,e,rfl,eb,hl,rfl⟩
section
variable {X:Cx}{pins:List (Addr×Obj)}{σ:St}{H:Hp}{s:Shared}{a:Addr}{y v:V}{u r:Value}{o:Option V}{A:Around}{E:Value→Shared→Prop}
theorem Inv.big (I:Inv X pins σ H s):sysModules<s.heap.objs.size:=by
 have h:mainGlobals<s.heap.objs.size:=(I.mod.glob.keeps I.bk).lt
 exact Nat.lt_trans (by decide) h
theorem zsz {Q:Value→Shared→Prop}(hu:A.units+1<cLine)(I:Inv X pins σ H s)(g:zb7 H a y (some v))(ry:zam y u)(h:∀w' s',Inv X pins σ H s'→zam v w'→Q w' s'):
  wpAny (model X.prog X.w) A (getItem (.ref a) u) Q E s:=by
 rcases g with ⟨kvs,k,e,ey,l⟩ | ⟨kvs,k,b,e,ey,eb,l⟩
 ·subst ey
  obtain⟨z,hd,vs,rel,dd⟩:=zhA I.hok e
  obtain⟨w',hw,rw'⟩:=zbO.some_of (v:=v) (o:=valueAt vs k) (by rw[l]; exact rel.val k)
  exact wpAny_getItem_of (zeJ ry) dd.mapOf hw (h w' _ (I.tok _) rw')
 ·subst ey
  cases (show u=Value.ref b from ry)
  obtain⟨z,hd,xs,rel,dd⟩:=zh8 I.hok e
  obtain⟨w',hw,rw'⟩:=zbO.some_of (v:=v) (o:=(atKey xs k).map (·.2)) (by rw[l]; exact rel.val k)
  obtain⟨p,hp,hp2⟩:=VaM.mp hw
  refine wpAny_getItem_heap (tupleKind_room_in1 hu) (zgn I.hok eb) dd hp ?_
  rw[hp2]
  exact h w' _ (I.tok _) rw'
theorem d_in {Q:Value→Shared→Prop}(hu:A.units+1<cLine)(I:Inv X pins σ H s)(g:zb7 H a y o)(ry:zam y u)(h:∀s',Inv X pins σ H s'→Q (.bool o.isSome) s'):
  wpAny (model X.prog X.w) A (compareOp .In u (.ref a)) Q E s:=by
 rcases g with ⟨kvs,k,e,ey,l⟩ | ⟨kvs,k,b,e,ey,eb,l⟩
 ·subst ey
  obtain⟨z,hd,vs,rel,dd⟩:=zhA I.hok e
  refine wpAny_in_of (zeJ ry) hd dd.mapOf ?_
  rw[← (rel.val k).isSome_eq,← l]
  exact h _ (I.tok _)
 ·subst ey
  cases (show u=Value.ref b from ry)
  obtain⟨z,hd,xs,rel,dd⟩:=zh8 I.hok e
  refine wpAny_in_heap (tupleKind_room_in1 hu) (zgn I.hok eb) hd dd ?_
  have q:=(rel.val k).isSome_eq
  rw[Option.isSome_map] at q
  rw[← q,← l]
  exact h _ (I.tok _)
theorem zsq {Q:Value→Shared→Prop}(hu:A.units+1<cLine)(I:Inv X pins σ H s)(g:zb7 H a y o)(ry:zam y u)(h:∀s',Inv X pins σ H s'→Q (.bool (!o.isSome)) s'):
  wpAny (model X.prog X.w) A (compareOp .NotIn u (.ref a)) Q E s:=by
 rcases g with ⟨kvs,k,e,ey,l⟩ | ⟨kvs,k,b,e,ey,eb,l⟩
 ·subst ey
  obtain⟨z,hd,vs,rel,dd⟩:=zhA I.hok e
  refine wpAny_notIn_of (zeJ ry) hd dd.mapOf ?_
  rw[← (rel.val k).isSome_eq,← l]
  exact h _ (I.tok _)
 ·subst ey
  cases (show u=Value.ref b from ry)
  obtain⟨z,hd,xs,rel,dd⟩:=zh8 I.hok e
  refine wpAny_notIn_heap (tupleKind_room_in1 hu) (zgn I.hok eb) hd dd ?_
  have q:=(rel.val k).isSome_eq
  rw[Option.isSome_map] at q
  rw[← q,← l]
  exact h _ (I.tok _)
theorem zpj {h':Heap}{t':Nat}{ob:HO}(I:Inv X pins σ H s)(mu:Mut (H a))(hs:Heap.SameBut a s.heap h')(he:∃q,h'.get? a=some q)(new:za7 X.prog X.w (upd H a ob) h' a ob):
  Inv X pins σ (upd H a ob) { s with heap:=h',toks:=t' }:=
 I.write (x:=a) (e:=a) mu (.inl rfl) (λb q hb z=>(hs.2 b hb).trans z) he new
theorem zvc {P:Program}{w:World}{H':Hp}{h':Heap}{kvs:List (Key×V)}{vs:List (Key×Value)}(z:kvs.length≤sizeLine)(hd:(a==sysModules)=false)(rel:KV kvs vs)(dd:h'.DictOf (zce P w) a vs):
  za7 P w H' h' a (.dK kvs):=⟨z,hd,vs,rel,dd⟩
theorem zxo {H':Hp}{Q:Unit→Shared→Prop}(hu:A.units+1<cLine)(I:Inv X pins σ H s)(g:zd2 H a y v H')(ry:zam y u)(rv:zam v r)(h:∀s',Inv X pins σ H' s'→Q () s'):
  wpAny (model X.prog X.w) A (setItem (.ref a) u r) Q E s:=by
 rcases g with ⟨kvs,k,e,ey,l,eH⟩ | ⟨kvs,k,b,e,ey,eb,l,eH⟩
 ·subst ey eH
  obtain⟨z,hd,vs,rel,dd⟩:=dk_of I.hok e
  have hz:vs.length≤sizeLine:=by rw[← rel.length]; exact z
  have hl:(putK kvs k v).length≤sizeLine:=by have:=zn6 kvs k v; omega
  refine wpAny_setItem_pairs (hsz:=hz) (zeJ ry) dd λh' dd' hs=>h _ ?_
  have he:∃q,h'.get? a=some q:=let ⟨q,_,_,hq,_⟩:=dd'; ⟨q,hq⟩
  exact zpj I (by rw[e]; exact True.intro) hs he (zvc hl hd (rel.put k rv) dd')
 ·subst ey eH
  cases (show u=Value.ref b from ry)
  obtain⟨z,hd,xs,rel,dd⟩:=dt_of I.hok e
  have hz:xs.length≤sizeLine:=by rw[← Paired.length rel]; exact z
  have hl:(putK kvs k v).length≤sizeLine:=by have:=zn6 kvs k v; omega
  refine wpAny_setItem_heap (hsz:=hz) (tupleKind_room_in1 hu) (zgn I.hok eb) dd λh' dd' hs=>h _ ?_
  obtain⟨q,es,ep,hq,h2,h3,h4,_,h5⟩:=dd'
  refine zpj I (by rw[e]; exact True.intro) hs ⟨q,hq⟩ ⟨hl,hd,_,(rel.put k eb rv).keeps λc ys ec=>?_,q,es,ep,hq,h2,h3,h4,h5⟩
  rw[za2 (zh2 ec e (λz=>nomatch z))]
  exact ec
end
section
variable {X:Cx}{pins:List (Addr×Obj)}{σ:St}{H:Hp}{s:Shared}{a:Addr}{kvs:List (Key×V)}{k:Key}{u:Value}{A:Around}{E:Value→Shared→Prop}
end
def zfg (i:Expr):Prop:=∀ov iv,subscripted i false ov iv=operate [ov,iv] (getItem ov iv)
theorem zpQ {prog:Program}{w:World}{A:Around}{E:Value→Shared→Prop}{s:Shared}{env:Env}{value slice:Expr}{pos:Pos}{T id:String}{Q:Value→Shared→Prop}
  (hl:typeLookup (.type T) "__getitem__"=pure (some (.builtin id)))(hs:zfg slice)
  (h:wpAny (model prog w) A (eval value env) (λo s₁=>wpAny (model prog w) A (eval slice env) (λi s₂=>s₂.TypeIs o T∧wpAny (model prog w) A (getItem o i) Q E s₂) E s₁) E s):
  wpAny (model prog w) A (eval (.Subscript value slice pos) env) Q E s:=by
 refine Subscript_ (wpAny_mono h (λo s₁ h₁=>wpAny_mono h₁ (λi s₂ h₂=>?_) λ_ _ x=>x) λ_ _ x=>x)
 obtain⟨hT,h₂⟩:=h₂
 unfold subscriptTail
 refine wpAny_bind ?_
 rw[getitemInPython_of_ne hT.not_modules]
 refine wpAny_bind (wpAny_specialOf hT hl ?_)
 have fin:wpAny (model prog w) A (subscripted slice false o i) (λr s₃=>wpAny (model prog w) A (letTemporaryGo value o r >>= λ_=>pure r) Q E s₃) E s₂:=by
  rw[hs o i]
  exact wpAny_operating (wpAny_mono h₂ (λr s₃ h₃=>wpAny_bind (wpAny_letTemporaryGo (wpAny_pure h₃))) λ_ _ x=>x)
 first
  | exact wpAny_pure (wpAny_bind fin)
  | exact wpAny_bind (wpAny_pure (wpAny_bind fin))
  | exact wpAny_bind fin
theorem zr0 {X:Cx}{pins:List (Addr×Obj)}{σ:St}{H:Hp}{s:Shared}{a:Addr}{y:V}{o:Option V}(I:Inv X pins σ H s)(g:zb7 H a y o):s.TypeIs (.ref a) "dict":=by
 rcases g with ⟨kvs,k,e,_,_⟩ | ⟨kvs,k,b,e,_,_,_⟩
 ·obtain⟨_,_,vs,_,dd⟩:=zhA I.hok e
  exact dd.typeIs
 ·obtain⟨_,_,xs,_,dd⟩:=zh8 I.hok e
  exact dd.typeIs
def tDGet (td ty:TE):TE:=λσ H Q=>td σ H λx H1=>ty σ H1 λy H2=>∃a v,x=.ref a∧zb7 H2 a y (some v)∧Q v H2
def tDIn (ty td:TE):TE:=λσ H Q=>ty σ H λy H1=>td σ H1 λx H2=>∃a o,x=.ref a∧zb7 H2 a y o∧Q (.bl o.isSome) H2
def zpY (ty td:TE):TE:=λσ H Q=>ty σ H λy H1=>td σ H1 λx H2=>∃a o,x=.ref a∧zb7 H2 a y o∧Q (.bl (!o.isSome)) H2
def sDPut (td ty tv:TE):TS:=λD σ H=>tv σ H λv H1=>td σ H1 λx H2=>ty σ H2 λy H3=>∃a H4,x=.ref a∧zd2 H3 a y v H4∧D.nx σ H4
section
variable {X:Cx}{o i e value:Expr}{pos pos' tpos:Pos}{td ty tv:TE}
theorem zn8 (hu:X.A.units+1<cLine)(ho:PE X o td)(hi:PE X i ty)(hs:zfg i):PE X (.Subscript o i pos) (tDGet td ty):=by
 intro pins s σ H Q I h
 refine zpQ PySem.F.slot_dict_getitem.lookup hs (thn (ho pins s σ H _ I h) λu s1 ⟨x,H1,I1,rx,q1⟩=>thn (hi pins s1 σ H1 _ I1 q1) λiv s2 ⟨y,H2,I2,ry,a,v,ex,g,q2⟩=>?_)
 subst ex
 obtain rfl:u=Value.ref a:=rx
 exact⟨zr0 I2 g,zsz hu I2 g ry λw' s3 I3 rw'=>⟨v,H2,I3,rw',q2⟩⟩
theorem znk (hu:X.A.units+1<cLine)(hi:PE X i ty)(ho:PE X o td):PC X .In i o (tDIn ty td):=by
 intro pins s σ H Q I h
 refine thn (hi pins s σ H _ I h) λiv s1 ⟨y,H1,I1,ry,q1⟩=>thn (ho pins s1 σ H1 _ I1 q1) λu s2 ⟨x,H2,I2,rx,a,ov,ex,g,q2⟩=>?_
 subst ex
 obtain rfl:u=Value.ref a:=rx
 exact d_in hu I2 g ry λs3 I3=>⟨.bl ov.isSome,H2,I3,rfl,q2⟩
theorem zwU (hu:X.A.units+1<cLine)(hi:PE X i ty)(ho:PE X o td):PC X .NotIn i o (zpY ty td):=by
 intro pins s σ H Q I h
 refine thn (hi pins s σ H _ I h) λiv s1 ⟨y,H1,I1,ry,q1⟩=>thn (ho pins s1 σ H1 _ I1 q1) λu s2 ⟨x,H2,I2,rx,a,ov,ex,g,q2⟩=>?_
 subst ex
 obtain rfl:u=Value.ref a:=rx
 exact zsq hu I2 g ry λs3 I3=>⟨.bl (!ov.isSome),H2,I3,rfl,q2⟩
theorem znL (hu:X.A.units+1<cLine)(ho:PE X o td)(hi:PE X i ty)(hv:PE X value tv)(hs:swapsWith value (some (.Subscript o i pos')) pos.line X.env=pure false):
  PS X (.Assign [.Subscript o i pos'] value pos) (sDPut td ty tv):=by
 intro pins s σ H D I h
 refine wpAny_Assign_Subscript (thn (hv pins s σ H _ I h) λr s1 ⟨v,H1,I1,rv,q1⟩=>thn (ho pins s1 σ H1 _ I1 q1) λu s2 ⟨x,H2,I2,rx,q2⟩=>thn (hi pins s2 σ H2 _ I2 q2) λiv s3 ⟨y,H3,I3,ry,a,H4,ex,g,q3⟩=>?_) hs
 subst ex
 obtain rfl:u=Value.ref a:=rx
 exact zxo hu I3 g ry rv λs4 I4=>⟨σ,H4,I4,q3⟩
end
theorem zsL {P:Program}{w:World}{H:Hp}(h:Heap)(hb:sysModules<h.objs.size):za7 P w H (h.push { cls:=.type "dict",data:=.dict #[] }) h.objs.size (.dK []):=
 ⟨Vaz _,beq_eq_false_iff_ne.mpr (Ne.symm (Vak hb)),[],.nil,Heap.DictOf.new h⟩
theorem zrx {P:Program}{w:World}{H:Hp}(h:Heap)(hb:sysModules<h.objs.size):za7 P w H (h.push { cls:=.type "dict",data:=.dict #[] }) h.objs.size (.dT []):=
 ⟨Vaz _,beq_eq_false_iff_ne.mpr (Ne.symm (Vak hb)),[],.nil,_,#[],0,Heap.get?_push_size _ rfl,⟨rfl,rfl,rfl⟩,rfl,rfl,List.nodup_nil⟩
def zwC:TE:=λ_ H Q=>∀p,H p=none→Q (.ref p) (upd H p (.dK []))
def zvR:TE:=λ_ H Q=>∀p,H p=none→Q (.ref p) (upd H p (.dT []))
section
variable {X:Cx}{pos:Pos}
theorem zq7:PE X (.Dict [] [] pos) zwC:=λpins s σ H Q I h=>
 wpAny_Dict_empty ⟨.ref s.heap.objs.size,_,I.laid (a:=s.heap.objs.size) (o:=.dK []) (t':=s.toks) (λ_ _ q=>Heap.get?_push_of_some _ q) (Vaa _) (zsL s.heap I.big),rfl,h _ (I.hok.fresh (Vaa _))⟩
theorem ztS:PE X (.Dict [] [] pos) zvR:=λpins s σ H Q I h=>
 wpAny_Dict_empty ⟨.ref s.heap.objs.size,_,I.laid (a:=s.heap.objs.size) (o:=.dT []) (t':=s.toks) (λ_ _ q=>Heap.get?_push_of_some _ q) (Vaa _) (zrx s.heap I.big),rfl,h _ (I.hok.fresh (Vaa _))⟩
end
structure M1 (X:Cx)(o:Expr)(m:Str)(apos:Pos)(e:Expr)(cpos:Pos):Prop where
 base:attributeBase o m X.env (eval o X.env)=eval o X.env
 few:((backTo cpos (starEach [e] X.env)).all (λx=>!x.1)&&(backToKw cpos (keywordEach [] X.env)).all (λx=>x.1.isSome)
 &&decide (([e]:List Expr).length+([]:List Keyword).length+(if ([]:List Keyword).isEmpty then 0 else 1)<30))=true
 line:(apos.endLine==cpos.line)=true
 trees:backTo cpos (starEach [e] X.env)=[(false,eval e X.env)]
structure M2 (X:Cx)(o:Expr)(m:Str)(apos:Pos)(e f:Expr)(cpos:Pos):Prop where
 base:attributeBase o m X.env (eval o X.env)=eval o X.env
 few:((backTo cpos (starEach [e,f] X.env)).all (λx=>!x.1)&&(backToKw cpos (keywordEach [] X.env)).all (λx=>x.1.isSome)
 &&decide (([e,f]:List Expr).length+([]:List Keyword).length+(if ([]:List Keyword).isEmpty then 0 else 1)<30))=true
 line:(apos.endLine==cpos.line)=true
 trees:backTo cpos (starEach [e,f] X.env)=[(false,eval e X.env),(false,eval f X.env)]
section
variable {X:Cx}{pins:List (Addr×Obj)}{σ:St}{H:Hp}{s:Shared}{a:Addr}{y d:V}{u r:Value}{o:Option V}{A:Around}{E:Value→Shared→Prop}
end
section
variable {X:Cx}{o e f:Expr}{apos cpos:Pos}{td ty tx:TE}
end
section
variable {X:Cx}{pins:List (Addr×Obj)}{σ:St}{H:Hp}{s:Shared}{a:Addr}{kvs:List (Key×V)}{A:Around}{E:Value→Shared→Prop}
end
section
variable {X:Cx}{pins:List (Addr×Obj)}{σ:St}{H:Hp}{s:Shared}{a:Addr}{y:V}{u:Value}{A:Around}{E:Value→Shared→Prop}
end
end L2
namespace L3
open PySem PySem.Spec PyProof.Rows L2
abbrev St:=L2.St
inductive D where
 | non | bl (b:Bool) | int (i:Int) | str (x:Str) | tup (xs:List D) | ref (n:Nat) | exc (c:Addr)
inductive Ob where
 | lst (xs:List D) | frz (xs:List D)
  | ins (C:Addr) (fs:List (Str×D))
  | dct (kvs:List (List Key×D))
  | tpl (ws:List Str)
  | dck (kvs:List (Key×D))
abbrev Sto:=List Ob
abbrev Ev:=List (Option D)
abbrev DK:=D→Sto→Prop
abbrev TDE:=Ev→Sto→DK→Prop
abbrev TDT:=Ev→Sto→(Bool→Sto→Prop)→Prop
abbrev TDA:=Ev→Sto→(List D→Sto→Prop)→Prop
structure zbN where
 nx:Ev→Sto→Prop
 rt:DK
 bk:Ev→Sto→Prop:=λ_ _=>False
 ct:Ev→Sto→Prop:=λ_ _=>False
abbrev TDS:=zbN→Ev→Sto→Prop
def isX (a c:Addr):HO:=.ext λh=>∃o,h.get? a=some o∧o.cls=.ref c
inductive Rp (r:List Addr)(H:Hp):D→V→Prop
 | non:Rp r H .non .non
 | bl (b:Bool):Rp r H (.bl b) (.bl b)
 | int (i:Int):Rp r H (.int i) (.int i)
 | str (x:Str):Rp r H (.str x) (.str x)
 | tup {ds:List D} {xs:List V} {a:Addr}:H a=some (.tup xs)→ds.length=xs.length→(∀(i:Nat) (d:D) (v:V),ds[i]?=some d→xs[i]?=some v→Rp r H d v)→Rp r H (.tup ds) (.ref a)
 | ref {n:Nat} {a:Addr}:r[n]?=some a→Rp r H (.ref n) (.ref a)
 | exc {c a:Addr}:H a=some (isX a c)→Rp r H (.exc c) (.ref a)
def Rps (r:List Addr)(H:Hp)(ds:List D)(vs:List V):Prop:=ds.length=vs.length∧∀(i:Nat) (d:D) (v:V),ds[i]?=some d→vs[i]?=some v→Rp r H d v
structure Ext (r r':List Addr)(H H':Hp):Prop where
 adr:∀(n:Nat) (a:Addr),r[n]?=some a→r'[n]?=some a
 tup:∀a xs,H a=some (.tup xs)→H' a=some (.tup xs)
 xc:∀a c,H a=some (isX a c)→H' a=some (isX a c)
section
variable {r r' r2:List Addr}{H H' H2:Hp}{d:D}{v:V}{ds:List D}{vs:List V}
theorem Ext.refl:Ext r r H H:=⟨λ_ _ h=>h,λ_ _ h=>h,λ_ _ h=>h⟩
theorem Ext.trans (a:Ext r r' H H')(b:Ext r' r2 H' H2):Ext r r2 H H2:=⟨λn x h=>b.adr n x (a.adr n x h),λx y h=>b.tup x y (a.tup x y h),λx y h=>b.xc x y (a.xc x y h)⟩
theorem Rp.ext (h:Rp r H d v)(e:Ext r r' H H'):Rp r' H' d v:=by
 induction h with
 | non=>exact .non
 | bl b=>exact .bl b
 | int i=>exact .int i
 | str x=>exact .str x
 | tup h l _ ih=>exact .tup (e.tup _ _ h) l ih
 | ref h=>exact .ref (e.adr _ _ h)
 | exc h=>exact .exc (e.xc _ _ h)
theorem Rps.ext (h:Rps r H ds vs)(e:Ext r r' H H'):Rps r' H' ds vs:=⟨h.1,λi d v h1 h2=>(h.2 i d v h1 h2).ext e⟩
theorem Rps.nil:Rps r H [] []:=⟨rfl,λi d v h=>by simp at h⟩
theorem Rps.cons (h:Rp r H d v)(t:Rps r H ds vs):Rps r H (d::ds) (v::vs):=by
 refine⟨by simp[t.1],λi x y h1 h2=>?_⟩
 cases i with
 | zero=>
  simp at h1 h2
  subst h1; subst h2
  exact h
 | succ i=>exact t.2 i x y (by simpa using h1) (by simpa using h2)
theorem Rps.tail {y:V}(h:Rps r H (d::ds) (y::vs)):Rp r H d y∧Rps r H ds vs:=
 ⟨h.2 0 d y rfl rfl,by simpa using h.1,λi a b h1 h2=>h.2 (i+1) a b (by simpa using h1) (by simpa using h2)⟩
theorem Rps.uncons (h:Rps r H (d::ds) vs):∃v vs',vs=v::vs'∧Rp r H d v∧Rps r H ds vs':=by
 cases vs with
 | nil=>exact absurd h.1 (by simp)
 | cons v vs'=>exact⟨v,vs',rfl,h.tail⟩
theorem Rps.unnil (h:Rps r H [] vs):vs=[]:=by
 cases vs with
 | nil=>rfl
 | cons v vs'=>exact absurd h.1 (by simp)
theorem Rps.get {i:Nat}(h:Rps r H ds vs)(e:ds[i]?=some d):∃v,vs[i]?=some v∧Rp r H d v:=by
 have hi:i<ds.length:=(Vaf.mp e).1
 have hv:i<vs.length:=by rw[← h.1]; exact hi
 exact⟨vs[i],by simp[hv],h.2 i d vs[i] e (by simp[hv])⟩
theorem Rps.get' {i:Nat}(h:Rps r H ds vs)(e:vs[i]?=some v):∃d,ds[i]?=some d∧Rp r H d v:=by
 have hv:i<vs.length:=(Vaf.mp e).1
 have hi:i<ds.length:=by rw[h.1]; exact hv
 exact⟨ds[i],by simp[hi],h.2 i ds[i] v (by simp[hi]) e⟩
theorem Rps.snoc (h:Rps r H ds vs)(t:Rp r H d v):Rps r H (ds++[d]) (vs++[v]):=by
 refine⟨by simp[h.1],λi x y h1 h2=>?_⟩
 by_cases hi:i<ds.length
 ·rw[Van hi] at h1
  rw[Van (by rw[← h.1]; exact hi)] at h2
  exact h.2 i x y h1 h2
 ·have hl:i<(ds++[d]).length:=(Vaf.mp h1).1
  have e:i=ds.length:=by simp at hl; omega
  subst e
  rw[VaG (Vaa _)] at h1
  rw[h.1,VaG (Vaa _)] at h2
  simp at h1 h2
  subst h1; subst h2
  exact t
theorem Rps.tupR {a:Addr}(h:Rps r H ds vs)(e:H a=some (.tup vs)):Rp r H (.tup ds) (.ref a):=.tup e h.1 h.2
theorem Rp.untup {vs:V}(h:Rp r H (.tup ds) vs):∃a xs,vs=.ref a∧H a=some (.tup xs)∧Rps r H ds xs:=by
 cases h with
 | tup e l f=>exact⟨_,_,rfl,e,l,f⟩
end
def SqF (K:PySem.W.Frag)(H:Hp)(a:Addr)(xs:List V):Prop:=
 (∃o,H a=some (.frz o (.lst xs)))∨
  ∃(o:Obj) (its:Array Value) (n:Nat),K.lookup a=some o∧o.cls=.type "list"∧o.dict=none∧o.data=.seq its n∧its.size≤sizeLine∧zal xs its.toList
theorem SqF.sql {K:PySem.W.Frag}{H:Hp}{a:Addr}{xs:List V}(h:SqF K H a xs):SqL K H a xs:=by
 rcases h with ⟨o,h⟩ | h
 ·exact .inl (.inr ⟨o,h⟩)
 ·exact .inr h
def FR {α:Type}(r:List Addr)(H:Hp)(fs:List (α×D))(fs':List (α×V)):Prop:=fs.map (·.1)=fs'.map (·.1)∧Rps r H (fs.map (·.2)) (fs'.map (·.2))
theorem FR.ext {α:Type}{r r':List Addr}{H H':Hp}{fs:List (α×D)}{fs':List (α×V)}(h:FR r H fs fs')(e:Ext r r' H H'):FR r' H' fs fs':=⟨h.1,h.2.ext e⟩
theorem FR.nil {α:Type}{r:List Addr}{H:Hp}:FR (α:=α) r H [] []:=⟨rfl,Rps.nil⟩
def ObR (K:PySem.W.Frag)(r:List Addr)(H:Hp)(a:Addr):Ob→Prop
 | .lst ds=>∃xs,H a=some (.lst xs)∧Rps r H ds xs
 | .frz ds=>∃xs,SqF K H a xs∧Rps r H ds xs
 | .ins C fs=>∃dx fs',H a=some (.ins C dx fs')∧FR r H fs fs'
 | .dct kvs=>∃kvs',H a=some (.dT kvs')∧FR r H kvs kvs'
 | .dck kvs=>∃kvs',H a=some (.dK kvs')∧FR r H kvs kvs'
 | .tpl ws=>∃(o:Obj) (its:Array Value) (n:Nat),K.lookup a=some o∧o.cls=.type "tuple"∧o.data=.seq its n∧its.size≤sizeLine∧zal (ws.map V.str) its.toList
def zdq:Ob→Bool
 | .frz _=>false
 | .tpl _=>false
 | _=>true
structure zaS (K:PySem.W.Frag)(r:List Addr)(S:Sto)(H:Hp):Prop where
 len:r.length=S.length
 ob:∀(n:Nat) (a:Addr) (o:Ob),r[n]?=some a→S[n]?=some o→ObR K r H a o
 nd:∀(n m:Nat) (a:Addr) (o u:Ob),r[n]?=some a→r[m]?=some a→S[n]?=some o→S[m]?=some u→zdq o=true→zdq u=true→n=m
def zax:Ob→List D
 | .lst ds=>ds
 | .frz ds=>ds
 | _=>[.exc 0]
def zcs:Ob→Option Ob
 | .lst ds=>some (.lst ds)
 | .frz ds=>some (.frz ds)
 | _=>none
def lAt (S:Sto)(n:Nat):Option Ob:=(S[n]?).bind zcs
theorem zrw {o u:Ob}(h:zcs o=some u):u=o:=by
 cases o <;> simp[zcs] at h <;> exact h.symm
theorem zcr {S:Sto}{n:Nat}{o:Ob}(h:lAt S n=some o):S[n]?=some o∧zcs o=some o:=by
  unfold lAt at h
  cases q:S[n]? with
  | none=>
   rw[q] at h
   cases h
  | some u=>
    rw[q] at h
    have h':zcs u=some o:=h
    have e:=zrw h'
    subst e
    exact⟨rfl,h'⟩
theorem zbr {S:Sto}{n:Nat}{o:Ob}(h:S[n]?=some o)(hL:zcs o=some o):lAt S n=some o:=by
 unfold lAt
 rw[h]
 exact hL
section
variable {K:PySem.W.Frag}{r r':List Addr}{S:Sto}{H H':Hp}{n:Nat}{a p:Addr}
theorem zaS.at {o:Ob}(h:zaS K r S H)(e:S[n]?=some o):∃a,r[n]?=some a∧ObR K r H a o:=by
 have hn:n<S.length:=(Vaf.mp e).1
 have hr:n<r.length:=by rw[h.len]; exact hn
 exact⟨r[n],by simp[hr],h.ob n r[n] o (by simp[hr]) e⟩
theorem ObR.list {o:Ob}(h:ObR K r H a o)(hL:zcs o=some o):∃xs,SqL K H a xs∧Rps r H (zax o) xs:=by
 cases o with
 | lst ds=>obtain⟨xs,e,q⟩:=h; exact⟨xs,SqL.of e,q⟩
 | frz ds=>obtain⟨xs,e,q⟩:=h; exact⟨xs,e.sql,q⟩
 | ins C fs=>cases hL
 | dct kvs=>cases hL
 | dck kvs=>cases hL
 | tpl ws=>cases hL
theorem ObR.keep {o:Ob}(q:ObR K r H a o)(x:Ext r r' H H')(ha:∀u,H a=some u→H' a=some u):ObR K r' H' a o:=by
 cases o with
 | lst ds=>obtain⟨xs,h3,h4⟩:=q; exact⟨xs,ha _ h3,h4.ext x⟩
 | frz ds=>
  obtain⟨xs,h3,h4⟩:=q
  refine⟨xs,?_,h4.ext x⟩
  rcases h3 with ⟨o,h3⟩ | h3
  ·exact .inl ⟨o,ha _ h3⟩
  ·exact .inr h3
 | ins C fs=>obtain⟨dx,fs',h3,h4⟩:=q; exact⟨dx,fs',ha _ h3,h4.ext x⟩
 | dct kvs=>obtain⟨ks,h3,h4⟩:=q; exact⟨ks,ha _ h3,h4.ext x⟩
 | dck kvs=>obtain⟨ks,h3,h4⟩:=q; exact⟨ks,ha _ h3,h4.ext x⟩
 | tpl ws=>exact q
theorem ObR.own {o:Ob}(q:ObR K r H a o)(h:zdq o=true):∃u,H a=some u∧(∀xs,u≠HO.tup xs)∧(∀b c,u≠isX b c)∧∀z y,u≠HO.frz z y:=by
 cases o with
 | lst ds=>obtain⟨xs,h3,h4⟩:=q; exact⟨_,h3,(λ_ z=>by cases z),(λ_ _ z=>by cases z),(λ_ _ z=>by cases z)⟩
 | frz ds=>cases h
 | tpl ws=>cases h
 | ins C fs=>obtain⟨dx,fs',h3,h4⟩:=q; exact⟨_,h3,(λ_ z=>by cases z),(λ_ _ z=>by cases z),(λ_ _ z=>by cases z)⟩
 | dct kvs=>obtain⟨ks,h3,h4⟩:=q; exact⟨_,h3,(λ_ z=>by cases z),(λ_ _ z=>by cases z),(λ_ _ z=>by cases z)⟩
 | dck kvs=>obtain⟨ks,h3,h4⟩:=q; exact⟨_,h3,(λ_ z=>by cases z),(λ_ _ z=>by cases z),(λ_ _ z=>by cases z)⟩
theorem zaS.same (h:zaS K r S H)(e:∀b o,H b=some o→H' b=some o):zaS K r S H':=
 ⟨h.len,λn a o h1 h2=>(h.ob n a o h1 h2).keep ⟨λ_ _ q=>q,λa xs q=>e _ _ q,λa c q=>e _ _ q⟩ (e a),h.nd⟩
theorem zcV {o:HO}(h:H p=none):∀b u,H b=some u→(upd H p o) b=some u:=λb u q=>by rw[za2 (zdy q h)]; exact q
theorem zeE {n:Nat}{b:Addr}(e:(r++[p])[n]?=some b):(n<r.length∧r[n]?=some b)∨(n=r.length∧b=p):=by
 by_cases hn:n<r.length
 ·rw[Van hn] at e; exact .inl ⟨hn,e⟩
 ·have hl:n<(r++[p]).length:=(Vaf.mp e).1
  have en:n=r.length:=by simp at hl; omega
  subst en
  rw[VaG (Vaa _)] at e
  simp at e
  exact .inr ⟨rfl,e.symm⟩
theorem zaS.pushO {o:Ob}(h:zaS K r S H)(hp:H p=none)(keep:∀b u,H b=some u→H' b=some u)(q:Ext r (r++[p]) H H'→ObR K (r++[p]) H' p o):zaS K (r++[p]) (S++[o]) H'∧Ext r (r++[p]) H H':=by
 have x:Ext r (r++[p]) H H':=⟨λn a e=>by
  have hn:n<r.length:=(Vaf.mp e).1
  rw[Van hn]; exact e,λa ys e=>keep _ _ e,λa c e=>keep _ _ e⟩
 have sS:∀ {n:Nat} {u:Ob},n<r.length→(S++[o])[n]?=some u→S[n]?=some u:=λ{n u} hn e=>by
  rw[Van (by rw[← h.len]; exact hn)] at e; exact e
 refine⟨⟨by simp[h.len],λn a u h1 h2=>?_,λn m a u w h1 h2 h3 h4 o1 o2=>?_⟩,x⟩
 ·rcases zeE h1 with ⟨hn,e⟩ | ⟨rfl,rfl⟩
  ·exact(h.ob n a u e (sS hn h2)).keep x (keep a)
  ·rw[h.len,VaG (Vaa _)] at h2
   simp at h2
   subst h2
   exact q x
 ·rcases zeE h1 with ⟨hn,e⟩ | ⟨rfl,rfl⟩
  ·rcases zeE h2 with ⟨hm,e'⟩ | ⟨rfl,rfl⟩
   ·exact h.nd n m a u w e e' (sS hn h3) (sS hm h4) o1 o2
   ·obtain⟨zs,h5,_⟩:=(h.ob n _ _ e (sS hn h3)).own o1
    rw[hp] at h5; cases h5
  ·rcases zeE h2 with ⟨hm,e'⟩ | ⟨rfl,_⟩
   ·obtain⟨zs,h5,_⟩:=(h.ob m _ _ e' (sS hm h4)).own o2
    rw[hp] at h5; cases h5
   ·rfl
theorem zaS.pushF {o:Ob}(h:zaS K r S H)(ho:zdq o=false)(q:ObR K (r++[p]) H p o):zaS K (r++[p]) (S++[o]) H∧Ext r (r++[p]) H H:=by
 have x:Ext r (r++[p]) H H:=⟨λn a e=>by
  have hn:n<r.length:=(Vaf.mp e).1
  rw[Van hn]; exact e,λa ys e=>e,λa c e=>e⟩
 have sS:∀ {n:Nat} {u:Ob},n<r.length→(S++[o])[n]?=some u→S[n]?=some u:=λ{n u} hn e=>by
  rw[Van (by rw[← h.len]; exact hn)] at e; exact e
 have sL:∀ {u:Ob},(S++[o])[r.length]?=some u→u=o:=λ{u} e=>by
  rw[h.len,VaG (Vaa _)] at e
  simp at e
  exact e.symm
 refine⟨⟨by simp[h.len],λn a u h1 h2=>?_,λn m a u w h1 h2 h3 h4 o1 o2=>?_⟩,x⟩
 ·rcases zeE h1 with ⟨hn,e⟩ | ⟨rfl,rfl⟩
  ·exact(h.ob n a u e (sS hn h2)).keep x λ_ e=>e
  ·rw[sL h2]
   exact q
 ·rcases zeE h1 with ⟨hn,e⟩ | ⟨rfl,rfl⟩
  ·rcases zeE h2 with ⟨hm,e'⟩ | ⟨rfl,rfl⟩
   ·exact h.nd n m a u w e e' (sS hn h3) (sS hm h4) o1 o2
   ·rw[sL h4,ho] at o2; cases o2
  ·rw[sL h3,ho] at o1; cases o1
theorem zaS.push {ds:List D}{xs:List V}(h:zaS K r S H)(hp:H p=none)(q:Rps r H ds xs):zaS K (r++[p]) (S++[.lst ds]) (upd H p (.lst xs))∧Ext r (r++[p]) H (upd H p (.lst xs)):=
 h.pushO hp (zcV hp) λx=>⟨xs,zbR,q.ext x⟩
theorem zaS.setO {o o':Ob}{u:HO}(h:zaS K r S H)(hn:r[n]?=some a)(hS:S[n]?=some o)(ho:zdq o=true)(ho':zdq o'=true)(q:Ext r r H (upd H a u)→ObR K r (upd H a u) a o'):zaS K r (S.set n o') (upd H a u)∧Ext r r H (upd H a u):=by
 obtain⟨u0,h0,t1,t2,t3⟩:=(h.ob n a _ hn hS).own ho
 have x:Ext r r H (upd H a u):=⟨λ_ _ e=>e,λb zs e=>by
  rw[za2 (zh2 e h0 (λz=>t1 zs z.symm))]; exact e,λb c e=>by
  rw[za2 (zh2 e h0 (λz=>t2 b c z.symm))]; exact e⟩
 have hlt:n<S.length:=(Vaf.mp hS).1
 have off:∀ {m:Nat} {w:Ob},m≠n→(S.set n o')[m]?=some w→S[m]?=some w:=λ{m w} hm e=>by
  rw[VaE (Ne.symm hm)] at e; exact e
 refine⟨⟨by simp[h.len],λm b w h1 h2=>?_,λm k b w y h1 h2 h3 h4 o1 o2=>?_⟩,x⟩
 ·by_cases hm:m=n
  ·subst hm
   rw[hn] at h1; cases h1
   rw[VaN hlt] at h2
   cases h2
   exact q x
  ·have h2':=off hm h2
   have q':=h.ob m b w h1 h2'
   by_cases hw:zdq w=true
   ·have hb:b≠a:=λz=>hm (by subst z; exact h.nd m n b w o h1 hn h2' hS hw ho)
    exact q'.keep x λz e=>by rw[za2 hb]; exact e
   ·cases w with
    | frz es=>
     obtain⟨zs,h3,h4⟩:=q'
     refine⟨zs,?_,h4.ext x⟩
     rcases h3 with ⟨z,h3⟩ | h3
     ·exact .inl ⟨z,by rw[za2 (zh2 h3 h0 (λy=>t3 _ _ y.symm))]; exact h3⟩
     ·exact .inr h3
    | tpl ws=>exact q'
    | _=>exact absurd rfl hw
 ·have back:∀ {j:Nat} {w:Ob},(S.set n o')[j]?=some w→zdq w=true→∃y,S[j]?=some y∧zdq y=true:=λ{j w} e ow=>by
   by_cases hj:j=n
   ·subst hj; exact⟨o,hS,ho⟩
   ·exact⟨w,off hj e,ow⟩
  obtain⟨us',h3',q3⟩:=back h3 o1
  obtain⟨ws',h4',q4⟩:=back h4 o2
  exact h.nd m k b us' ws' h1 h2 h3' h4' q3 q4
theorem zaS.set {ds ds':List D}{xs:List V}(h:zaS K r S H)(hn:r[n]?=some a)(hS:S[n]?=some (.lst ds))(q:Rps r H ds' xs):zaS K r (S.set n (.lst ds')) (upd H a (.lst xs))∧Ext r r H (upd H a (.lst xs)):=
 h.setO hn hS rfl rfl λx=>⟨xs,zbR,q.ext x⟩
end
def Rs (r:List Addr)(H:Hp)(dl:Ev)(σ:St):Prop:=dl.length=σ.length∧∀(i:Nat) (d:D),dl[i]?=some (some d)→∃v,σ[i]?=some (some v)∧Rp r H d v
theorem Rs.ext {r r':List Addr}{H H':Hp}{dl:Ev}{σ:St}(h:Rs r H dl σ)(e:Ext r r' H H'):Rs r' H' dl σ:=⟨h.1,λi d q=>by
 obtain⟨v,h1,h2⟩:=h.2 i d q
 exact⟨v,h1,h2.ext e⟩⟩
theorem Rs.set {r:List Addr}{H:Hp}{dl:Ev}{σ:St}{d:D}{v:V}(i:Nat)(h:Rs r H dl σ)(q:Rp r H d v):Rs r H (dl.set i (some d)) (σ.set i (some v)):=by
 refine⟨by simp[h.1],λj e hj=>?_⟩
 by_cases hij:i=j
 ·subst hij
  have hl:i<dl.length:=by
   have:=(Vaf.mp hj).1
   simpa using this
  rw[VaN hl] at hj
  cases hj
  exact⟨v,by rw[VaN (by rw[← h.1]; exact hl)],q⟩
 ·rw[VaE hij] at hj
  obtain⟨v',h1,h2⟩:=h.2 j e hj
  exact⟨v',by rw[VaE hij]; exact h1,h2⟩
structure Zx where
 ex:Ev→Addr→Sto→Prop
 w:St→XK
abbrev Zc (ex:Addr→Sto→Prop)(E:XK):Zx:=⟨λ_=>ex,λ_=>E⟩
def zeD (K:PySem.W.Frag)(Z:Zx)(r:List Addr)(H:Hp):Prop:=∀(dl:Ev) (σ:St) (c:Addr) (H':Hp) (r':List Addr) (S':Sto),Ext r r' H H'→Rs r' H' dl σ→zaS K r' S' H'→Z.ex dl c S'→Z.w σ (.ref c) none H'
theorem zeD.ext {K:PySem.W.Frag}{Z:Zx}{r r':List Addr}{H H':Hp}(h:zeD K Z r H)(e:Ext r r' H H'):zeD K Z r' H':=λdl σ c H2 r2 S2 x=>h dl σ c H2 r2 S2 (e.trans x)
structure Rel (K:PySem.W.Frag)(Z:Zx)(r:List Addr)(S:Sto)(H:Hp):Prop where
 b:zaS K r S H
 xw:zeD K Z r H
section
variable {K:PySem.W.Frag}{Z:Zx}{r r':List Addr}{S:Sto}{H H':Hp}{n:Nat}{a p:Addr}
theorem Rel.len (h:Rel K Z r S H):r.length=S.length:=h.b.len
theorem Rel.at {o:Ob}(h:Rel K Z r S H)(e:S[n]?=some o):∃a,r[n]?=some a∧ObR K r H a o:=h.b.at e
theorem Rel.same (h:Rel K Z r S H)(e:∀b o,H b=some o→H' b=some o):Rel K Z r S H':=⟨h.b.same e,h.xw.ext ⟨λ_ _ q=>q,λa xs q=>e _ _ q,λa c q=>e _ _ q⟩⟩
theorem Rel.push {ds:List D}{xs:List V}(h:Rel K Z r S H)(hp:H p=none)(q:Rps r H ds xs):Rel K Z (r++[p]) (S++[.lst ds]) (upd H p (.lst xs))∧Ext r (r++[p]) H (upd H p (.lst xs)):=by
 obtain⟨h1,h2⟩:=h.b.push hp q
 exact⟨⟨h1,h.xw.ext h2⟩,h2⟩
theorem Rel.set {ds ds':List D}{xs:List V}(h:Rel K Z r S H)(hn:r[n]?=some a)(hS:S[n]?=some (.lst ds))(q:Rps r H ds' xs):Rel K Z r (S.set n (.lst ds')) (upd H a (.lst xs))∧Ext r r H (upd H a (.lst xs)):=by
 obtain⟨h1,h2⟩:=h.b.set hn hS q
 exact⟨⟨h1,h.xw.ext h2⟩,h2⟩
end
def Ret (K:PySem.W.Frag)(Z:Zx)(r:List Addr)(H:Hp)(Q:DK)(Qv:VK):Prop:=∀v H' r' d S',Ext r r' H H'→Rel K Z r' S' H'→Rp r' H' d v→Q d S'→Qv v H'
theorem Ret.ext {K:PySem.W.Frag}{Z:Zx}{r r':List Addr}{H H':Hp}{Q:DK}{Qv:VK}(h:Ret K Z r H Q Qv)(e:Ext r r' H H'):Ret K Z r' H' Q Qv:=λv H2 r2 d S2 x=>h v H2 r2 d S2 (e.trans x)
def up (K:PySem.W.Frag)(Z:Zx)(t:TDE):TE:=λσ H Qv=>∃r dl S Q,Rs r H dl σ∧Rel K Z r S H∧t dl S Q∧Ret K Z r H Q Qv
def upT (K:PySem.W.Frag)(Z:Zx)(t:TDT):TT:=λσ H Qb=>∃r dl S Q,Rs r H dl σ∧Rel K Z r S H∧t dl S Q∧∀b H' r' S',Ext r r' H H'→Rel K Z r' S' H'→Q b S'→Qb b H'
def upA (K:PySem.W.Frag)(Z:Zx)(t:TDA):TA:=λσ H Qv=>∃r dl S Q,Rs r H dl σ∧Rel K Z r S H∧t dl S Q∧∀vs H' r' ds S',Ext r r' H H'→Rel K Z r' S' H'→Rps r' H' ds vs→Q ds S'→Qv vs H'
structure zjB (K:PySem.W.Frag)(Z:Zx)(r:List Addr)(H:Hp)(E:zbN)(F:zeq):Prop where
 nx:∀σ' H' r' dl' S',Ext r r' H H'→Rs r' H' dl' σ'→Rel K Z r' S' H'→E.nx dl' S'→F.nx σ' H'
 bk:∀σ' H' r' dl' S',Ext r r' H H'→Rs r' H' dl' σ'→Rel K Z r' S' H'→E.bk dl' S'→F.bk σ' H'
 ct:∀σ' H' r' dl' S',Ext r r' H H'→Rs r' H' dl' σ'→Rel K Z r' S' H'→E.ct dl' S'→F.ct σ' H'
 rt:Ret K Z r H E.rt F.rt
theorem zjB.ext {K:PySem.W.Frag}{Z:Zx}{r r':List Addr}{H H':Hp}{E:zbN}{F:zeq}(h:zjB K Z r H E F)(e:Ext r r' H H'):zjB K Z r' H' E F:=
 ⟨λa b c d f x=>h.nx a b c d f (e.trans x),λa b c d f x=>h.bk a b c d f (e.trans x),λa b c d f x=>h.ct a b c d f (e.trans x),h.rt.ext e⟩
def upS (K:PySem.W.Frag)(Z:Zx)(t:TDS):TS:=λF σ H=>∃r dl S E,Rs r H dl σ∧Rel K Z r S H∧t E dl S∧zjB K Z r H E F
def PD (X:Cx)(Z:Zx)(e:Expr)(t:TDE):Prop:=PE X e (up X.K Z t)
def PDT (X:Cx)(Z:Zx)(e:Expr)(t:TDT):Prop:=PT X e (upT X.K Z t)
def PDW (X:Cx)(Z:Zx)(e:Expr)(t:TDT):Prop:=PW X e (upT X.K Z t)
def PDA (X:Cx)(Z:Zx)(es:List Expr)(t:TDA):Prop:=PA X es (upA X.K Z t)
def PDS (X:Cx)(Z:Zx)(st:Stmt)(t:TDS):Prop:=PS X st (upS X.K Z t)
def zcz (X:Cx)(Z:Zx)(st:List Stmt)(t:TDS):Prop:=PSs X st (upS X.K Z t)
section
variable {X:Cx}{Z:Zx}
theorem zaJ {e:Expr}{t t':TE}(h:PE X e t)(f:∀σ H Q,t' σ H Q→t σ H Q):PE X e t':=λpins s σ H Q I q=>h pins s σ H Q I (f σ H Q q)
theorem zeu {e:Expr}{t t':TT}(h:PT X e t)(f:∀σ H Q,t' σ H Q→t σ H Q):PT X e t':=λpins s σ H Q I q=>h pins s σ H Q I (f σ H Q q)
theorem zqd {e:Expr}{t t':TT}(h:PW X e t)(f:∀σ H Q,t' σ H Q→t σ H Q):PW X e t':=λwh pins s σ H Q I q=>h wh pins s σ H Q I (f σ H Q q)
theorem zpV {e:List Expr}{t t':TA}(h:PA X e t)(f:∀σ H Q,t' σ H Q→t σ H Q):PA X e t':=λpos pins s σ H Q I q=>h pos pins s σ H Q I (f σ H Q q)
theorem zcy {e:Stmt}{t t':TS}(h:PS X e t)(f:∀F σ H,t' F σ H→t F σ H):PS X e t':=λpins s σ H F I q=>h pins s σ H F I (f F σ H q)
theorem zn2 {e:List Stmt}{t t':TS}(h:PSs X e t)(f:∀F σ H,t' F σ H→t F σ H):PSs X e t':=λpins s σ H F I q=>h pins s σ H F I (f F σ H q)
theorem PDW.pt {e:Expr}{t:TDT}(h:PDW X Z e t):PDT X Z e t:=PW.pt h
def zbB (i:Nat):TDE:=λdl S Q=>match dl[i]? with
 | some (some d)=>Q d S
 | _=>False
def dC (d:D):TDE:=λ_ S Q=>Q d S
theorem zvZ {e:Expr}{i:Nat}(h:PE X e (tVar i)):PD X Z e (zbB i):=zaJ h λσ H Qv ⟨r,dl,S,Q,rs,rel,q,ret⟩=>by
 unfold zbB at q
 split at q
 ·rename_i d e
  obtain⟨v,h1,h2⟩:=rs.2 i d e
  exact⟨v,h1,ret v H r d S Ext.refl rel h2 q⟩
 ·exact q.elim
theorem dv (i:Nat){x:Str}{pos:Pos}(hN:X.N[i]?=some x:=by rfl)(hv:Vis X.env.scope x:=by first | exact Or.inl rfl | exact Or.inr (Or.inl rfl) | exact Or.inr (Or.inr rfl))(hd:(x==("__debug__":Str))=false:=by decide)
  (hcd:(x==("__classdict__":Str))=false:=by decide):PD X Z (.Name x pos) (zbB i):=zvZ (znW hN hv hd hcd)
theorem zms {e:Expr}{d:D}{v:V}(h:PE X e (tC v))(q:∀r H,Rp r H d v):PD X Z e (dC d):=zaJ h λσ H Qv ⟨r,dl,S,Q,rs,rel,h,ret⟩=>ret v H r d S Ext.refl rel (q r H) h
theorem zac {i j pos}:PD X Z (.Constant (.int i) j pos) (dC (.int i)):=zms zwc λ_ _=>.int i
theorem zdt {b j pos}:PD X Z (.Constant (.bool b) j pos) (dC (.bl b)):=zms pe_bl λ_ _=>.bl b
theorem zai {x j pos}:PD X Z (.Constant (.str x) j pos) (dC (.str x)):=zms zrU λ_ _=>.str x
abbrev W2:=D→D→Sto→DK→Prop
abbrev W1:=D→Sto→DK→Prop
def upO (K:PySem.W.Frag)(Z:Zx)(w:W2):R2:=λx y H Qv=>∃r S dx dy Q,Rel K Z r S H∧Rp r H dx x∧Rp r H dy y∧w dx dy S Q∧Ret K Z r H Q Qv
def upU (K:PySem.W.Frag)(Z:Zx)(w:W1):V→Hp→VK→Prop:=λx H Qv=>∃r S dx Q,Rel K Z r S H∧Rp r H dx x∧w dx S Q∧Ret K Z r H Q Qv
def dOp (w:W2)(ta tb:TDE):TDE:=λdl S Q=>ta dl S λx S1=>tb dl S1 λy S2=>w x y S2 Q
def dUn (w:W1)(ta:TDE):TDE:=λdl S Q=>ta dl S λx S1=>w x S1 Q
variable {a b c:Expr}{ta tb tc:TDE}{pos:Pos}
theorem zjD {w:W2}{σ:St}{H:Hp}{Qv:VK}(h:up X.K Z (dOp w ta tb) σ H Qv):tOp (upO X.K Z w) (up X.K Z ta) (up X.K Z tb) σ H Qv:=by
 obtain⟨r,dl,S,Q,rs,rel,h,ret⟩:=h
 exact⟨r,dl,S,_,rs,rel,h,λv H1 r1 dx S1 e1 rel1 p1 h1=>⟨r1,dl,S1,_,rs.ext e1,rel1,h1,λv2 H2 r2 dy S2 e2 rel2 p2 h2=>⟨r2,S2,dx,dy,Q,rel2,p1.ext e2,p2,h2,ret.ext (e1.trans e2)⟩⟩⟩
theorem zak {op:Operator}{w:W2}(ho:OpR X (binaryOp op) (upO X.K Z w))(ha:PD X Z a ta)(hb:PD X Z b tb):PD X Z (.BinOp a op b pos) (dOp w ta tb):=zaJ (pe_op ho ha hb) λ_ _ _ h=>zjD h
theorem pd_un {op:UnaryOp}{w:W1}(ho:UnR X (unaryOp op) (upU X.K Z w))(ha:PD X Z a ta):PD X Z (.UnaryOp op a pos) (dUn w ta):=zaJ (pe_un ho ha) λσ H Qv ⟨r,dl,S,Q,rs,rel,h,ret⟩=>
 ⟨r,dl,S,_,rs,rel,h,λv H1 r1 dx S1 e1 rel1 p1 h1=>⟨r1,S1,dx,Q,rel1,p1,h1,ret.ext e1⟩⟩
theorem zg3 {op:CmpOp}{w:W2}(ho:OpR X (compareOp op) (upO X.K Z w))(ha:PD X Z a ta)(hb:PD X Z b tb)(hm:behindInMarks op b=false):PD X Z (.Compare a [op] [b] pos) (dOp w ta tb):=zaJ (znZ ho ha hb hm) λ_ _ _ h=>zjD h
theorem zfv {f:Value→Value→Sem Value}{r r':R2}(h:OpR X f r)(g:∀x y H Q,r' x y H Q→r x y H Q):OpR X f r':=λpins s σ H x y v u Q I rx ry q=>h pins s σ H x y v u Q I rx ry (g x y H Q q)
theorem zto {f:Value→Sem Value}{r r':V→Hp→VK→Prop}(h:UnR X f r)(g:∀x H Q,r' x H Q→r x H Q):UnR X f r':=λpins s σ H x v Q I rx q=>h pins s σ H x v Q I rx (g x H Q q)
theorem zfo {f:Value}{r r':List V→Hp→VK→Prop}(h:za3 X f r)(g:∀x H Q,r' x H Q→r x H Q):za3 X f r':=λpins s σ H xs us Q I rx q=>h pins s σ H xs us Q I rx (g xs H Q q)
def wI (C:Int→Int→Prop)(g:Int→Int→D):W2:=λx y S Q=>match x,y with
 | .int i,.int j=>C i j∧Q (g i j) S
 | _,_=>False
def wI0 (g:Int→Int→D):W2:=λx y S Q=>match x,y with
 | .int i,.int j=>Q (g i j) S
 | _,_=>False
theorem opD {f:Value→Value→Sem Value}{C:Int→Int→Prop}{g:Int→Int→V}{g':Int→Int→D}(h:OpR X f (rI C g))(hg:∀r H i j,Rp r H (g' i j) (g i j)):OpR X f (upO X.K Z (wI C g')):=
 zfv h λx y H Qv ⟨r,S,dx,dy,Q,rel,px,py,q,ret⟩=>by
  cases px <;> cases py <;> first
   | exact⟨_,_,rfl,rfl,q.1,ret _ _ _ _ _ Ext.refl rel (hg _ _ _ _) q.2⟩
   | exact(show False from q).elim
theorem ze5 {f:Value→Value→Sem Value}{g:Int→Int→V}{g':Int→Int→D}(h:OpR X f (rI0 g))(hg:∀r H i j,Rp r H (g' i j) (g i j)):OpR X f (upO X.K Z (wI0 g')):=
 zfv h λx y H Qv ⟨r,S,dx,dy,Q,rel,px,py,q,ret⟩=>by
  cases px <;> cases py <;> first
   | exact⟨_,_,rfl,rfl,ret _ _ _ _ _ Ext.refl rel (hg _ _ _ _) q⟩
   | exact(show False from q).elim
abbrev wAdd:W2:=wI0 λi j=>.int (i+j)
abbrev wSub:W2:=wI0 λi j=>.int (i-j)
abbrev wMul:W2:=wI IntMulOk λi j=>.int (i*j)
def CFd (_ j:Int):Prop:=0<j∧j.natAbs.log2<9000
abbrev wFdiv:W2:=wI CFd λi j=>.int (i/j)
def CFn (_ j:Int):Prop:=j≠0∧j.natAbs.log2<9000
abbrev zvp:W2:=wI CFn λi j=>.int (i.fdiv j)
abbrev wMod:W2:=wI (λ_ j=>0<j) λi j=>.int (i%j)
abbrev wPow:W2:=wI CPow λi j=>.int (i^j.toNat)
theorem zdR:OpR X (binaryOp .Add) (upO X.K Z wAdd):=ze5 zqj λ_ _ _ _=>.int _
theorem zkV:OpR X (binaryOp .Sub) (upO X.K Z wSub):=ze5 zsx λ_ _ _ _=>.int _
theorem zdm:OpR X (binaryOp .Mult) (upO X.K Z wMul):=opD (opI λ_ _ _ _ _ _ _ hc q=>mul_int q hc) λ_ _ _ _=>.int _
theorem zm7:OpR X (binaryOp .FloorDiv) (upO X.K Z wFdiv):=opD (opI λi j _ _ _ _ _ hc q=>floordiv_int (by have h:0<j:=hc.1; omega) (by have h:0<j:=hc.1; rw[Int.fdiv_eq_ediv_of_nonneg i (by omega)]; exact q) (.inl (PyProof.noPylong_of_log2 hc.2))) λ_ _ _ _=>.int _
theorem zox:OpR X (binaryOp .FloorDiv) (upO X.K Z zvp):=opD (opI λ_ _ _ _ _ _ _ hc q=>floordiv_int hc.1 q (.inl (PyProof.noPylong_of_log2 hc.2))) λ_ _ _ _=>.int _
theorem zgQ:OpR X (binaryOp .Mod) (upO X.K Z wMod):=opD ztJ λ_ _ _ _=>.int _
theorem zsW:OpR X (binaryOp .Pow) (upO X.K Z wPow):=opD zuO λ_ _ _ _=>.int _
abbrev wLt:W2:=wI0 λi j=>.bl (decide (i<j))
abbrev wLe:W2:=wI0 λi j=>.bl (decide (i≤j))
abbrev wGt:W2:=wI0 λi j=>.bl (decide (j<i))
abbrev wGe:W2:=wI0 λi j=>.bl (decide (j≤i))
theorem zei:OpR X (compareOp .Lt) (upO X.K Z wLt):=ze5 op_lt λ_ _ _ _=>.bl _
theorem zoM:OpR X (compareOp .LtE) (upO X.K Z wLe):=ze5 op_le λ_ _ _ _=>.bl _
theorem zhv:OpR X (compareOp .Gt) (upO X.K Z wGt):=ze5 op_gt λ_ _ _ _=>.bl _
theorem zng:OpR X (compareOp .GtE) (upO X.K Z wGe):=ze5 op_ge λ_ _ _ _=>.bl _
def wNeg:W1:=λx S Q=>match x with
 | .int i=>Q (.int (-i)) S
 | _=>False
theorem zra:UnR X (unaryOp .USub) (upU X.K Z wNeg):=zto zur λx H Qv ⟨r,S,dx,Q,rel,px,q,ret⟩=>by
 cases px <;> first
  | exact⟨_,rfl,ret _ _ _ _ _ Ext.refl rel (.int _) q⟩
  | exact(show False from q).elim
end
def eqF:D→D→Option Bool
 | .non,.non=>some true
 | .bl i,.bl j=>some (i==j)
 | .int i,.int j=>some (decide (i=j))
 | .str i,.str j=>some (decide (i=j))
 | .non,.int _=>some false | .int _,.non=>some false | .non,.bl _=>some false | .bl _,.non=>some false | .non,.str _=>some false | .str _,.non=>some false
 | .int _,.str _=>some false | .str _,.int _=>some false | .bl _,.str _=>some false | .str _,.bl _=>some false
 | _,_=>none
def eqL (f:D→D→Option Bool):List D→List D→Option Bool
 | [],[]=>some true
 | x::xs,y::ys=>match f x y,eqL f xs ys with
  | some b,some c=>some (b&&c)
  | _,_=>none
 | _,_=>some false
def eqT (f:D→D→Option Bool):D→D→Option Bool
 | .tup xs,.tup ys=>eqL f xs ys
 | x,y=>eqF x y
abbrev eq1:D→D→Option Bool:=eqT eqF
abbrev eq2:D→D→Option Bool:=eqT eq1
def zdU (n:Nat)(f:D→D→Option Bool):Prop:=∀(X:Cx) (pins:List (Addr×Obj)) (σ:St) (H:Hp) (s:Shared) (r:List Addr) (A:Around) (dx dy:D) (x y:V) (u v:Value) (b:Bool),
 Inv X pins σ H s→A.units+n<cLine→Rp r H dx x→Rp r H dy y→zam x u→zam y v→f dx dy=some b→SeqAt.EqAt A s u v b
def zft (f:D→D→Option Bool):Prop:=∀(r:List Addr) (H:Hp) (dx dy:D) (x:V) (b:Bool),Rp r H dx x→Rp r H dy x→f dx dy=some b→b=true
theorem ze4:zft eqF:=by
 intro r H dx dy x b px py e
 cases px <;> cases py <;> simp[eqF] at e <;> first | exact e.symm | exact e
theorem zoZ {f:D→D→Option Bool}(hf:zft f){r:List Addr}{H:Hp}:∀ {xs ys:List D} {vs:List V} {b:Bool},Rps r H xs vs→Rps r H ys vs→eqL f xs ys=some b→b=true
 | [],[],_,b,_,_,e=>by simp[eqL] at e; exact e
 | [],y::ys,vs,b,p,q,e=>by
  have h1:=p.unnil
  subst h1
  exact absurd q.1 (by simp)
 | x::xs,[],vs,b,p,q,e=>by
  have h1:=q.unnil
  subst h1
  exact absurd p.1 (by simp)
 | x::xs,y::ys,vs,b,p,q,e=>by
  obtain⟨v,vs',rfl,p1,p2⟩:=p.uncons
  obtain⟨q1,q2⟩:=q.tail
  unfold eqL at e
  split at e
  ·rename_i b1 c1 e1 e2
   have h1:=hf r H x y v b1 p1 q1 e1
   have h2:=zoZ hf p2 q2 e2
   subst h1; subst h2
   simp at e
   exact e
  ·cases e
theorem zpE {f:D→D→Option Bool}(hf:zft f):zft (eqT f):=by
 intro r H dx dy x b px py e
 cases px with
 | tup e1 l1 f1=>
  cases py with
  | tup e2 l2 f2=>
   rw[e1] at e2; cases e2
   exact zoZ hf ⟨l1,f1⟩ ⟨l2,f2⟩ e
  | ref h=>simp[eqT,eqF] at e
  | exc h=>simp[eqT,eqF] at e
 | non=>exact ze4 r H _ _ _ b .non py (by cases py <;> exact e)
 | bl i=>exact ze4 r H _ _ _ b (.bl i) py (by cases py <;> exact e)
 | int i=>exact ze4 r H _ _ _ b (.int i) py (by cases py <;> exact e)
 | str i=>exact ze4 r H _ _ _ b (.str i) py (by cases py <;> exact e)
 | ref h=>cases py <;> simp[eqT,eqF] at e
 | exc h=>cases py <;> simp[eqT,eqF] at e
theorem zlX (n:Nat):zdU n eqF:=by
 intro X pins σ H s r A dx dy x y u v b I hu px py rx ry e
 have fin:∀ {x y:V},zam x u→zam y v→zcY x=true→zcY y=true→eqV x y=b→SeqAt.EqAt A s u v b:=λrx ry fx fy e'=>by
  subst e'; exact zod rx ry fx fy
 cases px <;> cases py <;> simp[eqF] at e <;> refine fin rx ry rfl rfl ?_ <;> simp[eqV,e] <;> first | exact e | (subst e; simp) | skip
theorem zeA {X:Cx}{pins:List (Addr×Obj)}{σ:St}{H:Hp}{s:Shared}{a:Addr}{xs:List V}(I:Inv X pins σ H s)(h:H a=some (.tup xs)):∃its:List Value,zal xs its∧IsTup s.heap a its.toArray∧xs.length≤sizeLine:=I.tuple (SqT.of h)
def zcB (f:D→D→Option Bool)(xs ys:List D)(j:Nat):Bool:=match xs[j]?,ys[j]? with
 | some x,some y=>(f x y).getD false
 | _,_=>false
theorem zoJ {f:D→D→Option Bool}:∀ {xs ys:List D} {b:Bool},eqL f xs ys=some b→(∀(j:Nat) (x y:D),xs[j]?=some x→ys[j]?=some y→∃c,f x y=some c)∧((List.range (min xs.length ys.length)).all (zcB f xs ys)&&xs.length==ys.length)=b
 | [],[],b,e=>by simp[eqL] at e; subst e; simp
 | [],y::ys,b,e=>by simp[eqL] at e; subst e; simp
 | x::xs,[],b,e=>by simp[eqL] at e; subst e; simp
 | x::xs,y::ys,b,e=>by
  unfold eqL at e
  split at e
  ·rename_i b1 c1 e1 e2
   obtain⟨h1,h2⟩:=zoJ e2
   refine⟨λj p q hp hq=>?_,?_⟩
   ·cases j with
    | zero=>simp at hp hq; subst hp; subst hq; exact⟨b1,e1⟩
    | succ j=>exact h1 j p q (by simpa using hp) (by simpa using hq)
   ·have z:min (x::xs).length (y::ys).length=min xs.length ys.length+1:=by simp[Nat.succ_min_succ]
    rw[z,List.range_succ_eq_map,List.all_cons,List.all_map]
    have e0:zcB f (x::xs) (y::ys) 0=b1:=by simp[zcB,e1]
    have es:(zcB f (x::xs) (y::ys) ∘ Nat.succ)=zcB f xs ys:=by funext j; simp[zcB]
    rw[e0,es]
    have e3:((x::xs).length==(y::ys).length)=(xs.length==ys.length):=by simp
    rw[e3,Bool.and_assoc,h2]
    simp at e
    exact e
  ·cases e
theorem zgS {n:Nat}{f:D→D→Option Bool}(hf:zdU n f){X:Cx}{pins:List (Addr×Obj)}{σ:St}{H:Hp}{s:Shared}{r:List Addr}{A:Around}{xs ys:List D}{us vs:List V}{is js:List Value}{b:Bool}
  (I:Inv X pins σ H s)(hu:A.units+n<cLine)(p:Rps r H xs us)(q:Rps r H ys vs)(ri:zal us is)(rj:zal vs js)(e:eqL f xs ys=some b):
  (∀j (h1:j<is.toArray.size) (h2:j<js.toArray.size),SeqAt.EqAt A s is.toArray[j] js.toArray[j] (zcB f xs ys j))∧((List.range (min is.toArray.size js.toArray.size)).all (zcB f xs ys)&&is.toArray.size==js.toArray.size)=b:=by
 obtain⟨h1,h2⟩:=zoJ e
 have l1:is.toArray.size=xs.length:=by rw[Vap,← ri.length,p.1]
 have l2:js.toArray.size=ys.length:=by rw[Vap,← rj.length,q.1]
 refine⟨λj hj1 hj2=>?_,by rw[l1,l2]; exact h2⟩
 have k1:j<xs.length:=by omega
 have k2:j<ys.length:=by omega
 have g1:xs[j]?=some xs[j]:=by simp[k1]
 have g2:ys[j]?=some ys[j]:=by simp[k2]
 obtain⟨x,gx,px⟩:=p.get g1
 obtain⟨y,gy,py⟩:=q.get g2
 obtain⟨u,gu,ru⟩:=ri.get gx
 obtain⟨v,gv,rv⟩:=rj.get gy
 obtain⟨c,hc⟩:=h1 j _ _ g1 g2
 have eu:is.toArray[j]=u:=by
  have z:=Vaf.mp gu
  simpa using z.2
 have ev:js.toArray[j]=v:=by
  have z:=Vaf.mp gv
  simpa using z.2
 have ec:zcB f xs ys j=c:=by simp[zcB,g1,g2,hc]
 rw[eu,ev,ec]
 exact hf X pins σ H s r A _ _ x y u v c I hu px py ru rv hc
theorem zoG {n:Nat}{f:D→D→Option Bool}(hf:zdU n f)(hs:zft f):zdU (n+1) (eqT f):=by
 intro X pins σ H s r A dx dy x y u v b I hu px py rx ry e
 have zaF:∀ {dx dy:D} {x y:V},Rp r H dx x→Rp r H dy y→zam x u→zam y v→eqF dx dy=some b→SeqAt.EqAt A s u v b:=λpx py rx ry e=>zlX (n+1) X pins σ H s r A _ _ _ _ u v b I hu px py rx ry e
 cases px with
 | @tup ds xs a e1 l1 f1=>
  cases py with
  | @tup es ys a' e2 l2 f2=>
   cases rx
   cases ry
   by_cases z:a=a'
   ·subst z
    have hb:=zpE hs r H _ _ _ b (.tup e1 l1 f1) (.tup e2 l2 f2) e
    subst hb
    exact SeqAt.EqAt.same _
   ·obtain⟨is,ri,ti,_⟩:=zeA I e1
    obtain⟨js,rj,tj,_⟩:=zeA I e2
    obtain⟨g1,g2⟩:=zgS (A:=A.in1) hf I (by show A.units+1+n<_; omega) ⟨l1,f1⟩ ⟨l2,f2⟩ ri rj e
    have q:=SeqAt.RcAt.tuples (A:=A) ti tj (by omega) g1
    rw[g2] at q
    exact SeqAt.EqAt.of_refs z q
  | ref h=>simp[eqT,eqF] at e
  | _=>simp[eqT,eqF] at e
 | non=>exact zaF .non py rx ry (by cases py <;> exact e)
 | bl i=>exact zaF (.bl i) py rx ry (by cases py <;> exact e)
 | int i=>exact zaF (.int i) py rx ry (by cases py <;> exact e)
 | str i=>exact zaF (.str i) py rx ry (by cases py <;> exact e)
 | ref h=>cases py <;> simp[eqT,eqF] at e
 | exc h=>cases py <;> simp[eqT,eqF] at e
theorem zny (n:Nat):zdU (n+1) eq1:=zoG (zlX n) ze4
def wEq (f:D→D→Option Bool):W2:=λx y S Q=>match f x y with
 | some b=>Q (.bl b) S
 | none=>False
def wNe (f:D→D→Option Bool):W2:=λx y S Q=>match f x y with
 | some b=>Q (.bl (!b)) S
 | none=>False
section
variable {X:Cx}{Z:Zx}
theorem znp {r:List Addr}{H:Hp}{dx dy:D}{x y:V}{b:Bool}(px:Rp r H dx x)(py:Rp r H dy y)(e:eqF dx dy=some b):zlw x y=true∧decide (x=y)=b:=by
 cases px <;> cases py <;> simp[eqF] at e <;> simp[zlw] <;> first | exact e | (subst e; simp) | skip
theorem zof {n:Nat}{f:D→D→Option Bool}(hf:zdU n f)(hu:X.A.units+1+n<cLine):OpR X (compareOp .Eq) (upO X.K Z (wEq (eqT f))):=by
 intro pins s σ H x y v u Qv I rx ry h
 obtain⟨r,S,dx,dy,Q,rel,px,py,q,ret⟩:=h
 unfold wEq at q
 split at q
 ·rename_i b e
  have zaF:∀ {dx dy:D} {x y:V},Rp r H dx x→Rp r H dy y→zam x v→zam y u→eqF dx dy=some b→wpAny (model X.prog X.w) X.A (compareOp .Eq v u) (EP X pins σ Qv) X.xe s:=λpx py rx ry e=>by
   obtain⟨h1,h2⟩:=znp px py e
   refine zl9 pins s σ H _ _ v u Qv I rx ry ⟨h1,?_⟩
   rw[h2]
   exact ret _ _ _ _ _ Ext.refl rel (.bl b) q
  cases px with
  | @tup ds xs a e1 l1 f1=>
   cases py with
   | @tup es ys a' e2 l2 f2=>
    cases rx
    cases ry
    obtain⟨is,ri,ti,_⟩:=zeA I e1
    obtain⟨js,rj,tj,_⟩:=zeA I e2
    obtain⟨g1,g2⟩:=zgS (A:=X.A.in1) hf I (by show X.A.units+1+n<_; omega) ⟨l1,f1⟩ ⟨l2,f2⟩ ri rj e
    refine SeqAt.eq_tupleAt (A:=X.A) ti tj (by omega) g1 ?_
    rw[g2]
    exact⟨.bl b,H,I,rfl,ret _ _ _ _ _ Ext.refl rel (.bl b) q⟩
   | _=>simp[eqT,eqF] at e
  | non=>exact zaF .non py rx ry (by cases py <;> exact e)
  | bl i=>exact zaF (.bl i) py rx ry (by cases py <;> exact e)
  | int i=>exact zaF (.int i) py rx ry (by cases py <;> exact e)
  | str i=>exact zaF (.str i) py rx ry (by cases py <;> exact e)
  | ref h=>cases py <;> simp[eqT,eqF] at e
  | exc h=>cases py <;> simp[eqT,eqF] at e
 ·exact q.elim
theorem zpW {n:Nat}{f:D→D→Option Bool}(hf:zdU n f)(hu:X.A.units+1+n<cLine):OpR X (compareOp .NotEq) (upO X.K Z (wNe (eqT f))):=by
 intro pins s σ H x y v u Qv I rx ry h
 obtain⟨r,S,dx,dy,Q,rel,px,py,q,ret⟩:=h
 unfold wNe at q
 split at q
 ·rename_i b e
  have zaF:∀ {dx dy:D} {x y:V},Rp r H dx x→Rp r H dy y→zam x v→zam y u→eqF dx dy=some b→wpAny (model X.prog X.w) X.A (compareOp .NotEq v u) (EP X pins σ Qv) X.xe s:=λpx py rx ry e=>by
   obtain⟨h1,h2⟩:=znp px py e
   refine op_ne pins s σ H _ _ v u Qv I rx ry ⟨h1,?_⟩
   rw[h2]
   exact ret _ _ _ _ _ Ext.refl rel (.bl (!b)) q
  cases px with
  | @tup ds xs a e1 l1 f1=>
   cases py with
   | @tup es ys a' e2 l2 f2=>
    cases rx
    cases ry
    obtain⟨is,ri,ti,_⟩:=zeA I e1
    obtain⟨js,rj,tj,_⟩:=zeA I e2
    obtain⟨g1,g2⟩:=zgS (A:=X.A.in1) hf I (by show X.A.units+1+n<_; omega) ⟨l1,f1⟩ ⟨l2,f2⟩ ri rj e
    refine SeqAt.RcNeAt.tuples (A:=X.A) ti tj (by omega) g1 X.prog X.w _ _ ?_
    rw[g2]
    exact⟨.bl (!b),H,I,rfl,ret _ _ _ _ _ Ext.refl rel (.bl (!b)) q⟩
   | _=>simp[eqT,eqF] at e
  | non=>exact zaF .non py rx ry (by cases py <;> exact e)
  | bl i=>exact zaF (.bl i) py rx ry (by cases py <;> exact e)
  | int i=>exact zaF (.int i) py rx ry (by cases py <;> exact e)
  | str i=>exact zaF (.str i) py rx ry (by cases py <;> exact e)
  | ref h=>cases py <;> simp[eqT,eqF] at e
  | exc h=>cases py <;> simp[eqT,eqF] at e
 ·exact q.elim
theorem zaH {k:Nat}(hr:zaC k X.A):OpR X (compareOp .Eq) (upO X.K Z (wEq eq2)):=zof (zny 0) (by have:=hr.un; omega)
theorem zcc {k:Nat}(hr:zaC k X.A):OpR X (compareOp .NotEq) (upO X.K Z (wNe eq2)):=zpW (zny 0) (by have:=hr.un; omega)
end
section
variable {X:Cx}{Z:Zx}{a b c:Expr}{ta tb tc:TDE}{pos:Pos}{zbc:List Expr}
def zcG (t:TDE):TDT:=λdl S Q=>t dl S λd S'=>match d with
 | .bl k=>Q k S'
 | _=>False
theorem zfT {K:PySem.W.Frag}{Z:Zx}{r:List Addr}{H:Hp}{Q:Bool→Sto→Prop}{Qb:Bool→Hp→Prop}(h:∀b H' r' S',Ext r r' H H'→Rel K Z r' S' H'→Q b S'→Qb b H'):
  Ret K Z r H (λd S'=>match d with | .bl k=>Q k S' | _=>False) (λx H'=>∃k,x=.bl k∧Qb k H'):=λv H' r' d S' e rel p q=>by
 cases p with
 | bl k=>exact⟨k,rfl,h k H' r' S' e rel q⟩
 | _=>exact(show False from q).elim
theorem zar {op:CmpOp}{w:W2}(ho:OpR X (compareOp op) (upO X.K Z w))(ha:PD X Z a ta)(hb:PD X Z b tb)(hm:behindInMarks op b=false):PDT X Z (.Compare a [op] [b] pos) (zcG (dOp w ta tb)):=
 zeu (zvm ho ha hb hm) λσ H Qb ⟨r,dl,S,Q,rs,rel,h,ret⟩=>zjD ⟨r,dl,S,_,rs,rel,h,zfT ret⟩
theorem zbx {e:Expr}{t:TDE}(h:PD X Z e t)(he:∀whole,isTrue e X.env whole=(do let v ← whole; standAt e.pos; holding [v] (truthy v)):=by intro _; rfl):PDT X Z e (zcG t):=
 zeu (zvr h he) λσ H Qb ⟨r,dl,S,Q,rs,rel,h,ret⟩=>⟨r,dl,S,_,rs,rel,h,zfT ret⟩
def dNot (t:TDT):TDT:=λdl S Q=>t dl S λk S'=>Q (!k) S'
theorem zck {t:TDT}(ha:PDT X Z a t):PDT X Z (.UnaryOp .Not a pos) (dNot t):=
 zeu (zuL ha) λσ H Qb ⟨r,dl,S,Q,rs,rel,h,ret⟩=>⟨r,dl,S,_,rs,rel,h,λk H' r' S' e rel' q=>ret (!k) H' r' S' e rel' q⟩
def dAnd (t u:TDT):TDT:=λdl S Q=>t dl S λk S1=>if k=true then u dl S1 Q else Q false S1
def dOr (t u:TDT):TDT:=λdl S Q=>t dl S λk S1=>if k=true then Q true S1 else u dl S1 Q
theorem zo9 {t:TDT}(ha:PDT X Z a t):PDW X Z (.BoolOp .And [a] pos) t:=zvi ha
theorem zcp {t:TDT}(ha:PDT X Z a t):PDW X Z (.BoolOp .Or [a] pos) t:=zvQ ha
theorem zoQ {t u:TDT}(ha:PDT X Z a t)(hb:PDW X Z (.BoolOp .And (b::zbc) pos) u):PDW X Z (.BoolOp .And (a::b::zbc) pos) (dAnd t u):=
 zqd (zqi ha hb) λσ H Qb ⟨r,dl,S,Q,rs,rel,h,ret⟩=>⟨r,dl,S,_,rs,rel,h,λk H1 r1 S1 e1 rel1 q1=>by
  cases k with
  | true=>exact zbZ ⟨r1,dl,S1,Q,rs.ext e1,rel1,(by simpa using q1),λk' H2 r2 S2 e2=>ret k' H2 r2 S2 (e1.trans e2)⟩
  | false=>exact zcn (ret false H1 r1 S1 e1 rel1 (by simpa using q1))⟩
theorem zbI {t u:TDT}(ha:PDT X Z a t)(hb:PDW X Z (.BoolOp .Or (b::zbc) pos) u):PDW X Z (.BoolOp .Or (a::b::zbc) pos) (dOr t u):=
 zqd (pw_or ha hb) λσ H Qb ⟨r,dl,S,Q,rs,rel,h,ret⟩=>⟨r,dl,S,_,rs,rel,h,λk H1 r1 S1 e1 rel1 q1=>by
  cases k with
  | true=>exact zbZ (ret true H1 r1 S1 e1 rel1 (by simpa using q1))
  | false=>exact zcn ⟨r1,dl,S1,Q,rs.ext e1,rel1,(by simpa using q1),λk' H2 r2 S2 e2=>ret k' H2 r2 S2 (e1.trans e2)⟩⟩
def zp9 (ta tb:TDE):TDE:=λdl S Q=>ta dl S λx S1=>match x with
 | .bl k=>if k=true then tb dl S1 Q else Q (.bl false) S1
 | _=>False
def dOrV (ta tb:TDE):TDE:=λdl S Q=>ta dl S λx S1=>match x with
 | .bl k=>if k=true then Q (.bl true) S1 else tb dl S1 Q
 | _=>False
def znn (ta:TDE):TDE:=λdl S Q=>ta dl S λx S1=>match x with
 | .bl k=>Q (.bl (!k)) S1
 | _=>False
theorem zgu {op}{t:TDE}(h:PD X Z a t):PD X Z (.BoolOp op [a] pos) t:=ztR h
theorem zgp (ha:PD X Z a ta)(hb:PD X Z (.BoolOp .And (b::zbc) pos) tb):PD X Z (.BoolOp .And (a::b::zbc) pos) (zp9 ta tb):=
 zaJ (zuz ha hb) λσ H Qv ⟨r,dl,S,Q,rs,rel,h,ret⟩=>⟨r,dl,S,_,rs,rel,h,λv H1 r1 d S1 e1 rel1 p q1=>by
  cases p with
  | bl k=>
   refine⟨k,rfl,?_⟩
   cases k with
   | true=>exact zbZ ⟨r1,dl,S1,Q,rs.ext e1,rel1,(by simpa using q1),ret.ext e1⟩
   | false=>exact zcn (ret _ H1 r1 (.bl false) S1 e1 rel1 (.bl false) (by simpa using q1))
  | _=>exact(show False from q1).elim⟩
theorem zlN (ha:PD X Z a ta):PD X Z (.UnaryOp .Not a pos) (znn ta):=
 zaJ (zs3 ha) λσ H Qv ⟨r,dl,S,Q,rs,rel,h,ret⟩=>⟨r,dl,S,_,rs,rel,h,λv H1 r1 d S1 e1 rel1 p q1=>by
  cases p with
  | bl k=>exact⟨k,rfl,ret _ H1 r1 (.bl (!k)) S1 e1 rel1 (.bl (!k)) q1⟩
  | _=>exact(show False from q1).elim⟩
def dIfE (t:TDT)(ta tb:TDE):TDE:=λdl S Q=>t dl S λk S1=>if k=true then ta dl S1 Q else tb dl S1 Q
theorem znj {t:TDT}(hc:PDT X Z c t)(ha:PD X Z a ta)(hb:PD X Z b tb):PD X Z (.IfExp c a b pos) (dIfE t ta tb):=
 zaJ (zvo hc ha hb) λσ H Qv ⟨r,dl,S,Q,rs,rel,h,ret⟩=>⟨r,dl,S,_,rs,rel,h,λk H1 r1 S1 e1 rel1 q1=>by
  cases k with
  | true=>exact zbZ ⟨r1,dl,S1,Q,rs.ext e1,rel1,(by simpa using q1),ret.ext e1⟩
  | false=>exact zcn ⟨r1,dl,S1,Q,rs.ext e1,rel1,(by simpa using q1),ret.ext e1⟩⟩
def zlB (w w':W2)(ta tb tc:TDE):TDE:=λdl S Q=>ta dl S λx S1=>tb dl S1 λy S2=>w x y S2 λz S3=>match z with
 | .bl k=>if k=true then tc dl S3 λu S4=>w' y u S4 Q else Q (.bl false) S3
 | _=>False
theorem zsU {w w':W2}{σ:St}{H:Hp}{Qv:VK}(h:up X.K Z (zlB w w' ta tb tc) σ H Qv):zop (upO X.K Z w) (upO X.K Z w') (up X.K Z ta) (up X.K Z tb) (up X.K Z tc) σ H Qv:=by
 obtain⟨r,dl,S,Q,rs,rel,h,ret⟩:=h
 refine⟨r,dl,S,_,rs,rel,h,λv H1 r1 dx S1 e1 rel1 p1 h1=>⟨r1,dl,S1,_,rs.ext e1,rel1,h1,λv2 H2 r2 dy S2 e2 rel2 p2 h2=>⟨r2,S2,dx,dy,_,rel2,p1.ext e2,p2,h2,λv3 H3 r3 dz S3 e3 rel3 p3 h3=>?_⟩⟩⟩
 cases p3 with
 | bl k=>
  refine⟨k,rfl,?_⟩
  cases k with
  | true=>exact zbZ ⟨r3,dl,S3,_,rs.ext (e1.trans (e2.trans e3)),rel3,(by simpa using h3),λv4 H4 r4 du S4 e4 rel4 p4 h4=>⟨r4,S4,dy,du,Q,rel4,(p2.ext e3).ext e4,p4,h4,ret.ext (e1.trans (e2.trans (e3.trans e4)))⟩⟩
  | false=>exact zcn (ret _ H3 r3 (.bl false) S3 (e1.trans (e2.trans e3)) rel3 (.bl false) (by simpa using h3))
 | _=>exact(show False from h3).elim
theorem zr5 {op op':CmpOp}{w w':W2}(ho:OpR X (compareOp op) (upO X.K Z w))(ho':OpR X (compareOp op') (upO X.K Z w'))(ha:PD X Z a ta)(hb:PD X Z b tb)(hc:PD X Z c tc)
  (hm:lastMarks [op,op'] [b,c]=false:=by with_unfolding_all rfl):PD X Z (.Compare a [op,op'] [b,c] pos) (zlB w w' ta tb tc):=zaJ (zwx ho ho' ha hb hc hm) λ_ _ _ h=>zsU h
def zoP:D→Bool
 | .non=>true
 | _=>false
def wIsN:W2:=λx y S Q=>match y with
 | .non=>Q (.bl (zoP x)) S
 | _=>False
def wNotN:W2:=λx y S Q=>match y with
 | .non=>Q (.bl (!zoP x)) S
 | _=>False
variable {e:Expr}{es:List Expr}
def zbY:TDA:=λ_ S Q=>Q [] S
def zb0 (ta:TDE)(tr:TDA):TDA:=λdl S Q=>ta dl S λx S1=>tr dl S1 λxs S2=>Q (x::xs) S2
theorem zae:PDA X Z [] zbY:=zpV zfm λσ H Qv ⟨r,dl,S,Q,rs,rel,h,ret⟩=>ret [] H r [] S Ext.refl rel Rps.nil h
theorem zaa {te:TDE}{t:TDA}(ha:PD X Z e te)(hr:PDA X Z es t)(hs:starEach (e::es) X.env=(false,eval e X.env)::starEach es X.env:=by rfl):PDA X Z (e::es) (zb0 te t):=
 zpV (zdX ha hr hs) λσ H Qv ⟨r,dl,S,Q,rs,rel,h,ret⟩=>⟨r,dl,S,_,rs,rel,h,λv H1 r1 d S1 e1 rel1 p1 h1=>⟨r1,dl,S1,_,rs.ext e1,rel1,h1,λvs H2 r2 ds S2 e2 rel2 p2 h2=>
  ret (v::vs) H2 r2 (d::ds) S2 (e1.trans e2) rel2 (Rps.cons (p1.ext e2) p2) h2⟩⟩
def zkm (t:TDA):TDE:=λdl S Q=>t dl S λds S1=>if ds.length≤1000 then Q (.tup ds) S1 else False
def zj9 (t:TDA):TDE:=λdl S Q=>t dl S λds S1=>if ds.length≤1000 then Q (.ref S1.length) (S1++[.lst ds]) else False
theorem zhT {A:Prop}{p:Prop} [Decidable p] (h:if p then A else False):p∧A:=by
 split at h
 ·exact⟨by assumption,h⟩
 ·exact h.elim
theorem zb5 {n:Nat}(h:n≤1000):n≤sizeLine:=VaC (zie h)
theorem zbd {x1}{t:TDA}(h:PDA X Z es t):PD X Z (.Tuple es x1 pos) (zkm t):=
 zaJ (zsG h) λσ H Qv ⟨r,dl,S,Q,rs,rel,h,ret⟩=>⟨r,dl,S,_,rs,rel,h,λvs H1 r1 ds S1 e1 rel1 p1 h1=>by
  obtain⟨hl,h1⟩:=zhT h1
  refine⟨by rw[← p1.1]; exact zb5 hl,λp hp=>?_⟩
  have x:Ext r1 r1 H1 (upd H1 p (.tup vs)):=⟨λ_ _ q=>q,λa xs q=>zcV hp _ _ q,λa c q=>zcV hp _ _ q⟩
  exact ret _ _ r1 (.tup ds) S1 (e1.trans x) (rel1.same (zcV hp)) ((p1.ext x).tupR zbR) h1⟩
theorem zc0 {r:List Addr}{p:Addr}{H:Hp}{n:Nat}(h:r.length=n):Rp (r++[p]) H (.ref n) (.ref p):=.ref (by subst h; simp)
theorem zaX {t:TDA}(h:PDA X Z es t):PD X Z (.List es pos) (zj9 t):=
 zaJ (ztj h) λσ H Qv ⟨r,dl,S,Q,rs,rel,h,ret⟩=>⟨r,dl,S,_,rs,rel,h,λvs H1 r1 ds S1 e1 rel1 p1 h1=>by
  obtain⟨hl,h1⟩:=zhT h1
  refine⟨by rw[← p1.1]; exact zb5 hl,λp hp=>?_⟩
  obtain⟨rel2,x⟩:=rel1.push hp p1
  exact ret _ _ _ (.ref S1.length) _ (e1.trans x) rel2 (zc0 rel1.len) h1⟩
def wIx:W2:=λx y S Q=>match x,y with
 | .tup xs,.int i=>match atI xs i with
  | some d=>Q d S
  | none=>False
 | .ref n,.int i=>match lAt S n with
  | some o=>match atI (zax o) i with
   | some d=>Q d S
   | none=>False
  | none=>False
 | _,_=>False
theorem zpt {r:List Addr}{H:Hp}{ds:List D}{vs:List V}{i:Int}{d:D}(h:Rps r H ds vs)(e:atI ds i=some d):∃v,atI vs i=some v∧Rp r H d v:=by
  unfold atI at e ⊢
  rw[← h.1]
  cases q:ixN ds.length i with
  | none=>
   rw[q] at e
   cases e
  | some j=>
    rw[q] at e
    exact h.get e
theorem do_ix:IxR X (upO X.K Z wIx):=by
 intro value slice pins s σ H x y v u Qv I rx ry h hs
 obtain⟨r,S,dx,dy,Q,rel,px,py,q,ret⟩:=h
 cases px with
 | @tup ds xs a e1 l1 f1=>
  cases py with
  | int i=>
   have q':(match atI ds i with | some d=>Q d S | none=>False):=q
   split at q'
   ·rename_i d e
    obtain⟨w,hw,pw⟩:=zpt ⟨l1,f1⟩ e
    exact zvV value slice pins s σ H _ _ v u Qv I rx ry ⟨a,xs,i,w,rfl,rfl,SqT.of e1,hw,ret w H r d S Ext.refl rel pw q'⟩ hs
   ·exact q'.elim
  | _=>exact(show False from q).elim
 | @ref n a e1=>
  cases py with
  | int i=>
   have q':(match lAt S n with | some o=>(match atI (zax o) i with | some d=>Q d S | none=>False) | none=>False):=q
   split at q'
   ·rename_i o eo
    obtain⟨eo,eL⟩:=zcr eo
    obtain⟨a',ha,ob⟩:=rel.at eo
    rw[e1] at ha; cases ha
    obtain⟨xs,sq,pr⟩:=ob.list eL
    split at q'
    ·rename_i d e
     obtain⟨w,hw,pw⟩:=zpt pr e
     exact zrE value slice pins s σ H _ _ v u Qv I rx ry ⟨a,xs,i,w,rfl,rfl,sq,hw,ret w H r d S Ext.refl rel pw q'⟩ hs
    ·exact q'.elim
   ·exact q'.elim
  | _=>exact(show False from q).elim
 | _=>exact(show False from q).elim
theorem zan (ha:PD X Z a ta)(hb:PD X Z b tb)(hs:zjg b):PD X Z (.Subscript a b pos) (dOp wIx ta tb):=zaJ (pe_ix do_ix ha hb hs) λ_ _ _ h=>zjD h
end
theorem znl {P:Program}{w:World}{H:Hp}{h:Heap}{a:Addr}:∀ {o:HO},za7 P w H h a o→∃ob,h.get? a=some ob
 | .lst _,x=>by obtain⟨_,_,_,_,e⟩:=x; exact⟨_,e⟩
 | .tup _,x=>by obtain⟨_,_,_,ob,e,_⟩:=x; exact⟨ob,e⟩
 | .dK _,x=>by obtain⟨_,_,_,_,ob,_,_,e,_⟩:=x; exact⟨ob,e⟩
 | .dT _,x=>by obtain⟨_,_,_,_,ob,_,_,e,_⟩:=x; exact⟨ob,e⟩
 | .set _ _,x=>by obtain⟨ob,_,_,_,e,_⟩:=x; exact⟨ob,e⟩
 | .ins _ _ _,x=>by obtain⟨_,_,_,e,_⟩:=x; exact⟨_,e⟩
 | .own _,x=>x
 | .xd _,x=>by obtain⟨_,⟨ob,_,_,e,_⟩,_⟩:=x; exact⟨ob,e⟩
 | .rng _ _,x=>by obtain⟨_,_,_,e⟩:=x; exact⟨_,e⟩
 | .frz ob _,x=>⟨ob,x.1⟩
 | .tbl _,x=>⟨_,x⟩
 | .met _ _,x=>⟨_,x⟩
 | .ext _,x=>x.2.1
structure Bk (fs:List Addr)(H H':Hp)(B h:Heap)(ea:Addr):Prop where
 trk:∀b u,H' b=some u→∃o,B.get? b=some o
 old:∀b o,h.get? b=some o→H b=none→b ∉ fs→B.get? b=some o
 all:∀b o,h.get? b=some o→b ∉ fs→∃o',B.get? b=some o'
 new:H' ea=none
def CXE (P:Program)(w:World):CXT:=λouter H s E e s'=>∃(ea c:Addr) (a0:Value) (B:Heap) (H':Hp),e=.ref ea∧s'.os=s.os∧AllBare s'.gens∧Un (frs outer) [] H H' s.heap s'.heap∧HOk P w H' s'.heap∧
 Heap.FlyingW B outer ea (.ref c) a0 s'.heap∧Bk (frs outer) H H' B s.heap ea∧E (.ref c) none H'
theorem zov {P:Program}{w:World}{H':Hp}{B h h':Heap}(ok:HOk P w H' h)(trk:∀b u,H' b=some u→∃o,B.get? b=some o)(s1:B.StaysIn h)(s2:B.StaysIn h'):HOk P w H' h':=λa o e=>
 (ok a o e).stay (λb u hb q=>by
  have ht:∃z,H' b=some z:=by
   rcases hb with rfl | hb
   ·exact⟨o,e⟩
   ·exact⟨_,hb⟩
  obtain⟨z,hz⟩:=ht
  obtain⟨ob,eo⟩:=trk b z hz
  have:=s1 b ob eo
  rw[q] at this
  cases this
  exact s2 b u eo) (λ_ z=>z) λ_ _ z=>z
section
variable {X:Cx}{pins:List (Addr×Obj)}{σ:St}{H:Hp}{s:Shared}
theorem zkw {b:Addr}(I:Inv X pins σ H s)(hs:X.stack=X.env::X.outer)(hf:X.env.frame=some X.env.locals):b∈frs X.stack↔b=X.env.locals∨b∈X.fs:=by
 rw[hs]
 unfold frs
 rw[List.filterMap_cons,hf]
 exact Vab
theorem ztW {H':Hp}{B h':Heap}{s':Shared}{ea c:Addr}{a0:Value}(I:Inv X pins σ H s)(hex:X.ex=[])(hs:X.stack=X.env::X.outer)(hf:X.env.frame=some X.env.locals)
  (un:Un (frs X.stack) [] H H' s.heap s'.heap)(fl:Heap.FlyingW B (X.env::X.outer) ea (.ref c) a0 s'.heap)(fl':Heap.FlyingW B X.outer ea (.ref c) a0 h')(up:s'.heap.UpToSlots h')(bk:Bk (frs X.stack) H H' B s.heap ea):
  Un X.fs [] X.H₀ H' X.s₀.heap h'∧Bk X.fs X.H₀ H' B X.s₀.heap ea:=by
 have nx:∀b:Addr,b ∉ X.ex:=λb z=>by rw[hex] at z; exact absurd z (by simp)
 have nL:∀ {b:Addr} {o:Obj},X.s₀.heap.get? b=some o→b≠X.env.locals:=λ{b o} e=>Vak (Vai (Heap.lt_size e) I.ok.above)
 have nS:∀ {b:Addr} {o:Obj},X.s₀.heap.get? b=some o→b ∉ X.fs→b ∉ frs X.stack:=λ{b o} e hb z=>by
  rcases (zkw I hs hf).mp z with z | z
  ·exact nL e z
  ·exact hb z
 have old:∀b o,X.s₀.heap.get? b=some o→X.H₀ b=none→b ∉ X.fs→B.get? b=some o:=λb o e n hb=>bk.old b o (I.base.keep b o e n hb (nx b)) (I.base.free b o e n (nx b)) (nS e hb)
 have slot:∀b o,X.s₀.heap.get? b=some o→X.H₀ b=none→b∈X.fs→∃sl,h'.get? b=some { o with slots:=sl }:=λb o e n hb=>by
  obtain⟨s1,e1⟩:=I.base.slot b o e n hb (nx b)
  have hm:b∈frs X.stack:=(zkw I hs hf).mpr (.inr hb)
  obtain⟨s2,e2⟩:=un.slot b _ e1 (I.base.free b o e n (nx b)) hm (by simp)
  obtain⟨_,o3,e3,d3⟩:=fl.2.2.1.mem (show b∈(X.env::X.outer).filterMap (·.frame) by rw[← hs]; exact hm)
  rw[e2] at e3
  cases e3
  obtain⟨sl,e4⟩:=up b _ e2 d3
  exact⟨sl,e4⟩
 have all:∀b o,X.s₀.heap.get? b=some o→b ∉ X.fs→∃o',B.get? b=some o':=λb o e hb=>by
  obtain⟨o1,e1⟩:=I.base.there b o e (nx b)
  exact bk.all b o1 e1 (nS e hb)
 refine⟨⟨λb o e n hb _=>fl'.1 b o (old b o e n hb),λb o e n hb _=>slot b o e n hb,λb o e n _=>?_,λb o e _=>?_,λb xs e=>un.tups b xs (I.base.tups b xs e),λb ob u e=>un.frzs b ob u (I.base.frzs b ob u e),λb ps e=>?_⟩,⟨bk.trk,old,all,bk.new⟩⟩
 ·obtain⟨o1,e1⟩:=I.base.there b o e (nx b)
  exact un.free b o1 e1 (I.base.free b o e n (nx b)) (by simp)
 ·by_cases hb:b∈X.fs
  ·obtain⟨sl,e1⟩:=slot b o e (I.ok.frf b hb) hb
   exact⟨_,e1⟩
  ·obtain⟨o',e'⟩:=all b o e hb
   exact⟨o',fl'.1 _ _ e'⟩
 ·obtain⟨m1,e1⟩:=I.base.tbls b ps e
  obtain⟨m2,e2⟩:=un.tbls b _ e1
  exact⟨m1++m2,by rw[e2,Array.append_assoc]⟩
end
section
variable {P:Program}{w:World}{K:PySem.W.Frag}{mg:Str→Option Value}{base:Heap}{N:List Str}{qual:Str}{scope:Scope}{f:Addr}{cdv:Value}{A:Around}{outer:List Env}{s0:Shared}{H0:Hp}{E:XK}
theorem zwE:ze1 (CXE P w) (zbj (CXE P w) P w K mg base N qual scope f cdv A outer s0 H0 E) E:=by
 intro pins σ H s e s' I hq
 obtain⟨ea,c,a0,B,H',rfl,os,bare,un,hok,fl,bk,q⟩:=hq
 refine wpAny_leaves_onW I.ok.frames rfl fl λh' fl' up=>?_
 obtain⟨h1,h2⟩:=ztW I rfl rfl rfl un fl fl' up bk
 exact⟨ea,c,a0,B,H',rfl,os.trans I.os,bare,h1,zov hok bk.trk fl.1 fl'.1,fl',h2,q⟩
def zmw (X:Cx)(W:St→XK):Prop:=∀(pins:List (Addr×Obj)) (σ:St) (H:Hp) (s:Shared) (h':Heap) (e c:Addr) (vs:List Value),Inv X pins σ H s→Heap.MadeExcOf s.heap h' e (.ref c) vs→W σ (.ref c) none H→X.xe (.ref e) { s with heap:=h' }
theorem ztz:zmw (zbj (CXE P w) P w K mg base N qual scope f cdv A outer s0 H0 E) (λ_=>E):=by
 intro pins σ H s h' e c vs I hx q
 have inB:∀ {b:Addr} {o:Obj},s.heap.get? b=some o→b ∉ frs (zbj (CXE P w) P w K mg base N qual scope f cdv A outer s0 H0 E).stack→(PySem.W.hideAll s.heap (frs (zbj (CXE P w) P w K mg base N qual scope f cdv A outer s0 H0 E).stack)).get? b=some o:=λe hb=>PySem.W.hideAll_get _ e hb
 have hfr:s.heap.FunFrames (PySem.W.hideAll s.heap (frs (zbj (CXE P w) P w K mg base N qual scope f cdv A outer s0 H0 E).stack)) (zbj (CXE P w) P w K mg base N qual scope f cdv A outer s0 H0 E).stack:=
  PySem.W.funFrames_hide I.stack λenv he a hf=>List.mem_filterMap.mpr ⟨env,he,hf⟩
 have st:(PySem.W.hideAll s.heap (frs (zbj (CXE P w) P w K mg base N qual scope f cdv A outer s0 H0 E).stack)).StaysIn s.heap:=λb o z=>PySem.W.of_hideAll _ z
 have trk:∀b u,H b=some u→∃o,(PySem.W.hideAll s.heap (frs (zbj (CXE P w) P w K mg base N qual scope f cdv A outer s0 H0 E).stack)).get? b=some o:=λb u z=>by
  obtain⟨o,eo⟩:=znl (I.hok b u z)
  exact⟨o,inB eo λhb=>by rw[I.stkFree b hb] at z; cases z⟩
 have he:H e=none:=by
  cases z:H e with
  | none=>rfl
  | some u=>
   obtain⟨o,eo⟩:=znl (I.hok e u z)
   rw[hx.new] at eo; cases eo
 have bk:Bk (frs (zbj (CXE P w) P w K mg base N qual scope f cdv A outer s0 H0 E).stack) H H (PySem.W.hideAll s.heap (frs (zbj (CXE P w) P w K mg base N qual scope f cdv A outer s0 H0 E).stack)) s.heap e:=
  ⟨trk,λb o z _ hb=>inB z hb,λb o z hb=>⟨o,inB z hb⟩,he⟩
 refine wpAny_leaves_madeW I.ok.frames rfl st hfr hx λh2 t fl' _ _ up=>?_
 have un:Un (frs (zbj (CXE P w) P w K mg base N qual scope f cdv A outer s0 H0 E).stack) [] H H s.heap s.heap:=Un.refl
 have up':s.heap.UpToSlots h2:=(Heap.UpToSlots.of_keeps hx.keeps).trans up
 have nL:∀ {b:Addr} {o:Obj},s0.heap.get? b=some o→b ∉ frs outer→b ∉ frs (zbj (CXE P w) P w K mg base N qual scope f cdv A outer s0 H0 E).stack:=λ{b o} z hb y=>by
  rcases (zkw I rfl rfl).mp y with y | y
  ·exact Vak (Vai (Heap.lt_size z) I.ok.above) y
  ·exact hb y
 have old:∀b o,s0.heap.get? b=some o→H0 b=none→b ∉ frs outer→(PySem.W.hideAll s.heap (frs (zbj (CXE P w) P w K mg base N qual scope f cdv A outer s0 H0 E).stack)).get? b=some o:=λb o z n hb=>inB (I.base.keep b o z n hb (by intro y; exact absurd (show b∈([]:List Addr) from y) (by simp))) (nL z hb)
 have all:∀b o,s0.heap.get? b=some o→b ∉ frs outer→∃o',(PySem.W.hideAll s.heap (frs (zbj (CXE P w) P w K mg base N qual scope f cdv A outer s0 H0 E).stack)).get? b=some o':=λb o z hb=>by
  obtain⟨o1,e1⟩:=I.base.there b o z (by intro y; exact absurd (show b∈([]:List Addr) from y) (by simp))
  exact⟨o1,inB e1 (nL z hb)⟩
 have slot:∀b o,s0.heap.get? b=some o→H0 b=none→b∈frs outer→∃sl,h2.get? b=some { o with slots:=sl }:=λb o z n hb=>by
  obtain⟨s1,e1⟩:=I.base.slot b o z n hb (by intro y; exact absurd (show b∈([]:List Addr) from y) (by simp))
  obtain⟨_,o3,e3,d3⟩:=hfr.mem (show b∈(zbj (CXE P w) P w K mg base N qual scope f cdv A outer s0 H0 E).stack.filterMap (·.frame) from (zkw I rfl rfl).mpr (.inr hb))
  rw[e1] at e3
  cases e3
  obtain⟨sl,e4⟩:=up' b _ e1 d3
  exact⟨sl,e4⟩
 refine⟨e,c,.ref t,_,H,rfl,I.os,I.bare,⟨λb o z n hb _=>fl'.1 b o (old b o z n hb),λb o z n hb _=>slot b o z n hb,λb o z n _=>I.base.free b o z n (by intro y; exact absurd (show b∈([]:List Addr) from y) (by simp)),λb o z _=>?_,I.base.tups,I.base.frzs,I.base.tbls⟩,zov I.hok trk st fl'.1,fl',⟨trk,old,all,he⟩,q⟩
 by_cases hb:b∈frs outer
 ·obtain⟨sl,e1⟩:=slot b o z (I.ok.frf b hb) hb
  exact⟨_,e1⟩
 ·obtain⟨o',e'⟩:=all b o z hb
  exact⟨o',fl'.1 _ _ e'⟩
end
structure Xc (K:PySem.W.Frag)(mg:Str→Option Value)(x:Str)(C:Addr)(bm:List Value)(nid:String):Prop where
 bound:mg x=some (.ref C)
 ex:PySem.W.excIn K C bm nid=true
theorem zvA {K:PySem.W.Frag}{mg:Str→Option Value}{x:Str}{C:Addr}{bm:List Value}{nid:String}{h:Heap}(c:Xc K mg x C bm nid)(KX:K.In h):OwnCls x C bm nid mg h:=by
 obtain⟨b,q⟩:=c
 constructor
 ·exact b
 ·revert q
  unfold PySem.W.excIn
  intro q
  split at q
  case h_2=>cases q
  case h_1 dd cd sl look=>
   split at q
   case h_2=>cases q
   case h_1 C1 zbc z0 z1 z2 z3 nn z5 em es=>
    rw[Vay,Vay,Vay,Vay,Vay] at q
    obtain⟨⟨⟨⟨⟨q1,q2⟩,q3⟩,q4⟩,q5⟩,q6⟩:=q
    have r1:=beq_iff_eq.mp q1
    have r2:=beq_iff_eq.mp q2
    have r6:=beq_iff_eq.mp q6
    cases cd with
    | mk a1 a2 a3 a4 a5 a6 a7 a8 a9 a10 a11=>
     have em':a3=Value.ref C1::zbc:=em
     have r3:a11=false:=by simpa using q3
     have hsl:sl=#[z0,z1,z2,z3,some (Value.builtin nn),z5]:=by
      cases sl with
      | mk l=>exact congrArg Array.mk es
     subst r1 r2 em' r3 hsl
     exact⟨zbc,a4,a1,a5,a2,a6,a7,a8,a9,a10,dd,z0,z1,z2,z3,z5,_,KX _ _ look,Heap.Ns.of_isNs (PySem.W.isNs_of_in KX q5),PySem.W.nsMap_none_of_in KX q5 r6,PySem.W.tail_of_in KX q4⟩
abbrev WC:=List D→Sto→DK→Prop
abbrev Sd:=List D→Sto→DK→(Addr→Sto→Prop)→Prop
def upC (K:PySem.W.Frag)(Z:Zx)(w:WC):List V→Hp→VK→Prop:=λxs H Qv=>∃r S ds Q,Rel K Z r S H∧Rps r H ds xs∧w ds S Q∧Ret K Z r H Q Qv
def upF (K:PySem.W.Frag)(sd:Sd):Sp:=λvs H Qv E=>∃ex:Addr→Sto→Prop,upC K (Zc ex E) (λds S Q=>sd ds S Q ex) vs H Qv
def zkK (w:WC)(t:TDA):TDE:=λdl S Q=>t dl S λds S1=>w ds S1 Q
def zgk (ex:Ev→Addr→Sto→Prop)(sd:Sd)(t:TDA):TDE:=λdl S Q=>t dl S λds S1=>sd ds S1 Q (ex dl)
def zdi (X:Cx)(W:St→XK):Prop:=∀(pins:List (Addr×Obj)) (σ:St) (H:Hp) (s:Shared) (e:Value) (s':Shared),Inv X pins σ H s→CXE X.prog X.w X.stack H s (W σ) e s'→X.xe e s'
section
variable {X:Cx}{k:Nat}{f:Addr}{fd:FuncData}{ps:List Str}{sp:Sp}{W:St→XK}{x:Str}{p pos:Pos}{e:Expr}{es:List Expr}{t:TA}
theorem zmx {pins:List (Addr×Obj)}{σ:St}{H:Hp}{s:Shared}{Q:VK}{us:List Value}{vs:List V}(F:zaV X.prog X.w X.K X.mg X.base (CXE X.prog X.w) k f fd ps sp)(hr:zaC k X.A)(hb:zbE X.K fd ps [])(hx:zdi X W)
  (I:Inv X pins σ H s)(r:zal vs us)(h:sp vs H Q (W σ)):wpAny (model X.prog X.w) X.A (call (.ref f) us) (EP X pins σ Q) X.xe s:=by
 have hl:us.length=ps.length:=by rw[← r.length]; exact F.len _ _ _ _ h
 have hb':=hb s us I.kIn (by rw[Vav]; exact hl)
 rw[Vav] at hb'
 refine wpAny_call (codeAny_mono (F.run X.A X.stack s H ⟨us,[]⟩ us vs Q (W σ) hr I.env0 hb' r h) λz s' hq=>?_)
 cases z with
 | error ev=>exact hx pins σ H s ev s' I hq
 | ok fl=>
  cases fl with
  | ret u=>exact I.after hq
  | _=>exact False.elim hq
theorem zqx (F:zaV X.prog X.w X.K X.mg X.base (CXE X.prog X.w) k f fd ps sp)(hr:zaC k X.A)(hg:Gl X x)(hm:X.mg x=some (.ref f))(hk:PySem.W.keepIn X.K (.ref f)=true)(hb:zbE X.K fd ps [])(hx:zdi X W)
  (ha:PA X (e::es) t)(hdb:(x==("__debug__":Str))=false)(he:starEach (e::es) X.env=(false,eval e X.env)::starEach es X.env)(hpl:(backTo pos (starEach es X.env)).any (·.1)=false):
  PE X (.Call (.Name x p) (e::es) [] pos) (λσ H Q=>t σ H λvs H1=>sp vs H1 Q (W σ)):=by
 intro pins s σ H Q I h
 refine wpAny_Call_Name_kw (zhl I hg hm ?_ hdb)
 exact PySem.W.callWith_K (h₀:=X.base) I.ok.mod.kin hk (thn (ha pos pins s σ H _ I h) λus s1 ⟨vs,H1,I1,r,q⟩=>⟨I1.kIn,zmx F hr hb hx I1 r q⟩) he hpl
end
section
variable {X:Cx}{Z:Zx}{x:Str}{p pos:Pos}{e:Expr}{es:List Expr}{t:TDA}{id T:String}{w:WC}
theorem zpZ {σ:St}{H:Hp}{Qv:VK}(h:up X.K Z (zkK w t) σ H Qv):upA X.K Z t σ H λvs H1=>upC X.K Z w vs H1 Qv:=by
 obtain⟨r,dl,S,Q,rs,rel,h,ret⟩:=h
 exact⟨r,dl,S,_,rs,rel,h,λvs H1 r1 ds S1 e1 rel1 p1 h1=>⟨r1,S1,ds,Q,rel1,p1,h1,ret.ext e1⟩⟩
theorem zbU (hc:za3 X (.builtin id) (upC X.K Z w))(hg:Gl X x)(hm:X.mg x=none)(hv:bootBuiltins x=some (.builtin id))(ha:PDA X Z (e::es) t)(hn:x≠"__name__":=by decide)(hdb:(x==("__debug__":Str))=false:=by decide)
  (he:starEach (e::es) X.env=(false,eval e X.env)::starEach es X.env:=by rfl)(hpl:(backTo pos (starEach es X.env)).any (·.1)=false:=by rfl):PD X Z (.Call (.Name x p) (e::es) [] pos) (zkK w t):=
 zaJ (zlH hc hg hm hv ha hn hdb he hpl) λ_ _ _ h=>zpZ h
theorem zcx (hc:za3 X (.type T) (upC X.K Z w))(hg:Gl X x)(hm:X.mg x=none)(hv:bootBuiltins x=some (.type T))(ha:PDA X Z (e::es) t)(hn:x≠"__name__":=by decide)(hdb:(x==("__debug__":Str))=false:=by decide)
  (he:starEach (e::es) X.env=(false,eval e X.env)::starEach es X.env:=by rfl)(hpl:(backTo pos (starEach es X.env)).any (·.1)=false:=by rfl):PD X Z (.Call (.Name x p) (e::es) [] pos) (zkK w t):=
 zaJ (zpD hc hg hm hv ha hn hdb he hpl) λ_ _ _ h=>zpZ h
theorem zly {sd:Sd}{r:List Addr}{S:Sto}{H:Hp}{dl:Ev}{σ:St}{ds:List D}{vs:List V}{Q:DK}{Qv:VK}(rs:Rs r H dl σ)(rel:Rel X.K Z r S H)(p:Rps r H ds vs)(h:sd ds S Q (Z.ex dl))(ret:Ret X.K Z r H Q Qv):upF X.K sd vs H Qv (Z.w σ):=
 ⟨Z.ex dl,r,S,ds,Q,⟨rel.b,λ_ _ c H' r' S' x _ rb q=>rel.xw dl σ c H' r' S' x (rs.ext x) rb q⟩,p,h,λv H' r' d S' x rel' pv q=>ret v H' r' d S' x ⟨rel'.b,rel.xw.ext x⟩ pv q⟩
theorem zwO {k:Nat}{f:Addr}{fd:FuncData}{ps:List Str}{sd:Sd}(F:zaV X.prog X.w X.K X.mg X.base (CXE X.prog X.w) k f fd ps (upF X.K sd))(hr:zaC k X.A)(hg:Gl X x)(hm:X.mg x=some (.ref f))(hk:PySem.W.keepIn X.K (.ref f)=true)
  {ex:Ev→Addr→Sto→Prop}{W:St→XK}(hb:zbE X.K fd ps [])(hx:zdi X W)(ha:PDA X ⟨ex,W⟩ (e::es) t)(hdb:(x==("__debug__":Str))=false:=by decide)(he:starEach (e::es) X.env=(false,eval e X.env)::starEach es X.env:=by rfl)
  (hpl:(backTo pos (starEach es X.env)).any (·.1)=false:=by rfl):PD X ⟨ex,W⟩ (.Call (.Name x p) (e::es) [] pos) (zgk ex sd t):=
 zaJ (zqx F hr hg hm hk hb hx ha hdb he hpl) λσ H Qv ⟨r,dl,S,Q,rs,rel,h,ret⟩=>⟨r,dl,S,_,rs,rel,h,λvs H1 r1 ds S1 e1 rel1 p1 h1=>zly (Z:=⟨ex,W⟩) (rs.ext e1) rel1 p1 h1 (ret.ext e1)⟩
def wAbs:WC:=λds S Q=>match ds with
 | [.int i]=>Q (.int (if i<0 then -i else i)) S
 | _=>False
theorem zmF:za3 X (.builtin "abs") (upC X.K Z wAbs):=zfo zwS λxs H Qv ⟨r,S,ds,Q,rel,ps,q,ret⟩=>by
 unfold wAbs at q
 split at q
 ·rename_i i
  obtain⟨v,vs,rfl,p1,p2⟩:=ps.uncons
  have z:=p2.unnil
  subst z
  cases p1
  exact⟨i,rfl,ret _ _ _ _ _ Ext.refl rel (.int _) q⟩
 ·exact q.elim
def zfO:List D→Option (List Int)
 | []=>some []
 | .int i::r=>(zfO r).map (i::·)
 | _::_=>none
def zlV (le:Int→Int→Prop)(two:Int→Int→Int):WC:=λds S Q=>match ds with
 | [.int i,.int j]=>Q (.int (two i j)) S
 | [.ref n]=>match lAt S n with
  | some o=>match zfO (zax o) with
   | some xs=>xs≠[]∧∀m,m∈xs→(∀y∈xs,le y m)→Q (.int m) S
   | none=>False
  | none=>False
 | _=>False
abbrev wMin:WC:=zlV (λy m=>m≤y) λi j=>if j<i then j else i
theorem zm0 {r:List Addr}{H:Hp}:∀ {ds:List D} {ns:List Int} {vs:List V} {us:List Value},zfO ds=some ns→Rps r H ds vs→zal vs us→∃xs:List (Int×Tok),us.toArray=intItems xs.toArray∧xs.map (·.1)=ns
 | [],ns,vs,us,e,p,q=>by
  have z:=p.unnil
  subst z
  cases q
  simp[zfO] at e
  subst e
  exact⟨[],by simp[intItems],rfl⟩
 | d::ds,ns,vs,us,e,p,q=>by
  obtain⟨v,vs',rfl,p1,p2⟩:=p.uncons
  cases d with
  | int i=>
   cases p1
   cases q with
   | cons q1 q2=>
    obtain⟨t,rfl⟩:=q1
    simp only[zfO,VaM] at e
    obtain⟨ms,e1,rfl⟩:=e
    obtain⟨xs,h1,h2⟩:=zm0 e1 p2 q2
    refine⟨(i,t)::xs,?_,by simp[h2]⟩
    simp[intItems] at h1 ⊢
    exact h1
  | _=>simp[zfO] at e
theorem zo3 (f:Nat→Int):∀k j,j≤k→f (argBest (λi j=>decide (f i<f j)) k)≤f j
 | 0,j,h=>by
  have z:j=0:=by omega
  subst z
  exact VaT _
 | k+1,j,h=>by
  have ih:=zo3 f k
  unfold argBest
  split
  ·rename_i hb
   have hb':f (k+1)<f (argBest (λi j=>decide (f i<f j)) k):=of_decide_eq_true hb
   by_cases z:j=k+1
   ·subst z; exact VaT _
   ·have:=ih j (by omega); omega
  ·rename_i hb
   have hb':¬ f (k+1)<f (argBest (λi j=>decide (f i<f j)) k):=λq=>hb (decide_eq_true q)
   by_cases z:j=k+1
   ·subst z; omega
   ·exact ih j (by omega)
theorem zot (bt:Nat→Nat→Bool):∀k,argBest bt k≤k
 | 0=>Vaa _
 | k+1=>by
  unfold argBest
  split
  ·exact Vaa _
  ·exact Nat.le_succ_of_le (zot bt k)
theorem zoR {xs:List (Int×Tok)}{ns:List Int}(h:xs.map (·.1)=ns){j:Nat}{y:Int}(e:ns[j]?=some y):numAt xs.toArray j=y:=by
  subst h
  unfold numAt
  rw[Vao] at e
  simp only[List.getElem?_toArray]
  cases q:xs[j]? with
  | none=>
   rw[q] at e
   cases e
  | some z=>rw[q] at e; simpa using e
theorem zsy {xs:List (Int×Tok)}{ns:List Int}(h:xs.map (·.1)=ns){j:Nat}(hj:j<ns.length):numAt xs.toArray j∈ns:=by
 have e:ns[j]?=some ns[j]:=by simp[hj]
 rw[zoR h e]
 exact VaU hj
theorem zv5 (hc:X.calm=true):za3 X (.builtin "min") (upC X.K Z wMin):=by
 intro pins s σ H xs us Qv I rv h
 obtain⟨r,S,ds,Q,rel,ps,q,ret⟩:=h
 unfold wMin zlV at q
 split at q
 ·rename_i i j
  obtain⟨v,vs,rfl,p1,p2⟩:=ps.uncons
  obtain⟨v2,vs2,rfl,p3,p4⟩:=p2.uncons
  have z:=p4.unnil
  subst z
  cases p1
  cases p3
  exact zuZ hc pins s σ H _ us Qv I rv ⟨i,j,rfl,ret _ _ _ _ _ Ext.refl rel (.int _) q⟩
 ·rename_i n
  obtain⟨v,vs,rfl,p1,p2⟩:=ps.uncons
  have z:=p2.unnil
  subst z
  split at q
  ·rename_i o eo
   split at q
   ·rename_i ns en
    obtain⟨hne,q⟩:=q
    obtain⟨eo,eL⟩:=zcr eo
    obtain⟨a,ha,ob⟩:=rel.at eo
    cases p1 with
    | ref h1=>
     rw[h1] at ha; cases ha
     obtain⟨ys,sq,pr⟩:=ob.list eL
     obtain⟨u,rfl,ru⟩:=zb4 rv
     cases ru
     obtain⟨its,ri,pl,hz⟩:=I.list sq
     obtain⟨zs,hz1,hz2⟩:=zm0 en pr ri
     have hl:zs.length=ns.length:=by rw[← hz2,Vac]
     have hpos:0<ns.length:=List.length_pos_iff.mpr hne
     have isl:=pl.isList
     rw[hz1] at isl
     refine min_intList (I.ok.hd hc) isl (by simp; omega) λv h' tk hv hk=>?_
     have hvi:=intItems_at hv
     obtain⟨t,rfl⟩:=hvi
     have hb:=zot (λi j=>decide (numAt zs.toArray i<numAt zs.toArray j)) (zs.toArray.size-1)
     have hsz:zs.toArray.size=ns.length:=by simp[hl]
     refine⟨.int _,H,I.kept hk,⟨_,rfl⟩,ret _ _ _ _ _ Ext.refl rel (.int _) (q _ (zsy hz2 (by omega)) λy hy=>?_)⟩
     obtain⟨j,hj,ej⟩:=List.mem_iff_getElem.mp hy
     have e1:=zoR hz2 (show ns[j]?=some y by simp[hj,ej])
     rw[← e1]
     exact zo3 _ _ j (by omega)
   ·exact q.elim
  ·exact q.elim
 ·exact q.elim
def zeB:WC:=λds S Q=>match ds with
 | [.tup xs]=>Q (.int xs.length) S
 | [.ref n]=>match lAt S n with
  | some o=>Q (.int (zax o).length) S
  | none=>False
 | _=>False
theorem zcO:za3 X (.builtin "len") (upC X.K Z zeB):=zfo zr9 λxs H Qv ⟨r,S,ds,Q,rel,ps,q,ret⟩=>by
 unfold zeB at q
 split at q
 ·rename_i ys
  obtain⟨v,vs,rfl,p1,p2⟩:=ps.uncons
  have z:=p2.unnil
  subst z
  obtain⟨a,zs,rfl,h1,h2⟩:=p1.untup
  exact⟨a,zs,rfl,.inr (SqT.of h1),by rw[← h2.1]; exact ret _ _ _ _ _ Ext.refl rel (.int _) q⟩
 ·rename_i n
  obtain⟨v,vs,rfl,p1,p2⟩:=ps.uncons
  have z:=p2.unnil
  subst z
  split at q
  ·rename_i o eo
   obtain⟨eo,eL⟩:=zcr eo
   obtain⟨a,ha,ob⟩:=rel.at eo
   cases p1 with
   | ref h1=>
    rw[h1] at ha; cases ha
    obtain⟨ys,sq,pr⟩:=ob.list eL
    exact⟨_,ys,rfl,.inl sq,by rw[← pr.1]; exact ret _ _ _ _ _ Ext.refl rel (.int _) q⟩
  ·exact q.elim
 ·exact q.elim
def zdr (t T:String):Bool:=t==T||(t == "bool"&&T == "int")
def znB (T:String)(te:TDE):TDE:=λdl S Q=>te dl S λd S1=>match d with
 | .ref _=>False
 | .exc _=>False
 | .non=>Q (.bl (zdr "NoneType" T)) S1
 | .bl _=>Q (.bl (zdr "bool" T)) S1
 | .int _=>Q (.bl (zdr "int" T)) S1
 | .str _=>Q (.bl (zdr "str" T)) S1
 | .tup _=>Q (.bl (zdr "tuple" T)) S1
def Kit (K:PySem.W.Frag)(T:String):Prop:=∀t∈["NoneType","bool","int","str","tuple"],PySem.W.kitOne K (.type t) (.type T)=some (zdr t T)
def rInst (K:PySem.W.Frag):List V→Hp→VK→Prop:=λxs H Qv=>∃x T t b,xs=[x,.ty T]∧zcu K H x t∧PySem.W.kitOne K t (.type T)=some b∧Qv (.bl b) H
theorem zoK:za3 X (.builtin "isinstance") (rInst X.K):=by
 intro pins s σ H xs us Q I r h
 obtain⟨x,T,t,b,rfl,ty,e,q⟩:=h
 obtain⟨u,w',rfl,r1,r2⟩:=zpa r
 cases r2
 exact zsf I r1 ty e λtk=>⟨.bl b,H,I.tok tk,rfl,q⟩
theorem zfI {T:String}{te:TDE}{y:Str}{p2:Pos}(KT:Kit X.K T)(hg:Gl X "isinstance")(hm:X.mg "isinstance"=none)(hg2:Gl X y)(hm2:X.mg y=none)(hv2:bootBuiltins y=some (.type T))(ha:PD X Z e te)
  (hv:bootBuiltins "isinstance"=some (.builtin "isinstance"):=by exact PyProof.Rows.Boot.«isinstance»)
  (hn2:y≠"__name__":=by decide)(hd2:(y==("__debug__":Str))=false:=by decide)(he2:starEach [e,.Name y p2] X.env=(false,eval e X.env)::starEach [.Name y p2] X.env:=by rfl)
  (he3:starEach [.Name y p2] X.env=(false,eval (.Name y p2) X.env)::starEach [] X.env:=by rfl)(hpl:(backTo pos (starEach [.Name y p2] X.env)).any (·.1)=false:=by rfl):
  PD X Z (.Call (.Name "isinstance" p) [e,.Name y p2] [] pos) (znB T te):=
 zaJ (zlH zoK hg hm hv (zdX ha (zdX (zoe (v:=.ty T) hg2 hm2 hv2 rfl hn2 hd2) zfm he3) he2) (by decide) (by decide) he2 hpl) λσ H Qv ⟨r,dl,S,Q,rs,rel,h,ret⟩=>
  ⟨r,dl,S,_,rs,rel,h,λv H1 r1 d S1 e1 rel1 p1 h1=>by
   cases p1 with
   | non=>exact⟨_,T,_,_,rfl,.non,KT _ (by simp),ret _ _ _ _ _ e1 rel1 (.bl _) h1⟩
   | bl b=>exact⟨_,T,_,_,rfl,.bl b,KT _ (by simp),ret _ _ _ _ _ e1 rel1 (.bl _) h1⟩
   | int b=>exact⟨_,T,_,_,rfl,.int b,KT _ (by simp),ret _ _ _ _ _ e1 rel1 (.bl _) h1⟩
   | str b=>exact⟨_,T,_,_,rfl,.str b,KT _ (by simp),ret _ _ _ _ _ e1 rel1 (.bl _) h1⟩
   | tup e2 _ _=>exact⟨_,T,_,_,rfl,.tup e2,KT _ (by simp),ret _ _ _ _ _ e1 rel1 (.bl _) h1⟩
   | ref _=>exact(show False from h1).elim
   | exc _=>exact(show False from h1).elim⟩
end
section
variable {X:Cx}{Z:Zx}{st:Stmt}{zbc:List Stmt}{t u:TDS}{e:Expr}{te:TDE}{pos:Pos}
def zj5:TDS:=λE dl S=>E.nx dl S
def zaW (t u:TDS):TDS:=λE dl S=>t { nx:=λdl' S'=>u E dl' S',rt:=E.rt,bk:=E.bk,ct:=E.ct } dl S
theorem zay:zcz X Z [] zj5:=zn2 zuT λF σ H ⟨r,dl,S,E,rs,rel,h,ret⟩=>ret.nx σ H r dl S Ext.refl rs rel h
theorem zah (h1:PDS X Z st t)(h2:zcz X Z zbc u):zcz X Z (st::zbc) (zaW t u):=
 zn2 (zwb h1 h2) λF σ H ⟨r,dl,S,E,rs,rel,h,ret⟩=>⟨r,dl,S,_,rs,rel,h,λσ' H' r' dl' S' x rs' rel' q=>⟨r',dl',S',E,rs',rel',q,ret.ext x⟩,ret.bk,ret.ct,ret.rt⟩
theorem zag (h1:PDS X Z st t):zcz X Z [st] t:=zu8 h1
def zpz (te:TDE):TDS:=λE dl S=>te dl S λ_ S1=>E.nx dl S1
theorem zbQ (he:PD X Z e te)(hs:swapsWith e none pos.line X.env=pure false:=by rfl):PDS X Z (.Expr e pos) (zpz te):=
 zcy (zuH he hs) λF σ H ⟨r,dl,S,E,rs,rel,h,ret⟩=>⟨r,dl,S,_,rs,rel,h,λv H1 r1 d S1 x rel1 p q=>ret.nx σ H1 r1 dl S1 x (rs.ext x) rel1 q⟩
def zhK (te:TDE):TDS:=λE dl S=>te dl S E.rt
theorem zao (he:PD X Z e te):PDS X Z (.Return (some e) pos) (zhK te):=
 zcy (zvU he) λF σ H ⟨r,dl,S,E,rs,rel,h,ret⟩=>⟨r,dl,S,_,rs,rel,h,ret.rt⟩
def dRetN:TDS:=λE _ S=>E.rt .non S
def dIf (c:TDT)(t u:TDS):TDS:=λE dl S=>c dl S λk S1=>if k=true then t E dl S1 else u E dl S1
theorem zat {c:Expr}{a b:List Stmt}{tc:TDT}(hc:PDT X Z c tc)(ha:zcz X Z a t)(hb:zcz X Z b u):PDS X Z (.If c a b pos) (dIf tc t u):=
 zcy (ps_if hc ha hb) λF σ H ⟨r,dl,S,E,rs,rel,h,ret⟩=>⟨r,dl,S,_,rs,rel,h,λk H1 r1 S1 x rel1 q=>by
  cases k with
  | true=>exact zbZ ⟨r1,dl,S1,E,rs.ext x,rel1,(by simpa using q),ret.ext x⟩
  | false=>exact zcn ⟨r1,dl,S1,E,rs.ext x,rel1,(by simpa using q),ret.ext x⟩⟩
def zfe (i:Nat)(te:TDE):TDS:=λE dl S=>te dl S λd S1=>E.nx (dl.set i (some d)) S1
theorem zap {i:Nat}{x:Str}{pos':Pos}(hN:X.N.Nodup)(hi:X.N[i]?=some x)(hx:Loc X.env.scope x)(he:PD X Z e te)(hs:swapsWith e (some (.Name x pos')) pos.line X.env=pure false:=by rfl)
  (hf:X.fn x=true∨X.env.scope.names.lookup x=some .local:=by first | exact .inl rfl | exact .inr rfl | assumption):PDS X Z (.Assign [.Name x pos'] e pos) (zfe i te):=
 zcy (zuU hN hi hx he hs hf) λF σ H ⟨r,dl,S,E,rs,rel,h,ret⟩=>⟨r,dl,S,_,rs,rel,h,λv H1 r1 d S1 x rel1 p q=>ret.nx _ H1 r1 _ S1 x ((rs.ext x).set i p) rel1 q⟩
def zwL (c:TDT)(tb:TDS):TDS:=λE dl S=>∃W:Nat→Ev→Sto→Prop,(∃m,W m dl S)∧∀m dl S,W m dl S→
 c dl S λk S1=>if k=true then tb { nx:=λdl' S'=>∃m',m'<m∧W m' dl' S',rt:=E.rt,bk:=E.nx,ct:=λdl' S'=>∃m',m'<m∧W m' dl' S' } dl S1 else E.nx dl S1
theorem zil {c:Expr}{body:List Stmt}{tc:TDT}{tb:TDS}(hp:PassesOwn (model X.prog X.w) X.A X.env X.xe)(hc:PDT X Z c tc)(hb:zcz X Z body tb):PDS X Z (.While c body [] pos) (zwL tc tb):=
 zcy (zwG hp hc hb) λF σ H ⟨r,dl,S,E,rs,rel,⟨W,⟨m0,w0⟩,turn⟩,ret⟩=>by
  refine⟨λm σ' H'=>∃r' dl' S',Ext r r' H H'∧Rs r' H' dl' σ'∧Rel X.K Z r' S' H'∧W m dl' S',⟨m0,r,dl,S,Ext.refl,rs,rel,w0⟩,?_⟩
  rintro m σ1 H1 ⟨r1,dl1,S1,x1,rs1,rel1,w1⟩
  refine⟨r1,dl1,S1,_,rs1,rel1,turn m dl1 S1 w1,λk H2 r2 S2 x2 rel2 q2=>?_⟩
  cases k with
  | true=>
   refine zbZ ⟨λσ' H'=>∃m',m'<m∧∃r' dl' S',Ext r r' H H'∧Rs r' H' dl' σ'∧Rel X.K Z r' S' H'∧W m' dl' S',λ_ _ z=>z,r2,dl1,S2,_,rs1.ext x2,rel2,(by simpa using q2),?_⟩
   have go:∀σ' H' r' dl' S',Ext r2 r' H2 H'→Rs r' H' dl' σ'→Rel X.K Z r' S' H'→(∃m',m'<m∧W m' dl' S')→∃m',m'<m∧∃r' dl' S',Ext r r' H H'∧Rs r' H' dl' σ'∧Rel X.K Z r' S' H'∧W m' dl' S':=
    λσ' H' r' dl' S' x rs' rel' ⟨m',hm,w'⟩=>⟨m',hm,r',dl',S',x1.trans (x2.trans x),rs',rel',w'⟩
   exact⟨go,λσ' H' r' dl' S' x rs' rel' q=>ret.nx σ' H' r' dl' S' (x1.trans (x2.trans x)) rs' rel' q,go,ret.rt.ext (x1.trans x2)⟩
  | false=>exact zcn (ret.nx σ1 H2 r2 dl1 S2 (x1.trans x2) (rs1.ext x2) rel2 (by simpa using q2))
def dFor (i:Nat)(tl:TDE)(tb:TDS):TDS:=λE dl S=>tl dl S λd S1=>match d with
 | .ref n=>(lAt S1 n).isSome=true∧∃W:Nat→Nat→Ev→Sto→Prop,(∃m,W 0 m dl S1)∧∀k m dl S,W k m dl S→match lAt S n with
  | some o=>match (zax o)[k]? with
   | some x=>tb { nx:=λdl' S'=>∃m',m'<m∧W (k+1) m' dl' S',rt:=E.rt,bk:=E.nx,ct:=λdl' S'=>∃m',m'<m∧W (k+1) m' dl' S' } (dl.set i (some x)) S
   | none=>E.nx dl S
  | none=>False
 | _=>False
theorem zlP {i:Nat}{x:Str}{pos':Pos}{iter:Expr}{body:List Stmt}{tl:TDE}{tb:TDS}(hp:PassesOwn (model X.prog X.w) X.A X.env X.xe)(hc:X.calm=true)(hN:X.N.Nodup)(hi:X.N[i]?=some x)(hx:Loc X.env.scope x)
  (hl:PD X Z iter tl)(hb:zcz X Z body tb)(hf:X.fn x=true∨X.env.scope.names.lookup x=some .local:=by first | exact .inl rfl | exact .inr rfl | assumption)
  (hs:∀y,foldedSetIterable iter X.env y=pure y:=by intro _; rfl):PDS X Z (.For (.Name x pos') iter body [] pos) (dFor i tl tb):=
 zcy (zlE hp hc (zql hl) (zlc hN hi hx hf) hb hs) λF σ H ⟨r,dl,S,E,rs,rel,h,ret⟩=>by
  refine⟨r,dl,S,_,rs,rel,h,λv H1 r1 d S1 x1 rel1 p1 q1=>?_⟩
  cases p1 with
  | @ref n a hn=>
   obtain⟨hsome,W,⟨m0,w0⟩,turn⟩:=q1
   have sql:∀ {r':List Addr} {S':Sto} {H':Hp} {o:Ob},Ext r1 r' H1 H'→Rel X.K Z r' S' H'→lAt S' n=some o→∃xs,SqL X.K H' a xs∧Rps r' H' (zax o) xs:=λ{r' S' H' o} x' rel' eo=>by
    obtain⟨eo,eL⟩:=zcr eo
    obtain⟨a',ha,ob⟩:=rel'.at eo
    rw[x'.adr n a hn] at ha; cases ha
    exact ob.list eL
   obtain⟨o1,eo1⟩:=Option.isSome_iff_exists.mp hsome
   obtain⟨xs1,sq1,_⟩:=sql Ext.refl rel1 eo1
   refine⟨a,rfl,⟨xs1,sq1⟩,λk m σ' H'=>∃r' dl' S',Ext r1 r' H1 H'∧Rs r' H' dl' σ'∧Rel X.K Z r' S' H'∧W k m dl' S',⟨m0,r1,dl,S1,Ext.refl,rs.ext x1,rel1,w0⟩,?_⟩
   rintro k m σ2 H2 ⟨r2,dl2,S2,x2,rs2,rel2,w2⟩
   have q:=turn k m dl2 S2 w2
   split at q
   ·rename_i o eo
    obtain⟨xs,sq,pr⟩:=sql x2 rel2 eo
    split at q
    ·rename_i y ey
     obtain⟨v,hv,pv⟩:=pr.get ey
     have go:∀ {r3:List Addr} {H3:Hp},Ext r2 r3 H2 H3→∀σ' H' r' dl' S',Ext r3 r' H3 H'→Rs r' H' dl' σ'→Rel X.K Z r' S' H'→(∃m',m'<m∧W (k+1) m' dl' S')→∃m',m'<m∧∃r' dl' S',Ext r1 r' H1 H'∧Rs r' H' dl' σ'∧Rel X.K Z r' S' H'∧W (k+1) m' dl' S':=
      λ{r3 H3} x3 σ' H' r' dl' S' x rs' rel' ⟨m',hm,w'⟩=>⟨m',hm,r',dl',S',x2.trans (x3.trans x),rs',rel',w'⟩
     refine .inr ⟨⟨xs,v,sq,hv⟩,λσ' H'=>∃m',m'<m∧∃r' dl' S',Ext r1 r' H1 H'∧Rs r' H' dl' σ'∧Rel X.K Z r' S' H'∧W (k+1) m' dl' S',λ_ _ z=>z,λv' H' y'=>?_⟩
     obtain⟨eH,y'⟩:=y'
     subst eH
     have ev:v'=v:=by
      have z:=y' xs sq
      rw[hv] at z; exact(Option.some.inj z).symm
     subst ev
     exact⟨r2,_,S2,_,rs2.set i pv,rel2,q,go Ext.refl,λσ' H' r' dl' S' x rs' rel' z=>ret.nx σ' H' r' dl' S' (x1.trans (x2.trans x)) rs' rel' z,go Ext.refl,ret.rt.ext (x1.trans x2)⟩
    ·rename_i ey
     have hlen:(zax o).length≤k:=List.getElem?_eq_none_iff.mp ey
     exact .inl ⟨⟨xs,sq,by rw[← pr.1]; exact hlen⟩,ret.nx σ2 H2 r2 dl2 S2 (x1.trans x2) rs2 rel2 q⟩
   ·exact q.elim
  | _=>exact(show False from q1).elim
end
def zc7 (N:List Str)(ds:List D):Ev:=ds.map some++List.replicate (N.length-ds.length) none
theorem zoF {r:List Addr}{H:Hp}{N:List Str}{ds:List D}{vs:List V}(h:Rps r H ds vs):Rs r H (zc7 N ds) (L2.zcR N vs):=by
  refine⟨by simp[zc7,L2.zcR,h.1],λi d e=>?_⟩
  unfold zc7 at e
  by_cases hi:i<ds.length
  · rw[Van (by simpa using hi),Vao] at e
    cases q:ds[i]? with
    | none=>
   rw[q] at e
   cases e
    | some z=>
      rw[q] at e
      cases e
      obtain⟨v,hv,pv⟩:=h.get q
      refine⟨v,?_,pv⟩
      unfold L2.zcR
      rw[Van (by simpa [h.1] using hi),Vao,hv]
      rfl
  · rw[VaG (by simpa using hi),List.getElem?_replicate] at e
    split at e <;> cases e
section
variable {P:Program}{w:World}{K:PySem.W.Frag}{mg:Str→Option Value}{base:Heap}
abbrev Z0:Zx:=Zc (λ_ _=>False) (λ_ _ _=>False)
theorem zaG {X:Cx}:zdi X Z0.w:=λ_ _ _ _ _ _ _ h=>by
 obtain⟨_,_,_,_,_,_,_,_,_,_,_,_,q⟩:=h
 exact q.elim
theorem zaO {x qual:Str}{st:Stmt}{f:Addr}{fd:FuncData}{N ps:List Str}{k:Nat}{sd:Sd}(F:Fun K x qual st f fd)(Sc:zaB N ps (zau st))(len:∀ds S Q ex,sd ds S Q ex→ds.length=ps.length)
  (hbody:∀(cdv:Value) (A:Around) (outer:List Env) (s:Shared) (H:Hp) (E:XK),zaC k (A.deeper (envOfC qual (zau st) s.heap.objs.size f cdv))→
   ∃t,zcz (zbj (CXE P w) P w K mg base N qual (zau st) f cdv A outer s H E).nox Z0 (zcW st) t∧∀ds S Q ex,sd ds S Q ex→t { nx:=λ_ S'=>Q .non S',rt:=Q } (zc7 N ds) S):zaV P w K mg base (CXE P w) (k+1) f fd ps (upF K sd):=by
 obtain⟨oc,od,kV,doc,pm,an,cdv,ct,osl,rfl,lk,hcd⟩:=F.ex
 refine zl2 lk hcd Sc (λvs H Q E h=>?_) λA outer s H vs Q E hr h=>?_
 ·obtain⟨ex,r,S,ds,Q',rel,p,q,ret⟩:=h
  rw[← p.1]
  exact len ds S Q' ex q
 ·obtain⟨ex,r,S,ds,Q',rel,p,q,ret⟩:=h
  obtain⟨t,ht,hq⟩:=hbody cdv A outer s H E hr
  have back:∀ {H':Hp} {r':List Addr} {S':Sto},Ext r r' H H'→Rel K Z0 r' S' H'→Rel K (Zc ex E) r' S' H':=λx rel'=>⟨rel'.b,rel.xw.ext x⟩
  refine⟨upS K Z0 t,ht.nox,r,zc7 N ds,S,_,zoF p,⟨rel.b,λ_ _ _ _ _ _ _ _ _ z=>z.elim⟩,hq ds S Q' ex q,?_,?_,?_,?_⟩
  ·intro σ' H' r' dl' S' x _ rel' z
   exact ret .non H' r' .non S' x (back x rel') .non z
  ·intro σ' H' r' dl' S' x _ rel' z
   exact z
  ·intro σ' H' r' dl' S' x _ rel' z
   exact z
  ·intro v H' r' d S' x rel' p' z
   exact ret v H' r' d S' x (back x rel') p' z
theorem zcN {x qual:Str}{st:Stmt}{f:Addr}{fd:FuncData}{N ps:List Str}{k:Nat}{sd:Sd}(F:Fun K x qual st f fd)(Sc:zaB N ps (zau st))(len:∀ds S Q ex,sd ds S Q ex→ds.length=ps.length)
  (hbody:∀(cdv:Value) (A:Around) (outer:List Env) (s:Shared) (H:Hp) (E:XK) (ex:Addr→Sto→Prop),zaC k (A.deeper (envOfC qual (zau st) s.heap.objs.size f cdv))→
   zdi (zbj (CXE P w) P w K mg base N qual (zau st) f cdv A outer s H E) (λ_=>E)→zmw (zbj (CXE P w) P w K mg base N qual (zau st) f cdv A outer s H E) (λ_=>E)→
   ∃t,zcz (zbj (CXE P w) P w K mg base N qual (zau st) f cdv A outer s H E) (Zc ex E) (zcW st) t∧∀ds S Q,sd ds S Q ex→t { nx:=λ_ S'=>Q .non S',rt:=Q } (zc7 N ds) S):zaV P w K mg base (CXE P w) (k+1) f fd ps (upF K sd):=by
 obtain⟨oc,od,kV,doc,pm,an,cdv,ct,osl,rfl,lk,hcd⟩:=F.ex
 refine zl2 lk hcd Sc (λvs H Q E h=>?_) λA outer s H vs Q E hr h=>?_
 ·obtain⟨ex,r,S,ds,Q',rel,p,q,ret⟩:=h
  rw[← p.1]
  exact len ds S Q' ex q
 ·obtain⟨ex,r,S,ds,Q',rel,p,q,ret⟩:=h
  obtain⟨t,ht,hq⟩:=hbody cdv A outer s H E ex hr zwE ztz
  refine⟨upS K (Zc ex E) t,ht,r,zc7 N ds,S,_,zoF p,rel,hq ds S Q' q,?_,?_,?_,ret⟩
  ·intro σ' H' r' dl' S' x _ rel' z
   exact ret .non H' r' .non S' x rel' .non z
  ·intro σ' H' r' dl' S' x _ rel' z
   exact z
  ·intro σ' H' r' dl' S' x _ rel' z
   exact z
end
open PySem
def Sz (n:Nat)(i:Int):Prop:=i.natAbs<2^n
theorem Sz.mono {m n:Nat}{i:Int}(h:Sz m i)(hn:m≤n):Sz n i:=Vai h (Nat.pow_le_pow_right (by decide) hn)
theorem Sz.bits {n:Nat}{i:Int}(h:Sz n i):Builtin.Int.intBits i≤n:=by
 unfold Builtin.Int.intBits
 split
 ·exact Vaz _
 ·rename_i hz
  have hp:i.natAbs≠0:=by
   intro z
   have z2:i=0:=by omega
   simp[z2] at hz
  have:=(Nat.log2_lt hp).mpr h
  omega
theorem zjh {m n:Nat}{i j:Int}(hi:Sz m i)(hj:Sz n j)(hm:m≤1048576:=by decide)(hn:n≤1048576:=by decide):IntMulOk i j:=by
 have e20:(2:Nat)^20=1048576:=by decide
 exact IntMulOk.of_bits (Vat hi.bits (by omega)) (Vat hj.bits (by omega))
theorem Sz.of {n:Nat}{i:Int}(m:Nat)(h:i.natAbs≤m)(hm:m<2^n:=by decide):Sz n i:=Nat.lt_of_le_of_lt h hm
theorem Sz.add {m n:Nat}{i j:Int}(hi:Sz m i)(hj:Sz n j):Sz (max m n+1) (i+j):=by
 have h1:Sz (max m n) i:=hi.mono (Nat.le_max_left _ _)
 have h2:Sz (max m n) j:=hj.mono (Nat.le_max_right _ _)
 unfold Sz at *
 have e:(2:Nat)^(max m n+1)=2^max m n+2^max m n:=by rw[VaB]; omega
 rw[e]
 have:=Int.natAbs_add_le i j
 omega
theorem Sz.neg {m:Nat}{i:Int}(hi:Sz m i):Sz m (-i):=by
 unfold Sz at *
 rw[Int.natAbs_neg]; exact hi
theorem Sz.sub {m n:Nat}{i j:Int}(hi:Sz m i)(hj:Sz n j):Sz (max m n+1) (i-j):=by
 rw[Int.sub_eq_add_neg]; exact hi.add hj.neg
theorem Sz.log {n:Nat}{i:Int}(h:Sz n i)(hi:i≠0)(hn:n≤9000:=by decide):i.natAbs.log2<9000:=by
 have:=(Nat.log2_lt (by omega:i.natAbs≠0)).mpr h
 omega
theorem Sz.fd {n:Nat}{i:Int}(h:Sz n i)(hi:0<i)(hn:n≤9000:=by decide):0<i∧i.natAbs.log2<9000:=⟨hi,h.log (by omega) hn⟩
theorem zhE {a b:Int}(hb:0<b):0≤a%b∧a%b<b:=⟨Int.emod_nonneg _ (by omega),Int.emod_lt_of_pos _ hb⟩
theorem p40:((10:Int)^(40:Int).toNat)=10^40:=rfl
theorem p41:((10:Int)^(41:Int).toNat)=10^41:=rfl
theorem p20:((10:Int)^(20:Int).toNat)=10^20:=rfl
example (x:Int):-(10^40)≤x%(2*10^40+1)-10^40:=by omega
example (x:Int):x%(2*10^40+1)-10^40≤10^40:=by omega
example (x:Int) (h:-(10^40)≤x) (h2:x≤2*10^41):Sz 140 x:=Sz.of (2*10^41) (by omega)
theorem ztf (a b:Int):Int.gcd b (a%b)=Int.gcd a b:=by
 rw[Int.emod_def,show a-b*(a/b)=a-(a/b)*b by rw[Int.mul_comm],Int.gcd_sub_mul_right_right,Int.gcd_comm]
def zbX (i:Int):Int:=if i<0 then -i else i
theorem zmO (i:Int):0≤zbX i:=by unfold zbX; split <;> omega
theorem zwW (a b:Int):Int.gcd (zbX a) (zbX b)=Int.gcd a b:=by
 have h:∀i:Int,(zbX i).natAbs=i.natAbs:=λi=>by unfold zbX; split <;> omega
 unfold Int.gcd
 rw[h,h]
theorem zpS {T B d:Int}(hB:B≠0)(hd:d=(if B<0 then -((Int.gcd T B:Nat):Int) else ((Int.gcd T B:Nat):Int))):
  d≠0∧T.fdiv d*d=T∧B.fdiv d*d=B∧1≤B.fdiv d∧Int.gcd (T.fdiv d) (B.fdiv d)=1∧T.fdiv d*B=T*B.fdiv d:=by
 have g0:0<Int.gcd T B:=Nat.pos_of_ne_zero λz=>hB (Int.gcd_eq_zero_iff.mp z).2
 have dT:((Int.gcd T B:Nat):Int) ∣ T:=Int.gcd_dvd_left T B
 have dB:((Int.gcd T B:Nat):Int) ∣ B:=Int.gcd_dvd_right T B
 have hne:d≠0:=by
  rw[hd]; split <;> omega
 have eT:d ∣ T:=by rw[hd]; split <;> first | exact Int.neg_dvd.mpr dT | exact dT
 have eB:d ∣ B:=by rw[hd]; split <;> first | exact Int.neg_dvd.mpr dB | exact dB
 have fT:T.fdiv d=T/d:=Int.fdiv_eq_ediv_of_dvd eT
 have fB:B.fdiv d=B/d:=Int.fdiv_eq_ediv_of_dvd eB
 have mT:T.fdiv d*d=T:=by rw[fT]; exact Int.ediv_mul_cancel eT
 have mB:B.fdiv d*d=B:=by rw[fB]; exact Int.ediv_mul_cancel eB
 have gg:Int.gcd (T.fdiv d) (B.fdiv d)=1:=by
  have z:=Int.gcd_ediv_gcd_ediv_gcd g0
  rw[fT,fB,hd]
  split
  ·rw[Int.ediv_neg,Int.ediv_neg,Int.neg_gcd,Int.gcd_neg]; exact z
  ·exact z
 have pos:1≤B.fdiv d:=by
  by_cases hb:B<0
  ·have dn:d<0:=by rw[hd,if_pos hb]; omega
   by_cases q:B.fdiv d≤0
   ·have:=Int.mul_nonneg_of_nonpos_of_nonpos q (Int.le_of_lt dn)
    omega
   ·omega
  ·have dp:0<d:=by rw[hd,if_neg hb]; omega
   by_cases q:B.fdiv d≤0
   ·have:=Int.mul_nonneg (show 0≤-(B.fdiv d) by omega) (Int.le_of_lt dp)
    rw[Int.neg_mul] at this
    omega
   ·omega
 refine⟨hne,mT,mB,pos,gg,?_⟩
 calc T.fdiv d*B=T.fdiv d*(B.fdiv d*d):=by rw[mB]
  _=T.fdiv d*d*B.fdiv d:=by grind
  _=T*B.fdiv d:=by rw[mT]
theorem zjC {T d:Int}(hne:d≠0)(mT:T.fdiv d*d=T):(T.fdiv d).natAbs≤T.natAbs:=by
 have h:(T.fdiv d).natAbs*d.natAbs=T.natAbs:=by rw[← Int.natAbs_mul,mT]
 have hd:1≤d.natAbs:=by omega
 calc (T.fdiv d).natAbs=(T.fdiv d).natAbs*1:=by omega
  _≤(T.fdiv d).natAbs*d.natAbs:=Nat.mul_le_mul_left _ hd
  _=T.natAbs:=h
section
variable {X:Cx}{Z:Zx}
def wIf (C:Int→Int→Bool)(g:Int→Int→D):W2:=λx y S Q=>match x,y with
 | .int i,.int j=>if C i j=true then Q (g i j) S else False
 | _,_=>False
theorem opIf {f:Value→Value→Sem Value}{C:Int→Int→Prop}{C':Int→Int→Bool}{g:Int→Int→D}(h:OpR X f (upO X.K Z (wI C g)))(hc:∀i j,C' i j=true→C i j):OpR X f (upO X.K Z (wIf C' g)):=
 zfv h λx y H Qv ⟨r,S,dx,dy,Q,rel,px,py,q,ret⟩=>⟨r,S,dx,dy,Q,rel,px,py,by
  unfold wIf at q
  split at q
  ·obtain⟨h1,h2⟩:=zhT q
   exact⟨hc _ _ h1,h2⟩
  ·exact q.elim,ret⟩
def zhc (_ j:Int):Bool:=decide (0<j)&&decide (j<1073741824)
abbrev zid:W2:=wIf zhc λi j=>.int (i/j)
abbrev zhj:W2:=wIf zhc λi j=>.int (i%j)
def powB (i j:Int):Bool:=decide (0≤j)&&decide (j≤1000)&&decide (-1000<i)&&decide (i<1000)
abbrev wPowL:W2:=wIf powB λi j=>.int (i^j.toNat)
theorem zpr {i j:Int}(h:zhc i j=true):0<j∧j<1073741824:=by
 unfold zhc at h
 simpa using h
theorem zdd:OpR X (binaryOp .FloorDiv) (upO X.K Z zid):=opIf zm7 λi j h=>by
 obtain⟨h1,h2⟩:=zpr h
 refine⟨h1,?_⟩
 have:j.natAbs.log2<30:=(Nat.log2_lt (by omega)).mpr (by omega)
 omega
theorem zbM:OpR X (binaryOp .Mod) (upO X.K Z zhj):=opIf zgQ λi j h=>(zpr h).1
theorem zxh:OpR X (binaryOp .Pow) (upO X.K Z wPowL):=opIf zsW λi j h=>by
 unfold powB at h
 simp at h
 refine⟨h.1.1.1,by have:=h.1.1.2; omega,?_⟩
 have h3:=h.1.2
 have h4:=h.2
 have big:(18446744073709551616:Nat)=2^64:=by decide
 omega
structure Df (K:PySem.W.Frag)(mg:Str→Option Value)(x:Str)(st:Stmt)(ps:List Str) where
 f:Addr
 fd:FuncData
 F:Fun K x x st f fd
 m:mg x=some (.ref f)
 b:zbE K fd ps []
structure Fk (P:Program)(w:World)(K:PySem.W.Frag)(mg:Str→Option Value)(base:Heap)(k:Nat)(x:Str)(ps:List Str)(sd:Sd) where
 f:Addr
 fd:FuncData
 ok:zaV P w K mg base (CXE P w) k f fd ps (upF K sd)
 m:mg x=some (.ref f)
 kp:PySem.W.keepIn K (.ref f)=true
 b:zbE K fd ps []
def Df.mk' {P:Program}{w:World}{K:PySem.W.Frag}{mg:Str→Option Value}{base:Heap}{k:Nat}{x:Str}{st:Stmt}{ps:List Str}{sd:Sd}(d:Df K mg x st ps)(h:zaV P w K mg base (CXE P w) k d.f d.fd ps (upF K sd)):Fk P w K mg base k x ps sd:=
 ⟨d.f,d.fd,h,d.m,d.F.kp,d.b⟩
theorem za6 {x:Str}{p pos:Pos}{e:Expr}{es:List Expr}{t:TDA}{k:Nat}{ps:List Str}{sd:Sd}{ex:Ev→Addr→Sto→Prop}{W:St→XK}(G:Fk X.prog X.w X.K X.mg X.base k x ps sd)(hr:zaC k X.A)(hx:zdi X W)(hg:Gl X x)(ha:PDA X ⟨ex,W⟩ (e::es) t)
  (hdb:(x==("__debug__":Str))=false:=by decide)(he:starEach (e::es) X.env=(false,eval e X.env)::starEach es X.env:=by rfl)(hpl:(backTo pos (starEach es X.env)).any (·.1)=false:=by rfl):
  PD X ⟨ex,W⟩ (.Call (.Name x p) (e::es) [] pos) (zgk ex sd t):=zwO G.ok hr hg G.m G.kp G.b hx ha hdb he hpl
end
def zfM:Sd:=λds S Q _=>∃ns:List Int,ds=[.ref 0]∧S=[.frz (ns.map D.int)]∧ns.length≤63∧∀S',Q (.bl true) S'
theorem ztU:∀ds S Q ex,zfM ds S Q ex→ds.length=1:=λds S Q ex h=>by
 obtain⟨ns,rfl,_⟩:=h
 rfl
theorem zwr {K:PySem.W.Frag}{H:Hp}{a:Addr}{xs:List V}(hO:zh3 H)(h:SqL K H a xs):SqF K H a xs:=by
 rcases h with (h | ⟨o,h⟩) | h
 ·rcases hO a with z | ⟨o,ys,z⟩
  ·rw[h] at z; cases z
  ·rw[h] at z; cases z
 ·exact .inl ⟨o,h⟩
 ·exact .inr h
theorem zqQ {r:List Addr}{H:Hp}(ns:List Int):Rps r H (ns.map D.int) (ns.map V.int):=by
 refine⟨by simp,λi d v h1 h2=>?_⟩
 rw[Vao] at h1 h2
 cases q:ns[i]? with
 | none=>rw[q] at h1; cases h1
 | some z=>
  rw[q] at h1 h2
  cases h1
  cases h2
  exact .int z
theorem zvX {K:PySem.W.Frag}{H:Hp}{a:Addr}{ns:List Int}(hl:ns.length≤63)(hO:zh3 H)(hS:SqL K H a (ns.map V.int)):upF K zfM [.ref a] H (λv _=>v=.bl true) λ_ _ _=>False:=by
 refine⟨λ_ _=>False,[a],[.frz (ns.map D.int)],[.ref 0],λd _=>d=.bl true,⟨⟨rfl,λn b o h1 h2=>?_,λn m b xs ys h1 h2 h3 h4 o1 o2=>?_⟩,λ_ _ _ _ _ _ _ _ _ z=>z.elim⟩,Rps.cons (.ref rfl) Rps.nil,⟨ns,rfl,rfl,hl,λ_=>rfl⟩,λv H' r' d S' e rel p q=>?_⟩
 ·cases n with
  | zero=>
   simp at h1 h2
   subst h1; subst h2
   exact⟨_,zwr hO hS,zqQ ns⟩
  | succ n=>simp at h1
 ·cases n with
  | zero=>
   simp at h3
   subst h3
   cases o1
  | succ n=>simp at h1
 ·subst q
  cases p
  rfl
theorem zuh {l:PySem.W.OpenLaw}{q:Program}{loose:List Str}{XP:(Str→Option Value)→Heap→Prop}{YP:World→Heap→Prop}{d:DefRec}{K:Params→PySem.W.Frag}{x:Str}(k:Nat)(hn:l.most=some 63)(hdf:d.params.defaults=[])(hr:zaC k callerA)
  (hY:∀(w:World) (h:Heap),YP w h→(K w.params).In h)
  (F:∀(w:World) (mg:Str→Option Value) (fa:Addr) (h:Heap),(K w.params).In h→h.Ns mainGlobals mg→mg d.name=some (.ref fa)→
   ∃fd:FuncData,(∀(s:Shared) (u:Value),BindsTo s fd ⟨[u],[]⟩ [(x,u)])∧∀base:Heap,(K w.params).In base→base.Ns mainGlobals mg→zaV l.prog w (K w.params) mg base (CXE l.prog w) k fa fd [x] (upF (K w.params) zfM)):
  PySem.W.WalkO q loose XP YP l.row.toRowW d [] (λf vs=>PySem.call f vs):=
 L2.zrL (n:=63) (k:=k) (x:=x) (CX:=λw=>CXE l.prog w) (sp:=λw=>upF (K w.params) zfM) hn (by decide) hdf hr hY F (λ_ _ a ns hl hO hS=>zvX hl hO hS) λ_ _ _ _ _ ⟨_,_,_,_,_,_,_,_,_,_,_,_,z⟩=>z
theorem zkN (K:PySem.W.Frag)(T:String)(h:T∈["int","bool","tuple","str"]):Kit K T:=by
 intro t ht
 simp only[Vab,Vag,or_false] at h ht
 rcases h with rfl | rfl | rfl | rfl <;> rcases ht with rfl | rfl | rfl | rfl | rfl <;> kernel_rfl
theorem ifT {c:Bool}{A B:Prop}(h:c=true)(a:A):if c=true then A else B:=by rw[if_pos h]; exact a
theorem ifF {c:Bool}{A B:Prop}(h:c=false)(b:B):if c=true then A else B:=by rw[h]; exact zcn b
theorem ifP {c A B:Prop} [Decidable c] (h:c)(a:A):if c then A else B:=by rw[if_pos h]; exact a
theorem ifD {c:Prop} [Decidable c] {A B:Prop}(h1:c→A)(h2:¬ c→B):if decide c=true then A else B:=by
 by_cases h:c
 ·rw[decide_eq_true h]; exact zbZ (h1 h)
 ·rw[decide_eq_false h]; exact zcn (h2 h)
theorem zeO {i n:Nat}{tb:TDS}{E:zbN}{dl:Ev}{S:Sto}{o:Ob}(P:D→Prop)(hS:S[n]?=some o)(hi:i<dl.length)(hP:∀x∈zax o,P x)
  (hb:∀(x:D) (nx ct:Ev→Sto→Prop),P x→nx (dl.set i (some x)) S→tb { nx:=nx,rt:=E.rt,bk:=E.nx,ct:=ct } (dl.set i (some x)) S)(he:∀v:Option D,E.nx (dl.set i v) S)(hL:zcs o=some o:=by rfl):
  (lAt S n).isSome=true∧∃W:Nat→Nat→Ev→Sto→Prop,(∃m,W 0 m dl S)∧∀k m dl S,W k m dl S→match lAt S n with
  | some o=>match (zax o)[k]? with
   | some x=>tb { nx:=λdl' S'=>∃m',m'<m∧W (k+1) m' dl' S',rt:=E.rt,bk:=E.nx,ct:=λdl' S'=>∃m',m'<m∧W (k+1) m' dl' S' } (dl.set i (some x)) S
   | none=>E.nx dl S
  | none=>False:=by
 refine⟨by rw[zbr hS hL]; rfl,λk m dl' S'=>S'=S∧m+k=(zax o).length∧∃v,dl'=dl.set i v,⟨(zax o).length,rfl,by omega,dl[i],by simp⟩,?_⟩
 rintro k m dl' S' ⟨rfl,hm,v,rfl⟩
 rw[zbr hS hL]
 show (match (zax o)[k]? with
   | some x=>tb { nx:=λdl' S''=>∃m',m'<m∧(S''=S'∧m'+(k+1)=(zax o).length∧∃v,dl'=dl.set i v),rt:=E.rt,bk:=E.nx,ct:=λdl' S''=>∃m',m'<m∧(S''=S'∧m'+(k+1)=(zax o).length∧∃v,dl'=dl.set i v) } ((dl.set i v).set i (some x)) S'
   | none=>E.nx (dl.set i v) S')
 split
 ·rename_i x hx
  have hk:k<(zax o).length:=(Vaf.mp hx).1
  rw[List.set_set]
  exact hb x _ _ (hP x (VaI hx)) ⟨m-1,by omega,rfl,by omega,some x,rfl⟩
 ·exact he v
open PySem L2
open PySem L2
theorem Sz.pow {n:Nat}{i:Int}(h:Sz n i)(k:Nat):Sz (n*k+1) (i^k):=by
 unfold Sz at *
 rw[Int.natAbs_pow,VaB,Nat.pow_mul]
 have h1:i.natAbs^k≤(2^n)^k:=Nat.pow_le_pow_left (VaC h) k
 have h2:0<(2^n)^k:=Nat.pow_pos (Nat.pow_pos (by decide))
 omega
theorem ifN {c:Prop} [Decidable c] {A B:Prop}(h1:¬ c→A)(h2:c→B):if (!decide c)=true then A else B:=by
 by_cases h:c
 ·rw[decide_eq_true h]; exact L2.zcn (h2 h)
 ·rw[decide_eq_false h]; exact L2.zbZ (h1 h)
section
variable {X:Cx}{Z:Zx}
def ztH (ex:Ev→Addr→Sto→Prop)(c:Addr)(t:TDA):TDS:=λ_ dl S=>t dl S λds S1=>if ds.length≤1000 then ex dl c S1 else False
theorem zcC {x:Str}{C:Addr}{bm:List Value}{nid B inid:String}{np cpos pos:Pos}{e:Expr}{es:List Expr}{t:TDA}(c:Xc X.K X.mg x C bm nid)(FB:ExcBaseFacts B nid inid bm){ex:Ev→Addr→Sto→Prop}{W:St→XK}(hx:zmw X W)(hh:X.A.handled=none)(hg:Gl X x)
  (ha:PDA X ⟨ex,W⟩ (e::es) t)(he:starEach (e::es) X.env=(false,eval e X.env)::starEach es X.env:=by rfl)(hpl:(backTo cpos (starEach es X.env)).any (·.1)=false:=by rfl)(hd:(x==("__debug__":Str))=false:=by decide):
  PDS X ⟨ex,W⟩ (.Raise (some (.Call (.Name x np) (e::es) [] cpos)) none pos) (ztH ex C t):=by
 intro pins s σ H F I h
 obtain⟨r,dl,S,E,rs,rel,h,ret⟩:=h
 obtain⟨ml,Nn,cn,cq,cb,cdc,csn,csu,cab,cco,cdd,u0,u1,u2,u3,u5,mN,hC,hN,hni,T⟩:=(zvA c I.ok.mod.kin).obj
 refine wpAny_Raise_call_subT (C:=C) (nm:=cn) (q:=cq) (N:=Nn) (bs:=cb) (bm:=ml) (hdct:=cdc) (sn:=csn) (sub:=csu) (ab:=cab) (col:=cco) (dd:=cdd) (k0:=u0) (k1:=u1) (k2:=u2) (k3:=u3) (k5:=u5)
  FB (mN:=mN) (T.hasType FB.hasBase) hh (by rw[he]; show (false||(backTo cpos (starEach es X.env)).any (·.1))=false; rw[hpl]; rfl) hni (zhl I hg c.bound ⟨rfl,?_⟩ hd)
 have ha':=ha cpos pins s σ H (λvs H1=>vs.length≤sizeLine∧W σ (.ref C) none H1) I ⟨r,dl,S,_,rs,rel,h,λvs H1 r1 ds S1 e1 rel1 p1 h1=>by
  obtain⟨hl,h1⟩:=zhT h1
  exact⟨by rw[← p1.1]; exact zb5 hl,rel1.xw dl σ C H1 r1 S1 Ext.refl (rs.ext e1) rel1.b h1⟩⟩
 rw[he] at ha' ⊢
 refine Calls.evalArgs_plain (wpAny_mono ha' (λus s2 h2=>?_) λ_ _ y=>y)
 obtain⟨vs,H1,I1,rv,hz,hw⟩:=h2
 have keep:∀b o,X.base.get? b=some o→s2.heap.get? b=some o:=λb o z=>(I1.bs b o z).1
 refine⟨rfl,by rw[← rv.length]; exact hz,keep _ _ hC,hN.keeps keep,T.keeps keep,λh' ea hm=>?_⟩
 exact hx pins σ H1 s2 h' ea C us I1 hm hw
abbrev Cx.held (X:Cx)(pins:List (Addr×Obj))(E:Value→Shared→Prop):Cx:={ X with pn:=X.pn++pins,xe:=E }
end
structure ze2 (k:Nat)(A:Around):Prop where
 dp:A.depth+3*k+5<recursionLimit
 un:A.units+16*k+200<cLine
theorem ze2.mono {j k:Nat}{A:Around}(r:ze2 k A)(h:j≤k):ze2 j A:=⟨by have:=r.dp; omega,by have:=r.un; omega⟩
theorem ze2.deeper {k:Nat}{A:Around}(r:ze2 (k+1) A)(env:Env):ze2 k (A.deeper env):=
 ⟨by have:=r.dp; show A.depth+1+3*k+5<_; omega,by have:=r.un; show A.units+3+16*k+200<_; omega⟩
structure FnOkN (P:Program)(w:World)(K:PySem.W.Frag)(mg:Str→Option Value)(base:Heap)(k:Nat)(f:Addr)(fd:FuncData)(ps:List Str)(sp:Sp):Prop where
 len:∀vs H Q E,sp vs H Q E→vs.length=ps.length
 run:∀(A:Around) (outer:List Env) (s:Shared) (H:Hp) (args:Args) (us:List Value) (vs:List V) (Q:VK) (E:XK),ze2 k A→zc6 P w K mg base A outer s H→BindsTo s fd args (ps.zip us)→zal vs us→sp vs H Q E→
  codeAny (model P w) A (.call (.ref f) args) (CR (CXE P w) outer P w H s Q E) s
section
variable {X:Cx}{k:Nat}{f:Addr}{fd:FuncData}{ps:List Str}{sp:Sp}{W:St→XK}{x:Str}{p pos:Pos}{e:Expr}{es:List Expr}{t:TA}
end
section
variable {X:Cx}{Z:Zx}{x:Str}{p pos:Pos}{e:Expr}{es:List Expr}{t:TDA}
end
section
variable {P:Program}{w:World}{K:PySem.W.Frag}{mg:Str→Option Value}{base:Heap}
end
structure FkN (P:Program)(w:World)(K:PySem.W.Frag)(mg:Str→Option Value)(base:Heap)(k:Nat)(x:Str)(ps:List Str)(sd:Sd) where
 f:Addr
 fd:FuncData
 ok:FnOkN P w K mg base k f fd ps (upF K sd)
 m:mg x=some (.ref f)
 kp:PySem.W.keepIn K (.ref f)=true
 b:zbE K fd ps []
section
variable {X:Cx}{Z:Zx}
theorem zph {r:List Addr}{H:Hp}{a:Addr}{o:HO}(h:H a=none):Ext r r H (upd H a o):=⟨λ_ _ q=>q,λ_ _ q=>zcV h _ _ q,λ_ _ q=>zcV h _ _ q⟩
open PySem.W in
end
abbrev VE:List Value:=[.type "ValueError",.type "Exception",.type "BaseException",.type "object"]
structure Ec (K:PySem.W.Frag)(mg:Str→Option Value)(x:Str) where
 c:Addr
 xc:Xc K mg x c VE "ValueError.__new__"
end L3
namespace L3
open PySem PySem.Spec PyProof.Rows L2
inductive Sco (n:Nat):D→Prop
 | non:Sco n .non
 | bl (b:Bool):Sco n (.bl b)
 | int (i:Int):Sco n (.int i)
 | str (x:Str):Sco n (.str x)
 | tup {ds:List D}:(∀d∈ds,Sco n d)→Sco n (.tup ds)
 | ref {m:Nat}:m<n→Sco n (.ref m)
 | exc (c:Addr):Sco n (.exc c)
theorem Rp.sco {r:List Addr}{H:Hp}{d:D}{v:V}(h:Rp r H d v):Sco r.length d:=by
 induction h with
 | non=>exact .non
 | bl b=>exact .bl b
 | int i=>exact .int i
 | str x=>exact .str x
 | @tup ds xs a _ l _ ih=>
  refine .tup λd hd=>?_
  obtain⟨i,hi,e⟩:=List.mem_iff_getElem.mp hd
  exact ih i d xs[i] (by simp[hi,e]) (by simp[l ▸ hi])
 | ref h=>exact .ref (Vaf.mp h).1
 | exc _=>exact .exc _
theorem Rp.low {r r':List Addr}{H:Hp}{d:D}{v:V}(h:Rp r' H d v)(low:∀m a,m<r.length→r'[m]?=some a→r[m]?=some a)(s:Sco r.length d):Rp r H d v:=by
 induction h with
 | non=>exact .non
 | bl b=>exact .bl b
 | int i=>exact .int i
 | str x=>exact .str x
 | tup e l f ih=>
  cases s with
  | tup s=>exact .tup e l λi d v h1 h2=>ih i d v h1 h2 (s d (VaI h1))
 | ref h=>
  cases s with
  | ref s=>exact .ref (low _ _ s h)
 | exc h=>exact .exc h
def Pre (S S':Sto):Prop:=∀(n:Nat) (o:Ob),S[n]?=some o→S'[n]?=some o
theorem Pre.refl {S:Sto}:Pre S S:=λ_ _ h=>h
theorem Pre.push {S S':Sto}{o:Ob}(h:Pre S S'):Pre S (S'++[o]):=λn u e=>by
 have z:=h n u e
 rw[Van (Vaf.mp z).1]; exact z
theorem Pre.trans {S S' S2:Sto}(h:Pre S S')(k:Pre S' S2):Pre S S2:=λn o e=>k n o (h n o e)
theorem znb {r r':List Addr}{H H':Hp}(e:Ext r r' H H'):∀m a,m<r.length→r'[m]?=some a→r[m]?=some a:=λm a hm h=>by
 have z:r[m]?=some r[m]:=by simp[hm]
 rw[e.adr _ _ z] at h
 rw[z]; exact h
theorem zaS.low {K:PySem.W.Frag}{r r':List Addr}{S S':Sto}{H H':Hp}(h:zaS K r S H)(e:Ext r r' H H')(h':zaS K r' S' H')(p:Pre S S'):zaS K r S H':=by
 have rl:∀ {ds:List D} {xs ys:List V},Rps r H ds xs→Rps r' H' ds ys→Rps r H' ds ys:=λ{ds xs ys} a b=>⟨b.1,λi d v h1 h2=>by
  obtain⟨v0,_,q⟩:=a.get h1
  exact(b.2 i d v h1 h2).low (znb e) q.sco⟩
 refine⟨h.len,λn a o h1 h2=>?_,λn m a xs ys h1 h2 h3 h4 o1 o2=>h'.nd n m a xs ys (e.adr _ _ h1) (e.adr _ _ h2) (p _ _ h3) (p _ _ h4) o1 o2⟩
 have q:=h.ob n a o h1 h2
 have q':=h'.ob n a o (e.adr _ _ h1) (p _ _ h2)
 cases o with
 | lst ds=>
  obtain⟨xs,_,a1⟩:=q
  obtain⟨ys,b0,b1⟩:=q'
  exact⟨ys,b0,rl a1 b1⟩
 | frz ds=>
  obtain⟨xs,_,a1⟩:=q
  obtain⟨ys,b0,b1⟩:=q'
  exact⟨ys,b0,rl a1 b1⟩
 | ins C fs=>
  obtain⟨_,_,_,a1⟩:=q
  obtain⟨dx,fs',b0,b1⟩:=q'
  exact⟨dx,fs',b0,b1.1,rl a1.2 b1.2⟩
 | dct kvs=>
  obtain⟨_,_,a1⟩:=q
  obtain⟨ks,b0,b1⟩:=q'
  exact⟨ks,b0,b1.1,rl a1.2 b1.2⟩
 | dck kvs=>
  obtain⟨_,_,a1⟩:=q
  obtain⟨ks,b0,b1⟩:=q'
  exact⟨ks,b0,b1.1,rl a1.2 b1.2⟩
 | tpl ws=>exact q'
def Gc (S:Sto)(Q:DK):DK:=λd S'=>Pre S S'∧Sco S.length d∧Q d S
def GcX (S:Sto)(ex:Addr→Sto→Prop):Addr→Sto→Prop:=λc S'=>Pre S S'∧ex c S
theorem Ret.gc {K:PySem.W.Frag}{Z Z':Zx}{r:List Addr}{S:Sto}{H:Hp}{Q:DK}{Qv:VK}(h:Ret K Z r H Q Qv)(rel:Rel K Z r S H):Ret K Z' r H (Gc S Q) Qv:=λv H' r' d S' e rel' p q=>by
 obtain⟨pre,sc,q⟩:=q
 have e':Ext r r H H':=⟨λ_ _ z=>z,e.tup,e.xc⟩
 rw[← rel.len] at sc
 exact h v H' r d S e' ⟨rel.b.low e rel'.b pre,rel.xw.ext e'⟩ (p.low (znb e) sc) q
theorem zeD.gc {K:PySem.W.Frag}{ex:Addr→Sto→Prop}{E:XK}{r:List Addr}{S:Sto}{H:Hp}(rel:Rel K (Zc ex E) r S H):zeD K (Zc (GcX S ex) E) r H:=λdl σ c H' r' S' e _ rb q=>by
 obtain⟨pre,q⟩:=q
 have e':Ext r r H H':=⟨λ_ _ z=>z,e.tup,e.xc⟩
 exact rel.xw [] [] c H' r S e' ⟨rfl,λi d z=>by simp at z⟩ (rel.b.low e rb pre) q
section
variable {P:Program}{w:World}{K:PySem.W.Frag}{mg:Str→Option Value}{base:Heap}
def gcS (sd:Sd):Sd:=λds S Q ex=>∃Q0 ex0,Q=Gc S Q0∧ex=GcX S ex0∧sd ds S Q0 ex0
theorem znm {CX:CXT}{k:Nat}{f:Addr}{fd:FuncData}{ps:List Str}{sd:Sd}(h:zaV P w K mg base CX k f fd ps (upF K (gcS sd))):zaV P w K mg base CX k f fd ps (upF K sd):=by
 have imp:∀vs H Q E,upF K sd vs H Q E→upF K (gcS sd) vs H Q E:=λvs H Qv E ⟨ex,r,S,ds,Q,rel,p,q,ret⟩=>
  ⟨GcX S ex,r,S,ds,Gc S Q,⟨rel.b,zeD.gc rel⟩,p,⟨Q,ex,rfl,rfl,q⟩,ret.gc rel⟩
 obtain⟨h1,h2⟩:=h
 exact⟨λvs H Q E q=>h1 vs H Q E (imp vs H Q E q),λA outer s H args us vs Q E hr e0 hb rv q=>h2 A outer s H args us vs Q E hr e0 hb rv (imp vs H Q E q)⟩
end
theorem zn0 {sd:Sd}{n:Nat}(len:∀ds S Q ex,sd ds S Q ex→ds.length=n):∀ds S Q ex,gcS sd ds S Q ex→ds.length=n:=λds S Q ex h=>by
 obtain⟨Q0,ex0,_,_,h⟩:=h
 exact len _ _ _ _ h
structure zgX (sc around:Scope)(x:Str)(caps:List Str):Prop where
 kind:sc.kind=.function
 nocell:∀y∈sc.names,y.2≠.cell
 own:∀y∈sc.names,y.2=.local→sc.names.lookup y.1=some .local
 loc:sc.names.lookup x=some .local
 cap:∀y∈caps,sc.names.lookup y=some .free
 out:∀y∈sc.names,y.2=.free→around.names.lookup y.1=some .cell
theorem zmu {α:Type}{y:Str}{v:α}:∀ {l:List (Str×α)},l.lookup y=some v→(y,v)∈l
 | [],h=>by simp at h
 | (n,k)::r,h=>by
  cases e:y==n with
  | true=>
   rw[Vah,e] at h
   have z:k=v:=Option.some.inj h
   have z2:y=n:=by simpa using e
   rw[z,z2]; exact Vau
  | false=>
   rw[Vah,e] at h
   exact Vam _ (zmu h)
theorem zmN {env:Env}:∀(l:List (Str×NameKind)) (acc:List (Str×Addr)),(∀y∈l,y.2=.free→∃c,env.cells.lookup y.1=some c)→(∀x c,acc.lookup x=some c→env.cells.lookup x=some c)→
  ∃cl,(forIn l acc λx r=>(if (x.2==NameKind.free)=true then do let a ← cellOf env x.1; pure (ForInStep.yield ((x.1,a)::r)) else pure (ForInStep.yield r):Sem (ForInStep (List (Str×Addr)))))=pure cl∧
   (∀x c,cl.lookup x=some c→env.cells.lookup x=some c)∧(∀y∈l,y.2=.free→cl.lookup y.1=env.cells.lookup y.1)∧∀x c,acc.lookup x=some c→∃c',cl.lookup x=some c'
 | [],acc,_,ha=>⟨acc,by simp,ha,λy hy=>(by cases hy),λx c e=>⟨c,e⟩⟩
 | (n,k)::r,acc,h,ha=>by
  cases hk:(k==NameKind.free) with
  | false=>
   obtain⟨cl,h1,h2,h3,h4⟩:=zmN r acc (λy hy=>h y (Vam _ hy)) ha
   refine⟨cl,?_,h2,λy hy hf=>?_,h4⟩
   ·rw[List.forIn_cons]; simp[hk]; simpa using h1
   ·have hy':=Vab.mp hy
    rcases hy' with rfl | hy
    ·rw[show k=NameKind.free from hf] at hk; exact absurd hk (by decide)
    ·exact h3 y hy hf
  | true=>
   have hf:k=NameKind.free:=by simpa using hk
   obtain⟨c,hc⟩:=h (n,k) Vau hf
   obtain⟨cl,h1,h2,h3,h4⟩:=zmN r ((n,c)::acc) (λy hy=>h y (Vam _ hy)) (λx c' e=>by
    cases q:x==n with
    | true=>
     rw[Vah,q] at e
     have z:x=n:=by simpa using q
     rw[z,hc]; exact e
    | false=>
     rw[Vah,q] at e
     exact ha x c' e)
   refine⟨cl,?_,h2,λy hy hf=>?_,λx c' e=>?_⟩
   ·have ec:cellOf env n=pure c:=by unfold cellOf; rw[hc]
    rw[List.forIn_cons]; simp[hk,ec]; simpa using h1
   ·have hy':=Vab.mp hy
    rcases hy' with rfl | hy
    ·obtain⟨c',e⟩:=h4 n c (by simp)
     rw[e]; exact(h2 _ _ e).symm
    ·exact h3 y hy hf
   ·refine h4 x (if x==n then c else c') ?_
    cases q:x==n with
    | true=>simp[Vah,q]
    | false=>simp[Vah,q,e]
theorem zvT {sc:Scope}{env:Env}(h:∀y∈sc.names,y.2=.free→∃c,env.cells.lookup y.1=some c):
  ∃cl,closureFor sc env=pure cl∧(∀x c,cl.lookup x=some c→env.cells.lookup x=some c)∧∀y∈sc.names,y.2=.free→cl.lookup y.1=env.cells.lookup y.1:=by
 obtain⟨cl,h1,h2,h3,_⟩:=zmN sc.names [] h (λx c e=>by simp at e)
 refine⟨cl,?_,h2,h3⟩
 unfold closureFor
 simp only[bind_pure]
 exact h1
theorem zow {env:Env}:∀ {names:List (Str×NameKind)} {x:Str},names.lookup x=some .free→
  (names.map λ(n,k)=>if (k==NameKind.free&&env.scope.kind==.function&&env.kindOf n==some .cell) then (n,NameKind.cell) else (n,k)).lookup x=some .cell∨
  (names.map λ(n,k)=>if (k==NameKind.free&&env.scope.kind==.function&&env.kindOf n==some .cell) then (n,NameKind.cell) else (n,k)).lookup x=some .free
 | [],_,h=>by simp at h
 | (n,k)::r,x,h=>by
  have ih:=@zow env r x
  rw[Vaj]
  cases hx:x==n with
  | true=>
   rw[Vah,hx] at h
   have hk:k=.free:=Option.some.inj h
   subst hk
   dsimp only
   split
   ·left; simp[Vah,hx]
   ·right; simp[Vah,hx]
  | false=>
   rw[Vah,hx] at h
   dsimp only
   split
   ·simp only[Vah,hx]; exact ih h
   ·simp only[Vah,hx]; exact ih h
theorem znt {env:Env}:∀ {names:List (Str×NameKind)} {x:Str},(∀y∈names,y.2≠.cell)→
  ((names.map λ(n,k)=>if (k==NameKind.free&&env.scope.kind==.function&&env.kindOf n==some .cell) then (n,NameKind.cell) else (n,k)).lookup x=some .cell∨
  (names.map λ(n,k)=>if (k==NameKind.free&&env.scope.kind==.function&&env.kindOf n==some .cell) then (n,NameKind.cell) else (n,k)).lookup x=some .free)→names.lookup x=some .free
 | [],_,_,h=>by simp at h
 | (n,k)::r,x,hc,h=>by
  have ih:=@znt env r x λy hy=>hc y (Vam _ hy)
  rw[Vaj] at h
  cases hx:x==n with
  | true=>
   rw[Vah,hx]
   dsimp only at h
   split at h
   ·rename_i q
    simp only[Vay] at q
    have hk:k=.free:=by simpa using q.1.1
    rw[hk]
   ·simp only[Vah,hx] at h
    rcases h with h | h
    ·exact absurd (Option.some.inj h) (hc (n,k) Vau)
    ·exact h
  | false=>
   rw[Vah,hx]
   dsimp only at h
   split at h
   ·simp only[Vah,hx] at h; exact ih h
   ·simp only[Vah,hx] at h; exact ih h
abbrev Cx.comp (X:Cx)(sc:Scope)(N:List Str)(cl:List (Str×Addr))(C:Addr)(s0:Shared)(H0:Hp)(fp:List Addr)(pn:List (Addr×Obj)):Cx:=
 { X with N:=N,env:=compEnvC sc cl C X.env,s₀:=s0,H₀:=H0,outer:=X.stack,stack:=X.stack,ex:=fp,fn:=λ_=>false,pn:=pn,xe:=λ_ _=>False }
def zca (caps:List Nat)(σ:St):St:=caps.map λj=>(σ[j]?).join
def zet (caps:List Nat)(dl:Ev):Ev:=caps.map λj=>(dl[j]?).join
def zmn (caps:List Nat)(wi:TI)(tc:TT)(te:TE):TE:=λσ H Q=>wi σ H λJ H1=>∀D,H1 D=none→∃W:Nat→Nat→Hp→Prop,(∃m,W 0 m (upd H1 D (.lst [])))∧∀i m H,W i m H→
 (J.stop i H∧Q (.ref D) H)∨(J.go i H∧∀x H',J.yld i H x H'→tc (some x::zca caps σ) H' λb H2=>if b=true then te (some x::zca caps σ) H2 λy H3=>∃ys,H3 D=some (.lst ys)∧ys.length<sizeLine∧∃m',m'<m∧W (i+1) m' (upd H3 D (.lst (ys++[y])))
  else ∃m',m'<m∧W (i+1) m' H2)
def PTs (Y:Cx)(ifs:List Expr)(tc:TT):Prop:=∀(pins:List (Addr×Obj)) (s:Shared) (σ:St) (H:Hp) (Q:Bool→Hp→Prop),Inv Y pins σ H s→tc σ H Q→
 wpAny (model Y.prog Y.w) Y.A (forIn ifs true λc r=>if r=true then do let ok ← isTrue c Y.env (eval c Y.env); pure (ForInStep.yield ok) else pure (ForInStep.yield r)) (TP Y pins σ Q) Y.xe s
theorem zrt {Y:Cx}:PTs Y [] (λ_ H Q=>Q true H):=λ_ _ _ H _ I h=>wpAny_tests_nil ⟨H,I,h⟩
section
variable {X:Cx}{pins:List (Addr×Obj)}{σ:St}{H:Hp}{s:Shared}
theorem zvW {sc:Scope}{x:Str}{N:List Str}{caps:List Nat}{cl:List (Str×Addr)}{fp:List Addr}{h1:Heap}{m:Str→Option Value}{tk:Nat}(I:Inv X pins σ H s)(cs:zgX sc X.env.scope x N)
  (hN:∀(j:Nat) (y:Str),N[j]?=some y→∃i,caps[j]?=some i∧X.N[i]?=some y)(hlen:caps.length=N.length)
  (c1:∀x c,cl.lookup x=some c→X.env.cells.lookup x=some c)(c2:∀y∈sc.names,y.2=.free→cl.lookup y.1=X.env.cells.lookup y.1)
  (hf:∀b∈fp,zcm X pins H b)(hfo:∀b∈fp,b<s.heap.objs.size)(hns:h1.Ns s.heap.objs.size m)(hk:∀b o,s.heap.get? b=some o→h1.get? b=some o):
  Inv (Cx.comp X sc (x::N) cl s.heap.objs.size s H fp (X.pn++pins)) [] (none::zca caps σ) H { s with heap:=h1,toks:=tk }:=by
 have stk:∀b∈frs X.stack,b=X.env.locals∨b∈X.fs:=λb hb=>Vab.mp (I.stkSub b hb)
 refine⟨⟨I.ok.mod,cs.kind,I.ok.glob,I.ok.blt,Vaa _,λa b c h1 h2=>I.ok.inj a b c (c1 _ _ h1) (c1 _ _ h2),λy hy=>?_,λ_ _ z=>Bool.noConfusion z,I.ok.hd,I.ok.frames,.inl rfl,λb hb=>⟨Vak (hfo b hb),λy c e=>(hf b hb).2.2.2.2.1 y c (c1 _ _ e)⟩,
  I.bs,Vat I.ok.bsz I.sz,λb o e hb=>?_,λb hb z=>?_,I.stack,I.stkFree⟩,rfl,I.bare,Un.kept hk,⟨m,hns,λi y v e1 e2 e3=>?_⟩,λy c e=>?_,I.hok.fresh (Vaa _),λy c e=>I.freeC y c (c1 _ _ e),λp hp=>?_,I.hok.kept hk,?_⟩
 ·have hfr:sc.names.lookup y=some .free:=znt cs.nocell hy
  have hm:=zmu hfr
  obtain⟨c,e⟩:=I.ok.has y (.inl (cs.out _ hm rfl))
  exact⟨c,(c2 _ hm rfl).trans e⟩
 ·rcases (hf b hb).2.2.2.1 with z | z
  ·exact I.ok.noex b o e z
  ·exact absurd (Vai (Heap.lt_size (I.ok.bs b o e).1) z) (Vax _)
 ·rcases stk b z with z | z
  ·exact(hf b hb).2.1 z
  ·exact(hf b hb).2.2.1 z
 ·cases i with
  | zero=>simp at e2
  | succ i=>
   have e1':N[i]?=some y:=by simpa using e1
   obtain⟨j,hj,hy⟩:=hN i y e1'
   have e2':σ[j]?=some (some v):=by
    simp only[List.getElem?_cons_succ,zca,Vao,hj,Option.map_some,Option.some.injEq] at e2
    cases q:σ[j]? with
    | none=>rw[q] at e2; cases e2
    | some o=>rw[q] at e2; simp at e2; rw[e2]
   have hfr:sc.names.lookup y=some .free:=cs.cap y (VaI e1')
   have hm:=zmu hfr
   have hce:X.env.scope.names.lookup y=some .cell:=cs.out _ hm rfl
   obtain⟨m0,_,hl⟩:=I.loc
   obtain⟨u,r,l⟩:=hl j y v hy e2' (.inr (.inl hce))
   refine⟨u,r,.inr ⟨zow hfr,?_⟩⟩
   rcases l with ⟨k,_⟩ | ⟨_,c,ec,hcell⟩
   ·rw[show X.env.kindOf y=some .cell from hce] at k; cases k
   ·exact⟨c,(c2 _ hm rfl).trans ec,hcell.keeps hk⟩
 ·obtain⟨v,z⟩:=I.cell y c (c1 _ _ e)
  exact⟨v,z.keeps hk⟩
 ·have hp':p∈X.pn++pins:=by simpa using hp
  obtain⟨p1,p2,p3,p4,p5⟩:=I.pin p hp'
  refine⟨hk _ _ p1,p2,Vak (Heap.lt_size p1),λz=>?_,p5⟩
  rcases stk _ z with z | z
  ·exact p3 z
  ·exact p4 z
 ·simp[zca,hlen]
end
section
variable {X:Cx}{elt iter:Expr}{x:Str}{px pos:Pos}{ifs:List Expr}{sc:Scope}{N:List Str}{caps:List Nat}{wi:TI}{tc:TT}{te:TE}
structure ztc (X:Cx)(pins:List (Addr×Obj))(σ:St)(C:Addr)(Q:VK)(D:Addr)(s':Shared):Prop where
 q:∃H',Inv X pins σ H' s'∧Q (.ref D) H'∧H' C=none
 ns:∃m,s'.heap.Ns C m
 loc:C≠X.env.locals
 old:X.s₀.heap.objs.size≤C
 cell:∀x c,X.env.cells.lookup x=some c→c≠C
 pin:∀p∈X.pn++pins,p.1≠C
theorem zwT {use:Option (Value→Sem Unit)}{Qr:Value→Shared→Prop}(hc:X.calm=true)(cs:zgX sc X.env.scope x N)(hN:∀(j:Nat) (y:Str),N[j]?=some y→∃i,caps[j]?=some i∧X.N[i]?=some y)(hlen:caps.length=N.length)(hnd:(x::N).Nodup)
  (hi:PI X (.Name x px) iter wi)(ht:∀cl C s0 H0 fp pn,PTs (Cx.comp X sc (x::N) cl C s0 H0 fp pn) ifs tc)(he:∀cl C s0 H0 fp pn,PE (Cx.comp X sc (x::N) cl C s0 H0 fp pn) elt te)
  (hs:∀y,foldedSetIterable iter X.env y=pure y)
  {pins:List (Addr×Obj)}{s:Shared}{σ:St}{H:Hp}{Q:VK}{p2:Pos}(I:Inv X pins σ H s)(h:zmn caps wi tc te σ H Q)
  (fin:∀D C s',ztc X pins σ C Q D s'→compPost (model X.prog X.w) X.A X.xe use Qr (.ref D) C (.ok .next) s'):
  wpAny (model X.prog X.w) X.A (comprehension (.ListComp elt [⟨.Name x px,iter,ifs,0⟩] sc pos) sc X.env p2 (newList []) false (eval iter X.env) use) Qr X.xe s:=by
 obtain⟨cl,k1,k2,k3⟩:=zvT (sc:=sc) (env:=X.env) λy hy hf=>I.ok.has y.1 (.inl (cs.out y hy hf))
 refine wpAny_comprehension_free rfl hs k1 cs.kind cs.own (thn (hi pins s σ H _ I h) λv s1 h1=>thn h1 λitv s2 h2=>?_)
 obtain⟨it,fp,tn,J,H2,e,I2,T,st2,f2,body⟩:=h2
 subst e
 have hfo:∀b∈fp,b<s2.heap.objs.size:=λb hb=>by
  obtain⟨o,e,_⟩:=T.obj _ _ st2 b hb
  exact Heap.lt_size e
 have hD:H2 s2.heap.objs.size=none:=I2.hok.fresh (Vaa _)
 obtain⟨W,⟨m0,w0⟩,turn⟩:=body _ hD
 refine wpAny_newObj_type ?_
 have I3:Inv X pins σ (upd H2 s2.heap.objs.size (.lst [])) { s2 with heap:=s2.heap.push { cls:=.type "list",dict:=none,data:=.seq ([]:List Value).toArray },toks:=s2.toks }:=
  I2.laid (t':=s2.toks) (λb u e=>Heap.get?_push_of_some _ e) (Vaa _) ⟨Vaz _,[],0,.nil,Heap.get?_push_size _ rfl⟩
 generalize hs3:({ s2 with heap:=s2.heap.push { cls:=.type "list",dict:=none,data:=.seq ([]:List Value).toArray },toks:=s2.toks }:Shared)=s3 at I3
 have es3:({ s2 with heap:=s2.heap.push { cls:=.type "list",dict:=none,data:=.seq ([]:List Value).toArray } }:Shared)=s3:=hs3
 try rw[es3]
 have f3:∀b∈fp,zcm X pins (upd H2 s2.heap.objs.size (.lst [])) b:=λb hb=>⟨by rw[za2 (Vak (hfo b hb))]; exact(f2 b hb).1,(f2 b hb).2⟩
 have up3:∀b o,s2.heap.get? b=some o→s3.heap.get? b=some o:=λb o e=>by rw[← hs3]; exact Heap.get?_push_of_some _ e
 have st3:tn 0 s3.heap:=T.keep _ _ _ st2 λb _ o e=>up3 b o e
 have hfo3:∀b∈fp,b<s3.heap.objs.size:=λb hb=>by
  obtain⟨o,e,_⟩:=T.obj _ _ st3 b hb
  exact Heap.lt_size e
 refine wpAny_newFunctionEnv cs.nocell (λy hy=>by simp at hy) (λh4 ns4 sb4=>?_) cs.kind
 have hk4:∀b o,s3.heap.get? b=some o→h4.get? b=some o:=λb o e=>(sb4.2 b (Vak (Heap.lt_size e))).trans (Heap.get?_push_of_some _ e)
 have I4:=zvW (tk:=s3.toks+([]:List (Str×Value)).length) I3 cs hN hlen k2 k3 f3 hfo3 ns4 hk4
 generalize hs4:({ s3 with heap:=h4,toks:=s3.toks+([]:List (Str×Value)).length }:Shared)=s4 at I4 ⊢
 have eh4:s4.heap=h4:=by rw[← hs4]
 have st4:tn 0 s4.heap:=by rw[eh4]; exact T.keep _ _ _ st3 λb _ o e=>hk4 b o e
 have fY:∀ {H':Hp},(∀b∈fp,H' b=none)→∀b∈fp,zcm (Cx.comp X sc (x::N) cl s3.heap.objs.size s3 (upd H2 s2.heap.objs.size (.lst [])) fp (X.pn++pins)) [] H' b:=λhn b hb=>by
  obtain⟨_,z2,z3,z4,z5,z6⟩:=f3 b hb
  refine⟨hn b hb,Vak (hfo3 b hb),λz=>?_,.inl hb,λy c e=>z5 y c (k2 _ _ e),λp hp=>z6 p (by simpa using hp)⟩
  rcases Vab.mp (I3.stkSub b z) with z | z
  ·exact z2 z
  ·exact z3 z
 have locY:(Cx.comp X sc (x::N) cl s3.heap.objs.size s3 (upd H2 s2.heap.objs.size (.lst [])) fp (X.pn++pins)).env.scope.names.lookup x=some .local:=lookup_relabel_local cs.loc
 have loop:codeAny (model X.prog X.w) X.A (.compLoop (.ListComp elt [⟨.Name x px,iter,ifs,0⟩] sc pos) 0 (.ref it) (.ref s2.heap.objs.size) (compEnvC sc cl s3.heap.objs.size X.env))
   (compPost (model X.prog X.w) X.A X.xe use Qr (.ref s2.heap.objs.size) s3.heap.objs.size) s4:=by
  refine codeAny_compLoop_tests (λn s'=>∃i o H',Inv (Cx.comp X sc (x::N) cl s3.heap.objs.size s3 (upd H2 s2.heap.objs.size (.lst [])) fp (X.pn++pins)) [] (o::zca caps σ) H' s'∧tn i s'.heap∧(∀b∈fp,H' b=none)∧W i n H') ?_ m0
   ⟨0,none,_,I4,st4,λb hb=>(f3 b hb).1,w0⟩
  rintro n s5 ⟨i,o,H5,I5,st5,fr5,w5⟩
  rcases turn i n H5 w5 with ⟨stop,q⟩ | ⟨go,step⟩
  ·refine thn (T.done (Cx.comp X sc (x::N) cl s3.heap.objs.size s3 (upd H2 s2.heap.objs.size (.lst [])) fp (X.pn++pins)) rfl rfl rfl hc i [] s5 _ H5 _ I5 (fY fr5) st5 stop) λr s6 ⟨hr,I6⟩=>?_
   subst hr
   refine fin _ _ _ ⟨⟨H5,I3.call' I6.os I6.base I6.hok I6.bare (λb hb=>?_),q,I6.free⟩,?_,Nat.ne_of_gt I3.lt,I3.sz,λy c e z=>?_,λp hp z=>?_⟩
   ·obtain⟨_,z2,z3,z4,z5,z6⟩:=f3 b hb
    exact⟨z4,z2,z5,z6⟩
   ·obtain⟨m,hm,_⟩:=I6.loc
    exact⟨m,hm⟩
   ·obtain⟨v,hv⟩:=I3.cell y c e
    exact absurd (z ▸ hv.lt) (Vax _)
   ·exact absurd (z ▸ Heap.lt_size (I3.pin p hp).1) (Vax _)
  ·refine thn (T.item (Cx.comp X sc (x::N) cl s3.heap.objs.size s3 (upd H2 s2.heap.objs.size (.lst [])) fp (X.pn++pins)) rfl rfl rfl hc i [] s5 _ H5 _ I5 (fY fr5) st5 go) λr s6 ⟨u,hr,h6⟩=>?_
   subst hr
   show wpAny _ _ (letOwnedTupleGo (.Name x px) (.ref it) u >>= λ_=>assign (.Name x px) (compEnvC sc cl s3.heap.objs.size X.env) u) _ _ s6
   refine wpAny_bind (thn h6 λ_ s7 ⟨y,H7,I7,r7,y7,st7,fr7⟩=>?_)
   have I7':=I7.pinned (fY fr7) (T.obj _ _ st7)
   refine wpAny_mono (zlc (X:=Cx.comp X sc (x::N) cl s3.heap.objs.size s3 (upd H2 s2.heap.objs.size (.lst [])) fp (X.pn++pins)) (pos:=px) hnd (i:=0) rfl (.inl locY) (.inr locY) _ s7 _ H7 y u (λσ8 H8=>σ8=some y::zca caps σ∧H8=H7) I7' r7 ⟨rfl,rfl⟩) (λ_ s8 ⟨σ8,H8,I8,e8,e8'⟩=>?_) λ_ _ z=>z.elim
   subst e8
   subst e8'
   have stay:∀ {H':Hp} {s':Shared},Inv (Cx.comp X sc (x::N) cl s3.heap.objs.size s3 (upd H2 s2.heap.objs.size (.lst [])) fp (X.pn++pins)) ([]++zgw fp s7.heap) (some y::zca caps σ) H' s'→∀m',m'<n→W (i+1) m' H'→
     ∃m,m<n∧∃i o H',Inv (Cx.comp X sc (x::N) cl s3.heap.objs.size s3 (upd H2 s2.heap.objs.size (.lst [])) fp (X.pn++pins)) [] (o::zca caps σ) H' s'∧tn i s'.heap∧(∀b∈fp,H' b=none)∧W i m H':=λ{H' s'} J m' hm w'=>by
    refine⟨m',hm,i+1,some y,H',J.unpinned,T.keep _ _ _ st7 λb hb o e=>(J.pin (b,o) (Var _ (Var _ (zlg hb e)))).1,λb hb=>?_,w'⟩
    obtain⟨o,e,d⟩:=T.obj _ _ st7 b hb
    exact(J.pin (b,o) (Var _ (Var _ (zlg hb e)))).2.1
   refine wpAny_mono (ht _ _ _ _ _ _ _ s8 _ H8 _ I8 (step y H8 y7)) (λb s9 ⟨H9,I9,q9⟩=>?_) λ_ _ z=>z.elim
   cases b with
   | false=>
    rw[if_neg Val] at q9 ⊢
    obtain⟨m',hm,w9⟩:=q9
    exact stay I9 m' hm w9
   | true=>
    rw[if_pos rfl] at q9 ⊢
    refine wpAny_mono (he _ _ _ _ _ _ _ s9 _ H9 _ I9 q9) (λu2 s10 ⟨z,H10,I10,r10,q10⟩=>?_) λ_ _ z=>z.elim
    obtain⟨ys,hD10,hlt,m',hm,w10⟩:=q10
    refine wpAny_mono (zn4 (X:=(Cx.comp X sc (x::N) cl s3.heap.objs.size s3 (upd H2 s2.heap.objs.size (.lst [])) fp (X.pn++pins))) _ s10 _ H10 (.ref s2.heap.objs.size) [z] (.ref s2.heap.objs.size) [u2] (λ_ H'=>H'=upd H10 s2.heap.objs.size (.lst (ys++[z]))) I10 rfl (.cons r10 .nil) ⟨_,ys,z,rfl,rfl,hD10,hlt,rfl⟩) (λ_ s11 ⟨_,H11,I11,_,e11⟩=>?_) λ_ _ z=>z.elim
    subst e11
    exact stay I11 m' hm w10
 exact codeAny_compStart_list loop (T.self _ 0 s4 _ _ st4 loop)
theorem zo2 {X:Cx}{caps:List Nat}{N:List Str}(h:caps.map (λi=>X.N[i]?)=N.map some):(∀(j:Nat) (y:Str),N[j]?=some y→∃i,caps[j]?=some i∧X.N[i]?=some y)∧caps.length=N.length:=by
 refine⟨λj y e=>?_,by simpa using congrArg List.length h⟩
 have z:(caps.map (λi=>X.N[i]?))[j]?=some (some y):=by rw[h,Vao,e]; rfl
 rw[Vao] at z
 cases q:caps[j]? with
 | none=>rw[q] at z; cases z
 | some i=>rw[q] at z; exact⟨i,rfl,by simpa using z⟩
theorem ztm (hc:X.calm=true)(cs:zgX sc X.env.scope x N)(hN:caps.map (λi=>X.N[i]?)=N.map some)(hnd:(x::N).Nodup)
  (hi:PI X (.Name x px) iter wi)(ht:∀cl C s0 H0 fp pn,PTs (Cx.comp X sc (x::N) cl C s0 H0 fp pn) ifs tc)(he:∀cl C s0 H0 fp pn,PE (Cx.comp X sc (x::N) cl C s0 H0 fp pn) elt te)
  (hs:∀y,foldedSetIterable iter X.env y=pure y:=by intro _; rfl):PE X (.ListComp elt [⟨.Name x px,iter,ifs,0⟩] sc pos) (zmn caps wi tc te):=by
 intro pins s σ H Q I h
 rw[eval_ListComp]
 refine zwT (use:=none) hc cs (zo2 hN).1 (zo2 hN).2 hnd hi ht he hs I h λD C s' f=>?_
 obtain⟨⟨H',I',q,hC⟩,⟨m,ns⟩,l,o,c,p⟩:=f
 exact⟨m,ns,λh' sb=>⟨.ref D,H',I'.turned (t':=s'.toks) (λb ob hb e=>(sb.2 b hb).trans e) hC l (.inr o) c p,rfl,q⟩⟩
end
section
variable {X:Cx}{Z:Zx}{elt iter:Expr}{x:Str}{px pos:Pos}{ifs:List Expr}{sc ar:Scope}{N:List Str}{caps:List Nat}
theorem zqD {r:List Addr}{H:Hp}{dl:Ev}{σ:St}{d:D}{v:V}(h:Rs r H dl σ)(p:Rp r H d v):Rs r H (some d::zet caps dl) (some v::zca caps σ):=by
 refine⟨by simp[zet,zca],λi e hi=>?_⟩
 cases i with
 | zero=>simp at hi; subst hi; exact⟨v,rfl,p⟩
 | succ i=>
  simp only[List.getElem?_cons_succ,zet,Vao] at hi
  cases q:caps[i]? with
  | none=>rw[q] at hi; cases hi
  | some j=>
   rw[q] at hi
   simp only[Option.map_some,Option.some.injEq] at hi
   have hj:dl[j]?=some (some e):=by
    cases q2:dl[j]? with
    | none=>rw[q2] at hi; cases hi
    | some o=>rw[q2] at hi; simp at hi; rw[hi]
   obtain⟨w,h1,h2⟩:=h.2 j e hj
   refine⟨w,?_,h2⟩
   simp only[List.getElem?_cons_succ,zca,Vao,q,Option.map_some,h1,Option.join_some]
def PDTs (Y:Cx)(ifs:List Expr)(t:TDT):Prop:=PTs Y ifs (upT Y.K Z0 t)
def dYes:TDT:=λ_ S Q=>Q true S
theorem zwm {Y:Cx}:PDTs Y [] dYes:=λpins s σ H Qb I ⟨r,dl,S,Q,rs,rel,q,ret⟩=>zrt pins s σ H Qb I (ret true H r S Ext.refl rel q)
def zmb (caps:List Nat)(tc:TDT)(te:TDE)(k:Nat)(dl:Ev)(d:D)(S:Sto)(nx:Sto→Prop):Prop:=
 tc (some d::zet caps dl) S λb S1=>if b=true then te (some d::zet caps dl) S1 λy S2=>match S2[k]? with
  | some (.lst ys)=>ys.length<1000∧nx (S2.set k (.lst (ys++[y])))
  | _=>False
 else nx S1
theorem zwu {tc:TDT}{te:TDE}{r2:List Addr}{H2:Hp}{S1 S2:Sto}{dl:Ev}{σ:St}{D0:Addr}{d:D}{v:V}{nx:Sto→Prop}{Nx:Hp→Prop}(rs:Rs r2 H2 dl σ)(ha:r2[S1.length]?=some D0)(rb:zaS X.K r2 S2 H2)(p:Rp r2 H2 d v)
  (h:zmb caps tc te S1.length dl d S2 nx)(hn:∀r' S' H',Ext r2 r' H2 H'→zaS X.K r' S' H'→nx S'→Nx H'):
  upT X.K Z0 tc (some v::zca caps σ) H2 λb H3=>if b=true then up X.K Z0 te (some v::zca caps σ) H3 λy H4=>∃ys,H4 D0=some (.lst ys)∧ys.length<sizeLine∧Nx (upd H4 D0 (.lst (ys++[y]))) else Nx H3:=by
 have rsY:Rs r2 H2 (some d::zet caps dl) (some v::zca caps σ):=zqD rs p
 refine⟨r2,_,S2,_,rsY,⟨rb,λ_ _ _ _ _ _ _ _ _ z=>z.elim⟩,h,λb H3 r3 S3 x3 rel3 q3=>?_⟩
 cases b with
 | false=>rw[if_neg Val] at q3 ⊢; exact hn r3 S3 H3 x3 rel3.b q3
 | true=>
  rw[if_pos rfl] at q3 ⊢
  refine⟨r3,_,S3,_,rsY.ext x3,rel3,q3,λz H4 r4 dz S4 x4 rel4 p4 q4=>?_⟩
  split at q4
  ·rename_i ys eys
   obtain⟨hl,q4⟩:=q4
   have ha4:r4[S1.length]?=some D0:=x4.adr _ _ (x3.adr _ _ ha)
   obtain⟨zs,hD4,pz⟩:=rel4.b.ob _ _ _ ha4 eys
   obtain⟨rel5,x5⟩:=rel4.b.set ha4 eys (pz.snoc p4)
   exact⟨zs,hD4,by rw[← pz.1]; exact zie (VaC hl),hn r4 _ _ (x3.trans (x4.trans x5)) rel5 q4⟩
  ·exact q4.elim
theorem zmH {r:List Addr}{D0:Addr}{n:Nat}(h:r.length=n):(r++[D0])[n]?=some D0:=by subst h; simp
@[irreducible] def zgg (to te:TDE):TDE:=λdl S Q=>to dl S λx S1=>match x with
 | .ref n=>match S1[n]? with
  | some (.lst _)=>te dl S1 λy S2=>match S2[n]? with
   | some (.lst xs)=>if xs.length<1000 then Q .non (S2.set n (.lst (xs++[y]))) else False
   | _=>False
  | _=>False
 | _=>False
theorem zeX {o e:Expr}{to te:TDE}{apos cpos:Pos}(ho:PD X Z o to)(he:PD X Z e te)(hbase:attributeBase o "append" X.env (eval o X.env)=eval o X.env:=by rfl)
  (hfew:((backTo cpos (starEach [e] X.env)).all (λx=>!x.1)&&(backToKw cpos (keywordEach [] X.env)).all (λx=>x.1.isSome)
  &&decide (([e]:List Expr).length+([]:List Keyword).length+(if ([]:List Keyword).isEmpty then 0 else 1)<30))=true:=by rfl)
  (hline:(apos.endLine==cpos.line)=true:=by rfl)(hst:starEach [e] X.env=[(false,eval e X.env)]:=by rfl):
  PD X Z (.Call (.Attribute o "append" apos) [e] [] cpos) (zgg to te):=
 zaJ (zem PySem.F.plainAttrs_list PySem.F.slot_list_append PySem.F.type_list_append zn4 ho (zdX he zfm hst) hbase hfew hline hst rfl) λσ H Qv h=>by
  obtain⟨r,dl,S,Q,rs,rel,h,ret⟩:=h
  unfold zgg at h
  refine⟨r,dl,S,_,rs,rel,h,λv H1 r1 d S1 x1 rel1 p1 h1=>?_⟩
  cases p1 with
  | @ref n a hn=>
   dsimp only at h1
   split at h1
   ·rename_i xs0 e0
    obtain⟨a',ha,ob⟩:=rel1.at e0
    rw[hn] at ha; cases ha
    obtain⟨ys,hH,_⟩:=ob
    refine⟨.inl ⟨rfl,ys,SqL.of hH⟩,r1,dl,S1,_,rs.ext x1,rel1,h1,λv2 H2 r2 d2 S2 x2 rel2 p2 h2=>?_⟩
    split at h2
    ·rename_i xs1 e1
     obtain⟨hlt,h2⟩:=zhT h2
     have ha2:=x2.adr n a hn
     obtain⟨zs,hH2,pz⟩:=rel2.b.ob n a _ ha2 e1
     obtain⟨rel3,x3⟩:=rel2.set ha2 e1 (pz.snoc p2)
     exact⟨a,zs,v2,rfl,rfl,hH2,by rw[← pz.1]; exact zie (VaC hlt),ret .non _ r2 .non _ (x1.trans (x2.trans x3)) rel3 .non h2⟩
    ·exact h2.elim
   ·exact h1.elim
  | _=>exact(show False from h1).elim
def zjI:WC:=λds S Q=>match ds with
 | [.tup xs]=>Q (.ref S.length) (S++[.lst xs])
 | [.ref n]=>match lAt S n with
  | some o=>Q (.ref S.length) (S++[.lst (zax o)])
  | none=>False
 | _=>False
theorem zpP:za3 X (.type "list") (upC X.K Z zjI):=zfo zqh λxs H Qv ⟨r,S,ds,Q,rel,ps,q,ret⟩=>by
 unfold zjI at q
 split at q
 ·rename_i ys
  obtain⟨v,vs,rfl,p1,p2⟩:=ps.uncons
  have z:=p2.unnil
  subst z
  obtain⟨a,zs,rfl,h1,h2⟩:=p1.untup
  refine⟨a,zs,rfl,.inr (SqT.of h1),λl hl=>?_⟩
  obtain⟨rel2,x⟩:=rel.push hl h2
  exact ret _ _ _ (.ref S.length) _ x rel2 (zc0 rel.len) q
 ·rename_i n
  obtain⟨v,vs,rfl,p1,p2⟩:=ps.uncons
  have z:=p2.unnil
  subst z
  split at q
  ·rename_i o eo
   obtain⟨eo,eL⟩:=zcr eo
   obtain⟨a,ha,ob⟩:=rel.at eo
   cases p1 with
   | ref h1=>
    rw[h1] at ha; cases ha
    obtain⟨ys,sq,pr⟩:=ob.list eL
    refine⟨_,ys,rfl,.inl sq,λl hl=>?_⟩
    obtain⟨rel2,x⟩:=rel.push hl pr
    exact ret _ _ _ (.ref S.length) _ x rel2 (zc0 rel.len) q
  ·exact q.elim
 ·exact q.elim
def zcE:List D→Option (List Bool)
 | []=>some []
 | .bl b::r=>(zcE r).map (b::·)
 | _::_=>none
def zgI (g:List Bool→Bool):WC:=λds S Q=>match ds with
 | [.ref n]=>match lAt S n with
  | some o=>match zcE (zax o) with
   | some bs=>Q (.bl (g bs)) S
   | none=>False
  | none=>False
 | _=>False
theorem znq {r:List Addr}{H:Hp}:∀ {ds:List D} {bs:List Bool} {vs:List V} {us:List Value},zcE ds=some bs→Rps r H ds vs→zal vs us→us=bs.map Value.bool
 | [],bs,vs,us,e,p,q=>by
  have z:=p.unnil
  subst z
  cases q
  simp[zcE] at e
  subst e
  rfl
 | d::ds,bs,vs,us,e,p,q=>by
  obtain⟨v,vs',rfl,p1,p2⟩:=p.uncons
  cases d with
  | bl b=>
   cases p1
   cases q with
   | cons q1 q2=>
    have q1':_=Value.bool b:=q1
    subst q1'
    simp only[zcE,VaM] at e
    obtain⟨ms,e1,rfl⟩:=e
    rw[znq e1 p2 q2]
    rfl
  | _=>simp[zcE] at e
theorem zsp {bs:List Bool}:(List.range bs.length).all (λi=>bs.getD i false)=bs.all id:=by
 rw[VaO]
 rw[List.all_eq_true,List.all_eq_true]
 refine⟨λh b hb=>?_,λh i hi=>?_⟩
 ·obtain⟨i,hi,e⟩:=List.mem_iff_getElem.mp hb
  have hb':=h i (List.mem_range.mpr hi)
  simpa [hi,e] using hb'
 ·have hi':i<bs.length:=List.mem_range.mp hi
  have:=h bs[i] (VaU hi')
  simpa [hi'] using this
theorem zvJ {prog:Program}{w:World}{A:Around}{bs:List Bool}:TruthOf prog w A (λi v=>(bs.map Value.bool).toArray[i]?=some v) λi=>bs.getD i false:=λi v s Q E hP hQ=>by
  have e:(bs.map Value.bool)[i]?=some v:=by simpa using hP
  rw[Vao] at e
  cases q:bs[i]? with
  | none=>
   rw[q] at e
   cases e
  | some b=>
    rw[q] at e
    have z:Value.bool b=v:=by simpa using e
    subst z
    have z2:bs.getD i false=b:=by simp[VaK,q]
    have hQ':Q (bs.getD i false) s:=hQ
    rw[z2] at hQ'
    exact wpAny_truthy_bool hQ'
theorem ztd {n:Nat}{a:Addr}{o:Ob}{bs:List Bool}{pins:List (Addr×Obj)}{σ:St}{H:Hp}{s:Shared}{r:List Addr}{S:Sto}{Q:DK}{Qv:VK}{E:Value→Shared→Prop}{g:List Bool→Bool}(G:List Nat→(Nat→Bool)→Bool)
  (hG:G (List.range bs.length) (λi=>bs.getD i false)=g bs)(hc:X.calm=true)(I:Inv X pins σ H s)(rel:Rel X.K Z r S H)(hn:r[n]?=some a)(eo:lAt S n=some o)(eb:zcE (zax o)=some bs)(q:Q (.bl (g bs)) S)(ret:Ret X.K Z r H Q Qv):
  wpAny (model X.prog X.w) X.A.in1 (pyIter (.ref a)) (λit s₂=>∃I fp wr n P' St tr,it=.ref I∧Walks X.prog X.w X.A.in1 I fp wr n P' St∧St 0 s₂.heap∧TruthOf X.prog X.w X.A.in1 P' tr∧
   ∀h' tk,(∀b o,b ∉ wr→s₂.heap.get? b=some o→h'.get? b=some o)→EP X pins σ Qv (.bool (G (List.range n) tr)) { s₂ with heap:=h',toks:=tk }) E s:=by
 obtain⟨eo,eL⟩:=zcr eo
 obtain⟨a',ha,ob⟩:=rel.at eo
 rw[hn] at ha; cases ha
 obtain⟨ys,sq,pr⟩:=ob.list eL
 obtain⟨its,ri,pl,hz⟩:=I.list sq
 have eits:=znq eb pr ri
 subst eits
 refine wpAny_pyIter_list pl.isList ?_
 have hne:a≠s.heap.objs.size:=Vak (by
  obtain⟨ob,e,_⟩:=pl.isList
  exact Heap.lt_size e)
 refine⟨s.heap.objs.size,_,_,_,_,_,λi=>bs.getD i false,rfl,Walks.list (show X.A.in1.handled=none from I.ok.hd hc) _ a hne (bs.map Value.bool).toArray,⟨⟨_,Heap.get?_push_size _ rfl,rfl,rfl⟩,pl.isList.at λo e=>Heap.get?_push_of_some _ e⟩,zvJ,λh' tk hk=>?_⟩
 have ez:(bs.map Value.bool).toArray.size=bs.length:=by simp
 rw[ez,hG]
 refine⟨.bl (g bs),H,I.kept λb o e=>hk b o (λz=>?_) (Heap.get?_push_of_some _ e),rfl,ret _ _ _ _ _ Ext.refl rel (.bl _) q⟩
 have z':b=s.heap.objs.size:=by simpa using z
 exact absurd (z' ▸ Heap.lt_size e) (Vax _)
theorem zrT {id:String}{g:List Bool→Bool}(rule:∀(pins:List (Addr×Obj)) (σ:St) (H:Hp) (s:Shared) (r:List Addr) (S:Sto) (Q:DK) (Qv:VK) (n:Nat) (a:Addr) (o:Ob) (bs:List Bool),Inv X pins σ H s→Rel X.K Z r S H→r[n]?=some a→lAt S n=some o→zcE (zax o)=some bs→
   Q (.bl (g bs)) S→Ret X.K Z r H Q Qv→wpAny (model X.prog X.w) X.A (call (.builtin id) [.ref a]) (EP X pins σ Qv) X.xe s):za3 X (.builtin id) (upC X.K Z (zgI g)):=by
 intro pins s σ H xs us Qv I rv h
 obtain⟨r,S,ds,Q,rel,ps,q,ret⟩:=h
 unfold zgI at q
 split at q
 ·rename_i n
  obtain⟨v,vs,rfl,p1,p2⟩:=ps.uncons
  have z:=p2.unnil
  subst z
  split at q
  ·rename_i o eo
   split at q
   ·rename_i bs eb
    cases p1 with
    | ref h1=>
     obtain⟨u,rfl,ru⟩:=zb4 rv
     cases ru
     exact rule pins σ H s r S Q Qv n _ o bs I rel h1 eo eb q ret
   ·exact q.elim
  ·exact q.elim
 ·exact q.elim
theorem zqN (hc:X.calm=true):za3 X (.builtin "all") (upC X.K Z (zgI λbs=>bs.all id)):=
 zrT λ_ _ _ _ _ _ _ _ _ _ _ _ I rel h1 eo eb q ret=>call_all_walk (ztd (g:=λbs=>bs.all id) (λl f=>l.all f) zsp hc I rel h1 eo eb q ret)
@[irreducible] def irr (w:WC):WC:=w
@[irreducible] def zbP (w:W2):W2:=w
theorem zew (w:WC):irr w=w:=by unfold irr; rfl
theorem zb8 (w:W2):zbP w=w:=by unfold zbP; rfl
theorem zbo {f:Value}{w:WC}(h:za3 X f (upC X.K Z w)):za3 X f (upC X.K Z (irr w)):=by rw[zew]; exact h
theorem zaU {a b:Expr}{ta tb:TDE}(ha:PD X Z a ta)(hb:PD X Z b tb)(hs:zjg b):PD X Z (.Subscript a b pos) (dOp (zbP wIx) ta tb):=by rw[zb8]; exact zan ha hb hs
theorem zaj (S:Sto)(o:Ob):(S++[o])[S.length]?=some o:=by simp
theorem zsk {o:Ob}{bs:List Bool}(h:zcE (zax o)=some bs):zcs o=some o:=by
 cases o <;> first | rfl | cases h
theorem zqn {g:List Bool→Bool}{n:Nat}{S:Sto}{o:Ob}{bs:List Bool}{Q:DK}(h:S[n]?=some o)(hb:zcE (zax o)=some bs)(hq:Q (.bl (g bs)) S):irr (zgI g) [.ref n] S Q:=by
 rw[zew]
 unfold zgI
 simp only[zbr h (zsk hb),hb]
 exact hq
theorem zoj {n:Nat}{S:Sto}{o:Ob}{Q:DK}(h:lAt S n=some o)(hq:Q (.ref S.length) (S++[.lst (zax o)])):irr zjI [.ref n] S Q:=by
 rw[zew]
 unfold zjI
 simp only[h]
 exact hq
theorem zfb {to te:TDE}{dl:Ev}{S S1:Sto}{Q:DK}{n:Nat}{xs:List D}{y:D}(hto:∀K:DK,K (.ref n) S1→to dl S K)(h:S1[n]?=some (.lst xs))(hte:∀K:DK,K y S1→te dl S1 K)(hl:xs.length<1000)(hq:Q .non (S1.set n (.lst (xs++[y])))):zgg to te dl S Q:=by
 unfold zgg
 refine hto _ ?_
 simp only[h]
 refine hte _ ?_
 simp only[h]
 exact ifP hl hq
end
end L3
namespace L3
open PySem PySem.Spec PyProof.Rows L2 PySem.W Builtin Builtin.ObjectAttr Builtin.Getset_descriptor
structure Nx (K:Frag)(D:Addr):Prop where
 ga:findIn K (.ref D) "__getattribute__"=some (some (.builtin "BaseException.__getattribute__"))
 hk:findIn K (.ref D) "__getattr__"=some none
 ha:findIn K (.ref D) "__class__"=some (some (.builtin "object.__class__"))
 hn:specialIn K (.builtin "object.__class__") "__get__"=some (some (.builtin "getset_descriptor.__get__"))
 ht:takesIn K (.builtin "object.__class__")=some true
 hm:mroIn K D (.type "object")=some true
 hb:mroIn K D (.type "BaseException")=some true
section
variable {X:Cx}{Z:Zx}
end
def eqN:Nat→D→D→Option Bool
 | 0=>eqF
 | k+1=>eqT (eqN k)
theorem zoV:∀k,zft (eqN k)
 | 0=>ze4
 | k+1=>zpE (zoV k)
theorem ze3:∀k,zdU k (eqN k)
 | 0=>zlX 0
 | k+1=>zoG (ze3 k) (zoV k)
def zek (k:Nat)(S:Sto):D→D→Option Bool
 | .ref n,.ref m=>match lAt S n,lAt S m with
  | some o,some o'=>eqL (eqN k) (zax o) (zax o')
  | _,_=>none
 | x,y=>eqN (k+1) x y
def zeU (k:Nat):W2:=λx y S Q=>match zek k S x y with
 | some b=>Q (.bl b) S
 | none=>False
def zev (k:Nat):W2:=λx y S Q=>match zek k S x y with
 | some b=>Q (.bl (!b)) S
 | none=>False
section
variable {X:Cx}{Z:Zx}
theorem zwd {k n m:Nat}{a a':Addr}{o o':Ob}{b:Bool}{pins:List (Addr×Obj)}{σ:St}{H:Hp}{s:Shared}{r:List Addr}{S:Sto}(I:Inv X pins σ H s)(rel:Rel X.K Z r S H)(hn:r[n]?=some a)(hm:r[m]?=some a')(eo:lAt S n=some o)(eo':lAt S m=some o')
  (e:eqL (eqN k) (zax o) (zax o')=some b)(hu:X.A.units+1+k<cLine):SeqAt.RcAt X.A s (.ref a) (.ref a') b:=by
 obtain⟨eo,eL⟩:=zcr eo
 obtain⟨eo',eL'⟩:=zcr eo'
 obtain⟨z,hz,ob⟩:=rel.at eo
 rw[hn] at hz; cases hz
 obtain⟨z,hz,ob'⟩:=rel.at eo'
 rw[hm] at hz; cases hz
 obtain⟨xs,sq,pr⟩:=ob.list eL
 obtain⟨ys,sq',pr'⟩:=ob'.list eL'
 obtain⟨is,ri,pl,_⟩:=I.list sq
 obtain⟨js,rj,pl',_⟩:=I.list sq'
 obtain⟨g1,g2⟩:=zgS (A:=X.A.in1) (ze3 k) I (by show X.A.units+1+k<_; omega) pr pr' ri rj e
 by_cases hs:is.toArray.size=js.toArray.size
 ·have q:=SeqAt.RcAt.lists (A:=X.A) pl.isList pl'.isList hs (by omega) g1
  have e2:(List.range is.toArray.size).all (zcB (eqN k) (zax o) (zax o'))=b:=by
   rw[← g2,← hs,Nat.min_self]; simp
  rw[e2] at q
  exact q
 ·have q:=SeqAt.RcAt.lists_lengths (A:=X.A) pl.isList pl'.isList (by simpa using hs) (by omega)
  have e2:b=false:=by
   rw[← g2,show (is.toArray.size==js.toArray.size)=false by simpa using hs,Bool.and_false]
  rw[e2]
  exact q
theorem zvh (k:Nat){j:Nat}(hr:zaC j X.A)(hu:X.A.units+1+k<cLine):OpR X (compareOp .Eq) (upO X.K Z (zeU k)):=by
 intro pins s σ H x y v u Qv I rx ry h
 obtain⟨r,S,dx,dy,Q,rel,px,py,q,ret⟩:=h
 have zaF:∀ {dx dy:D} {x y:V},Rp r H dx x→Rp r H dy y→zam x v→zam y u→zek k S dx dy=eqN (k+1) dx dy→zeU k dx dy S Q→wpAny (model X.prog X.w) X.A (compareOp .Eq v u) (EP X pins σ Qv) X.xe s:=λpx py rx ry e q=>by
  refine zof (Z:=Z) (ze3 k) hu pins s σ H _ _ v u Qv I rx ry ⟨r,S,_,_,Q,rel,px,py,?_,ret⟩
  unfold zeU at q
  rw[e] at q
  exact q
 cases px with
 | @ref n a hn=>
  cases py with
  | @ref m a' hm=>
   cases rx
   cases ry
   unfold zeU zek at q
   dsimp only at q
   split at q
   ·rename_i b e
    split at e
    ·rename_i o o' eo eo'
     exact zwd I rel hn hm eo eo' e hu X.prog X.w X.xe _ ⟨.bl b,H,I,rfl,ret _ _ _ _ _ Ext.refl rel (.bl b) q⟩
    ·cases e
   ·exact q.elim
  | non=>exact zaF (.ref hn) .non rx ry rfl q
  | bl i=>exact zaF (.ref hn) (.bl i) rx ry rfl q
  | int i=>exact zaF (.ref hn) (.int i) rx ry rfl q
  | str i=>exact zaF (.ref hn) (.str i) rx ry rfl q
  | tup a b c=>exact zaF (.ref hn) (.tup a b c) rx ry rfl q
  | exc a=>exact zaF (.ref hn) (.exc a) rx ry rfl q
 | non=>exact zaF .non py rx ry rfl q
 | bl i=>exact zaF (.bl i) py rx ry rfl q
 | int i=>exact zaF (.int i) py rx ry rfl q
 | str i=>exact zaF (.str i) py rx ry rfl q
 | tup a b c=>exact zaF (.tup a b c) py rx ry rfl q
 | exc a=>exact zaF (.exc a) py rx ry rfl q
def zb9 (f:D→D→Option Bool):List D→D→Option Bool
 | [],_=>some false
 | y::ys,x=>match f y x,zb9 f ys x with
  | some b,some c=>some (b||c)
  | _,_=>none
def wIn (k:Nat)(neg:Bool):W2:=λx y S Q=>match y with
 | .ref n=>match lAt S n with
  | some o=>match zb9 (eqN k) (zax o) x with
   | some b=>Q (.bl (if neg then !b else b)) S
   | none=>False
  | none=>False
 | _=>False
theorem zqY {v v':V}{u:Value}(h:zam v u)(h':zam v' u):v=v':=by
 cases v <;> cases v' <;> simp[L2.zam] at h h' <;> first
  | rfl
  | (subst h; simp at h'; subst h'; rfl)
  | (obtain⟨t,rfl⟩:=h; simp at h'; subst h'; rfl)
  | (obtain⟨t,rfl⟩:=h; simp at h')
  | (subst h; simp at h')
  | skip
theorem zgD {r:List Addr}{H:Hp}{d d' x:D}{v:V}{b b':Bool}(p:Rp r H d v)(p':Rp r H d' v)(e:eqF d x=some b)(e':eqF d' x=some b'):b=b':=by
 have z:d=d':=by
  cases p <;> cases p' <;> first
   | rfl
   | (cases x <;> simp[eqF] at e)
   | (cases x <;> simp[eqF] at e')
 subst z
 rw[e] at e'
 exact Option.some.inj e'
theorem znr {f:D→D→Option Bool}{r:List Addr}{H:Hp}(hf:∀(d d' x:D) (v:V) (b b':Bool),Rp r H d v→Rp r H d' v→f d x=some b→f d' x=some b'→b=b'):
  ∀ {ds ds' zs:List D} {vs:List V} {b b':Bool},Rps r H ds vs→Rps r H ds' vs→eqL f ds zs=some b→eqL f ds' zs=some b'→b=b'
 | [],ds',zs,vs,b,b',p,p',e,e'=>by
  have z:=p.unnil
  subst z
  cases ds' with
  | nil=>rw[e] at e'; exact Option.some.inj e'
  | cons y ys=>exact absurd p'.1 (by simp)
 | d::ds,ds',zs,vs,b,b',p,p',e,e'=>by
  obtain⟨v,vs',rfl,p1,p2⟩:=p.uncons
  cases ds' with
  | nil=>exact absurd p'.1 (by simp)
  | cons d' ds'=>
   obtain⟨q1,q2⟩:=p'.tail
   cases zs with
   | nil=>
    simp only[eqL,Option.some.injEq] at e e'
    exact e.symm.trans e'
   | cons z zs=>
    unfold eqL at e e'
    split at e
    ·rename_i b1 c1 a1 a2
     split at e'
     ·rename_i b2 c2 a3 a4
      have h1:=hf d d' z v b1 b2 p1 q1 a1 a3
      have h2:=znr hf p2 q2 a2 a4
      subst h1 h2
      simp only[Option.some.injEq] at e e'
      exact e.symm.trans e'
     ·cases e'
    ·cases e
theorem zpL:∀(k:Nat) {r:List Addr} {H:Hp} (d d' x:D) (v:V) (b b':Bool),Rp r H d v→Rp r H d' v→eqN k d x=some b→eqN k d' x=some b'→b=b'
 | 0,r,H,d,d',x,v,b,b',p,p',e,e'=>zgD p p' e e'
 | k+1,r,H,d,d',x,v,b,b',p,p',e,e'=>by
  cases p with
  | tup h1 l1 f1=>
   cases p' with
   | tup h2 l2 f2=>
    rw[h1] at h2; cases h2
    cases x with
    | tup zs=>exact znr (λd d' x v b b'=>zpL k d d' x v b b') ⟨l1,f1⟩ ⟨l2,f2⟩ e e'
    | _=>simp[eqN,eqT,eqF] at e
   | ref h=>cases x <;> simp[eqN,eqT,eqF] at e'
   | exc h=>cases x <;> simp[eqN,eqT,eqF] at e'
  | non=>exact zgD (x:=x) .non p' (by cases x <;> exact e) (by cases p' <;> cases x <;> exact e')
  | bl i=>exact zgD (x:=x) (.bl i) p' (by cases x <;> exact e) (by cases p' <;> cases x <;> exact e')
  | int i=>exact zgD (x:=x) (.int i) p' (by cases x <;> exact e) (by cases p' <;> cases x <;> exact e')
  | str i=>exact zgD (x:=x) (.str i) p' (by cases x <;> exact e) (by cases p' <;> cases x <;> exact e')
  | ref h=>cases x <;> simp[eqN,eqT,eqF] at e
  | exc h=>cases x <;> simp[eqN,eqT,eqF] at e
theorem zoA {f:D→D→Option Bool}{x:D}:∀ {ys:List D} {b:Bool},zb9 f ys x=some b→(∀y∈ys,∃c,f y x=some c)∧(b=true↔∃y∈ys,f y x=some true)
 | [],b,e=>by
  simp only[zb9,Option.some.injEq] at e
  subst e
  simp
 | y::ys,b,e=>by
  unfold zb9 at e
  split at e
  ·rename_i b1 c1 e1 e2
   obtain⟨h1,h2⟩:=zoA e2
   simp only[Option.some.injEq] at e
   subst e
   refine⟨λz hz=>?_,?_⟩
   ·rcases Vab.mp hz with rfl | hz'
    ·exact⟨b1,e1⟩
    ·exact h1 z hz'
   ·rw[Bool.or_eq_true,h2]
    refine⟨λq=>?_,λ⟨z,hz,q⟩=>?_⟩
    ·rcases q with q | ⟨z,hz,q⟩
     ·exact⟨y,Vau,by rw[e1,q]⟩
     ·exact⟨z,Vam _ hz,q⟩
    ·rcases Vab.mp hz with rfl | hz'
     ·left
      rw[e1] at q
      exact Option.some.inj q
     ·exact .inr ⟨z,hz',q⟩
  ·cases e
theorem znw {k:Nat}{pins:List (Addr×Obj)}{σ:St}{H:Hp}{s:Shared}{r:List Addr}{A:Around}{ds:List D}{vs:List V}{us:List Value}{dx:D}{x:V}{u:Value}{b:Bool}(I:Inv X pins σ H s)(hu:A.units+k<cLine)
  (p:Rps r H ds vs)(rv:zal vs us)(px:Rp r H dx x)(rx:zam x u)(e:zb9 (eqN k) ds dx=some b):∃g:Value→Bool,(∀y,y∈us.toArray→SeqAt.EqAt A s y u (g y))∧us.toArray.any g=b:=by
 obtain⟨h1,h2⟩:=zoA e
 have at_:∀y∈us,∃d v,d∈ds∧Rp r H d v∧zam v y:=λy hy=>by
  obtain⟨j,hj,ej⟩:=List.mem_iff_getElem.mp hy
  have hv:j<vs.length:=by rw[rv.length]; exact hj
  have gv:vs[j]?=some vs[j]:=by simp[hv]
  obtain⟨w,gw,rw'⟩:=rv.get gv
  obtain⟨d,gd,pd⟩:=p.get' gv
  have ew:w=y:=by
   rw[VaL hj,ej] at gw
   exact(Option.some.inj gw).symm
  subst ew
  exact⟨d,_,VaI gd,pd,rw'⟩
 classical
 refine⟨λy=>decide (∃d v,d∈ds∧Rp r H d v∧zam v y∧eqN k d dx=some true),λy hy=>?_,?_⟩
 ·obtain⟨d,v,hd,pd,rd⟩:=at_ y (by simpa using hy)
  obtain⟨c,hc⟩:=h1 d hd
  have same:decide (∃d v,d∈ds∧Rp r H d v∧zam v y∧eqN k d dx=some true)=c:=by
   cases c with
   | true=>exact decide_eq_true ⟨d,v,hd,pd,rd,hc⟩
   | false=>
    refine decide_eq_false λ⟨d',v',_,pd',rd',hc'⟩=>?_
    have ev:=zqY rd rd'
    subst ev
    exact absurd (zpL k d d' dx v false true pd pd' hc hc') (by decide)
  show SeqAt.EqAt A s y u (decide _)
  rw[same]
  exact ze3 k X pins σ H s r A d dx v x y u c I hu pd px rd rx hc
 ·rw[VaO,h2,List.any_toArray,List.any_eq_true]
  refine⟨λ⟨y,hy,q⟩=>?_,λ⟨d,hd,q⟩=>?_⟩
  ·obtain⟨d,v,hd,_,_,q'⟩:=of_decide_eq_true q
   exact⟨d,hd,q'⟩
  ·obtain⟨j,hj,ej⟩:=List.mem_iff_getElem.mp hd
   have gd:ds[j]?=some d:=by simp[hj,ej]
   obtain⟨v,gv,pv⟩:=p.get gd
   obtain⟨w,gw,rw'⟩:=rv.get gv
   exact⟨w,VaI gw,decide_eq_true ⟨d,v,hd,pv,rw',q⟩⟩
theorem zoy (k:Nat)(hu:X.A.units+1+k<cLine):OpR X (compareOp .In) (upO X.K Z (wIn k false)):=by
 intro pins s σ H x y v u Qv I rx ry h
 obtain⟨r,S,dx,dy,Q,rel,px,py,q,ret⟩:=h
 cases py with
 | @ref n a hn=>
  unfold wIn at q
  dsimp only at q
  split at q
  ·rename_i o eo
   split at q
   ·rename_i b eb
    cases ry
    obtain⟨eo,eL⟩:=zcr eo
    obtain⟨a',ha,ob⟩:=rel.at eo
    rw[hn] at ha; cases ha
    obtain⟨ys,sq,pr⟩:=ob.list eL
    obtain⟨us,ru,pl,_⟩:=I.list sq
    obtain⟨g,g1,g2⟩:=znw (A:=X.A.in1) I (by show X.A.units+1+k<_; omega) pr ru px rx eb
    refine SeqAt.in_listAt g pl.isList g1 ?_
    rw[g2]
    exact⟨.bl b,H,I,rfl,ret _ _ _ _ _ Ext.refl rel (.bl b) q⟩
   ·exact q.elim
  ·exact q.elim
 | _=>exact(show False from q).elim
end
section
variable {X:Cx}{Z:Zx}{pos:Pos}
def zhJ:List Nat→List D→Ev→Ev
 | i::is,d::ds,dl=>zhJ is ds (dl.set i (some d))
 | _,_,dl=>dl
def zkY:List Nat→List V→St→St
 | i::is,v::vs,σ=>zkY is vs (σ.set i (some v))
 | _,_,σ=>σ
theorem zo7 {r:List Addr}{H:Hp}:∀ {is:List Nat} {ds:List D} {vs:List V} {dl:Ev} {σ:St},Rs r H dl σ→Rps r H ds vs→Rs r H (zhJ is ds dl) (zkY is vs σ)
 | [],ds,vs,dl,σ,h,p=>by cases ds <;> cases vs <;> exact h
 | i::is,[],vs,dl,σ,h,p=>by
  have z:=p.unnil
  subst z
  exact h
 | i::is,d::ds,vs,dl,σ,h,p=>by
  obtain⟨v,vs',rfl,p1,p2⟩:=p.uncons
  show Rs r H (zhJ is ds (dl.set i (some d))) (zkY is vs' (σ.set i (some v)))
  exact zo7 (Rs.set i h p1) p2
inductive Nms (X:Cx):List Expr→List Nat→Prop
 | nil:Nms X [] []
 | cons {x:Str} {p:Pos} {i:Nat} {es:List Expr} {is:List Nat}:X.N[i]?=some x→Loc X.env.scope x→(X.fn x=true∨X.env.scope.names.lookup x=some .local)→Nms X es is→Nms X (.Name x p::es) (i::is)
def gAll (is:List Nat):TGs:=λvs σ H Q=>vs.length=is.length∧Q (zkY is vs σ) H
theorem znM (hN:X.N.Nodup):∀ {es:List Expr} {is:List Nat},Nms X es is→PGs X es (gAll is)
 | _,_,.nil=>λpins s σ H vs us Q I r h=>by
  obtain⟨e,h⟩:=h
  have z:vs=[]:=by simpa using e
  subst z
  exact zuo pins s σ H [] us Q I r ⟨rfl,h⟩
 | _,_,.cons (x:=x) (p:=p) (es:=es) (is:=is) h1 h2 h3 t=>λpins s σ H vs us Q I r h=>by
  obtain⟨e,h⟩:=h
  cases vs with
  | nil=>simp at e
  | cons v vs=>exact zxb (zlc hN h1 h2 h3) (znM hN t) rfl pins s σ H (v::vs) us Q I r ⟨v,vs,rfl,by simpa using e,h⟩
def zmv:W2:=λx y S Q=>match x,y with
 | .str i,.str j=>(i.length+j.length≤1000)∧Q (.str (i++j)) S
 | _,_=>False
theorem zcM:OpR X (binaryOp .Add) (upO X.K Z zmv):=zfv ztV λx y H Qv ⟨r,S,dx,dy,Q,rel,px,py,q,ret⟩=>by
 cases px <;> cases py <;> first
  | exact⟨_,_,rfl,rfl,zb5 q.1,ret _ _ _ _ _ Ext.refl rel (.str _) q.2⟩
  | exact(show False from q).elim
def wIxS:W2:=λx y S Q=>match x,y with
 | .str z,.int i=>∃c,(0≤i∧i<2^63∧i<z.length)∧z.cps[i.toNat]?=some c∧Q (.str ⟨#[c]⟩) S
 | _,_=>False
theorem zwB {a b:Expr}{ta tb:TDE}(ha:PD X Z a ta)(hb:PD X Z b tb)(hs:zqe b):PD X Z (.Subscript a b pos) (dOp wIxS ta tb):=
 zaJ (zr7 ha hb hs) λσ H Qv h=>by
  obtain⟨r,dl,S,Q,rs,rel,h,ret⟩:=h
  refine⟨r,dl,S,_,rs,rel,h,λv H1 r1 dx S1 e1 rel1 p1 h1=>⟨r1,dl,S1,_,rs.ext e1,rel1,h1,λv2 H2 r2 dy S2 e2 rel2 p2 h2=>?_⟩⟩
  cases p1 with
  | str z=>
   cases p2 with
   | int i=>
    obtain⟨c,⟨b1,b2,b3⟩,hc,q⟩:=h2
    exact⟨z,i,c,rfl,rfl,b1,b2,b3,hc,ret _ _ _ _ _ (e1.trans e2) rel2 (.str _) q⟩
   | _=>exact(show False from h2).elim
  | _=>exact(show False from h2).elim
end
open PySem L2
theorem zup (S:Sto)(o u:Ob):(S++[o]).set S.length u=S++[u]:=by simp
theorem zpm {to te:TDE}{dl:Ev}{S T:Sto}{Q:DK}{xs:List D}{y:D}(hto:∀K:DK,K (.ref S.length) (S++[.lst xs])→to dl T K)(hte:∀K:DK,K y (S++[.lst xs])→te dl (S++[.lst xs]) K)(hl:xs.length<1000)(hq:Q .non (S++[.lst (xs++[y])])):zgg to te dl T Q:=
 zfb hto (zaj _ _) hte hl (by rw[zup]; exact hq)
section
variable {X:Cx}{Z:Zx}
end
def zuE:Sd:=λ_ _ _ _=>False
def Df.never {P:Program}{w:World}{K:PySem.W.Frag}{mg:Str→Option Value}{base:Heap}{x:Str}{st:Stmt}{ps:List Str}(k:Nat)(d:Df K mg x st ps):Fk P w K mg base k x ps zuE:=
 ⟨d.f,d.fd,⟨λ_ _ _ _ ⟨_,_,_,_,_,_,_,z,_⟩=>z.elim,λ_ _ _ _ _ _ _ _ _ _ _ _ _ ⟨_,_,_,_,_,_,_,z,_⟩=>z.elim⟩,d.m,d.F.kp,d.b⟩
section
variable {X:Cx}{Z:Zx}{pos:Pos}
def zog:WC:=λds S Q=>match ds with
 | [.str x]=>x.length≤1000∧Q (.int x.length) S
 | _=>False
theorem zrP:za3 X (.builtin "len") (upC X.K Z zog):=zfo zwM λxs H Qv ⟨r,S,ds,Q,rel,ps,q,ret⟩=>by
 unfold zog at q
 split at q
 ·obtain⟨v,vs,rfl,p1,p2⟩:=ps.uncons
  have z:=p2.unnil
  subst z
  cases p1
  exact⟨_,rfl,zb5 q.1,ret _ _ _ _ _ Ext.refl rel (.int _) q.2⟩
 ·exact q.elim
def wInS:W2:=λx y S Q=>match x,y with
 | .str i,.str j=>∃c,i=⟨#[c]⟩∧Q (.bl (decide (c∈j.cps.toList))) S
 | _,_=>False
theorem zss:OpR X (compareOp .In) (upO X.K Z wInS):=zfv zw1 λx y H Qv ⟨r,S,dx,dy,Q,rel,px,py,q,ret⟩=>by
  cases px <;> cases py <;> first
    | (obtain⟨c,rfl,q⟩:=q
       exact⟨_,_,rfl,rfl,by rw[StrLaws.found_one]; exact ret _ _ _ _ _ Ext.refl rel (.bl _) q⟩)
    | exact(show False from q).elim
theorem zmP {x z:Str}{t:Tok}{p:Pos}(hm:X.mg x=some (.str z t))(hg:Gl X x)(hd:(x==("__debug__":Str))=false:=by decide):PD X Z (.Name x p) (dC (.str z)):=
 zaJ (zfz hg hm (v:=.str z) ⟨t,rfl⟩ hd) λσ H Qv ⟨r,dl,S,Q,rs,rel,h,ret⟩=>ret _ H r (.str z) S Ext.refl rel (.str z) h
theorem zdu {x:Str}{i:Int}{t:Tok}{p:Pos}(hm:X.mg x=some (.int i t))(hg:Gl X x)(hd:(x==("__debug__":Str))=false:=by decide):PD X Z (.Name x p) (dC (.int i)):=
 zaJ (zfz hg hm (v:=.int i) ⟨t,rfl⟩ hd) λσ H Qv ⟨r,dl,S,Q,rs,rel,h,ret⟩=>ret _ H r (.int i) S Ext.refl rel (.int i) h
def GT (K:PySem.W.Frag)(mg:Str→Option Value)(x:Str)(ws:List Str):Prop:=
 ∃(a:Addr) (o:Obj) (its:Array Value) (n:Nat),mg x=some (.ref a)∧K.lookup a=some o∧o.cls=.type "tuple"∧o.data=.seq its n∧its.size≤sizeLine∧zal (ws.map V.str) its.toList
theorem zl5 (w:Str):∀ws:List Str,inV (.str w) (ws.map V.str)=ws.any (·==w)
 | []=>rfl
 | a::r=>by
  have ih:=zl5 w r
  unfold inV at ih ⊢
  rw[Vaj,VaJ,VaJ,ih]
  rfl
theorem zlZ:∀ws:List Str,(ws.map V.str).all zcY=true
 | []=>rfl
 | a::r=>by
  rw[Vaj,List.all_cons,zlZ r]
  rfl
def zw3 (ws:List Str)(ta:TDE):TDE:=λdl S Q=>ta dl S λd S1=>match d with
 | .str w=>Q (.bl (!ws.any (·==w))) S1
 | _=>False
theorem zs6 {a:Expr}{ta:TDE}{x:Str}{ws:List Str}{p:Pos}(hG:GT X.K X.mg x ws)(hg:Gl X x)(ha:PD X Z a ta)(hd:(x==("__debug__":Str))=false:=by decide):PD X Z (.Compare a [.NotIn] [.Name x p] pos) (zw3 ws ta):=by
 obtain⟨b,o,its,n,hm,hk,hc,hdt,hz,hv⟩:=hG
 refine zaJ (znZ zua ha (zfz (v:=.ref b) hg hm rfl hd) rfl) λσ H Qv ⟨r,dl,S,Q,rs,rel,h,ret⟩=>⟨r,dl,S,_,rs,rel,h,λv H1 r1 d S1 e1 rel1 p1 q1=>?_⟩
 cases p1 with
 | str w=>
  refine⟨b,ws.map V.str,rfl,.inr (.inr ⟨o,its,n,hk,hc,hdt,hz,hv⟩),rfl,zlZ ws,?_⟩
  show Qv (.bl (!inV (.str w) (ws.map V.str))) H1
  rw[zl5]
  exact ret _ H1 r1 (.bl _) S1 e1 rel1 (.bl _) q1
 | _=>exact(show False from q1).elim
def Its (z:Str):It:=⟨λi _=>i<z.cps.size,λi H x H'=>H'=H∧∃c,z.cps[i]?=some c∧x=.str ⟨#[c]⟩,λi _=>i=z.cps.size⟩
theorem znf {P:Program}{w:World}{K:PySem.W.Frag}{tg:Expr}{nm:String}{z:Str}{t:Tok}(it:Addr)
  (W:∀A':Around,A'.handled=none→Walks P w A' it [it] [it] z.cps.size (SignAt z) (λi h=>h.IsStrIter it nm z t i))
  (slf:∀(A:Around) (i:Nat) (s:Shared) (Q:Value→Shared→Prop) (E:Value→Shared→Prop),s.heap.IsStrIter it nm z t i→Q (.ref it) s→wpAny (model P w) A (pyIter (.ref it)) Q E s)
  (hn:["enumerate","zip","dict_itemiterator","dict_reverseitemiterator","odict_iterator","itertools.zip_longest","itertools.pairwise"].contains nm=false):
  zhs P w K tg (Its z) [it] it (λi h=>h.IsStrIter it nm z t i) where
 mem:=by simp
 obj:=λi h st b hb=>by
  have e:b=it:=by simpa using hb
  subst e
  obtain⟨o,e,c,d⟩:=st
  exact⟨o,e,λv y=>by rw[d] at y; cases y⟩
 keep:=λi h h' st k=>by
  obtain⟨o,e,c,d⟩:=st
  exact⟨o,k it (by simp) o e,c,d⟩
 item:=by
  intro X hP hw hK hc i pins s σ H E I hf st hg
  subst hP hw hK
  obtain⟨f0,f1,f2,f3,f4,f5⟩:=hf it (by simp)
  refine(W X.A (I.ok.hd hc)).item i s _ _ hg st λv h' tk hv st' kk=>?_
  obtain⟨c,u,hcp,rfl⟩:=hv
  have I1:Inv X pins σ H { s with heap:=h',toks:=tk }:=I.turned (λb o hb e=>kk b o (by simpa using hb) e) f0 f1 f3 f4 f5
  obtain⟨o,e,c1,d⟩:=id st'
  exact⟨_,rfl,zlR (s:={ s with heap:=h',toks:=tk }) e c1 d hn ⟨.str ⟨#[c]⟩,H,I1,⟨u,rfl⟩,⟨rfl,c,hcp,rfl⟩,st',λb hb=>(hf b hb).1⟩⟩
 done:=by
  intro X hP hw hK hc i pins s σ H E I hf st hg
  subst hP hw hK
  obtain⟨f0,f1,f2,f3,f4,f5⟩:=hf it (by simp)
  have hi:i=z.cps.size:=hg
  subst hi
  exact(W X.A (I.ok.hd hc)).done s _ _ st λh' tk kk=>⟨rfl,I.turned (t':=tk) (λb o hb e=>kk b o (by simpa using hb) e) f0 f1 f3 f4 f5⟩
 self:=λA i s Q E st h=>slf A i s Q E st h
def iStr (tl:TE):TI:=λσ H R=>tl σ H λx H1=>∃z,x=.str z∧R (Its z) H1
theorem zr2 {tg l:Expr}{tl:TE}(hl:PE X l tl):PI X tg l (iStr tl):=by
 intro pins s σ H R I h
 refine thn (hl pins s σ H _ I h) λv s1 ⟨x,H1,I1,r1,q1⟩=>?_
 obtain⟨z,e,q⟩:=q1
 subst e
 obtain⟨t,rfl⟩:=r1
 have fp:∀b∈[s1.heap.objs.size],zcm X pins H1 b:=λb hb=>by
  have e:b=s1.heap.objs.size:=by simpa using hb
  subst e
  exact I1.fpOk (Vaa _) (I1.hok.fresh (Vaa _))
 cases ha:z.cps.all (·<128)
 ·exact wpAny_pyIter_wide ha ⟨s1.heap.objs.size,[s1.heap.objs.size],_,_,H1,rfl,I1.kept (t':=s1.toks) λb o e=>Heap.get?_push_of_some _ e,znf _ (λA' hA=>Walks.strWide hA _ z t) (λA i s Q E st h=>wpAny_pyIter_striter_wide st h) (by decide),⟨_,Heap.get?_push_size _ rfl,rfl,rfl⟩,fp,q⟩
 ·exact wpAny_pyIter_ascii ha ⟨s1.heap.objs.size,[s1.heap.objs.size],_,_,H1,rfl,I1.kept (t':=s1.toks) λb o e=>Heap.get?_push_of_some _ e,znf _ (λA' hA=>Walks.strAscii hA _ z t) (λA i s Q E st h=>wpAny_pyIter_striter_ascii st h) (by decide),⟨_,Heap.get?_push_size _ rfl,rfl,rfl⟩,fp,q⟩
end
section
variable {X:Cx}{Z:Zx}{elt iter:Expr}{x:Str}{px pos:Pos}{ifs:List Expr}{sc ar:Scope}{N:List Str}{caps:List Nat}
@[irreducible] def zhI (caps:List Nat)(tl:TDE)(tc:TDT)(te:TDE):TDE:=λdl S Q=>tl dl S λd S1=>match d with
 | .str z=>∃W:Nat→Sto→Prop,W 0 (S1++[.lst []])∧∀k S2,W k S2→match z.cps[k]? with
  | some c=>zmb caps tc te S1.length dl (.str ⟨#[c]⟩) S2 λS3=>W (k+1) S3
  | none=>k=z.cps.size∧Q (.ref S1.length) S2
 | _=>False
theorem zqo {tl:TDE}{tc:TDT}{te:TDE}{σ:St}{H:Hp}{Qv:VK}(h:up X.K Z (zhI caps tl tc te) σ H Qv):zmn caps (iStr (up X.K Z tl)) (upT X.K Z0 tc) (up X.K Z0 te) σ H Qv:=by
 obtain⟨r,dl,S,Q,rs,rel,h,ret⟩:=h
 unfold zhI at h
 refine⟨r,dl,S,_,rs,rel,h,λv H1 r1 d S1 x1 rel1 p1 q1=>?_⟩
 cases p1 with
 | str z=>
  obtain⟨W,w0,turn⟩:=q1
  refine⟨z,rfl,λD0 hD=>?_⟩
  obtain⟨rel2,x2⟩:=rel1.b.push (ds:=[]) (xs:=[]) hD Rps.nil
  refine⟨λk m H'=>m=z.cps.size-k∧∃r' S',Ext (r1++[D0]) r' (upd H1 D0 (.lst [])) H'∧zaS X.K r' S' H'∧W k S',⟨z.cps.size,by simp,_,_,Ext.refl,rel2,w0⟩,?_⟩
  rintro k m H2 ⟨em,r2,S2,x3,rb2,w2⟩
  have ha2:r2[S1.length]?=some D0:=x3.adr _ _ (zmH rel1.len)
  have q:=turn k S2 w2
  split at q
  ·rename_i c hc
   have hk:k<z.cps.size:=by
    by_cases y:k<z.cps.size
    ·exact y
    ·rw[Array.getElem?_eq_none (by omega)] at hc; cases hc
   refine .inr ⟨hk,λv' H' y'=>?_⟩
   obtain⟨eH,c',hc',y'⟩:=y'
   subst eH
   subst y'
   have ec:c'=c:=by rw[hc] at hc'; exact(Option.some.inj hc').symm
   subst ec
   have z:=zwu (Nx:=λH'=>∃m',m'<m∧m'=z.cps.size-(k+1)∧∃r' S',Ext (r1++[D0]) r' (upd H1 D0 (.lst [])) H'∧zaS X.K r' S' H'∧W (k+1) S') (rs.ext (x1.trans (x2.trans x3))) ha2 rb2 (.str ⟨#[c']⟩) q
    λr' S' H' x' rb' w'=>⟨z.cps.size-(k+1),by omega,rfl,r',S',x3.trans x',rb',w'⟩
   exact z
  ·obtain⟨hk,q⟩:=q
   exact .inl ⟨hk,ret _ H2 r2 _ S2 (x1.trans (x2.trans x3)) ⟨rb2,rel.xw.ext (x1.trans (x2.trans x3))⟩ (.ref ha2) q⟩
 | _=>exact(show False from q1).elim
theorem zsh {tl:TDE}{tc:TDT}{te:TDE}(har:X.env.scope=ar)(hc:X.calm=true)(cs:zgX sc ar x N)(hN:caps.map (λi=>X.N[i]?)=N.map some)(hnd:(x::N).Nodup)(hl:PD X Z iter tl)
  (ht:∀cl C s0 H0 fp pn,PDTs (Cx.comp X sc (x::N) cl C s0 H0 fp pn) ifs tc)(he:∀cl C s0 H0 fp pn,PD (Cx.comp X sc (x::N) cl C s0 H0 fp pn) Z0 elt te)
  (hs:∀y,foldedSetIterable iter X.env y=pure y:=by intro _; rfl):PD X Z (.ListComp elt [⟨.Name x px,iter,ifs,0⟩] sc pos) (zhI caps tl tc te):=by
 subst har
 exact zaJ (ztm hc cs hN hnd (tc:=upT X.K Z0 tc) (te:=up X.K Z0 te) (zr2 hl) ht he hs) λ_ _ _ h=>zqo h
theorem zvv {tl te:TDE}{dl:Ev}{S S1:Sto}{Q:DK}{z:Str}(g:Nat→D)(htl:∀K:DK,K (.str z) S1→tl dl S K)(hl:z.cps.size≤1000)
  (ht:∀c∈z.cps.toList,∀(S2:Sto) (K:DK),Pre S1 S2→K (g c) S2→te (some (.str ⟨#[c]⟩)::zet caps dl) S2 K)(hq:Q (.ref S1.length) (S1++[.lst (z.cps.toList.map g)])):zhI caps tl dYes te dl S Q:=by
 unfold zhI
 refine htl _ ⟨λk S2=>S2=S1++[.lst ((z.cps.toList.take k).map g)]∧k≤z.cps.size,⟨by simp,by omega⟩,?_⟩
 rintro k S2 ⟨rfl,hk⟩
 split
 ·rename_i c hc
  have hk':k<z.cps.size:=by
   by_cases y:k<z.cps.size
   ·exact y
   ·rw[Array.getElem?_eq_none (by omega)] at hc; cases hc
  have hl':z.cps.toList[k]?=some c:=by simpa using hc
  unfold zmb dYes
  simp only[if_true]
  refine ht c (VaI hl') _ _ Pre.refl.push ?_
  rw[zaj]
  refine⟨by simp; omega,?_,by omega⟩
  have e:z.cps.toList.take (k+1)=z.cps.toList.take k++[c]:=by rw[List.take_succ,hl']; rfl
  rw[e,VaF,List.set_append_right _ _ (Vaa _)]
  simp
 ·rename_i hc
  have hk':k=z.cps.size:=by
   by_cases y:k<z.cps.size
   ·rw[Array.getElem?_eq_getElem y] at hc; cases hc
   ·omega
  refine⟨hk',?_⟩
  rw[hk',List.take_of_length_le (by simp)]
  exact hq
end
section
variable {X:Cx}{Z:Zx}{pos:Pos}
def zcw:List D→Option (List Str)
 | []=>some []
 | .str x::r=>(zcw r).map (x::·)
 | _=>none
theorem zmo {r:List Addr}{H:Hp}:∀ {ds:List D} {vs:List V} {us:List Value} {zs:List Str},zcw ds=some zs→Rps r H ds vs→zal vs us→StrsAre us zs
 | [],vs,us,zs,e,p,q=>by
  have z:=p.unnil
  subst z
  cases q
  simp only[zcw,Option.some.injEq] at e
  subst e
  exact .nil
 | d::ds,vs,us,zs,e,p,q=>by
  obtain⟨v,vs',rfl,p1,p2⟩:=p.uncons
  cases p1 with
  | str x=>
   cases q with
   | cons q1 q2=>
    obtain⟨t,rfl⟩:=q1
    simp only[zcw,VaM] at e
    obtain⟨ms,e1,rfl⟩:=e
    exact .cons x t (zmo e1 p2 q2)
  | _=>simp[zcw] at e
def zaF (zs:List Str):Str:=⟨(zs.flatMap λz=>z.cps.toList).toArray⟩
theorem zu2 (sep:Str)(h:sep.length=0):∀zs:List Str,Txt.join sep zs=zaF zs:=by
 have e:sep.cps=#[]:=by
  unfold Str.length at h
  exact Array.eq_empty_of_size_eq_zero h
 have key:∀(zs:List Str) (a:Array Nat),zs.foldl (λacc p=>acc++sep.cps++p.cps) a=a++(zs.flatMap λz=>z.cps.toList).toArray:=by
  intro zs
  induction zs with
  | nil=>intro a; simp
  | cons z zs ih=>
   intro a
   rw[List.foldl_cons,ih,e,List.flatMap_cons]
   exact Array.ext' (by simp)
 intro zs
 show Builtin.Str.glued sep zs=zaF zs
 unfold Builtin.Str.glued zaF
 cases zs with
 | nil=>rfl
 | cons z zs=>
  rw[List.drop_one,List.tail_cons,List.headD_cons,key,List.flatMap_cons]
  simp
abbrev TDO:=Ev→Sto→(Option Int→Sto→Prop)→Prop
def upP (K:PySem.W.Frag)(Z:Zx)(t:TDO):TO:=λσ H Q=>∃(r:List Addr) (dl:Ev) (S:Sto) (Q':Option Int→Sto→Prop),Rs r H dl σ∧Rel K Z r S H∧t dl S Q'∧∀o H' r' S',Ext r r' H H'→Rel K Z r' S' H'→Q' o S'→Q o H'
def PDO (X:Cx)(Z:Zx)(e:Option Expr)(t:TDO):Prop:=PO X e (upP X.K Z t)
def znG:TDO:=λ_ S Q=>Q none S
def zoN (t:TDE):TDO:=λdl S Q=>t dl S λd S1=>match d with
 | .int i=>Q (some i) S1
 | _=>False
theorem zn5 {e:Option Expr}{t t':TO}(h:PO X e t)(g:∀σ H Q,t' σ H Q→t σ H Q):PO X e t':=λpins s σ H Q I q=>h pins s σ H Q I (g σ H Q q)
theorem zfu:PDO X Z none znG:=zn5 ztX λσ H Q ⟨r,dl,S,Q',rs,rel,h,ret⟩=>ret none H r S Ext.refl rel h
theorem zdP {e:Expr}{t:TDE}(he:PD X Z e t):PDO X Z (some e) (zoN t):=zn5 (zwg he) λσ H Q ⟨r,dl,S,Q',rs,rel,h,ret⟩=>⟨r,dl,S,_,rs,rel,h,λv H1 r1 d S1 e1 rel1 p1 q1=>by
 cases p1 with
 | int i=>exact⟨i,rfl,ret (some i) H1 r1 S1 e1 rel1 q1⟩
 | _=>exact(show False from q1).elim⟩
def dSlS (te:TDE)(tl th:TDO):TDE:=λdl S Q=>te dl S λd S1=>tl dl S1 λl S2=>th dl S2 λu S3=>match d with
 | .str z=>z.length≤1000∧Q (.str (StrLaws.sliceText z l u)) S3
 | _=>False
theorem zwP:SlR X (λx lo hi H Q=>∃z,x=.str z∧z.length≤1000∧Q (.str (StrLaws.sliceText z lo hi)) H):=by
 intro pins s σ H x v vl vu lo hi sl Q I rx hs pl pu h
 obtain⟨z,rfl,hz,q⟩:=h
 obtain⟨t,rfl⟩:=rx
 refine⟨"str",_,PySem.F.slot_str_getitem.lookup,typeIs_str s z t,?_⟩
 have part:∀ {v:Value} {o:Option Int},IsPart v o→∃p:Option (Int×Tok),v=partValue p∧p.map (·.1)=o:=λ{v o} p=>by
  cases p with
  | none=>exact⟨none,rfl,rfl⟩
  | int i t=>exact⟨some (i,t),rfl,rfl⟩
 obtain⟨l,rfl,el⟩:=part pl
 obtain⟨u,rfl,eu⟩:=part pu
 refine wpAny_getItem_str_slice (l:=l) (u:=u) (st:=none) hs rfl ?_
 have e:(sliceMade z t l u none).post (EP X pins σ Q) s:=by
  unfold StrLaws.sliceText at q
  unfold sliceMade slicePicked
  rw[el,eu]
  split
  ·rename_i c
   rw[if_pos (show ((1:Int)==1&&(Builtin.Str.strSliceIndices lo hi 1 z.length).length==z.length)=true from c)] at q
   exact⟨.str z,H,I,⟨t,rfl⟩,q⟩
  ·rename_i c
   rw[if_neg (show ¬ ((1:Int)==1&&(Builtin.Str.strSliceIndices lo hi 1 z.length).length==z.length)=true from c)] at q
   refine⟨?_,.str _,H,I.tok _,⟨_,rfl⟩,q⟩
   have h1:=indices_len_le lo hi z.length
   have h2:=List.length_filterMap_le (λx=>z.cps[x]?) (Builtin.Str.strSliceIndices lo hi 1 z.length)
   have h3:z.length≤sizeLine:=zb5 hz
   show (List.filterMap (λx=>z.cps[x]?) (Builtin.Str.strSliceIndices lo hi 1 z.length)).toArray.size≤sizeLine
   rw[Vap]
   exact Vat h2 (Vat h1 h3)
 exact e
theorem zrs {e:Expr}{te:TDE}{lo hi:Option Expr}{tl th:TDO}{p2:Pos}(he:PD X Z e te)(hl:PDO X Z lo tl)(hu:PDO X Z hi th):PD X Z (.Subscript e (.Slice lo hi none p2) pos) (dSlS te tl th):=
 zaJ (znx zwP he hl hu) λσ H Qv ⟨r,dl,S,Q,rs,rel,h,ret⟩=>⟨r,dl,S,_,rs,rel,h,λv H1 r1 d S1 e1 rel1 p1 q1=>⟨r1,dl,S1,_,rs.ext e1,rel1,q1,λl H2 r2 S2 e2 rel2 q2=>⟨r2,dl,S2,_,rs.ext (e1.trans e2),rel2,q2,λu H3 r3 S3 e3 rel3 q3=>by
  cases p1 with
  | str z=>exact⟨z,rfl,q3.1,ret _ H3 r3 _ S3 (e1.trans (e2.trans e3)) rel3 (.str _) q3.2⟩
  | _=>exact(show False from q3).elim⟩⟩⟩
end
section
variable {X:Cx}{Z:Zx}
end
section
variable {X:Cx}{Z:Zx}
theorem zr3 {k:Nat}(hr:zaC k X.A):OpR X (compareOp .In) (upO X.K Z (zbP (wIn 0 false))):=by rw[zb8]; exact zoy 0 (by have:=hr.un; omega)
end
theorem ifB {c:Bool}{A B:Prop}(h1:c=true→A)(h2:c=false→B):if c=true then A else B:=by
 cases c with
 | true=>exact zbZ (h1 rfl)
 | false=>exact zcn (h2 rfl)
theorem zoo {α:Type}(f:α→Bool):∀l:List α,zcE (l.map λc=>D.bl (f c))=some (l.map f)
 | []=>rfl
 | a::r=>by
  rw[Vaj,Vaj,zcE,zoo f r]
  rfl
theorem zlQ (w:Str):∀ws:List Str,zb9 (eqN 0) (ws.map D.str) (.str w)=some (ws.any (·==w))
 | []=>rfl
 | a::r=>by
  have e:eqN 0 (.str a) (.str w)=some (a==w):=by
   show some (decide (a=w))=_
   exact congrArg some (by rw[VaO,decide_eq_true_iff,beq_iff_eq])
  rw[Vaj,zb9,e,zlQ w r]
  rfl
theorem zaM {n:Nat}{S:Sto}{o:Ob}{Q:DK}{i:Int}{d:D}(ho:S[n]?=some o)(hd:atI (zax o) i=some d)(hq:Q d S)(hL:zcs o=some o:=by rfl):zbP wIx (.ref n) (.int i) S Q:=by
 rw[zb8]
 unfold wIx
 simp only[zbr ho hL,hd]
 exact hq
def zaP (f:Str)(v:D):List (Str×D)→List (Str×D)
 | []=>[(f,v)]
 | p::r=>if p.1=f then (f,v)::r else p::zaP f v r
theorem FR.lookup {r:List Addr}{H:Hp}{f:Str}:∀ {fs:List (Str×D)} {fs':List (Str×V)},FR r H fs fs'→(∀d,fs.lookup f=some d→∃v,fs'.lookup f=some v∧Rp r H d v)∧(fs.lookup f=none→fs'.lookup f=none)
 | [],fs',h=>by
  have e:fs'=[]:=by
   have:=h.1
   simpa using this.symm
  subst e
  exact⟨λd z=>by simp at z,λ_=>rfl⟩
 | p::fs,[],h=>by
  have:=h.1
  simp at this
 | p::fs,q::fs',h=>by
  obtain⟨h1,h2⟩:=h
  simp only[Vaj,List.cons.injEq] at h1
  obtain⟨p1,p2⟩:=h2.tail
  obtain⟨i1,i2⟩:=FR.lookup (f:=f) (fs:=fs) (fs':=fs') ⟨h1.2,p2⟩
  obtain⟨pk,pv⟩:=p
  obtain⟨qk,qv⟩:=q
  have ek:pk=qk:=h1.1
  subst ek
  by_cases z:f=pk
  ·subst z
   simp only[List.lookup_cons_self]
   exact⟨λd hd=>⟨qv,rfl,by cases hd; exact p1⟩,λhd=>by cases hd⟩
  ·have zb:(f==pk)=false:=by simpa using z
   simp only[Vah,zb]
   exact⟨i1,i2⟩
theorem FR.put {r:List Addr}{H:Hp}{f:Str}{d:D}{v:V}(q:Rp r H d v):∀ {fs:List (Str×D)} {fs':List (Str×V)},FR r H fs fs'→FR r H (zaP f d fs) (zbC f v fs')
 | [],fs',h=>by
  have e:fs'=[]:=by
   have:=h.1
   simpa using this.symm
  subst e
  exact⟨rfl,Rps.cons q Rps.nil⟩
 | p::fs,[],h=>by
  have:=h.1
  simp at this
 | p::fs,p'::fs',h=>by
  obtain⟨h1,h2⟩:=h
  simp only[Vaj,List.cons.injEq] at h1
  obtain⟨p1,p2⟩:=h2.tail
  have ih:=FR.put (f:=f) q (fs:=fs) (fs':=fs') ⟨h1.2,p2⟩
  obtain⟨pk,pv⟩:=p
  obtain⟨qk,qv⟩:=p'
  have ek:pk=qk:=h1.1
  subst ek
  unfold zaP zbC
  by_cases z:pk=f
  ·rw[if_pos z,if_pos z]
   exact⟨by simp[h1.2,z],Rps.cons q p2⟩
  ·rw[if_neg z,if_neg z]
   exact⟨by simp[ih.1],Rps.cons p1 ih.2⟩
section
variable {X:Cx}{Z:Zx}{pos:Pos}
def zb2 (C:Addr)(S:Sto):D→Option (Nat×List (Str×D))
 | .ref n=>match S[n]? with
  | some (.ins C' fs)=>if C'=C then some (n,fs) else none
  | _=>none
 | _=>none
theorem zhC {C:Addr}{S:Sto}{d:D}{n:Nat}{fs:List (Str×D)}(h:zb2 C S d=some (n,fs)):d=.ref n∧S[n]?=some (.ins C fs):=by
 unfold zb2 at h
 split at h
 ·split at h
  ·rename_i m _ C' fs' e
   split at h
   ·rename_i ec
    subst ec
    simp only[Option.some.injEq,Prod.mk.injEq] at h
    obtain⟨rfl,rfl⟩:=h
    exact⟨rfl,e⟩
   ·cases h
  ·cases h
 ·cases h
@[irreducible] def zhx (C:Addr)(f:Str)(to:TDE):TDE:=λdl S Q=>to dl S λd S1=>match zb2 C S1 d with
 | some (_,fs)=>match fs.lookup f with
  | some v=>Q v S1
  | none=>False
 | none=>False
theorem za0 {C:Addr}{f:Str}{o:Expr}{to:TDE}(c:Cls X.K C)(n:zbq X.K C f)(ho:PD X Z o to)(hb:attributeBase o f X.env (eval o X.env)=eval o X.env:=by rfl):PD X Z (.Attribute o f pos) (zhx C f to):=
 zaJ (zq2 ho hb) λσ H Qv ⟨r,dl,S,Q,rs,rel,h,ret⟩=>by unfold zhx at h; exact⟨r,dl,S,_,rs,rel,h,λv H1 r1 d S1 e1 rel1 p1 q1=>by
  split at q1
  ·rename_i m fs ei
   obtain⟨rfl,eS⟩:=zhC ei
   split at q1
   ·rename_i w ew
    obtain⟨a,ha,ob⟩:=rel1.at eS
    obtain⟨dx,fs',eH,fr⟩:=ob
    cases p1 with
    | ref hr=>
     rw[hr] at ha; cases ha
     obtain⟨u,hu,pu⟩:=fr.lookup.1 w ew
     exact⟨a,C,dx,fs',u,rfl,eH,c,n,hu,ret u H1 r1 w S1 e1 rel1 pu q1⟩
   ·exact q1.elim
  ·exact q1.elim⟩
@[irreducible] def zfX (C:Addr)(f:Str)(to te:TDE):TDS:=λE dl S=>te dl S λv S1=>to dl S1 λd S2=>match zb2 C S2 d with
 | some (n,fs)=>fs.length<1000∧E.nx dl (S2.set n (.ins C (zaP f v fs)))
 | none=>False
theorem zcv {C:Addr}{f:Str}{o e:Expr}{to te:TDE}{p2:Pos}(c:Cls X.K C)(n:zbq X.K C f)(ho:PD X Z o to)(he:PD X Z e te)
  (hs:swapsWith e (some (.Attribute o f p2)) pos.line X.env=pure false:=by rfl):PDS X Z (.Assign [.Attribute o f p2] e pos) (zfX C f to te):=
 zcy (zty ho he hs) λF σ H ⟨r,dl,S,E,rs,rel,h,ret⟩=>by unfold zfX at h; exact⟨r,dl,S,_,rs,rel,h,λv H1 r1 dv S1 e1 rel1 p1 q1=>⟨r1,dl,S1,_,rs.ext e1,rel1,q1,λw H2 r2 d S2 e2 rel2 p2' q2=>by
  split at q2
  ·rename_i m fs ei
   obtain⟨rfl,eS⟩:=zhC ei
   obtain⟨hl,q2⟩:=q2
   obtain⟨a,ha,ob⟩:=rel2.at eS
   obtain⟨dx,fs',eH,fr⟩:=id ob
   cases p2' with
   | ref hr=>
    rw[hr] at ha; cases ha
    have hlen:fs'.length=fs.length:=by
     have:=congrArg List.length fr.1
     simpa using this.symm
    obtain⟨rb,x⟩:=rel2.b.setO (o':=.ins C (zaP f dv fs)) (u:=.ins C dx (zbC f v fs')) hr eS rfl rfl λx=>⟨dx,_,zbR,(fr.put (p1.ext e2)).ext x⟩
    exact⟨a,C,dx,fs',rfl,eH,c,n,by omega,ret.nx _ _ r2 _ _ (e1.trans (e2.trans x)) (rs.ext (e1.trans (e2.trans x))) ⟨rb,rel2.xw.ext x⟩ q2⟩
  ·exact q2.elim⟩⟩
@[irreducible] def zfA (C:Addr)(m:Str)(ex:Ev→Addr→Sto→Prop)(sd:Sd)(to:TDE)(t:TDA):TDE:=λdl S Q=>to dl S λd S1=>match zb2 C S1 d with
 | some (_,fs)=>fs.lookup m=none∧t dl S1 λds S2=>sd (d::ds) S2 Q (ex dl)
 | none=>False
theorem zrF {C:Addr}{m:Str}{f:Addr}{fd:FuncData}{k:Nat}{ps:List Str}{sp:Sp}{W:St→XK}{o e:Expr}{es:List Expr}{ta:TE}{t:TA}{apos:Pos}{pl:Sem Bool}(he:PE X o ta)(c:Cls X.K C)(hm:zeN X.K C m f)
  (F:zaV X.prog X.w X.K X.mg X.base (CXE X.prog X.w) k f fd ps sp)(hr:zaC k X.A)(hb:zbE X.K fd ps [])(hx:zdi X W)(ha:PA X (e::es) t)(hst:starEach (e::es) X.env=(false,eval e X.env)::starEach es X.env)(hpl:(backTo pos (starEach es X.env)).any (·.1)=false)
  (ht:eval (.Call (.Attribute o m apos) (e::es) [] pos) X.env=(do
   let ov ← eval o X.env
   standAt apos.atName
   let (f,first) ← holding [ov] (getMethod ov m pl)
   callWith pos f first (backTo pos (starEach (e::es) X.env)) (backToKw pos (keywordEach [] X.env)))):
  PE X (.Call (.Attribute o m apos) (e::es) [] pos) (λσ H Q=>ta σ H λx H1=>∃a dx fs,x=.ref a∧H1 a=some (.ins C dx fs)∧fs.lookup m=none∧t σ H1 λvs H2=>sp (x::vs) H2 Q (W σ)):=by
 intro pins s σ H Q I h
 refine PySem.W.methodCall_KW (pl:=pl) (thn (he pins s σ H _ I h) λu s1 ⟨x,H1,I1,rx,a,dx,fs,ex,ea,l,q⟩=>?_) ht
 subst ex
 obtain rfl:u=Value.ref a:=rx
 refine zpn I1 ea c hm l ?_
 exact PySem.W.callWith_K (first:=[.ref a]) (h₀:=X.base) I.ok.mod.kin hm.kp (thn (ha pos pins s1 σ H1 _ I1 q) λus s2 ⟨vs,H2,I2,r,q2⟩=>⟨I2.kIn,zmx (us:=.ref a::us) (vs:=.ref a::vs) F hr hb hx I2 (.cons rfl r) q2⟩) hst hpl
theorem zrJ {C:Addr}{m:Str}{f:Addr}{fd:FuncData}{k:Nat}{ps:List Str}{sp:Sp}{W:St→XK}{o:Expr}{ta:TE}{apos:Pos}{pl:Sem Bool}(he:PE X o ta)(c:Cls X.K C)(hm:zeN X.K C m f)
  (F:zaV X.prog X.w X.K X.mg X.base (CXE X.prog X.w) k f fd ps sp)(hr:zaC k X.A)(hb:zbE X.K fd ps [])(hx:zdi X W)
  (ht:eval (.Call (.Attribute o m apos) [] [] pos) X.env=(do
   let ov ← eval o X.env
   standAt apos.atName
   let (f,first) ← holding [ov] (getMethod ov m pl)
   callWith pos f first (backTo pos (starEach [] X.env)) (backToKw pos (keywordEach [] X.env)))):
  PE X (.Call (.Attribute o m apos) [] [] pos) (λσ H Q=>ta σ H λx H1=>∃a dx fs,x=.ref a∧H1 a=some (.ins C dx fs)∧fs.lookup m=none∧sp [x] H1 Q (W σ)):=by
 intro pins s σ H Q I h
 refine PySem.W.methodCall_KW (pl:=pl) (thn (he pins s σ H _ I h) λu s1 ⟨x,H1,I1,rx,a,dx,fs,ex,ea,l,q⟩=>?_) ht
 subst ex
 obtain rfl:u=Value.ref a:=rx
 refine zpn I1 ea c hm l ?_
 exact PySem.W.callWith_K0 (first:=[.ref a]) I1.kIn hm.kp (zmx (us:=[.ref a]) (vs:=[.ref a]) F hr hb hx I1 (.cons rfl .nil) q)
theorem zo1 {C:Addr}{r:List Addr}{S:Sto}{H:Hp}{d:D}{v:V}{n:Nat}{fs:List (Str×D)}(rel:zaS X.K r S H)(p:Rp r H d v)(h:zb2 C S d=some (n,fs)):∃a dx fs',v=.ref a∧r[n]?=some a∧H a=some (.ins C dx fs')∧FR r H fs fs':=by
 obtain⟨rfl,eS⟩:=zhC h
 obtain⟨a,ha,dx,fs',eH,fr⟩:=rel.at eS
 cases p with
 | ref hr=>
  rw[hr] at ha; cases ha
  exact⟨a,dx,fs',rfl,hr,eH,fr⟩
theorem zbn {C:Addr}{m:Str}{f:Addr}{fd:FuncData}{k:Nat}{ps:List Str}{sd:Sd}{o e:Expr}{es:List Expr}{to:TDE}{t:TDA}{apos:Pos}{pl:Sem Bool}{ex:Ev→Addr→Sto→Prop}{W:St→XK}(ho:PD X ⟨ex,W⟩ o to)(c:Cls X.K C)(hm:zeN X.K C m f)
  (F:zaV X.prog X.w X.K X.mg X.base (CXE X.prog X.w) k f fd ps (upF X.K sd))(hr:zaC k X.A)(hb:zbE X.K fd ps [])(hx:zdi X W)(ha:PDA X ⟨ex,W⟩ (e::es) t)
  (hst:starEach (e::es) X.env=(false,eval e X.env)::starEach es X.env:=by rfl)(hpl:(backTo pos (starEach es X.env)).any (·.1)=false:=by rfl)
  (ht:eval (.Call (.Attribute o m apos) (e::es) [] pos) X.env=(do
   let ov ← eval o X.env
   standAt apos.atName
   let (f,first) ← holding [ov] (getMethod ov m pl)
   callWith pos f first (backTo pos (starEach (e::es) X.env)) (backToKw pos (keywordEach [] X.env))):=by rfl):PD X ⟨ex,W⟩ (.Call (.Attribute o m apos) (e::es) [] pos) (zfA C m ex sd to t):=
 zaJ (zrF ho c hm F hr hb hx ha hst hpl ht) λσ H Qv ⟨r,dl,S,Q,rs,rel,h,ret⟩=>by unfold zfA at h; exact⟨r,dl,S,_,rs,rel,h,λv H1 r1 d S1 e1 rel1 p1 q1=>by
  split at q1
  ·rename_i n fs ei
   obtain⟨hl,q1⟩:=q1
   obtain⟨a,dx,fs',rfl,hr1,eH,fr⟩:=zo1 rel1.b p1 ei
   exact⟨a,dx,fs',rfl,eH,fr.lookup.2 hl,r1,dl,S1,_,rs.ext e1,rel1,q1,λvs H2 r2 ds S2 e2 rel2 p2 q2=>zly (Z:=⟨ex,W⟩) (rs.ext (e1.trans e2)) rel2 (Rps.cons (p1.ext e2) p2) q2 (ret.ext (e1.trans e2))⟩
  ·exact q1.elim⟩
theorem zbh {C:Addr}{m:Str}{f:Addr}{fd:FuncData}{k:Nat}{ps:List Str}{sd:Sd}{o:Expr}{to:TDE}{apos:Pos}{pl:Sem Bool}{ex:Ev→Addr→Sto→Prop}{W:St→XK}(ho:PD X ⟨ex,W⟩ o to)(c:Cls X.K C)(hm:zeN X.K C m f)
  (F:zaV X.prog X.w X.K X.mg X.base (CXE X.prog X.w) k f fd ps (upF X.K sd))(hr:zaC k X.A)(hb:zbE X.K fd ps [])(hx:zdi X W)
  (ht:eval (.Call (.Attribute o m apos) [] [] pos) X.env=(do
   let ov ← eval o X.env
   standAt apos.atName
   let (f,first) ← holding [ov] (getMethod ov m pl)
   callWith pos f first (backTo pos (starEach [] X.env)) (backToKw pos (keywordEach [] X.env))):=by rfl):PD X ⟨ex,W⟩ (.Call (.Attribute o m apos) [] [] pos) (zfA C m ex sd to zbY):=
 zaJ (zrJ ho c hm F hr hb hx ht) λσ H Qv ⟨r,dl,S,Q,rs,rel,h,ret⟩=>by unfold zfA at h; exact⟨r,dl,S,_,rs,rel,h,λv H1 r1 d S1 e1 rel1 p1 q1=>by
  split at q1
  ·rename_i n fs ei
   obtain⟨hl,q1⟩:=q1
   obtain⟨a,dx,fs',rfl,hr1,eH,fr⟩:=zo1 rel1.b p1 ei
   exact⟨a,dx,fs',rfl,eH,fr.lookup.2 hl,zly (Z:=⟨ex,W⟩) (rs.ext e1) rel1 (Rps.cons p1 Rps.nil) q1 (ret.ext e1)⟩
  ·exact q1.elim⟩
def zpK (C:Addr)(ex:Addr→Sto→Prop)(sd:Sd)(t:TDA):TDE:=λdl S Q=>t dl S λds S1=>sd (.ref S1.length::ds) (S1++[.ins C []]) (λd S2=>d=.non∧Q (.ref S1.length) S2) ex
theorem zp5 {C x dx:Addr}{r:List Addr}{S:Sto}{H:Hp}(rel:Rel X.K Z r S H)(h1:H x=none)(h2:H dx=none)(h3:dx≠x):
  Rel X.K Z (r++[x]) (S++[.ins C []]) (upd (upd H dx (.own x)) x (.ins C dx []))∧Ext r (r++[x]) H (upd (upd H dx (.own x)) x (.ins C dx [])):=by
 obtain⟨rb,e⟩:=rel.b.pushO (o:=.ins C []) (H':=upd (upd H dx (.own x)) x (.ins C dx [])) h1 (λb u q=>by rw[za2 (zdy q h1),za2 (zdy q h2)]; exact q) λ_=>⟨dx,[],zbR,FR.nil⟩
 exact⟨⟨rb,rel.xw.ext e⟩,e⟩
theorem zoq {C x:Addr}{r r':List Addr}{n:Nat}{H H':Hp}{Z:Zx}{K:PySem.W.Frag}{Q:DK}{Qv:VK}(ret:Ret K Z r H Q Qv)(e:Ext r r' H H')(hx:r'[n]?=some x):
  Ret K Z r' H' (λd S2=>d=.non∧Q (.ref n) S2) (λv H2=>v=.non∧Qv (.ref x) H2):=λv H2 r2 d S2 e2 rel2 p2 q2=>by
 obtain⟨rfl,q2⟩:=q2
 cases p2
 exact⟨rfl,ret _ H2 r2 (.ref n) S2 (e.trans e2) rel2 (.ref (e2.adr _ _ hx)) q2⟩
theorem zlF {C f:Addr}{fd:FuncData}{k:Nat}{ps:List Str}{sd:Sd}{ex:Addr→Sto→Prop}{W:XK}{x:Str}{p:Pos}(M:Mk X.K C f)
  (F:zaV X.prog X.w X.K X.mg X.base (CXE X.prog X.w) k f fd ps (upF X.K sd))(hr:zaC (k+1) X.A)(hg:Gl X x)(hm:X.mg x=some (.ref C))(hb:zbE X.K fd ps [])(hx:ze1 (CXE X.prog X.w) X W)
  (hdb:(x==("__debug__":Str))=false:=by decide):PD X (Zc ex W) (.Call (.Name x p) [] [] pos) (zpK C ex sd zbY):=
 zaJ (zrS M F hr hg hm hb .nil hx hdb) λσ H Qv ⟨r,dl,S,Q,rs,rel,h,ret⟩=>λx dx n1 n2 n3=>by
  obtain⟨rel2,e2⟩:=zp5 (C:=C) rel n1 n2 n3
  exact⟨ex,_,_,[.ref S.length],_,rel2,Rps.cons (zc0 rel.len) Rps.nil,h,zoq (C:=C) ret e2 (zmH rel.len)⟩
theorem zt8 {C f:Addr}{fd:FuncData}{k:Nat}{ps:List Str}{sd:Sd}{ex:Addr→Sto→Prop}{W:XK}{x:Str}{p:Pos}{e:Expr}{es:List Expr}{t:TDA}(M:Mk X.K C f)
  (F:zaV X.prog X.w X.K X.mg X.base (CXE X.prog X.w) k f fd ps (upF X.K sd))(hr:zaC (k+1) X.A)(hg:Gl X x)(hm:X.mg x=some (.ref C))(hb:zbE X.K fd ps [])(hx:ze1 (CXE X.prog X.w) X W)(ha:PDA X (Zc ex W) (e::es) t)
  (hdb:(x==("__debug__":Str))=false:=by decide)(he:starEach (e::es) X.env=(false,eval e X.env)::starEach es X.env:=by rfl)(hpl:(backTo pos (starEach es X.env)).any (·.1)=false:=by rfl):
  PD X (Zc ex W) (.Call (.Name x p) (e::es) [] pos) (zpK C ex sd t):=
 zaJ (zqt M F hr hg hm hb .nil hx ha hdb he hpl) λσ H Qv ⟨r,dl,S,Q,rs,rel,h,ret⟩=>⟨r,dl,S,_,rs,rel,h,λvs H1 r1 ds S1 e1 rel1 p1 q1=>λx dx n1 n2 n3=>by
  obtain⟨rel2,e2⟩:=zp5 (C:=C) rel1 n1 n2 n3
  show upF X.K sd (.ref x::(vs++[])) _ _ W
  rw[Vav]
  exact⟨ex,_,_,.ref S1.length::ds,_,rel2,Rps.cons (zc0 rel1.len) (p1.ext e2),q1,zoq (C:=C) ret (e1.trans e2) (zmH rel1.len)⟩⟩
end
def zdz:List D→Option (List Key)
 | []=>some []
 | .int i::r=>(zdz r).map (.inl i::·)
 | .str x::r=>(zdz r).map (.inr x::·)
 | _=>none
def zd8:D→Option (List Key)
 | .tup ds=>zdz ds
 | _=>none
theorem zlO {r:List Addr}{H:Hp}:∀ {ds:List D} {xs:List V} {ks:List Key},zdz ds=some ks→Rps r H ds xs→xs=ks.map kV
 | [],xs,ks,e,p=>by
  have z:=p.unnil
  subst z
  simp only[zdz,Option.some.injEq] at e
  subst e
  rfl
 | d::ds,xs,ks,e,p=>by
  obtain⟨v,vs,rfl,p1,p2⟩:=p.uncons
  cases p1 with
  | int i=>
   simp only[zdz,VaM] at e
   obtain⟨ms,e1,rfl⟩:=e
   rw[zlO e1 p2]
   rfl
  | str x=>
   simp only[zdz,VaM] at e
   obtain⟨ms,e1,rfl⟩:=e
   rw[zlO e1 p2]
   rfl
  | _=>simp[zdz] at e
theorem zni {r:List Addr}{H:Hp}{d:D}{v:V}{k:List Key}(p:Rp r H d v)(e:zd8 d=some k):∃b,v=.ref b∧H b=some (.tup (k.map kV)):=by
 cases p with
 | tup h l f=>
  have z:=zlO (show zdz _=some k from e) ⟨l,f⟩
  subst z
  exact⟨_,rfl,h⟩
 | _=>simp[zd8] at e
section
variable {κ:Type} [DecidableEq κ]
def zbs (kvs:List (κ×D))(k:κ):Option D:=(kvs.find? λkv=>decide (kv.1=k)).map (·.2)
def zcd (kvs:List (κ×D))(k:κ)(v:D):List (κ×D):=
 if (kvs.any λkv=>decide (kv.1=k))=true then kvs.map (λkv=>if kv.1=k then (kv.1,v) else kv) else kvs++[(k,v)]
theorem FR.split {r:List Addr}{H:Hp}{p:κ×D}{fs:List (κ×D)}{gs:List (κ×V)}(h:FR r H (p::fs) gs):∃q gs',gs=q::gs'∧p.1=q.1∧Rp r H p.2 q.2∧FR r H fs gs':=by
 cases gs with
 | nil=>
  have:=h.1
  simp at this
 | cons q gs'=>
  obtain⟨h1,h2⟩:=h
  simp only[Vaj,List.cons.injEq] at h1
  obtain⟨p1,p2⟩:=h2.tail
  exact⟨q,gs',rfl,h1.1,p1,h1.2,p2⟩
theorem FR.unnil {r:List Addr}{H:Hp}{gs:List (κ×V)}(h:FR r H ([]:List (κ×D)) gs):gs=[]:=by
 have:=h.1
 simpa using this.symm
theorem FR.cons {r:List Addr}{H:Hp}{k:κ}{d:D}{v:V}{fs:List (κ×D)}{gs:List (κ×V)}(p:Rp r H d v)(h:FR r H fs gs):FR r H ((k,d)::fs) ((k,v)::gs):=⟨by simp[h.1],Rps.cons p h.2⟩
theorem FR.val {r:List Addr}{H:Hp}{k:κ}:∀ {fs:List (κ×D)} {gs:List (κ×V)},FR r H fs gs→(∀d,zbs fs k=some d→∃v,zcj gs k=some v∧Rp r H d v)∧(zbs fs k=none→zcj gs k=none)
 | [],gs,h=>by
  have z:=h.unnil
  subst z
  exact⟨(λd e=>by cases e),λ_=>rfl⟩
 | p::fs,gs,h=>by
  obtain⟨q,gs',rfl,e,pr,t⟩:=h.split
  obtain⟨i1,i2⟩:=FR.val (k:=k) t
  by_cases z:p.1=k
  ·have z':q.1=k:=e.symm.trans z
   rw[zi6 z']
   have zd:zbs (p::fs) k=some p.2:=by simp[zbs,VaH,z]
   rw[zd]
   exact⟨λd hd=>⟨q.2,rfl,by cases hd; exact pr⟩,λhd=>by cases hd⟩
  ·have z':¬ q.1=k:=λy=>z (e.trans y)
   rw[zkQ z']
   have zd:zbs (p::fs) k=zbs fs k:=by simp[zbs,VaH,z]
   rw[zd]
   exact⟨i1,i2⟩
theorem FR.putK {r:List Addr}{H:Hp}{k:κ}{d:D}{v:V}{fs:List (κ×D)}{gs:List (κ×V)}(p:Rp r H d v)(h:FR r H fs gs):FR r H (zcd fs k d) (putK gs k v):=by
 have any:∀ {fs:List (κ×D)} {gs:List (κ×V)},FR r H fs gs→(fs.any λkv=>decide (kv.1=k))=(gs.any λkv=>decide (kv.1=k)):=by
  intro fs
  induction fs with
  | nil=>intro gs h; have z:=h.unnil; subst z; rfl
  | cons q fs ih=>
   intro gs h
   obtain⟨q',gs',rfl,e,_,t⟩:=h.split
   rw[VaJ,VaJ,ih t,e]
 have mp:∀ {fs:List (κ×D)} {gs:List (κ×V)},FR r H fs gs→FR r H (fs.map λkv=>if kv.1=k then (kv.1,d) else kv) (gs.map λkv=>if kv.1=k then (kv.1,v) else kv):=by
  intro fs
  induction fs with
  | nil=>intro gs h; have z:=h.unnil; subst z; exact FR.nil
  | cons q fs ih=>
   intro gs h
   obtain⟨q',gs',rfl,e,pr,t⟩:=h.split
   rw[Vaj,Vaj]
   obtain⟨qk,qd⟩:=q
   obtain⟨qk',qv⟩:=q'
   have e':qk=qk':=e
   subst e'
   by_cases z:qk=k
   ·rw[if_pos z,if_pos z]; exact FR.cons p (ih t)
   ·rw[if_neg z,if_neg z]; exact FR.cons pr (ih t)
 have ap:∀ {fs:List (κ×D)} {gs:List (κ×V)},FR r H fs gs→FR r H (fs++[(k,d)]) (gs++[(k,v)]):=by
  intro fs
  induction fs with
  | nil=>intro gs h; have z:=h.unnil; subst z; exact FR.cons p FR.nil
  | cons q fs ih=>
   intro gs h
   obtain⟨q',gs',rfl,e,pr,t⟩:=h.split
   obtain⟨qk,qd⟩:=q
   obtain⟨qk',qv⟩:=q'
   have e':qk=qk':=e
   subst e'
   exact FR.cons pr (ih t)
 unfold zcd L2.putK
 rw[any h]
 split
 ·exact mp h
 ·exact ap h
end
section
variable {X:Cx}{Z:Zx}{pos:Pos}
def zeS (S:Sto):D→Option (Nat×List (List Key×D))
 | .ref n=>match S[n]? with
  | some (.dct kvs)=>some (n,kvs)
  | _=>none
 | _=>none
theorem zo8 {S:Sto}{d:D}{n:Nat}{kvs:List (List Key×D)}(h:zeS S d=some (n,kvs)):d=.ref n∧S[n]?=some (.dct kvs):=by
 unfold zeS at h
 split at h
 ·split at h
  ·rename_i e
   simp only[Option.some.injEq,Prod.mk.injEq] at h
   obtain⟨rfl,rfl⟩:=h
   exact⟨rfl,e⟩
  ·cases h
 ·cases h
def atD (S:Sto)(d y:D):Option (Option D):=match zeS S d,zd8 y with
 | some (_,kvs),some k=>some (zbs kvs k)
 | _,_=>none
theorem zpR {r:List Addr}{S:Sto}{H:Hp}{d y:D}{x v:V}{o:Option D}(rel:zaS X.K r S H)(pd:Rp r H d x)(py:Rp r H y v)(h:atD S d y=some o):
  ∃a o',x=.ref a∧zb7 H a v o'∧(∀z,o=some z→∃w,o'=some w∧Rp r H z w)∧(o=none→o'=none):=by
 unfold atD at h
 split at h
 ·rename_i n kvs k e1 e2
  obtain⟨rfl,eS⟩:=zo8 e1
  obtain⟨a,ha,kvs',eH,fr⟩:=rel.at eS
  obtain⟨b,rfl,eb⟩:=zni py e2
  cases pd with
  | ref hr=>
   rw[hr] at ha; cases ha
   have hv:=Option.some.inj h
   subst hv
   exact⟨a,_,rfl,zb7.t eH eb,λz hz=>fr.val.1 z hz,λhz=>fr.val.2 hz⟩
 ·cases h
@[irreducible] def zjF (td ty:TDE):TDE:=λdl S Q=>td dl S λd S1=>ty dl S1 λy S2=>match atD S2 d y with
 | some (some v)=>Q v S2
 | _=>False
theorem zv3 {o i:Expr}{td ty:TDE}{k:Nat}(hu:zaC k X.A)(ho:PD X Z o td)(hi:PD X Z i ty)(hs:zfg i):PD X Z (.Subscript o i pos) (zjF td ty):=
 zaJ (zn8 (by have:=hu.un; omega) ho hi hs) λσ H Qv ⟨r,dl,S,Q,rs,rel,h,ret⟩=>by unfold zjF at h; exact⟨r,dl,S,_,rs,rel,h,λx H1 r1 d S1 e1 rel1 p1 q1=>⟨r1,dl,S1,_,rs.ext e1,rel1,q1,λv H2 r2 y S2 e2 rel2 p2 q2=>by
  split at q2
  ·rename_i w e
   obtain⟨a,o',rfl,g,g1,_⟩:=zpR rel2.b (p1.ext e2) p2 e
   obtain⟨u,rfl,pu⟩:=g1 w rfl
   exact⟨a,u,rfl,g,ret u H2 r2 w S2 (e1.trans e2) rel2 pu q2⟩
  ·exact q2.elim⟩⟩
@[irreducible] def zg5 (ty td:TDE):TDE:=λdl S Q=>ty dl S λy S1=>td dl S1 λd S2=>match atD S2 d y with
 | some o=>Q (.bl o.isSome) S2
 | none=>False
theorem zrA {ty td:TDE}{σ:St}{H:Hp}{Qv:VK}(h:up X.K Z (zg5 ty td) σ H Qv):tDIn (up X.K Z ty) (up X.K Z td) σ H Qv:=by
 obtain⟨r,dl,S,Q,rs,rel,h,ret⟩:=h
 unfold zg5 at h
 refine⟨r,dl,S,_,rs,rel,h,λv H1 r1 y S1 e1 rel1 p1 q1=>⟨r1,dl,S1,_,rs.ext e1,rel1,q1,λx H2 r2 d S2 e2 rel2 p2 q2=>?_⟩⟩
 split at q2
 ·rename_i o e
  obtain⟨a,o',rfl,g,g1,g2⟩:=zpR rel2.b p2 (p1.ext e2) e
  have ei:o'.isSome=o.isSome:=by
   cases o with
   | none=>rw[g2 rfl]; rfl
   | some z=>obtain⟨w,rfl,_⟩:=g1 z rfl; rfl
  exact⟨a,o',rfl,g,by rw[ei]; exact ret _ H2 r2 (.bl _) S2 (e1.trans e2) rel2 (.bl _) q2⟩
 ·exact q2.elim
theorem zul {o i:Expr}{td ty:TDE}{k:Nat}(hu:zaC k X.A)(hi:PD X Z i ty)(ho:PD X Z o td)(hm:behindInMarks .In o=false:=by rfl):PDT X Z (.Compare i [.In] [o] pos) (zcG (zg5 ty td)):=
 zeu (zj3 (znk (by have:=hu.un; omega) hi ho) hm) λσ H Qb ⟨r,dl,S,Q,rs,rel,h,ret⟩=>zrA ⟨r,dl,S,_,rs,rel,h,zfT ret⟩
@[irreducible] def ziB (td ty tv:TDE):TDS:=λE dl S=>tv dl S λv S1=>td dl S1 λd S2=>ty dl S2 λy S3=>match zeS S3 d,zd8 y with
 | some (n,kvs),some k=>kvs.length<1000∧E.nx dl (S3.set n (.dct (zcd kvs k v)))
 | _,_=>False
theorem zuF {o i e:Expr}{td ty tv:TDE}{k:Nat}{p2:Pos}(hu:zaC k X.A)(ho:PD X Z o td)(hi:PD X Z i ty)(hv:PD X Z e tv)(hs:swapsWith e (some (.Subscript o i p2)) pos.line X.env=pure false:=by rfl):PDS X Z (.Assign [.Subscript o i p2] e pos) (ziB td ty tv):=
 zcy (znL (by have:=hu.un; omega) ho hi hv hs) λF σ H ⟨r,dl,S,E,rs,rel,h,ret⟩=>by unfold ziB at h; exact⟨r,dl,S,_,rs,rel,h,λv H1 r1 dv S1 e1 rel1 p1 q1=>⟨r1,dl,S1,_,rs.ext e1,rel1,q1,λx H2 r2 d S2 e2 rel2 p2' q2=>
  ⟨r2,dl,S2,_,rs.ext (e1.trans e2),rel2,q2,λy H3 r3 dy S3 e3 rel3 p3 q3=>by
   split at q3
   ·rename_i n kvs k' c1 c2
    obtain⟨hl,q3⟩:=q3
    obtain⟨rfl,eS⟩:=zo8 c1
    obtain⟨a,ha,kvs',eH,fr⟩:=rel3.at eS
    obtain⟨b,rfl,eb⟩:=zni p3 c2
    cases p2' with
    | ref hr=>
     have hr3:=e3.adr _ _ hr
     rw[hr3] at ha; cases ha
     have hlen:kvs'.length=kvs.length:=by
      have:=congrArg List.length fr.1
      simpa using this.symm
     obtain⟨rb,xx⟩:=rel3.b.setO (o':=.dct (zcd kvs k' dv)) (u:=.dT (L2.putK kvs' k' v)) hr3 eS rfl rfl λxx=>⟨_,zbR,(fr.putK (p1.ext (e2.trans e3))).ext xx⟩
     exact⟨a,_,rfl,zd2.t eH eb (by rw[hlen]; exact zie (VaC hl)),ret.nx _ _ r3 _ _ (e1.trans (e2.trans (e3.trans xx))) (rs.ext (e1.trans (e2.trans (e3.trans xx)))) ⟨rb,rel3.xw.ext xx⟩ q3⟩
   ·exact q3.elim⟩⟩⟩
def zon:TDE:=λ_ S Q=>Q (.ref S.length) (S++[.dct []])
theorem zrh:PD X Z (.Dict [] [] pos) zon:=zaJ ztS λσ H Qv ⟨r,dl,S,Q,rs,rel,h,ret⟩=>λp hp=>by
 obtain⟨rb,e⟩:=rel.b.pushO (o:=.dct []) (H':=upd H p (.dT [])) hp (zcV hp) λ_=>⟨[],zbR,FR.nil⟩
 exact ret _ _ _ (.ref S.length) _ e ⟨rb,rel.xw.ext e⟩ (zc0 rel.len) h
end
def zds:D→Option Key
 | .int i=>some (.inl i)
 | .str x=>some (.inr x)
 | _=>none
theorem zpX {r:List Addr}{H:Hp}{d:D}{v:V}{k:Key}(p:Rp r H d v)(e:zds d=some k):v=kV k:=by
 cases p with
 | int i=>cases e; rfl
 | str x=>cases e; rfl
 | _=>cases e
section
variable {X:Cx}{Z:Zx}{pos:Pos}
def zdn (S:Sto):D→Option (Nat×List (Key×D))
 | .ref n=>match S[n]? with
  | some (.dck kvs)=>some (n,kvs)
  | _=>none
 | _=>none
theorem zm4 {S:Sto}{d:D}{n:Nat}{kvs:List (Key×D)}(h:zdn S d=some (n,kvs)):d=.ref n∧S[n]?=some (.dck kvs):=by
 unfold zdn at h
 split at h
 ·split at h
  ·rename_i e
   simp only[Option.some.injEq,Prod.mk.injEq] at h
   obtain⟨rfl,rfl⟩:=h
   exact⟨rfl,e⟩
  ·cases h
 ·cases h
def atK (S:Sto)(d y:D):Option (Option D):=match zdn S d,zds y with
 | some (_,kvs),some k=>some (zbs kvs k)
 | _,_=>none
theorem zmT {r:List Addr}{S:Sto}{H:Hp}{d y:D}{x v:V}{o:Option D}(rel:zaS X.K r S H)(pd:Rp r H d x)(py:Rp r H y v)(h:atK S d y=some o):
  ∃a o',x=.ref a∧zb7 H a v o'∧(∀z,o=some z→∃w,o'=some w∧Rp r H z w)∧(o=none→o'=none):=by
 unfold atK at h
 split at h
 ·rename_i n kvs k e1 e2
  obtain⟨rfl,eS⟩:=zm4 e1
  obtain⟨a,ha,kvs',eH,fr⟩:=rel.at eS
  obtain rfl:=zpX py e2
  cases pd with
  | ref hr=>
   rw[hr] at ha; cases ha
   have hv:=Option.some.inj h
   subst hv
   exact⟨a,_,rfl,zb7.k eH,λz hz=>fr.val.1 z hz,λhz=>fr.val.2 hz⟩
 ·cases h
@[irreducible] def zjV (td ty:TDE):TDE:=λdl S Q=>td dl S λd S1=>ty dl S1 λy S2=>match atK S2 d y with
 | some (some v)=>Q v S2
 | _=>False
theorem zq4 {o i:Expr}{td ty:TDE}{k:Nat}(hu:zaC k X.A)(ho:PD X Z o td)(hi:PD X Z i ty)(hs:zfg i):PD X Z (.Subscript o i pos) (zjV td ty):=
 zaJ (zn8 (by have:=hu.un; omega) ho hi hs) λσ H Qv ⟨r,dl,S,Q,rs,rel,h,ret⟩=>by unfold zjV at h; exact⟨r,dl,S,_,rs,rel,h,λx H1 r1 d S1 e1 rel1 p1 q1=>⟨r1,dl,S1,_,rs.ext e1,rel1,q1,λv H2 r2 y S2 e2 rel2 p2 q2=>by
  split at q2
  ·rename_i w e
   obtain⟨a,o',rfl,g,g1,_⟩:=zmT rel2.b (p1.ext e2) p2 e
   obtain⟨u,rfl,pu⟩:=g1 w rfl
   exact⟨a,u,rfl,g,ret u H2 r2 w S2 (e1.trans e2) rel2 pu q2⟩
  ·exact q2.elim⟩⟩
@[irreducible] def zgy (ty td:TDE):TDE:=λdl S Q=>ty dl S λy S1=>td dl S1 λd S2=>match atK S2 d y with
 | some o=>Q (.bl o.isSome) S2
 | none=>False
theorem zrp {ty td:TDE}{σ:St}{H:Hp}{Qv:VK}(h:up X.K Z (zgy ty td) σ H Qv):tDIn (up X.K Z ty) (up X.K Z td) σ H Qv:=by
 obtain⟨r,dl,S,Q,rs,rel,h,ret⟩:=h
 unfold zgy at h
 refine⟨r,dl,S,_,rs,rel,h,λv H1 r1 y S1 e1 rel1 p1 q1=>⟨r1,dl,S1,_,rs.ext e1,rel1,q1,λx H2 r2 d S2 e2 rel2 p2 q2=>?_⟩⟩
 split at q2
 ·rename_i o e
  obtain⟨a,o',rfl,g,g1,g2⟩:=zmT rel2.b p2 (p1.ext e2) e
  have ei:o'.isSome=o.isSome:=by
   cases o with
   | none=>rw[g2 rfl]; rfl
   | some z=>obtain⟨w,rfl,_⟩:=g1 z rfl; rfl
  exact⟨a,o',rfl,g,by rw[ei]; exact ret _ H2 r2 (.bl _) S2 (e1.trans e2) rel2 (.bl _) q2⟩
 ·exact q2.elim
theorem zxq {o i:Expr}{td ty:TDE}{k:Nat}(hu:zaC k X.A)(hi:PD X Z i ty)(ho:PD X Z o td)(hm:behindInMarks .In o=false:=by rfl):PDT X Z (.Compare i [.In] [o] pos) (zcG (zgy ty td)):=
 zeu (zj3 (znk (by have:=hu.un; omega) hi ho) hm) λσ H Qb ⟨r,dl,S,Q,rs,rel,h,ret⟩=>zrp ⟨r,dl,S,_,rs,rel,h,zfT ret⟩
@[irreducible] def zjw (td ty tv:TDE):TDS:=λE dl S=>tv dl S λv S1=>td dl S1 λd S2=>ty dl S2 λy S3=>match zdn S3 d,zds y with
 | some (n,kvs),some k=>kvs.length<1000∧E.nx dl (S3.set n (.dck (zcd kvs k v)))
 | _,_=>False
theorem zqb {o i e:Expr}{td ty tv:TDE}{k:Nat}{p2:Pos}(hu:zaC k X.A)(ho:PD X Z o td)(hi:PD X Z i ty)(hv:PD X Z e tv)(hs:swapsWith e (some (.Subscript o i p2)) pos.line X.env=pure false:=by rfl):PDS X Z (.Assign [.Subscript o i p2] e pos) (zjw td ty tv):=
 zcy (znL (by have:=hu.un; omega) ho hi hv hs) λF σ H ⟨r,dl,S,E,rs,rel,h,ret⟩=>by unfold zjw at h; exact⟨r,dl,S,_,rs,rel,h,λv H1 r1 dv S1 e1 rel1 p1 q1=>⟨r1,dl,S1,_,rs.ext e1,rel1,q1,λx H2 r2 d S2 e2 rel2 p2' q2=>
  ⟨r2,dl,S2,_,rs.ext (e1.trans e2),rel2,q2,λy H3 r3 dy S3 e3 rel3 p3 q3=>by
   split at q3
   ·rename_i n kvs k' c1 c2
    obtain⟨hl,q3⟩:=q3
    obtain⟨rfl,eS⟩:=zm4 c1
    obtain⟨a,ha,kvs',eH,fr⟩:=rel3.at eS
    obtain rfl:=zpX p3 c2
    cases p2' with
    | ref hr=>
     have hr3:=e3.adr _ _ hr
     rw[hr3] at ha; cases ha
     have hlen:kvs'.length=kvs.length:=by
      have:=congrArg List.length fr.1
      simpa using this.symm
     obtain⟨rb,xx⟩:=rel3.b.setO (o':=.dck (zcd kvs k' dv)) (u:=.dK (L2.putK kvs' k' v)) hr3 eS rfl rfl λxx=>⟨_,zbR,(fr.putK (p1.ext (e2.trans e3))).ext xx⟩
     exact⟨a,_,rfl,zd2.k eH (by rw[hlen]; exact zie (VaC hl)),ret.nx _ _ r3 _ _ (e1.trans (e2.trans (e3.trans xx))) (rs.ext (e1.trans (e2.trans (e3.trans xx)))) ⟨rb,rel3.xw.ext xx⟩ q3⟩
   ·exact q3.elim⟩⟩⟩
def zn9:TDE:=λ_ S Q=>Q (.ref S.length) (S++[.dck []])
theorem zrv:PD X Z (.Dict [] [] pos) zn9:=zaJ zq7 λσ H Qv ⟨r,dl,S,Q,rs,rel,h,ret⟩=>λp hp=>by
 obtain⟨rb,e⟩:=rel.b.pushO (o:=.dck []) (H':=upd H p (.dK [])) hp (zcV hp) λ_=>⟨[],zbR,FR.nil⟩
 exact ret _ _ _ (.ref S.length) _ e ⟨rb,rel.xw.ext e⟩ (zc0 rel.len) h
@[irreducible] def zh7 (ty td:TDE):TDE:=λdl S Q=>ty dl S λy S1=>td dl S1 λd S2=>match atK S2 d y with
 | some o=>Q (.bl (!o.isSome)) S2
 | none=>False
theorem zrf {ty td:TDE}{σ:St}{H:Hp}{Qv:VK}(h:up X.K Z (zh7 ty td) σ H Qv):zpY (up X.K Z ty) (up X.K Z td) σ H Qv:=by
 obtain⟨r,dl,S,Q,rs,rel,h,ret⟩:=h
 unfold zh7 at h
 refine⟨r,dl,S,_,rs,rel,h,λv H1 r1 y S1 e1 rel1 p1 q1=>⟨r1,dl,S1,_,rs.ext e1,rel1,q1,λx H2 r2 d S2 e2 rel2 p2 q2=>?_⟩⟩
 split at q2
 ·rename_i o e
  obtain⟨a,o',rfl,g,g1,g2⟩:=zmT rel2.b p2 (p1.ext e2) e
  have ei:o'.isSome=o.isSome:=by
   cases o with
   | none=>rw[g2 rfl]; rfl
   | some z=>obtain⟨w,rfl,_⟩:=g1 z rfl; rfl
  exact⟨a,o',rfl,g,by rw[ei]; exact ret _ H2 r2 (.bl _) S2 (e1.trans e2) rel2 (.bl _) q2⟩
 ·exact q2.elim
theorem zs4 {o i:Expr}{td ty:TDE}{k:Nat}(hu:zaC k X.A)(hi:PD X Z i ty)(ho:PD X Z o td)(hm:behindInMarks .NotIn o=false:=by rfl):PDT X Z (.Compare i [.NotIn] [o] pos) (zcG (zh7 ty td)):=
 zeu (zj3 (zwU (by have:=hu.un; omega) hi ho) hm) λσ H Qb ⟨r,dl,S,Q,rs,rel,h,ret⟩=>zrf ⟨r,dl,S,_,rs,rel,h,zfT ret⟩
theorem zdb {st:Stmt}:PDS X Z st (λ_ _ _=>False):=zcy (t:=λ_ _ _=>False) (λ_ _ _ _ _ _ h=>h.elim) λF σ H ⟨r,dl,S,E,rs,rel,h,ret⟩=>h.elim
theorem zwe {ty td:TDE}{dl:Ev}{S S2:Sto}{Q:DK}{n:Nat}{kvs:List (Key×D)}{y:D}{k:Key}(hy:∀K:DK,K y S2→ty dl S K)(hd:∀K:DK,K (.ref n) S2→td dl S2 K)(h:S2[n]?=some (.dck kvs))(hk:zds y=some k)(hq:Q (.bl (zbs kvs k).isSome) S2):zgy ty td dl S Q:=by
 unfold zgy
 refine hy _ (hd _ ?_)
 simp only[atK,zdn,h,hk]
 exact hq
theorem zsA {ty td:TDE}{dl:Ev}{S S2:Sto}{Q:DK}{n:Nat}{kvs:List (Key×D)}{y:D}{k:Key}(hy:∀K:DK,K y S2→ty dl S K)(hd:∀K:DK,K (.ref n) S2→td dl S2 K)(h:S2[n]?=some (.dck kvs))(hk:zds y=some k)(hq:Q (.bl (!(zbs kvs k).isSome)) S2):zh7 ty td dl S Q:=by
 unfold zh7
 refine hy _ (hd _ ?_)
 simp only[atK,zdn,h,hk]
 exact hq
theorem zvy {ty td:TDE}{dl:Ev}{S S2:Sto}{Q:DK}{n:Nat}{kvs:List (Key×D)}{y v:D}{k:Key}(hd:∀K:DK,K (.ref n) S2→td dl S K)(hy:∀K:DK,K y S2→ty dl S2 K)(h:S2[n]?=some (.dck kvs))(hk:zds y=some k)(hv:zbs kvs k=some v)(hq:Q v S2):zjV td ty dl S Q:=by
 unfold zjV
 refine hd _ (hy _ ?_)
 simp only[atK,zdn,h,hk,hv]
 exact hq
end
section
variable {X:Cx}{Z:Zx}{pos:Pos}
def zbH (xs:List D)(lo hi:Option Int):List D:=(xs.drop (HT.sIx xs.length 0 lo)).take (HT.sIx xs.length xs.length hi-HT.sIx xs.length 0 lo)
theorem Rps.drop {r:List Addr}{H:Hp}{ds:List D}{vs:List V}(h:Rps r H ds vs)(k:Nat):Rps r H (ds.drop k) (vs.drop k):=
 ⟨by simp[h.1],λi d v h1 h2=>h.2 (k+i) d v (by simpa using h1) (by simpa using h2)⟩
theorem Rps.take {r:List Addr}{H:Hp}{ds:List D}{vs:List V}(h:Rps r H ds vs)(k:Nat):Rps r H (ds.take k) (vs.take k):=by
 refine⟨by simp[h.1],λi d v h1 h2=>?_⟩
 rw[List.getElem?_take] at h1 h2
 split at h1
 ·rw[if_pos (by assumption)] at h2
  exact h.2 i d v h1 h2
 ·cases h1
theorem Rps.cut {r:List Addr}{H:Hp}{ds:List D}{vs:List V}(h:Rps r H ds vs)(lo hi:Option Int):Rps r H (zbH ds lo hi) (zf2 vs lo hi):=by
 unfold zbH zf2
 rw[h.1]
 exact(h.drop _).take _
@[irreducible] def zk2 (te:TDE)(tl th:TDO):TDE:=λdl S Q=>te dl S λd S1=>tl dl S1 λl S2=>th dl S2 λu S3=>match d with
 | .ref n=>match lAt S3 n with
  | some o=>Q (.ref S3.length) (S3++[.lst (zbH (zax o) l u)])
  | none=>False
 | _=>False
theorem zfH {e:Expr}{te:TDE}{lo hi:Option Expr}{tl th:TDO}{p2:Pos}(he:PD X Z e te)(hl:PDO X Z lo tl)(hu:PDO X Z hi th):PD X Z (.Subscript e (.Slice lo hi none p2) pos) (zk2 te tl th):=
 zaJ (znx zq1 he hl hu) λσ H Qv ⟨r,dl,S,Q,rs,rel,h,ret⟩=>by
  unfold zk2 at h
  refine⟨r,dl,S,_,rs,rel,h,λv H1 r1 d S1 e1 rel1 p1 q1=>⟨r1,dl,S1,_,rs.ext e1,rel1,q1,λl H2 r2 S2 e2 rel2 q2=>⟨r2,dl,S2,_,rs.ext (e1.trans e2),rel2,q2,λu H3 r3 S3 e3 rel3 q3=>?_⟩⟩⟩
  cases p1 with
  | @ref n a hn=>
   dsimp only at q3
   split at q3
   ·rename_i o eo
    obtain⟨eo,eL⟩:=zcr eo
    obtain⟨a',ha,ob⟩:=rel3.at eo
    rw[e3.adr _ _ (e2.adr _ _ hn)] at ha; cases ha
    obtain⟨xs,sq,pr⟩:=ob.list eL
    refine⟨a,xs,rfl,sq,λp hp=>?_⟩
    obtain⟨rel4,x⟩:=rel3.push hp (pr.cut l u)
    exact ret _ _ _ (.ref S3.length) _ (e1.trans (e2.trans (e3.trans x))) rel4 (zc0 rel3.len) q3
   ·exact q3.elim
  | _=>exact(show False from q3).elim
theorem zf0 {te:TDE}{tl th:TDO}{dl:Ev}{S S3:Sto}{Q:DK}{n:Nat}{o:Ob}{lo hi:Option Int}(h:∀K:DK,K (.ref n) S3→te dl S K)(hl:∀K:Option Int→Sto→Prop,K lo S3→tl dl S3 K)(hh:∀K:Option Int→Sto→Prop,K hi S3→th dl S3 K)(ho:S3[n]?=some o)
  (hq:Q (.ref S3.length) (S3++[.lst (zbH (zax o) lo hi)]))(hL:zcs o=some o:=by rfl):zk2 te tl th dl S Q:=by
 unfold zk2
 refine h _ (hl _ (hh _ ?_))
 simp only[zbr ho hL]
 exact hq
end
section
variable {X:Cx}{Z:Zx}{pos:Pos}
theorem Rps.put {r:List Addr}{H:Hp}{ds:List D}{vs:List V}{d:D}{v:V}(h:Rps r H ds vs)(p:Rp r H d v)(j:Nat):Rps r H (ds.set j d) (vs.set j v):=by
 refine⟨by simp[h.1],λi x y h1 h2=>?_⟩
 by_cases z:j=i
 ·subst z
  have hl:j<ds.length:=by
   have:=(Vaf.mp h1).1
   simpa using this
  rw[VaN hl] at h1
  rw[VaN (by rw[← h.1]; exact hl)] at h2
  cases h1
  cases h2
  exact p
 ·rw[VaE z] at h1 h2
  exact h.2 i x y h1 h2
end
section
variable {X:Cx}{pins:List (Addr×Obj)}{σ:St}{H:Hp}{s:Shared}{h':Heap}
theorem zv0 {t':Nat}{ch:List Addr}{T:Addr}{xs:List V}{vals:Array Value}(I:Inv X pins σ H s)(k:∀b o,b ∉ ch→s.heap.get? b=some o→h'.get? b=some o)(hch:∀b∈ch,zcm X pins H b)
  (hT:s.heap.objs.size≤T)(ht:h'.IsTuple T vals)(rv:zal xs vals.toList)(hl:xs.length≤sizeLine):Inv X pins σ (upd H T (.tup xs)) { s with heap:=h',toks:=t' }:=by
 have hTn:H T=none:=I.hok.fresh hT
 have old:∀ {b:Addr} {o:Obj},s.heap.get? b=some o→b≠T:=λ{b o} e z=>absurd (Vai (Heap.lt_size e) hT) (by rw[z]; exact Vax _)
 have trk:∀b u,H b=some u→b ∉ ch:=λb u e z=>by
  rw[(hch b z).1] at e; cases e
 have up:∀b u,H b=some u→(upd H T (.tup xs)) b=some u:=zcV hTn
 refine I.step (g':=s.gens) (d':=s.drawn) (ch:=ch) (λb hb=>?_) (λb o _ _ hc e _=>k b o hc e) (λb o _ _ hc e _=>⟨o.slots,k b o hc e⟩) (λb o _ e n=>by rw[za2 (old e)]; exact n)
  (λb o hc e=>⟨o,k b o hc e⟩) (λb ys e=>up _ _ e) (λb o u e=>up _ _ e) (λb ps e=>⟨#[],by rw[up _ _ e]; simp⟩) (λm hm=>?_) (λb u e=>?_) I.bare
 ·obtain⟨_,f1,_,f3,f4,f5⟩:=hch b hb
  exact⟨f3,f1,f4,f5⟩
 ·obtain⟨o,es,ep,ho,r⟩:=hm
  exact⟨o,es,ep,k _ o (λz=>(hch _ z).2.1 rfl) ho,r⟩
 ·by_cases hb:b=T
  ·subst hb
   rw[zbR] at e
   cases e
   exact⟨hl,vals.toList,rv,by rw[Array.toArray_toList]; exact ht⟩
  ·rw[za2 hb] at e
   refine(I.hok b u e).stay (λc v hc q=>k c v ?_ q) (λd z=>up _ _ z) λd ys z=>up _ _ z
   rcases hc with z | z
   ·rw[z]; exact trk b u e
   ·exact trk c _ z
theorem zpo {t':Nat}{ch:List Addr}(I:Inv X pins σ H s)(k:∀b o,b ∉ ch→s.heap.get? b=some o→h'.get? b=some o)(hch:∀b∈ch,zcm X pins H b):Inv X pins σ H { s with heap:=h',toks:=t' }:=by
 have trk:∀b u,H b=some u→b ∉ ch:=λb u e z=>by
  rw[(hch b z).1] at e; cases e
 refine I.step (g':=s.gens) (d':=s.drawn) (ch:=ch) (λb hb=>?_) (λb o _ _ hc e _=>k b o hc e) (λb o _ _ hc e _=>⟨o.slots,k b o hc e⟩) (λb o _ e n=>n)
  (λb o hc e=>⟨o,k b o hc e⟩) (λb ys e=>e) (λb o u e=>e) (λb ps e=>⟨#[],by rw[e]; simp⟩) (λm hm=>?_) (λb u e=>?_) I.bare
 ·obtain⟨_,f1,_,f3,f4,f5⟩:=hch b hb
  exact⟨f3,f1,f4,f5⟩
 ·obtain⟨o,es,ep,ho,r⟩:=hm
  exact⟨o,es,ep,k _ o (λz=>(hch _ z).2.1 rfl) ho,r⟩
 ·refine(I.hok b u e).stay (λc v hc q=>k c v ?_ q) (λd z=>z) λd ys z=>z
  rcases hc with z | z
  ·rw[z]; exact trk b u e
  ·exact trk c _ z
end
def Ite (K:PySem.W.Frag)(a:Addr):It:=
 ⟨λi H=>∃xs x,SqL K H a xs∧xs[i]?=some x,λi H x H'=>∃T v,x=.ref T∧H T=none∧H'=upd H T (.tup [.int (i:Int),v])∧∀xs,SqL K H a xs→xs[i]?=some v,λi H=>∃xs,SqL K H a xs∧xs.length=i⟩
theorem zvO {P:Program}{w:World}{K:PySem.W.Frag}{elts:List Expr}{kk:Nat}{tp:Pos}(a e it:Addr)(hei:e≠it)(hae:a≠e)(hai:a≠it):
  zhs P w K (.Tuple elts kk tp) (Ite K a) [e,it] e (λi h=>(∃old,IsEnum h e it i old)∧h.IsListIter it a i) where
 mem:=by simp
 obj:=λi h st b hb=>by
  obtain⟨⟨old,he⟩,o,e1,c,d⟩:=st
  have hb':b=e∨b=it:=by simpa using hb
  rcases hb' with rfl | rfl
  ·exact⟨_,he,λv z=>by cases z⟩
  ·exact⟨o,e1,λv z=>by rw[d] at z; cases z⟩
 keep:=λi h h' st k=>by
  obtain⟨⟨old,he⟩,hit⟩:=st
  exact⟨⟨old,k e (by simp) _ he⟩,hit.at λo x=>k it (by simp) o x⟩
 item:=by
  intro X hP hw hK hc i pins s σ H E I hf st hg
  subst hP hw hK
  obtain⟨xs,x,hq,hx⟩:=hg
  obtain⟨its,rv,p,hz⟩:=I.list hq
  obtain⟨u,hu,ru⟩:=rv.get hx
  have hi:i<its.toArray.size:=by
   have:=(Vaf.mp hu).1
   simpa using this
  have W:=WalksT.enumerate (prog:=X.prog) (w:=X.w) (A:=X.A) (I.ok.hd hc) e it a hei hae hai its.toArray
  refine W.item i s _ _ hi ⟨st.1,st.2,p.isList⟩ λT vals h' tk hP hT ht mid k1=>?_
  obtain⟨t,y,hy,rfl⟩:=hP
  have ey:y=u:=by
   have z:its[i]?=some y:=by simpa using hy
   rw[hu] at z; exact(Option.some.inj z).symm
  subst ey
  have hw:∀b∈[e,it],zcm X pins H b:=hf
  have I1:Inv X pins σ (upd H T (.tup [.int (i:Int),x])) { s with heap:=h',toks:=tk }:=zv0 I k1 hw hT ht (.cons ⟨t,rfl⟩ (.cons ru .nil)) (show 2≤sizeLine from zb5 (by decide))
  have neT:∀b∈[e,it],b≠T:=λb hb z=>W.apart i T h' mid (z ▸ hb)
  have hf1:∀b∈[e,it],zcm X pins (upd H T (.tup [.int (i:Int),x])) b:=λb hb=>⟨by rw[za2 (neT b hb)]; exact(hf b hb).1,(hf b hb).2⟩
  refine⟨.ref T,rfl,W.go elts kk tp i T _ _ _ mid λh2 st2 k2=>?_⟩
  have I2:Inv X pins σ (upd H T (.tup [.int (i:Int),x])) { s with heap:=h2,toks:=tk }:=zpo (s:={ s with heap:=h',toks:=tk }) (t':=tk) I1 k2 hf1
  exact⟨.ref T,_,I2,rfl,⟨T,x,rfl,I.hok.fresh hT,rfl,λys hy=>by rw[I.list_inj hy hq]; exact hx⟩,⟨st2.1,st2.2.1⟩,λb hb=>(hf1 b hb).1⟩
 done:=by
  intro X hP hw hK hc i pins s σ H E I hf st hg
  subst hP hw hK
  obtain⟨xs,hq,hx⟩:=hg
  obtain⟨its,rv,p,hz⟩:=I.list hq
  have W:=WalksT.enumerate (prog:=X.prog) (w:=X.w) (A:=X.A) (I.ok.hd hc) e it a hei hae hai its.toArray
  have hi:i=its.toArray.size:=by rw[Vap,← rv.length]; exact hx.symm
  subst hi
  exact W.done s _ _ ⟨st.1,st.2,p.isList⟩ λh' tk k1=>⟨rfl,zpo (t':=tk) I k1 hf⟩
 self:=λA i s Q E st h=>by
  obtain⟨⟨old,he⟩,_⟩:=st
  exact wpAny_pyIter_enum he h
section
variable {X:Cx}
def iEnum (K:PySem.W.Frag)(ta:TA):TI:=λσ H R=>ta σ H λvs H1=>∃a,vs=[.ref a]∧(∃xs,SqL K H1 a xs)∧R (Ite K a) H1
theorem ztP {a:Expr}{ta:TA}{p pos tp:Pos}{elts:List Expr}{kk:Nat}(hg:Gl X "enumerate")(hm:X.mg "enumerate"=none)(hv:bootBuiltins "enumerate"=some (.type "enumerate"))(ha:PA X [a] ta)(hs:starEach [a] X.env=[(false,eval a X.env)]:=by rfl):
  PI X (.Tuple elts kk tp) (.Call (.Name "enumerate" p) [a] [] pos) (iEnum X.K ta):=by
 intro pins s σ H R I h
 refine Call_ (zij I hg hm hv (PyProof.Rows.callWith_type1 (thn (ha pos pins s σ H _ I h) λus s1 ⟨vs,H1,I1,r1,q1⟩=>?_) hs rfl))
 obtain⟨l,e,⟨xs,hq⟩,q⟩:=q1
 subst e
 cases r1 with
 | cons r rr=>
  cases rr
  cases r
  obtain⟨its,rv,pl,hz⟩:=I1.list hq
  have hll:l<s1.heap.objs.size:=by
   obtain⟨o,e,_⟩:=pl.isList
   exact Heap.lt_size e
  refine call_enumerate_list pl.isList λh' he hit hsz hk=>?_
  have I2:Inv X pins σ H1 { s1 with heap:=h' }:=I1.kept (t':=s1.toks) hk
  refine wpAny_pyIter_enum he ⟨s1.heap.objs.size+1,[s1.heap.objs.size+1,s1.heap.objs.size],_,_,H1,rfl,I2,zvO l _ _ (Nat.succ_ne_self _) (Vak (Nat.lt_succ_of_lt hll)) (Vak hll),⟨⟨_,he⟩,hit⟩,λb hb=>?_,q⟩
  have hb':b=s1.heap.objs.size+1∨b=s1.heap.objs.size:=by simpa using hb
  rcases hb' with rfl | rfl
  ·exact I1.fpOk (Nat.le_succ _) (I1.hok.fresh (Nat.le_succ _))
  ·exact I1.fpOk (Vaa _) (I1.hok.fresh (Vaa _))
end
section
variable {X:Cx}
end
section
variable {X:Cx}{Z:Zx}{pos:Pos}
@[irreducible] def zkJ (is:List Nat)(ta:TDA)(tb:TDS):TDS:=λE dl S=>ta dl S λds S1=>match ds with
 | [.ref n]=>(lAt S1 n).isSome=true∧∃W:Nat→Nat→Ev→Sto→Prop,(∃m,W 0 m dl S1)∧∀k m dl S,W k m dl S→match lAt S n with
  | some o=>match (zax o)[k]? with
   | some x=>tb { nx:=λdl' S'=>∃m',m'<m∧W (k+1) m' dl' S',rt:=E.rt,bk:=E.nx,ct:=λdl' S'=>∃m',m'<m∧W (k+1) m' dl' S' } (zhJ is [.int (k:Int),x] dl) S
   | none=>k=(zax o).length∧E.nx dl S
  | none=>False
 | _=>False
theorem znz {r r':List Addr}{S':Sto}{H':Hp}{n:Nat}{a:Addr}{o:Ob}(hn:r'[n]?=some a)(rel:zaS X.K r' S' H')(eo:lAt S' n=some o):∃xs,SqL X.K H' a xs∧Rps r' H' (zax o) xs:=by
 obtain⟨eo,eL⟩:=zcr eo
 obtain⟨a',ha,ob⟩:=rel.at eo
 rw[hn] at ha; cases ha
 exact ob.list eL
theorem zpp {iter:Expr}{body:List Stmt}{es:List Expr}{kk:Nat}{tp p pos2:Pos}{is:List Nat}{ta:TDA}{tb:TDS}(hp:PassesOwn (model X.prog X.w) X.A X.env X.xe)(hc:X.calm=true)(hN:X.N.Nodup)(hn:Nms X es is)(h2:is.length=2)
  (hg:Gl X "enumerate")(hm:X.mg "enumerate"=none)(hv:bootBuiltins "enumerate"=some (.type "enumerate"))(ha:PDA X Z [iter] ta)(hb:zcz X Z body tb)
  (hlen:(assignEach es X.env).length=is.length:=by rfl)(hst:(assignEach es X.env).findIdx? (·.1)=none:=by rfl)(hse:starEach [iter] X.env=[(false,eval iter X.env)]:=by rfl)
  (hs:∀y,foldedSetIterable (.Call (.Name "enumerate" p) [iter] [] pos2) X.env y=pure y:=by intro _; rfl):PDS X Z (.For (.Tuple es kk tp) (.Call (.Name "enumerate" p) [iter] [] pos2) body [] pos) (zkJ is ta tb):=
 zcy (zlE hp hc (ztP hg hm hv ha hse) (zta hc (znM hN hn) hlen hst) hb hs) λF σ H ⟨r,dl,S,E,rs,rel,h,ret⟩=>by
  unfold zkJ at h
  refine⟨r,dl,S,_,rs,rel,h,λvs H1 r1 ds S1 x1 rel1 p1 q1=>?_⟩
  split at q1
  ·rename_i n
   obtain⟨v,vs',rfl,p2,p3⟩:=p1.uncons
   have z:=p3.unnil
   subst z
   cases p2 with
   | @ref n a hr=>
    obtain⟨hsome,W,⟨m0,w0⟩,turn⟩:=q1
    obtain⟨o1,eo1⟩:=Option.isSome_iff_exists.mp hsome
    obtain⟨xs1,sq1,_⟩:=znz (r:=r1) hr rel1.b eo1
    refine⟨a,rfl,⟨xs1,sq1⟩,λk m σ' H'=>∃r' dl' S',Ext r1 r' H1 H'∧Rs r' H' dl' σ'∧Rel X.K Z r' S' H'∧W k m dl' S',⟨m0,r1,dl,S1,Ext.refl,rs.ext x1,rel1,w0⟩,?_⟩
    rintro k m σ2 H2 ⟨r2,dl2,S2,x2,rs2,rel2,w2⟩
    have q:=turn k m dl2 S2 w2
    split at q
    ·rename_i o eo
     obtain⟨xs,sq,pr⟩:=znz (r:=r2) (x2.adr _ _ hr) rel2.b eo
     split at q
     ·rename_i y ey
      obtain⟨v,hvv,pv⟩:=pr.get ey
      refine .inr ⟨⟨xs,v,sq,hvv⟩,λσ' H'=>∃m',m'<m∧∃r' dl' S',Ext r1 r' H1 H'∧Rs r' H' dl' σ'∧Rel X.K Z r' S' H'∧W (k+1) m' dl' S',λ_ _ z=>z,λv' H' y'=>?_⟩
      obtain⟨T,w,rfl,hT,rfl,hw⟩:=y'
      have ew:w=v:=by
       have z:=hw xs sq
       rw[hvv] at z; exact(Option.some.inj z).symm
      subst ew
      have x3:Ext r2 r2 H2 (upd H2 T (.tup [.int (k:Int),w])):=zph hT
      have pp:Rps r2 (upd H2 T (.tup [.int (k:Int),w])) [.int (k:Int),y] [.int (k:Int),w]:=Rps.cons (.int _) (Rps.cons (pv.ext x3) Rps.nil)
      have rel3:=rel2.same (zcV (o:=.tup [.int (k:Int),w]) hT)
      have go:∀σ' H' r' dl' S',Ext r2 r' (upd H2 T (.tup [.int (k:Int),w])) H'→Rs r' H' dl' σ'→Rel X.K Z r' S' H'→(∃m',m'<m∧W (k+1) m' dl' S')→∃m',m'<m∧∃r' dl' S',Ext r1 r' H1 H'∧Rs r' H' dl' σ'∧Rel X.K Z r' S' H'∧W (k+1) m' dl' S':=
       λσ' H' r' dl' S' x rs' rel' ⟨m',hm,w'⟩=>⟨m',hm,r',dl',S',x2.trans (x3.trans x),rs',rel',w'⟩
      refine⟨T,[.int (k:Int),w],rfl,SqT.of zbR,by rw[h2]; rfl,by rw[h2]; rfl,r2,_,S2,_,zo7 (rs2.ext x3) pp,rel3,q,⟨go,λσ' H' r' dl' S' x rs' rel' z=>ret.nx σ' H' r' dl' S' (x1.trans (x2.trans (x3.trans x))) rs' rel' z,go,ret.rt.ext (x1.trans (x2.trans x3))⟩⟩
     ·obtain⟨hk,q⟩:=q
      exact .inl ⟨⟨xs,sq,by rw[← pr.1]; exact hk.symm⟩,ret.nx σ2 H2 r2 dl2 S2 (x1.trans x2) rs2 rel2 q⟩
    ·exact q.elim
  ·exact q1.elim
end
section
variable {X:Cx}{Z:Zx}{pos:Pos}
def wInT (k:Nat)(neg:Bool):W2:=λx y S Q=>match y with
 | .tup ys=>match zb9 (eqN k) ys x with
  | some b=>Q (.bl (if neg then !b else b)) S
  | none=>False
 | _=>False
theorem znX {k j:Nat}(hr:zaC j X.A)(hk:k≤3):OpR X (compareOp .In) (upO X.K Z (wInT k false)):=by
 intro pins s σ H x y v u Qv I rx ry h
 obtain⟨r,S,dx,dy,Q,rel,px,py,q,ret⟩:=h
 have hun:=hr.un
 cases py with
 | @tup ds xs a e1 l1 f1=>
  have q':(match zb9 (eqN k) ds dx with | some b=>Q (.bl b) S | none=>False):=q
  split at q'
  ·rename_i b eb
   cases ry
   obtain⟨is,ri,ti,_⟩:=zeA I e1
   obtain⟨g,g1,g2⟩:=znw (A:=X.A.in1) I (by show X.A.units+1+k<_; omega) ⟨l1,f1⟩ ri px rx eb
   refine SeqAt.in_tupleAt g ti g1 ?_
   rw[g2]
   exact⟨.bl b,H,I,rfl,ret _ _ _ _ _ Ext.refl rel (.bl b) q'⟩
  ·exact q'.elim
 | _=>exact(show False from q).elim
@[irreducible] def zlr (T:String)(te:TDE):TDE:=λdl S Q=>te dl S λd S1=>match d with
 | .ref n=>match S1[n]? with
  | some (.lst _)=>Q (.bl (zdr "list" T)) S1
  | _=>False
 | _=>False
theorem zvI {T:String}{e:Expr}{te:TDE}{y:Str}{p p2:Pos}(KT:PySem.W.kitOne X.K (.type "list") (.type T)=some (zdr "list" T))(hg:Gl X "isinstance")(hm:X.mg "isinstance"=none)(hg2:Gl X y)(hm2:X.mg y=none)(hv2:bootBuiltins y=some (.type T))(ha:PD X Z e te)
  (hv:bootBuiltins "isinstance"=some (.builtin "isinstance"):=by exact PyProof.Rows.Boot.«isinstance»)
  (hn2:y≠"__name__":=by decide)(hd2:(y==("__debug__":Str))=false:=by decide)(he2:starEach [e,.Name y p2] X.env=(false,eval e X.env)::starEach [.Name y p2] X.env:=by rfl)
  (he3:starEach [.Name y p2] X.env=(false,eval (.Name y p2) X.env)::starEach [] X.env:=by rfl)(hpl:(backTo pos (starEach [.Name y p2] X.env)).any (·.1)=false:=by rfl):
  PD X Z (.Call (.Name "isinstance" p) [e,.Name y p2] [] pos) (zlr T te):=
 zaJ (zlH zoK hg hm hv (zdX ha (zdX (zoe (v:=.ty T) hg2 hm2 hv2 rfl hn2 hd2) zfm he3) he2) (by decide) (by decide) he2 hpl) λσ H Qv ⟨r,dl,S,Q,rs,rel,h,ret⟩=>
  by unfold zlr at h; exact⟨r,dl,S,_,rs,rel,h,λv H1 r1 d S1 e1 rel1 p1 h1=>by
   cases p1 with
   | @ref n a hr=>
    dsimp only at h1
    split at h1
    ·rename_i xs eS
     obtain⟨ys,eH,_⟩:=rel1.b.ob n a _ hr eS
     exact⟨_,T,_,_,rfl,.lst eH,KT,ret _ _ _ _ _ e1 rel1 (.bl _) h1⟩
    ·exact h1.elim
   | _=>exact(show False from h1).elim⟩
end
theorem ztk (K:PySem.W.Frag):PySem.W.kitOne K (.type "list") (.type "list")=some (zdr "list" "list"):=by kernel_rfl
structure Dm (K:PySem.W.Frag)(C:Addr)(m qual:Str)(st:Stmt)(ps:List Str) where
 f:Addr
 fd:FuncData
 F:Fun K m qual st f fd
 m:zeN K C m f
 b:zbE K fd ps []
structure Fm (P:Program)(w:World)(K:PySem.W.Frag)(mg:Str→Option Value)(base:Heap)(k:Nat)(C:Addr)(x:Str)(ps:List Str)(sd:Sd) where
 f:Addr
 fd:FuncData
 ok:zaV P w K mg base (CXE P w) k f fd ps (upF K sd)
 m:zeN K C x f
 b:zbE K fd ps []
def Dm.mk' {P:Program}{w:World}{K:PySem.W.Frag}{mg:Str→Option Value}{base:Heap}{k:Nat}{C:Addr}{x qual:Str}{st:Stmt}{ps:List Str}{sd:Sd}(d:Dm K C x qual st ps)(h:zaV P w K mg base (CXE P w) k d.f d.fd ps (upF K sd)):Fm P w K mg base k C x ps sd:=
 ⟨d.f,d.fd,h,d.m,d.b⟩
theorem zlC {P:Program}{w:World}{X:Cx}:ze1 (CXE P w) X (λ_ _ _=>False):=λ_ _ _ _ _ _ _ h=>by
 obtain⟨_,_,_,_,_,_,_,_,_,_,_,_,q⟩:=h
 exact q.elim
section
variable {X:Cx}{Z:Zx}
theorem zsE {k:Nat}(hr:zaC k X.A):OpR X (compareOp .In) (upO X.K Z (zbP (wIn 1 false))):=by rw[zb8]; exact zoy 1 (by have:=hr.un; omega)
theorem zqE {k:Nat}(hr:zaC k X.A):OpR X (compareOp .Eq) (upO X.K Z (zbP (zeU 1))):=by rw[zb8]; exact zvh 1 hr (by have:=hr.un; omega)
end
section
variable {X:Cx}{Z:Zx}{pos:Pos}
theorem ztM {k n m:Nat}{a a':Addr}{o o':Ob}{b:Bool}{pins:List (Addr×Obj)}{σ:St}{H:Hp}{s:Shared}{r:List Addr}{S:Sto}(I:Inv X pins σ H s)(rel:Rel X.K Z r S H)(hn:r[n]?=some a)(hm:r[m]?=some a')(eo:lAt S n=some o)(eo':lAt S m=some o')
  (e:eqL (eqN k) (zax o) (zax o')=some b)(hu:X.A.units+1+k<cLine):SeqAt.RcNeAt X.A s (.ref a) (.ref a') (!b):=by
 obtain⟨eo,eL⟩:=zcr eo
 obtain⟨eo',eL'⟩:=zcr eo'
 obtain⟨z,hz,ob⟩:=rel.at eo
 rw[hn] at hz; cases hz
 obtain⟨z,hz,ob'⟩:=rel.at eo'
 rw[hm] at hz; cases hz
 obtain⟨xs,sq,pr⟩:=ob.list eL
 obtain⟨ys,sq',pr'⟩:=ob'.list eL'
 obtain⟨is,ri,pl,_⟩:=I.list sq
 obtain⟨js,rj,pl',_⟩:=I.list sq'
 obtain⟨g1,g2⟩:=zgS (A:=X.A.in1) (ze3 k) I (by show X.A.units+1+k<_; omega) pr pr' ri rj e
 by_cases hs:is.toArray.size=js.toArray.size
 ·have q:=SeqAt.RcNeAt.lists (A:=X.A) pl.isList pl'.isList hs (by omega) g1
  have e2:(List.range is.toArray.size).all (zcB (eqN k) (zax o) (zax o'))=b:=by
   rw[← g2,← hs,Nat.min_self]; simp
  rw[e2] at q
  exact q
 ·have q:=SeqAt.RcNeAt.lists_lengths (A:=X.A) pl.isList pl'.isList (by simpa using hs) (by omega)
  have e2:b=false:=by
   rw[← g2,show (is.toArray.size==js.toArray.size)=false by simpa using hs,Bool.and_false]
  rw[e2]
  exact q
theorem zxg (k:Nat){j:Nat}(hr:zaC j X.A)(hu:X.A.units+1+k<cLine):OpR X (compareOp .NotEq) (upO X.K Z (zev k)):=by
 intro pins s σ H x y v u Qv I rx ry h
 obtain⟨r,S,dx,dy,Q,rel,px,py,q,ret⟩:=h
 have zaF:∀ {dx dy:D} {x y:V},Rp r H dx x→Rp r H dy y→zam x v→zam y u→zek k S dx dy=eqN (k+1) dx dy→zev k dx dy S Q→wpAny (model X.prog X.w) X.A (compareOp .NotEq v u) (EP X pins σ Qv) X.xe s:=λpx py rx ry e q=>by
  refine zpW (Z:=Z) (ze3 k) hu pins s σ H _ _ v u Qv I rx ry ⟨r,S,_,_,Q,rel,px,py,?_,ret⟩
  unfold zev at q
  rw[e] at q
  exact q
 cases px with
 | @ref n a hn=>
  cases py with
  | @ref m a' hm=>
   cases rx
   cases ry
   unfold zev zek at q
   dsimp only at q
   split at q
   ·rename_i b e
    split at e
    ·rename_i o o' eo eo'
     exact ztM I rel hn hm eo eo' e hu X.prog X.w X.xe _ ⟨.bl (!b),H,I,rfl,ret _ _ _ _ _ Ext.refl rel (.bl (!b)) q⟩
    ·cases e
   ·exact q.elim
  | non=>exact zaF (.ref hn) .non rx ry rfl q
  | bl i=>exact zaF (.ref hn) (.bl i) rx ry rfl q
  | int i=>exact zaF (.ref hn) (.int i) rx ry rfl q
  | str i=>exact zaF (.ref hn) (.str i) rx ry rfl q
  | tup a b c=>exact zaF (.ref hn) (.tup a b c) rx ry rfl q
  | exc a=>exact zaF (.ref hn) (.exc a) rx ry rfl q
 | non=>exact zaF .non py rx ry rfl q
 | bl i=>exact zaF (.bl i) py rx ry rfl q
 | int i=>exact zaF (.int i) py rx ry rfl q
 | str i=>exact zaF (.str i) py rx ry rfl q
 | tup a b c=>exact zaF (.tup a b c) py rx ry rfl q
 | exc a=>exact zaF (.exc a) py rx ry rfl q
theorem zlS {k:Nat}(hr:zaC k X.A):OpR X (compareOp .NotEq) (upO X.K Z (zbP (zev 1))):=by rw[zb8]; exact zxg 1 hr (by have:=hr.un; omega)
def zli:W2:=λx y S Q=>match x,y with
 | .ref n,.ref m=>match S[n]?,S[m]? with
  | some (.lst xs),some (.lst ys)=>xs.length+ys.length≤1000∧Q (.ref S.length) (S++[.lst (xs++ys)])
  | _,_=>False
 | _,_=>False
theorem Rps.app {r:List Addr}{H:Hp}:∀ {ds es:List D} {xs ys:List V},Rps r H ds xs→Rps r H es ys→Rps r H (ds++es) (xs++ys)
 | [],es,xs,ys,p,q=>by
  have z:=p.unnil
  subst z
  exact q
 | d::ds,es,xs,ys,p,q=>by
  obtain⟨v,vs,rfl,p1,p2⟩:=p.uncons
  exact Rps.cons p1 (p2.app q)
theorem zbV:OpR X (binaryOp .Add) (upO X.K Z (zbP zli)):=by
 rw[zb8]
 exact zfv zwH λx y H Qv ⟨r,S,dx,dy,Q,rel,px,py,q,ret⟩=>by
  unfold zli at q
  split at q
  ·rename_i n m
   split at q
   ·rename_i xs ys e1 e2
    obtain⟨hl,q⟩:=q
    cases px with
    | @ref _ a hn=>
     cases py with
     | @ref _ a' hm=>
      obtain⟨z,hz,ob⟩:=rel.at e1
      rw[hn] at hz; cases hz
      obtain⟨z,hz,ob'⟩:=rel.at e2
      rw[hm] at hz; cases hz
      obtain⟨us,h1,p1⟩:=ob
      obtain⟨vs,h2,p2⟩:=ob'
      refine⟨a,a',us,vs,rfl,rfl,h1,h2,?_,λp hp=>?_⟩
      ·rw[← p1.1,← p2.1]; exact zb5 hl
      ·obtain⟨rel4,x⟩:=rel.push hp (p1.app p2)
       exact ret _ _ _ (.ref S.length) _ x rel4 (zc0 rel.len) q
   ·exact q.elim
  ·exact q.elim
theorem zbe {n m:Nat}{S:Sto}{Q:DK}{xs ys:List D}(h1:S[n]?=some (.lst xs))(h2:S[m]?=some (.lst ys))(hl:xs.length+ys.length≤1000)(hq:Q (.ref S.length) (S++[.lst (xs++ys)])):zbP zli (.ref n) (.ref m) S Q:=by
 rw[zb8]
 unfold zli
 simp only[h1,h2]
 exact⟨hl,hq⟩
structure Kx (K:PySem.W.Frag)(C:Addr):Prop where
 cl:Cls K C
 ha:PySem.W.findIn K (.ref C) "__class__"=some (some (.builtin "object.__class__"))
 hn:PySem.W.specialIn K (.builtin "object.__class__") "__get__"=some (some (.builtin "getset_descriptor.__get__"))
 ht:PySem.W.takesIn K (.builtin "object.__class__")=some true
 hm:PySem.W.mroIn K C (.type "object")=some true
def KT (K:PySem.W.Frag)(cv:Value)(ans:List (Addr×Bool)):Prop:=∀C b,(C,b)∈ans→PySem.W.kitOne K (.ref C) cv=some b∧Kx K C
end
section
variable {X:Cx}{Z:Zx}
def zlT:WC:=λds S Q=>match ds with
 | [.int i]=>i.natAbs.log2<1920∧Q (.str (Str.ofString (toString i))) S
 | _=>False
theorem zuI:za3 X (.type "str") (λxs H Q=>∃i:Int,xs=[.int i]∧i.natAbs.log2<1920∧Q (.str (Str.ofString (toString i))) H):=by
 intro pins s σ H xs us Q I r h
 obtain⟨i,rfl,hi,q⟩:=h
 obtain⟨u,rfl,rx⟩:=zb4 r
 obtain⟨t,rfl⟩:=rx
 exact PySem.P.str_of_int hi ⟨.str _,H,I.tok _,⟨_,rfl⟩,q⟩
theorem ze0:za3 X (.type "str") (upC X.K Z zlT):=zfo zuI λxs H Qv ⟨r,S,ds,Q,rel,ps,q,ret⟩=>by
 unfold zlT at q
 split at q
 ·rename_i i
  obtain⟨v,vs,rfl,p1,p2⟩:=ps.uncons
  have z:=p2.unnil
  subst z
  cases p1
  exact⟨i,rfl,q.1,ret _ _ _ _ _ Ext.refl rel (.str _) q.2⟩
 ·exact q.elim
theorem zeV {i:Int}{S:Sto}{Q:DK}(h:i.natAbs.log2<1920)(hq:Q (.str (Str.ofString (toString i))) S):irr zlT [.int i] S Q:=by rw[zew]; exact⟨h,hq⟩
def zmY:WC:=λds S Q=>match ds with
 | [.str x]=>∃n,PySem.intText? x=some n∧x.length≤640∧Q (.int n) S
 | _=>False
theorem zrk:za3 X (.type "int") (λxs H Q=>∃x n,xs=[.str x]∧PySem.intText? x=some n∧x.length≤640∧Q (.int n) H):=by
 intro pins s σ H xs us Q I r h
 obtain⟨x,n,rfl,hn,hl,q⟩:=h
 obtain⟨u,rfl,rx⟩:=zb4 r
 obtain⟨t,rfl⟩:=rx
 exact PySem.W.KIN.call_text hn hl ⟨.int n,H,I.tok _,⟨_,rfl⟩,q⟩
theorem zlk:za3 X (.type "int") (upC X.K Z zmY):=zfo zrk λxs H Qv ⟨r,S,ds,Q,rel,ps,q,ret⟩=>by
 unfold zmY at q
 split at q
 ·rename_i x
  obtain⟨n,q1,q2,q3⟩:=q
  obtain⟨v,vs,rfl,p1,p2⟩:=ps.uncons
  have z:=p2.unnil
  subst z
  cases p1
  exact⟨x,n,rfl,q1,q2,ret _ _ _ _ _ Ext.refl rel (.int _) q3⟩
 ·exact q.elim
theorem zkP {x:Str}{n:Int}{S:Sto}{Q:DK}(h:PySem.intText? x=some n)(hl:x.length≤640)(hq:Q (.int n) S):irr zmY [.str x] S Q:=by rw[zew]; exact⟨n,h,hl,hq⟩
@[irreducible] def zcA (w:Str→D→Sto→DK→Prop)(to:TDE)(t:TDA):TDE:=λdl S Q=>to dl S λd S1=>match d with
 | .str x=>t dl S1 λds S2=>match ds with
  | [y]=>w x y S2 Q
  | _=>False
 | _=>False
def znV:Str→D→Sto→DK→Prop:=λx y S Q=>match y with
 | .int i=>(0≤i∧i≤1000)∧Q (.str (Txt.zfill x i)) S
 | _=>False
def zmL:Str→D→Sto→DK→Prop:=λx y S Q=>match y with
 | .str z=>Q (.bl (Txt.startswith x z)) S
 | _=>False
def zo6:Str→D→Sto→DK→Prop:=λx y S Q=>match y with
 | .str z=>(z.length≠0∧x.length≤1000)∧Q (.tup [.str (Txt.partition x z).1,.str (Txt.partition x z).2.1,.str (Txt.partition x z).2.2]) S
 | _=>False
theorem zji {w:Str→D→Sto→DK→Prop}{to:TDE}{t:TDA}{dl:Ev}{S S1 S2:Sto}{Q:DK}{x:Str}{y:D}(hto:∀K:DK,K (.str x) S1→to dl S K)(ht:∀K:List D→Sto→Prop,K [y] S2→t dl S1 K)(hq:w x y S2 Q):zcA w to t dl S Q:=by
 unfold zcA
 exact hto _ (ht _ hq)
theorem zv8:MtR X "str.zfill" (λx xs H Q=>∃z i,x=.str z∧xs=[.int i]∧(0≤i∧i≤1000)∧Q (.str (Txt.zfill z i)) H):=by
 intro pins s σ H x xs v us Q I rx rv h
 obtain⟨z,i,rfl,rfl,hi,q⟩:=h
 obtain⟨t,rfl⟩:=rx
 obtain⟨u,rfl,ru⟩:=zb4 rv
 obtain⟨t2,rfl⟩:=ru
 refine PySem.W.KXw.zfill (y:=Txt.zfill z i) rfl ?_ λt' k=>⟨.str _,H,I.kept (t':=k) λb o e=>e,⟨t',rfl⟩,q⟩
 have l:i.toNat≤sizeLine:=zb5 (by omega)
 unfold PadOk fitsSsize Builtin.Str.tooLong
 rw[Vay,Bool.not_eq_true',Bool.not_eq_true',decide_eq_false (show ¬ i < -(2^63:Int) by omega),decide_eq_false (show ¬ i≥(2^63:Int) by omega),decide_eq_false (by omega)]
 exact⟨rfl,rfl⟩
theorem zqG:MtR X "str.startswith" (λx xs H Q=>∃z y,x=.str z∧xs=[.str y]∧Q (.bl (Txt.startswith z y)) H):=by
 intro pins s σ H x xs v us Q I rx rv h
 obtain⟨z,y,rfl,rfl,q⟩:=h
 obtain⟨t,rfl⟩:=rx
 obtain⟨u,rfl,ru⟩:=zb4 rv
 obtain⟨t2,rfl⟩:=ru
 exact PySem.SC.startswith ⟨.bl _,H,I,rfl,q⟩
theorem ztn:MtR X "str.partition" (λx xs H Q=>∃z y,x=.str z∧xs=[.str y]∧(y.length≠0∧z.length≤1000)∧∀p,H p=none→Q (.ref p) (upd H p (.tup [.str (Txt.partition z y).1,.str (Txt.partition z y).2.1,.str (Txt.partition z y).2.2]))):=by
 intro pins s σ H x xs v us Q I rx rv h
 obtain⟨z,y,rfl,rfl,⟨hy,hz⟩,q⟩:=h
 obtain⟨t,rfl⟩:=rx
 obtain⟨u,rfl,ru⟩:=zb4 rv
 obtain⟨t2,rfl⟩:=ru
 refine call_meets PySem.F.slot_str_partition (typeIs_str _ _ _) PySem.F.entry_str_partition (PySem.F.args_str_partition_2 _ _) (meets_str_partition z y t t2 (by simpa using hy) (zb5 hz)) ?_
 have q':=q
 unfold Txt.partition at q'
 revert q'
 cases Builtin.Str.occurrences z y 0 z.length 1 with
 | nil=>
  intro q'
  refine⟨.ref s.heap.objs.size,_,I.laid (o:=.tup [.str z,.str Str.empty,.str Str.empty]) (λb ob e=>Heap.get?_push_of_some _ e) (Vaa _) ?_,rfl,q' _ (I.hok.fresh (Vaa _))⟩
  exact⟨zb5 (by simp),_,.cons ⟨_,rfl⟩ (.cons ⟨_,rfl⟩ (.cons ⟨_,rfl⟩ .nil)),IsTup.new _ _⟩
 | cons i r=>
  intro q'
  refine⟨.ref s.heap.objs.size,_,I.laid (o:=.tup [.str (Builtin.Str.strSub z 0 i),.str y,.str (Builtin.Str.strSub z (i+y.length) z.length)]) (λb ob e=>Heap.get?_push_of_some _ e) (Vaa _) ?_,rfl,q' _ (I.hok.fresh (Vaa _))⟩
  exact⟨zb5 (by simp),_,.cons ⟨_,rfl⟩ (.cons ⟨_,rfl⟩ (.cons ⟨_,rfl⟩ .nil)),IsTup.new _ _⟩
theorem zsJ {o e:Expr}{to:TDE}{t:TDA}{apos cpos:Pos}(ho:PD X Z o to)(ha:PDA X Z [e] t)(hbase:attributeBase o "zfill" X.env (eval o X.env)=eval o X.env:=by rfl)
  (hfew:((backTo cpos (starEach [e] X.env)).all (λx=>!x.1)&&(backToKw cpos (keywordEach [] X.env)).all (λx=>x.1.isSome)
  &&decide ([e].length+([]:List Keyword).length+(if ([]:List Keyword).isEmpty then 0 else 1)<30))=true:=by rfl)
  (hline:(apos.endLine==cpos.line)=true:=by rfl)(hs:starEach [e] X.env=(false,eval e X.env)::starEach [] X.env:=by rfl)(hplain:(backTo cpos (starEach [] X.env)).any (·.1)=false:=by rfl):
  PD X Z (.Call (.Attribute o "zfill" apos) [e] [] cpos) (zcA znV to t):=
 zaJ (zem (T:="str") PySem.F.plainAttrs_str PySem.F.slot_str_zfill PySem.F.type_str_zfill zv8 ho ha hbase hfew hline hs hplain) λσ H Qv ⟨r,dl,S,Q,rs,rel,h,ret⟩=>by
  unfold zcA at h
  refine⟨r,dl,S,_,rs,rel,h,λv H1 r1 d S1 e1 rel1 p1 q1=>?_⟩
  cases p1 with
  | str x=>
   refine⟨rfl,r1,dl,S1,_,rs.ext e1,rel1,q1,λvs H2 r2 ds S2 e2 rel2 p2 q2=>?_⟩
   split at q2
   ·rename_i y
    obtain⟨v2,vs',rfl,p3,p4⟩:=p2.uncons
    have z:=p4.unnil
    subst z
    unfold znV at q2
    split at q2
    ·rename_i i
     cases p3
     exact⟨x,i,rfl,rfl,q2.1,ret _ H2 r2 _ S2 (e1.trans e2) rel2 (.str _) q2.2⟩
    ·exact q2.elim
   ·exact q2.elim
  | _=>exact(show False from q1).elim
theorem zw2 {o e:Expr}{to:TDE}{t:TDA}{apos cpos:Pos}(ho:PD X Z o to)(ha:PDA X Z [e] t)(hbase:attributeBase o "startswith" X.env (eval o X.env)=eval o X.env:=by rfl)
  (hfew:((backTo cpos (starEach [e] X.env)).all (λx=>!x.1)&&(backToKw cpos (keywordEach [] X.env)).all (λx=>x.1.isSome)
  &&decide ([e].length+([]:List Keyword).length+(if ([]:List Keyword).isEmpty then 0 else 1)<30))=true:=by rfl)
  (hline:(apos.endLine==cpos.line)=true:=by rfl)(hs:starEach [e] X.env=(false,eval e X.env)::starEach [] X.env:=by rfl)(hplain:(backTo cpos (starEach [] X.env)).any (·.1)=false:=by rfl):
  PD X Z (.Call (.Attribute o "startswith" apos) [e] [] cpos) (zcA zmL to t):=
 zaJ (zem (T:="str") PySem.F.plainAttrs_str PySem.F.slot_str_startswith PySem.F.type_str_startswith zqG ho ha hbase hfew hline hs hplain) λσ H Qv ⟨r,dl,S,Q,rs,rel,h,ret⟩=>by
  unfold zcA at h
  refine⟨r,dl,S,_,rs,rel,h,λv H1 r1 d S1 e1 rel1 p1 q1=>?_⟩
  cases p1 with
  | str x=>
   refine⟨rfl,r1,dl,S1,_,rs.ext e1,rel1,q1,λvs H2 r2 ds S2 e2 rel2 p2 q2=>?_⟩
   split at q2
   ·rename_i y
    obtain⟨v2,vs',rfl,p3,p4⟩:=p2.uncons
    have z:=p4.unnil
    subst z
    unfold zmL at q2
    split at q2
    ·rename_i i
     cases p3
     exact⟨x,i,rfl,rfl,ret _ H2 r2 _ S2 (e1.trans e2) rel2 (.bl _) q2⟩
    ·exact q2.elim
   ·exact q2.elim
  | _=>exact(show False from q1).elim
theorem zs0 {o e:Expr}{to:TDE}{t:TDA}{apos cpos:Pos}(ho:PD X Z o to)(ha:PDA X Z [e] t)(hbase:attributeBase o "partition" X.env (eval o X.env)=eval o X.env:=by rfl)
  (hfew:((backTo cpos (starEach [e] X.env)).all (λx=>!x.1)&&(backToKw cpos (keywordEach [] X.env)).all (λx=>x.1.isSome)
  &&decide ([e].length+([]:List Keyword).length+(if ([]:List Keyword).isEmpty then 0 else 1)<30))=true:=by rfl)
  (hline:(apos.endLine==cpos.line)=true:=by rfl)(hs:starEach [e] X.env=(false,eval e X.env)::starEach [] X.env:=by rfl)(hplain:(backTo cpos (starEach [] X.env)).any (·.1)=false:=by rfl):
  PD X Z (.Call (.Attribute o "partition" apos) [e] [] cpos) (zcA zo6 to t):=
 zaJ (zem (T:="str") PySem.F.plainAttrs_str PySem.F.slot_str_partition PySem.F.type_str_partition ztn ho ha hbase hfew hline hs hplain) λσ H Qv ⟨r,dl,S,Q,rs,rel,h,ret⟩=>by
  unfold zcA at h
  refine⟨r,dl,S,_,rs,rel,h,λv H1 r1 d S1 e1 rel1 p1 q1=>?_⟩
  cases p1 with
  | str x=>
   refine⟨rfl,r1,dl,S1,_,rs.ext e1,rel1,q1,λvs H2 r2 ds S2 e2 rel2 p2 q2=>?_⟩
   split at q2
   ·rename_i y
    obtain⟨v2,vs',rfl,p3,p4⟩:=p2.uncons
    have z:=p4.unnil
    subst z
    unfold zo6 at q2
    split at q2
    ·rename_i i
     cases p3
     refine⟨x,i,rfl,rfl,q2.1,λp hp=>?_⟩
     have x3:Ext r2 r2 H2 (upd H2 p (.tup [.str (Txt.partition x i).1,.str (Txt.partition x i).2.1,.str (Txt.partition x i).2.2])):=zph hp
     have pp:Rps r2 (upd H2 p (.tup [.str (Txt.partition x i).1,.str (Txt.partition x i).2.1,.str (Txt.partition x i).2.2])) [.str (Txt.partition x i).1,.str (Txt.partition x i).2.1,.str (Txt.partition x i).2.2] [.str (Txt.partition x i).1,.str (Txt.partition x i).2.1,.str (Txt.partition x i).2.2]:=Rps.cons (.str _) (Rps.cons (.str _) (Rps.cons (.str _) Rps.nil))
     exact ret _ _ r2 _ S2 (e1.trans (e2.trans x3)) (rel2.same (zcV hp)) (.tup zbR pp.1 pp.2) q2.2
    ·exact q2.elim
   ·exact q2.elim
  | _=>exact(show False from q1).elim
end
theorem zrK:typeLookup (.type "list_reverseiterator") "__len__"=pure none:=by rw[typeLookup_type,builtinLookup_eq_fast]; kernel_rfl
theorem ztL:typeLookup (.type "list_reverseiterator") "__length_hint__"=pure (some (.builtin "list_reverseiterator.__length_hint__")):=by rw[typeLookup_type,builtinLookup_eq_fast]; kernel_rfl
section
variable {n:Nat}{I:Addr}{fp wr:List Addr}{P:Nat→Value→Prop}{St:Nat→Shared→Prop}{prog:Program}{w:World}{A:Around}{s:Shared}{E:Value→Shared→Prop}{G:Array GenState→Array GenState→Prop}
theorem zxj {Q:List Value→Shared→Prop}(W:WalksS prog w A.in1 I fp wr G n P St)(hT:∀i s,St i s→s.TypeIs (.ref I) "list_reverseiterator")(hst:St 0 s)(hfp:∀b∈fp,b<s.heap.objs.size)(hI:I∈fp)
  (hQ:∀s' acc,Moved wr G s s'→s.heap.objs.size≤s'.heap.objs.size→ItemsOf P acc n→Q acc.toList s')(hn:n≤sizeLine):wpAny (model prog w) A (collect (.ref I)) Q E s:=by
 have off:s.heap.objs.size ∉ fp:=λz=>absurd (hfp _ z) (Vax _)
 have offI:s.heap.objs.size≠I:=λz=>off (by rw[z]; exact hI)
 have neS:Builtin.List.listSameRef (.ref s.heap.objs.size) (.ref I)=false:=by simp[Builtin.List.listSameRef,offI]
 unfold collect
 refine wpAny_bind (wpAny_runValue (codeAny_builtin PySem.F.entry_proto_collect ?_))
 rewrite [Around.under_plainId PySem.F.plain_proto_collect _]
 refine wpAny_bind (wpAny_newObj_type ?_) (m:=newList [])
 refine wpAny_pure ⟨plainId_quiet PySem.F.plain_list_iadd _,codeAny_builtin PySem.F.entry_list_iadd ?_⟩
 rewrite [Around.under_plainId PySem.F.plain_list_iadd _]
 have st1:=W.frame 0 s (s.heap.push { cls:=.type "list",data:=.seq ([]:List Value).toArray }) s.toks hst (Vaa _) (λb _ o e=>Heap.get?_push_of_some _ e)
 have new1:(s.heap.push { cls:=.type "list",data:=.seq ([]:List Value).toArray }).get? s.heap.objs.size=some { cls:=.type "list",data:=.seq ([]:List Value).toArray }:=Heap.get?_push_size _ (by rfl)
 change wpAny _ A.in1 (Builtin.List.listExtendWith (.ref s.heap.objs.size) (.ref I) (.ref s.heap.objs.size)) _ _ _
 unfold Builtin.List.listExtendWith; refine wpAny_bind (wpAny_typeOf (hT 0 _ st1) ?_)
 rw[if_neg (by rw[neS]; decide)]
 refine wpAny_bind (W.self 0 _ _ _ st1 (wpAny_bind (wpAny_holding ?_)))
 unfold Builtin.List.listLengthHint; refine wpAny_bind (wpAny_specialOf (hT 0 _ st1) zrK ?_)
 change wpAny _ A.in1 (specialOf (Value.ref I) (Str.ofString "__length_hint__") >>= _) _ _ _
 refine wpAny_bind (wpAny_specialOf (hT 0 _ st1) ztL ?_)
 generalize hid:("list_reverseiterator.__length_hint__":String)=nm
 wp_delta
 have two:splitId nm=some ("list_reverseiterator","__length_hint__"):=by subst hid; decide +kernel
 rw[two]
 subst hid
 refine wpAny_bind (wpAny_isInstance (T:="list_reverseiterator") (b:=true) (hT 0 _ st1) (by rw[isSubtype_type]; kernel_rfl) ?_)
 refine wpAny_pure ?_
 rw[if_neg (by decide)]
 refine wpAny_pure ⟨plainId_quiet PySem.F.plain_extend_loop _,codeAny_extend_loopS W hn _ off _ n 0 _ _ _ rfl (Vaz _) st1 new1 (ItemsOf.nil P) λs' acc' c' hm hS' hacc=>?_⟩
 refine wpAny_bind (m:=load s.heap.objs.size) (wpAny_load hS' ?_)
 exact wpAny_pure (hQ s' acc' (Moved.drop_new (o:={ cls:=.type "list",data:=.seq ([]:List Value).toArray }) (tk:=s.toks) hm (Vaa _)) (VaC (Heap.lt_size hS')) hacc)
theorem zvd {x:Str}{t:Tok}{Q:Value→Shared→Prop}(W:WalksS prog w A.in1.in1 I fp wr G n P St)(hT:∀i s,St i s→s.TypeIs (.ref I) "list_reverseiterator")(hst:St 0 s)(hfp:∀b∈fp,b<s.heap.objs.size)(hI:I∈fp)(hstr:∀i v,P i v→∃y u,v=Value.str y u)
  (hq:∀s' (l:List (Str×Tok)),Moved wr G s s'→s.heap.objs.size≤s'.heap.objs.size→ItemsOf P (strValues l).toArray n→JoinOk x (l.map (·.1))=true∧∀t' k,Q (.str (Txt.join x (l.map (·.1))) t') { s' with toks:=k })(hsz:n≤sizeLine):wpAny (model prog w) A (call (.builtin "str.join") [.str x t,.ref I]) Q E s:=by
 refine wpAny_call (codeAny_call_builtin PySem.F.slot_str_join.plain PySem.F.entry_str_join (PySem.F.slot_str_join.check _ _ _ _ _ _ _ _ (typeIs_str _ _ _) (PySem.F.args_str_join_2 _ _) ?_))
 rw[join_tree_other]; refine wpAny_bind (wpAny_typeOf (hT 0 s hst) ?_)
 show wpAny _ A.in1 ((pyIter (.ref I)).tryCatch _ >>= λit=>collect it >>= λxs=>joinTail x xs) _ _ s
 refine wpAny_bind (wpAny_tryCatch (W.of_in1.self 0 s _ _ hst (wpAny_bind (zxj W hT hst hfp hI (λs' acc hm hm2 hacc=>?_) hsz))))
 obtain⟨l,hl⟩:=exists_strValues acc.toList λv0 hv0=>by
  obtain⟨k0,hk0,rfl⟩:=Array.mem_iff_getElem.mp (Array.mem_toList_iff.mp hv0)
  exact hstr k0 _ (hacc.2 k0 _ (Array.getElem?_eq_getElem hk0))
 rw[← hl]
 obtain⟨hok,hpost⟩:=hq s' l hm hm2 (by rw[hl]; simpa using hacc)
 have fits:Builtin.Str.tooLong ((l.map (·.1)).toArray.foldl (·+·.length+x.length) 0)=false:=by
  unfold JoinOk at hok
  simpa using hok
 have gv:Gives (joinTail x (strValues l)) (joinMade x l):=by
  have z:=gives_joinTail x l fits
  cases l with
  | nil=>exact z
  | cons p r=>
   cases r with
   | nil=>exact z
   | cons q r'=>exact z
 exact gv prog w A (wants Q E) s' (post_join l ⟨joinFit_length fits,hpost⟩)
end
def zld (B:Nat)(p l:Addr)(n:Nat):HO:=.ext λh=>h.IsRevIter p l ((n:Int)-1)∧B≤p
def zdM (H:Hp)(p:Addr):Hp:=λa=>if a=p then none else H a
theorem zgT {H:Hp}{p a:Addr}(h:a≠p):zdM H p a=H a:=if_neg h
theorem zuR {H:Hp}{p:Addr}:zdM H p p=none:=if_pos rfl
section
variable {X:Cx}{Z:Zx}
theorem zri:za3 X (.type "reversed") (λxs H Q=>∃l ys,xs=[.ref l]∧H l=some (.lst ys)∧∀p,H p=none→Q (.ref p) (upd H p (zld X.s₀.heap.objs.size p l ys.length))):=by
 intro pins s σ H xs us Q I r h
 obtain⟨l,ys,rfl,hH,q⟩:=h
 obtain⟨u,rfl,rx⟩:=zb4 r
 cases rx
 obtain⟨z,its,n,rv,hl,e⟩:=I.lstM hH
 have il:s.heap.IsList l its.toArray:=⟨_,e,rfl,n,rfl⟩
 refine call_reversed_list il ?_
 have en:((its.toArray.size:Nat):Int)-1=((ys.length:Nat):Int)-1:=by rw[Vap,rv.length]
 rw[en]
 refine⟨.ref s.heap.objs.size,_,I.laid (t':=s.toks) (o:=zld X.s₀.heap.objs.size s.heap.objs.size l ys.length) (λb ob e=>Heap.get?_push_of_some _ e) (Vaa _) ?_,rfl,q _ (I.hok.fresh (Vaa _))⟩
 exact⟨⟨⟨_,Heap.get?_push_size _ rfl,rfl,rfl⟩,I.sz⟩,⟨_,Heap.get?_push_size _ rfl⟩,λh1 h2 x k=>⟨x.1.at λo e=>k o e,x.2⟩⟩
theorem zxf (hc:X.calm=true):MtR X "str.join" (λx xs H Q=>∃sep p l ys zs,x=.str sep∧xs=[.ref p]∧H p=some (zld X.s₀.heap.objs.size p l ys.length)∧H l=some (.lst ys)∧(∀us,zal ys us→StrsAre us zs)∧sep.length=0∧(∀z∈zs,z.length≤200)∧zs.length≤5∧Q (.str (zaF zs.reverse)) (zdM H p)):=by
 intro pins s σ H x xs v us Q I rx rv h
 obtain⟨sep,p,l,ys,zs,rfl,rfl,hp,hl,st,h0,hB,hn,q⟩:=h
 obtain⟨t,rfl⟩:=rx
 obtain⟨u,rfl,ru⟩:=zb4 rv
 cases ru
 obtain⟨z,its,n,rv,hz,e⟩:=I.lstM hl
 have sr:=st its rv
 have il:s.heap.IsList l its.toArray:=⟨_,e,rfl,n,rfl⟩
 have ok:za7 X.prog X.w H s.heap p (zld X.s₀.heap.objs.size p l ys.length):=I.hok p _ hp
 obtain⟨⟨ir,above⟩,⟨op,ep⟩,_⟩:=ok
 have ne:l≠p:=zh2 hl hp (by intro z; cases z)
 have ln:its.length=ys.length:=rv.length.symm
 have W:=(Walks.listRev (prog:=X.prog) (w:=X.w) (A:=X.A.in1.in1) (I.ok.hd hc) p l ne its.toArray).toS
 have s0:(0:Nat)≤its.toArray.size∧s.heap.IsRevIter p l ((its.toArray.size:Int)-1-((0:Nat):Int))∧s.heap.IsList l its.toArray:=⟨Vaz _,by
  have e2:((its.toArray.size:Nat):Int)-1-((0:Nat):Int)=((ys.length:Nat):Int)-1:=by rw[Vap,ln]; omega
  rw[e2]; exact ir,il⟩
 refine zvd W (λi s st=>st.2.1.typeIs) s0 (λb hb=>?_) (by simp) (λi v hv=>?_) (λs' ls hm hm2 hi=>?_) (by rw[Vap]; omega)
 ·have z:b=p∨b=l:=by simpa using hb
  rcases z with rfl | rfl
  ·exact Heap.lt_size ep
  ·exact Heap.lt_size e
 ·have hv':its[its.length-1-i]?=some v:=by simpa using hv
  obtain⟨y,u,rfl,_⟩:=sr.item _ _ hv'
  exact⟨y,u,rfl⟩
 ·have lz:zs.length=its.length:=sr.len_eq.symm
  have ll:ls.length=its.length:=by
   have z:=hi.1
   simpa [strValues] using z
  have em:ls.map (·.1)=zs.reverse:=by
   refine List.ext_getElem? λj=>?_
   by_cases hj:j<ls.length
   ·have e1:=VaL hj
    have e2:(strValues ls).toArray[j]?=some (.str ls[j].1 ls[j].2):=by simp[strValues,hj]
    have e3:=hi.2 j _ e2
    have e4:its[its.length-1-j]?=some (.str ls[j].1 ls[j].2):=by simpa using e3
    obtain⟨y,u,ey,e5⟩:=sr.item _ _ e4
    cases ey
    rw[Vao,e1,List.getElem?_reverse (by omega),lz,e5]
    rfl
   ·rw[List.getElem?_eq_none (by simp; omega),List.getElem?_eq_none (by simp; omega)]
  rw[em]
  refine⟨?_,λt' k=>?_⟩
  ·have sum:∀(ws:List Str) (a:Nat),(∀z∈ws,z.length≤200)→ws.foldl (λn z=>n+z.length+sep.length) a≤a+200*ws.length:=λws=>by
    induction ws with
    | nil=>intro a _; simp
    | cons z ws ih=>
     intro a hw
     have h1:=hw z (by simp)
     have h2:=ih (a+z.length+sep.length) (λy hy=>hw y (by simp[hy]))
     simp only[Vaq,List.foldl_cons]
     omega
   have b:=sum zs.reverse 0 (λz hz=>hB z (by simpa using hz))
   unfold JoinOk Builtin.Str.tooLong
   rw[List.foldl_toArray,decide_eq_false (Nat.not_lt.mpr (Vat b (zb5 (by rw[List.length_reverse]; omega))))]
   rfl
  ·rw[zu2 sep h0]
   obtain⟨h',g',d',k',o'⟩:=s'
   obtain⟨m1,m2,m3,m4,m5⟩:=hm
   dsimp only at m2 m3 m4
   subst m2 m3 m4
   have np:∀b u,H b=some u→(∀φ,u≠HO.ext φ)→b≠p:=λb u e n z=>by
    subst z
    rw[hp] at e
    cases e
    exact n _ rfl
   have I1:Inv X pins σ (zdM H p) { s with heap:=s.heap,toks:=s.toks }:=I.un ⟨λb o e _ _ _=>e,λb o e _ _ _=>⟨o.slots,e⟩,λb o _ n _=>by
     unfold zdM
     split
     ·rfl
     ·exact n,λb o e _=>⟨o,e⟩,λb xs e=>by rw[zgT (np b _ e λφ=>by simp)]; exact e,λb o u e=>by rw[zgT (np b _ e λφ=>by simp)]; exact e,λb qs e=>⟨#[],by rw[zgT (np b _ e λφ=>by simp),e]; simp⟩⟩ (λb u e=>by
     unfold zdM at e
     split at e
     ·cases e
     ·rename_i hb
      exact(I.hok b u e).stay (λ_ _ _ q=>q) (λc e2=>by rw[zgT (np c _ e2 λφ=>by simp)]; exact e2) (λc xs e2=>by rw[zgT (np c _ e2 λφ=>by simp)]; exact e2))
   have pl:p≠X.env.locals:=λz=>by
    have:=I.free
    rw[← z,hp] at this
    cases this
   have I2:=I1.turned (it:=p) (h':=h') (t':=k) (λb o hb e=>m1 b o (by simpa using hb) e) zuR pl (.inr above) (λx c e z=>by
     have:=I.freeC x c e
     rw[z,hp] at this
     cases this) (λq hq z=>by
     have:=(I.pin q hq).2.1
     rw[z,hp] at this
     cases this)
   exact⟨.str (zaF zs.reverse),_,I2,⟨t',rfl⟩,q⟩
theorem zvB {H:Hp}{p:Addr}{o:HO}(h:H p=none):zdM (upd H p o) p=H:=by
 funext a
 unfold zdM
 split
 ·rename_i e
  rw[e,h]
 ·rename_i e
  exact za2 e
@[irreducible] def zi9 (to te:TDE):TDE:=λdl S Q=>to dl S λd S1=>match d with
 | .str sep=>te dl S1 λx S2=>match x with
  | .ref n=>match S2[n]? with
   | some (.lst ds)=>∃zs,zcw ds=some zs∧sep.length=0∧(∀z∈zs,z.length≤200)∧zs.length≤5∧Q (.str (zaF zs.reverse)) S2
   | _=>False
  | _=>False
 | _=>False
theorem zst {to te:TDE}{dl:Ev}{S S1 S2:Sto}{Q:DK}{sep:Str}{n:Nat}{ds:List D}{zs:List Str}(hto:∀K:DK,K (.str sep) S1→to dl S K)(hte:∀K:DK,K (.ref n) S2→te dl S1 K)(h:S2[n]?=some (.lst ds))(hz:zcw ds=some zs)(h0:sep.length=0)(hB:∀z∈zs,z.length≤200)(hn:zs.length≤5)(hq:Q (.str (zaF zs.reverse)) S2):zi9 to te dl S Q:=by
 unfold zi9
 refine hto _ (hte _ ?_)
 simp only[h]
 exact⟨zs,hz,h0,hB,hn,hq⟩
theorem zuk {o e:Expr}{to te:TDE}{apos cpos p pos2:Pos}(hc:X.calm=true)(hg:Gl X "reversed")(hm:X.mg "reversed"=none)(hv:bootBuiltins "reversed"=some (.type "reversed"))(ho:PD X Z o to)(he:PD X Z e te)
  (hbase:attributeBase o "join" X.env (eval o X.env)=eval o X.env:=by rfl)
  (hfew:((backTo cpos (starEach [.Call (.Name "reversed" p) [e] [] pos2] X.env)).all (λx=>!x.1)&&(backToKw cpos (keywordEach [] X.env)).all (λx=>x.1.isSome)
  &&decide (([.Call (.Name "reversed" p) [e] [] pos2]:List Expr).length+([]:List Keyword).length+(if ([]:List Keyword).isEmpty then 0 else 1)<30))=true:=by rfl)
  (hline:(apos.endLine==cpos.line)=true:=by rfl)(hs:starEach [.Call (.Name "reversed" p) [e] [] pos2] X.env=(false,eval (.Call (.Name "reversed" p) [e] [] pos2) X.env)::starEach [] X.env:=by rfl)(hplain:(backTo cpos (starEach [] X.env)).any (·.1)=false:=by rfl)
  (hs2:starEach [e] X.env=(false,eval e X.env)::starEach [] X.env:=by rfl)(hpl2:(backTo pos2 (starEach [] X.env)).any (·.1)=false:=by rfl):
  PD X Z (.Call (.Attribute o "join" apos) [.Call (.Name "reversed" p) [e] [] pos2] [] cpos) (zi9 to te):=
 zaJ (zem (T:="str") PySem.F.plainAttrs_str PySem.F.slot_str_join PySem.F.type_str_join (zxf hc) ho (zdX (zpD zri hg hm hv (zdX he zfm hs2) (by decide) (by decide) hs2 hpl2) zfm hs) hbase hfew hline hs hplain) λσ H Qv ⟨r,dl,S,Q,rs,rel,h,ret⟩=>by
  unfold zi9 at h
  refine⟨r,dl,S,_,rs,rel,h,λv H1 r1 d S1 e1 rel1 p1 q1=>?_⟩
  cases p1 with
  | str sep=>
   refine⟨rfl,r1,dl,S1,_,rs.ext e1,rel1,q1,λv2 H2 r2 x S2 e2 rel2 p2 q2=>?_⟩
   cases p2 with
   | @ref n a hn=>
    dsimp only at q2
    split at q2
    ·rename_i ds eS
     obtain⟨zs,z1,z2,z3,z4,q⟩:=q2
     obtain⟨ys,eH,pr⟩:=rel2.b.ob n a _ hn eS
     refine⟨a,ys,rfl,eH,λb hb=>?_⟩
     have nb:a≠b:=zdy eH hb
     refine⟨sep,b,a,ys,zs,rfl,rfl,zbR,by rw[za2 nb]; exact eH,λus ru=>zmo z1 pr ru,z2,z3,z4,?_⟩
     rw[zvB hb]
     exact ret _ H2 r2 _ S2 (e1.trans e2) rel2 (.str _) q
    ·exact q2.elim
   | _=>exact(show False from q2).elim
  | _=>exact(show False from q1).elim
end
structure CompScG (sc around:Scope)(own caps:List Str):Prop where
 kind:sc.kind=.function
 nocell:∀y∈sc.names,y.2≠.cell
 own:∀y∈sc.names,y.2=.local→sc.names.lookup y.1=some .local
 cap:∀y∈caps,sc.names.lookup y=some .free
 out:∀y∈sc.names,y.2=.free→around.names.lookup y.1=some .cell
section
variable {X:Cx}{pins:List (Addr×Obj)}{σ:St}{H:Hp}{s:Shared}
end
section
variable {X:Cx}{elt iter:Expr}{elts:List Expr}{kk:Nat}{tp:Pos}{pos:Pos}{sc:Scope}{own N:List Str}{caps:List Nat}{wi:TI}{gt:TG}{te:TE}
end
section
variable {X:Cx}{Z:Zx}{elt:Expr}{pos:Pos}{sc ar:Scope}{N:List Str}{caps:List Nat}
end
section
variable {X:Cx}{Z:Zx}{pos:Pos}
end
section
variable {X:Cx}{Z:Zx}
end
section
variable {X:Cx}{Z:Zx}{pos:Pos}
theorem zjn:∀ {us:List Value} {ms:List Int},IntsAre us ms→zal (ms.map V.int) us
 | _,_,.nil=>.nil
 | _,_,.cons n t h=>.cons ⟨t,rfl⟩ (zjn h)
end
section
variable {X:Cx}{Z:Zx}{elt:Expr}{pos:Pos}{sc ar:Scope}{N:List Str}{caps:List Nat}
end
section
variable {X:Cx}{Z:Zx}{pos:Pos}
end
section
variable {n:Nat}{I:Addr}{fp wr:List Addr}{P:Nat→Value→Prop}{St:Nat→Shared→Prop}{prog:Program}{w:World}{A:Around}{s:Shared}{E:Value→Shared→Prop}{G:Array GenState→Array GenState→Prop}
end
section
variable {X:Cx}{Z:Zx}{pos:Pos}
end
section
variable {X:Cx}{Z:Zx}{pos:Pos}
theorem Rps.ins {r:List Addr}{H:Hp}{y:D}{w:V}(hy:Rp r H y w):∀ {ds:List D} {xs:List V} (k:Nat),Rps r H ds xs→Rps r H (ds.take k++y::ds.drop k) (xs.take k++w::xs.drop k)
 | [],xs,k,h=>by
  have z:=h.unnil
  subst z
  simpa using Rps.cons hy h
 | d::ds,xs,0,h=>Rps.cons hy h
 | d::ds,xs,k+1,h=>by
  obtain⟨v,vs,rfl,p1,p2⟩:=h.uncons
  exact Rps.cons p1 (Rps.ins hy k p2)
end
section
variable {X:Cx}{Z:Zx}{elt iter:Expr}{elts:List Expr}{kk:Nat}{tp pos:Pos}{sc ar:Scope}{own N:List Str}{caps:List Nat}{wi:TI}{gt:TG}
end
section
variable {X:Cx}{Z:Zx}
end
section
variable {X:Cx}{Z:Zx}{pos:Pos}
def zuf (i:Nat)(ta:TDA)(tb:TDS):TDS:=λE dl S=>ta dl S λds S1=>match ds with
 | [.int lo,.int hi]=>(-(2^62)≤lo∧lo<2^62∧-(2^62)≤hi∧hi<2^62)∧∃W:Nat→Ev→Sto→Prop,W 0 dl S1∧∀k dl S,W k dl S→
   if k<(hi-lo).toNat then tb { nx:=λdl' S'=>W (k+1) dl' S',rt:=E.rt,bk:=E.nx,ct:=λdl' S'=>W (k+1) dl' S' } (dl.set i (some (.int (lo+k)))) S else E.nx dl S
 | _=>False
theorem zor {i:Nat}{x:Str}{pos2 pos' p:Pos}{a b:Expr}{body:List Stmt}{ta:TDA}{tb:TDS}(hp:PassesOwn (model X.prog X.w) X.A X.env X.xe)(hc:X.calm=true)(hN:X.N.Nodup)(hi:X.N[i]?=some x)(hx:Loc X.env.scope x)
  (hg:Gl X "range")(hm:X.mg "range"=none)(ha:PDA X Z [a,b] ta)(hb:zcz X Z body tb)(hf:X.fn x=true∨X.env.scope.names.lookup x=some .local:=by first | exact .inl rfl | exact .inr rfl | assumption)
  (hs:∀y,foldedSetIterable (.Call (.Name "range" p) [a,b] [] pos) X.env y=pure y:=by intro _; rfl)(hst:starEach [a,b] X.env=[(false,eval a X.env),(false,eval b X.env)]:=by rfl)(hst2:starEach [b] X.env=[(false,eval b X.env)]:=by rfl):
  PDS X Z (.For (.Name x pos') (.Call (.Name "range" p) [a,b] [] pos) body [] pos2) (zuf i ta tb):=
 zcy (zlE hp hc (zv4 hg hm ha hst hst2) (zlc hN hi hx hf) hb hs) λF σ H ⟨r,dl,S,E,rs,rel,h,ret⟩=>by
  refine⟨r,dl,S,_,rs,rel,h,λvs H1 r1 ds S1 x1 rel1 p1 q1=>?_⟩
  split at q1
  ·rename_i lo hi
   obtain⟨v,vs',rfl,p2,p3⟩:=p1.uncons
   obtain⟨v2,vs2,rfl,p4,p5⟩:=p3.uncons
   have z:=p5.unnil
   subst z
   cases p2
   cases p4
   obtain⟨bds,W,w0,turn⟩:=q1
   refine⟨lo,hi,rfl,bds,λk m σ' H'=>m=(hi-lo).toNat-k∧∃r' dl' S',Ext r1 r' H1 H'∧Rs r' H' dl' σ'∧Rel X.K Z r' S' H'∧W k dl' S',⟨(hi-lo).toNat,by simp,r1,dl,S1,Ext.refl,rs.ext x1,rel1,w0⟩,?_⟩
   rintro k m σ2 H2 ⟨em,r2,dl2,S2,x2,rs2,rel2,w2⟩
   have q:=turn k dl2 S2 w2
   split at q
   ·rename_i hk
    have go:∀σ' H' r' dl' S',Ext r2 r' H2 H'→Rs r' H' dl' σ'→Rel X.K Z r' S' H'→W (k+1) dl' S'→∃r' dl' S',Ext r1 r' H1 H'∧Rs r' H' dl' σ'∧Rel X.K Z r' S' H'∧W (k+1) dl' S':=
     λσ' H' r' dl' S' x rs' rel' w'=>⟨r',dl',S',x2.trans x,rs',rel',w'⟩
    have pk:Rp r2 H2 (.int (lo+(k:Int))) (.int (lo+(k:Int))):=.int _
    refine .inr ⟨hk,λσ' H'=>∃r' dl' S',Ext r1 r' H1 H'∧Rs r' H' dl' σ'∧Rel X.K Z r' S' H'∧W (k+1) dl' S',λσ' H' z=>⟨(hi-lo).toNat-(k+1),by omega,rfl,z⟩,λv' H' y'=>?_⟩
    obtain⟨eH,y'⟩:=y'
    subst eH
    subst y'
    exact⟨r2,_,S2,_,rs2.set i pk,rel2,q,go,λσ' H' r' dl' S' x rs' rel' z=>ret.nx σ' H' r' dl' S' (x1.trans (x2.trans x)) rs' rel' z,go,ret.rt.ext (x1.trans x2)⟩
   ·rename_i hk
    exact .inl ⟨by show (hi-lo).toNat≤k; omega,ret.nx σ2 H2 r2 dl2 S2 (x1.trans x2) rs2 rel2 q⟩
  ·exact q1.elim
end
end L3
namespace L2
open PySem PySem.Spec PyProof.Rows
section
variable {X:Cx}{tg:Expr}
end
end L2
namespace L3
open PySem PySem.Spec PyProof.Rows L2
section
variable {X:Cx}{Z:Zx}{pos:Pos}
end
end L3
set_option Elab.async false
set_option linter.all false
set_option maxRecDepth 100000
set_option maxHeartbeats 40000000
namespace Mine
open PySem PySem.Spec PyProof.Rows L2 L3
theorem fsc {N P:List Str}{sc:Scope}(a:sc.kind=.function:=by rfl)(b:sc.isCoroutine=false:=by rfl)(c:sc.isGenerator=false:=by rfl)(d:N.Nodup:=by decide +kernel)(e:N.take P.length=P:=by rfl)(f:∀x∈P,sc.names.lookup x=some .local∨sc.names.lookup x=some .cell:=by decide +kernel)(g:∀y∈sc.names,y.2≠.free:=by decide +kernel):zaB N P sc:=⟨a,b,c,d,e,f,g⟩
theorem csc {sc ar:Scope}{x:Str}{caps:List Str}(a:sc.kind=.function:=by rfl)(b:∀y∈sc.names,y.2≠.cell:=by decide +kernel)(c:∀y∈sc.names,y.2=.local→sc.names.lookup y.1=some .local:=by decide +kernel)(d:sc.names.lookup x=some .local:=by rfl)(e:∀y∈caps,sc.names.lookup y=some .free:=by decide +kernel)(f:∀y∈sc.names,y.2=.free→ar.names.lookup y.1=some .cell:=by decide +kernel):zgX sc ar x caps:=⟨a,b,c,d,e,f⟩
abbrev Ln (sp:Sd)(n:Nat):Prop:=∀ds S Q ex,sp ds S Q ex→ds.length=n
theorem zaR {X:Cx}{x:Str}{p pos:Pos}{e:Expr}{es:List Expr}{t:TDA}{k j:Nat}{ps:List Str}{sd:Sd}{ex:Ev→Addr→Sto→Prop}(G:Fk X.prog X.w X.K X.mg X.base k x ps sd)(hr:zaC j X.A)(ha:PDA X ⟨ex,Z0.w⟩ (e::es) t)(hk:k≤j:=by decide)(hg:Gl X x:=by rfl)
  (hdb:(x==("__debug__":Str))=false:=by decide)(he:starEach (e::es) X.env=(false,eval e X.env)::starEach es X.env:=by rfl)(hpl:(backTo pos (starEach es X.env)).any (·.1)=false:=by rfl):PD X ⟨ex,Z0.w⟩ (.Call (.Name x p) (e::es) [] pos) (zgk ex sd t):=za6 G (hr.mono hk) zaG hg ha hdb he hpl
abbrev zjU:Stmt:=zaI (top 34) 0
abbrev zf3:List Str:=["self"]
theorem zvk:zaB ["self"] zf3 (zau zjU):=fsc
abbrev zjH:Stmt:=zaI (top 44) 0
abbrev zhB:List Str:=["self"]
theorem zuW:zaB ["self"] zhB (zau zjH):=fsc
abbrev zki:Stmt:=top 39
abbrev zg9:List Str:=["line"]
theorem znR:zaB ["line","words"] zg9 (zau zki):=fsc
abbrev ziQ:Stmt:=top 41
abbrev zgB:List Str:=["words"]
theorem znd:zaB ["words","place","word"] zgB (zau ziQ):=fsc
abbrev zjj:Stmt:=zaI (top 28) 0
abbrev zgJ:List Str:=["self","words"]
theorem zqZ:zaB ["self","words"] zgJ (zau zjj):=fsc
abbrev zit:Stmt:=zaI (top 28) 1
abbrev zey:List Str:=["self"]
theorem ztA:zaB ["self"] zey (zau zit):=fsc
abbrev zkt:Stmt:=zaI (top 28) 3
abbrev zdo:List Str:=["self"]
theorem znF:zaB ["self","word"] zdo (zau zkt):=fsc
abbrev zhn:Stmt:=top 18
abbrev ze9:List Str:=["word","signs","most"]
theorem zuD:zaB ["word","signs","most"] ze9 (zau zhn):=fsc
abbrev zkx:Stmt:=top 22
abbrev zdA:List Str:=["word"]
theorem zvw:zaB ["word"] zdA (zau zkx):=fsc
abbrev zkl:Stmt:=top 9
abbrev zhg:List Str:=["one","other"]
theorem zi1:zaB ["one","other","rest"] zhg (zau zkl):=fsc
abbrev zkM:Stmt:=top 8
abbrev zgj:List Str:=["value"]
theorem zr8:zaB ["value"] zgj (zau zkM):=fsc
abbrev zk7:Stmt:=top 10
abbrev zh4:List Str:=["top","bottom"]
theorem zmh:zaB ["top","bottom","divisor"] zh4 (zau zk7):=fsc
abbrev zjs:Stmt:=top 19
abbrev zhG:List Str:=["number"]
theorem ziv:zaB ["number","piece","texts"] zhG (zau zjs):=fsc
abbrev ziW:Stmt:=top 20
abbrev zhX:List Str:=["a"]
theorem zjQ:zaB ["a","text"] zhX (zau ziW):=fsc
abbrev zkD:Stmt:=top 21
abbrev zeI:List Str:=["word"]
theorem ze7:zaB ["word","parts","top","bottom","figures","number"] zeI (zau zkD):=fsc
abbrev zgE:Stmt:=zaI (top 28) 8
abbrev zfk:List Str:=["self"]
theorem zo0:zaB ["self","tree"] zfk (zau zgE):=fsc
abbrev zha:Stmt:=zaI (top 28) 7
abbrev zfp:List Str:=["self"]
theorem zlJ:zaB ["self","word","number"] zfp (zau zha):=fsc
abbrev zkW:Stmt:=zaI (top 28) 2
abbrev zdW:List Str:=["self","choices"]
theorem zsR:zaB ["self","choices"] zdW (zau zkW):=fsc
abbrev zim:Stmt:=zaI (top 28) 6
abbrev zf9:List Str:=["self"]
theorem zpO:zaB ["self","tree"] zf9 (zau zim):=fsc
abbrev zh0:Stmt:=zaI (top 28) 5
abbrev zfh:List Str:=["self"]
theorem zmS:zaB ["self","tree"] zfh (zau zh0):=fsc
abbrev zgh:Stmt:=zaI (top 28) 4
abbrev zea:List Str:=["self"]
theorem ziT:zaB ["self","tree","kind"] zea (zau zgh):=fsc
abbrev zi8:Stmt:=top 29
abbrev zfY:List Str:=["words"]
theorem zmf:zaB ["words","reader","tree"] zfY (zau zi8):=fsc
abbrev zku:Stmt:=zaI (top 44) 6
abbrev zf8:List Str:=["self","words"]
theorem zpu:zaB ["self","words","word"] zf8 (zau zku):=fsc
abbrev zkp:Stmt:=zaI (top 34) 2
abbrev ze6:List Str:=["self"]
theorem zuq:zaB ["self"] ze6 (zau zkp):=fsc
abbrev zk1:Stmt:=top 33
abbrev zgv:List Str:=["node","weights"]
theorem zre:zaB ["node","weights"] zgv (zau zk1):=fsc
abbrev zkk:Stmt:=zaI (top 34) 1
abbrev zdZ:List Str:=["self","node"]
theorem zma:zaB ["self","node","own_weight","number"] zdZ (zau zkk):=fsc
abbrev ziF:Stmt:=top 43
abbrev zfd:List Str:=["net"]
theorem zmM:zaB ["net","fresh","node"] zfd (zau ziF):=fsc
abbrev zhU:Stmt:=top 42
abbrev zdG:List Str:=["net","tree","meanings"]
theorem zmX:zaB ["net","tree","meanings","first","second"] zdG (zau zhU):=fsc
abbrev zj6:Stmt:=zaI (top 44) 4
abbrev zhk:List Str:=["self","words"]
theorem zfj:zaB ["self","words","place","left","right","grown","at"] zhk (zau zj6):=fsc
abbrev zjP:Stmt:=top 11
abbrev zhP:List Str:=["a","b"]
theorem zsF:zaB ["a","b"] zhP (zau zjP):=fsc
abbrev zjW:Stmt:=top 40
abbrev zhm:List Str:=["words"]
theorem zmI:zaB ["words","low","high"] zhm (zau zjW):=fsc
abbrev ziC:Stmt:=zaI (top 44) 5
abbrev zfZ:List Str:=["self","name"]
theorem zso:zaB ["self","name"] zfZ (zau ziC):=fsc
abbrev zjp:Stmt:=zaI (top 44) 2
abbrev zgt:List Str:=["self","words"]
theorem zmt:zaB ["self","words","own_ends","number"] zgt (zau zjp):=fsc
abbrev zk6:Stmt:=zaI (top 44) 3
abbrev zhq:List Str:=["self","words"]
theorem zlI:zaB ["self","words","tree","grown"] zhq (zau zk6):=fsc
abbrev zll:Stmt:=zaI (top 44) 1
abbrev zhu:List Str:=["self","line"]
theorem znK:zaB ["self","line","words"] zhu (zau zll):=fsc
abbrev ziJ:Stmt:=top 49
abbrev zhL:List Str:=["_law_number_here","_law_names"]
theorem znS:zaB ["_law_number_here","_law_names","_law_bottom"] zhL (zau ziJ):=fsc
abbrev zlm:Stmt:=top 48
abbrev zgU:List Str:=["_law_cell","_law_k"]
theorem zqu:zaB ["_law_cell","_law_k"] zgU (zau zlm):=fsc
abbrev zj2:Stmt:=top 50
abbrev zgG:List Str:=["_law_cell","_law_names"]
theorem zcH:zaB ["_law_cell","_law_names","_law_tree_here","_law_k","_law_number_here","_law_other"] zgG (zau zj2):=fsc
abbrev zg6:Stmt:=top 55
abbrev zd4:List Str:=["_law_tree_here"]
theorem zud:zaB ["_law_tree_here"] zd4 (zau zg6):=fsc
abbrev zj1:Stmt:=top 56
abbrev zhF:List Str:=["_law_cell"]
theorem zl4:zaB ["_law_cell","_law_tree_here"] zhF (zau zj1):=fsc
abbrev zjx:Stmt:=top 46
abbrev zic:List Str:=["_law_script","_law_k"]
theorem zuB:zaB ["_law_script","_law_k"] zic (zau zjx):=fsc
abbrev zi7:Stmt:=zaI (top 44) 9
abbrev zhh:List Str:=["self"]
theorem zqW:zaB ["self"] zhh (zau zi7):=fsc
abbrev zkb:Stmt:=zaI (top 44) 10
abbrev zgY:List Str:=["self"]
theorem zvt:zaB ["self"] zgY (zau zkb):=fsc
abbrev zk5:Stmt:=top 47
abbrev zhO:List Str:=["_law_found"]
theorem zwR:zaB ["_law_found"] zhO (zau zk5):=fsc
abbrev zjk:Stmt:=top 57
abbrev zhY:List Str:=["_law_nodes"]
theorem zfU:zaB ["_law_nodes","_law_at","_law_node","_law_parts","_law_part"] zhY (zau zjk):=fsc
abbrev zjm:Stmt:=top 52
abbrev zfc:List Str:=["_law_tree_here"]
theorem zrI:zaB ["_law_tree_here"] zfc (zau zjm):=fsc
abbrev zkf:Stmt:=top 51
abbrev zfJ:List Str:=["_law_top","_law_bottom"]
theorem zrb:zaB ["_law_top","_law_bottom"] zfJ (zau zkf):=fsc
abbrev zh9:Stmt:=top 53
abbrev zdk:List Str:=["_law_tree_here","_law_least"]
theorem zgl:zaB ["_law_tree_here","_law_least","_law_words_here"] zdk (zau zh9):=fsc
abbrev zgK:Stmt:=top 54
abbrev zd6:List Str:=["_law_tree_here","_law_way"]
theorem zkn:zaB ["_law_tree_here","_law_way","_law_sign"] zd6 (zau zgK):=fsc
abbrev zeT:Stmt:=top 58
abbrev ziH:List Str:=["_law_script"]
theorem zcT:zaB ["_law_script","_law_task","_law_k","_law_tree_here","_law_way","_law_lines","_law_before","_law_sides","_law_rows","_law_nodes","_law_node"] ziH (zau zeT):=fsc
theorem kfo {K:PySem.W.Frag}{f c:Addr}{m:Value}{n q:Str}{st:Stmt}(l:K.lookup f=some (fo n q st m c)):PySem.W.keepIn K (.ref f)=true:=by
 unfold PySem.W.keepIn
 simp only[l]
theorem ifo {K:PySem.W.Frag}{f c:Addr}{m:Value}{n q:Str}{st:Stmt}(l:K.lookup f=some (fo n q st m c)):PySem.W.isFn K (.ref f)=true:=by
 unfold PySem.W.isFn PySem.W.typeIn
 simp only[l]
 rfl
theorem ln1 {P:List Value→Prop}(h:∀a,P [a]):∀us:List Value,us.length=1→P us
 | [a],_=>h a
theorem ln2 {P:List Value→Prop}(h:∀a b,P [a,b]):∀us:List Value,us.length=2→P us
 | [a,b],_=>h a b
theorem ln3 {P:List Value→Prop}(h:∀a b c,P [a,b,c]):∀us:List Value,us.length=3→P us
 | [a,b,c],_=>h a b c
abbrev Bn (n q:Str)(st:Stmt)(ps:List Str):Prop:=∀(kV doc pm:Value) (an:Option Addr) (cdv ct:Value) (us:List Value),us.length=ps.length→bindArgs (PySem.W.fnOf n q (zeZ st) (zcW st) (zau st) .none kV doc pm an cdv ct) ⟨us,[]⟩=pure (ps.zip us)
def dfo {K:PySem.W.Frag}{mg:Str→Option Value}{h:Heap}(X:K.In h)(G:h.Ns mainGlobals mg){n:Str}{st:Stmt}{f c:Addr}{m:Value}{ps:List Str}(a:PySem.W.nsIn K mainGlobals n=some (some (.ref f)))(l:K.lookup f=some (fo n n st m c))(e:PySem.W.codeIn K (.ref c) n=true)(b:Bn n n st ps):Df K mg n st ps:=⟨_,_,zkr (st:=st) l e (kfo l),PySem.W.mg_of X G a,(zkr (st:=st) l e (kfo l)).binds b⟩
def dmo {K:PySem.W.Frag}{C:Addr}{n q:Str}{st:Stmt}{f c:Addr}{m:Value}{ps:List Str}(a:PySem.W.findIn K (.ref C) n=some (some (.ref f)))(l:K.lookup f=some (fo n q st m c))(e:PySem.W.codeIn K (.ref c) q=true)(b:Bn n q st ps):Dm K C n q st ps:=⟨_,_,zkr (st:=st) l e (kfo l),⟨a,ifo l,kfo l⟩,(zkr (st:=st) l e (kfo l)).binds b⟩
abbrev nsA (K:PySem.W.Frag)(n:Str)(f:Addr):Prop:=PySem.W.nsIn K mainGlobals n=some (some (.ref f))
abbrev fdA (K:PySem.W.Frag)(C:Addr)(n:Str)(f:Addr):Prop:=PySem.W.findIn K (.ref C) n=some (some (.ref f))
abbrev lkA (K:PySem.W.Frag)(f:Addr)(n q:Str)(st:Stmt)(m:Value)(c:Addr):Prop:=K.lookup f=some (fo n q st m c)
abbrev cdA (K:PySem.W.Frag)(c:Addr)(q:Str):Prop:=PySem.W.codeIn K (.ref c) q=true
theorem zaY {C:Addr}{f:Str}{to:TDE}{dl:Ev}{S S1:Sto}{Q:DK}{n:Nat}{fs:List (Str×D)}{v:D}(hto:∀K:DK,K (.ref n) S1→to dl S K)(h:S1[n]?=some (.ins C fs))(hf:fs.lookup f=some v)(hq:Q v S1):zhx C f to dl S Q:=by
 unfold zhx
 refine hto _ ?_
 simp only[zb2,h,if_pos,hf]
 exact hq
theorem zcL {C:Addr}{f:Str}{to te:TDE}{dl:Ev}{S S1 S2:Sto}{E:zbN}{n:Nat}{fs:List (Str×D)}{v:D}(hte:∀K:DK,K v S1→te dl S K)(hto:∀K:DK,K (.ref n) S2→to dl S1 K)(h:S2[n]?=some (.ins C fs))(hl:fs.length<1000)(hq:E.nx dl (S2.set n (.ins C (zaP f v fs)))):zfX C f to te E dl S:=by
 unfold zfX
 refine hte _ (hto _ ?_)
 simp only[zb2,h,if_pos]
 exact⟨hl,hq⟩
theorem zaE {C:Addr}{m:Str}{ex:Ev→Addr→Sto→Prop}{sd:Sd}{to:TDE}{t:TDA}{dl:Ev}{S S1:Sto}{Q:DK}{n:Nat}{fs:List (Str×D)}(hto:∀K:DK,K (.ref n) S1→to dl S K)(h:S1[n]?=some (.ins C fs))(hf:fs.lookup m=none)(hq:t dl S1 λds S2=>sd (.ref n::ds) S2 Q (ex dl)):zfA C m ex sd to t dl S Q:=by
 unfold zfA
 refine hto _ ?_
 simp only[zb2,h,if_pos]
 exact⟨hf,hq⟩
theorem zuJ {te:TDE}{dl:Ev}{S:Sto}{Q:DK}{n:Nat}{xs:List D}(ht:∀K:DK,K (.ref n) S→te dl S K)(h:S[n]?=some (.lst xs))(hq:Q (.bl true) S):zlr "list" te dl S Q:=by
 unfold zlr
 refine ht _ ?_
 simp only[h]
 exact hq
theorem zdE {n:Nat}{S:Sto}{Q:DK}{xs:List D}(h:S[n]?=some (.lst xs))(hq:Q (.int (xs.length:Nat)) S):irr zeB [.ref n] S Q:=by
 rw[zew]
 unfold zeB
 simp only[zbr h rfl]
 exact hq
theorem zgA {S:Sto}{n a:Nat}{o u:Ob}(h:S[n]?=some o)(hn:a≠n):(S.set a u)[n]?=some o:=by rw[VaE hn]; exact h
theorem zc2 {S:Sto}{n:Nat}{o u:Ob}(h:S[n]?=some o):(S.set n u)[n]?=some u:=by
 have hk:=(Vaf.mp h).1
 simp[hk]
theorem zaw {S:Sto}{n:Nat}{o:Ob}{T:Sto}(h:S[n]?=some o):(S++T)[n]?=some o:=by
 have hk:=(Vaf.mp h).1
 rw[Van hk]
 exact h
theorem zec (T R:Sto)(u:Ob):(T++u::R)[T.length]?=some u:=by simp
theorem zd5 (T R:Sto)(u v:Ob):(T++u::R).set T.length v=T++v::R:=by simp
theorem zin {dl:Ev}{S:Sto}{Q:DK}{T:Sto}{m:Nat}(e:T=S++[.lst []])(em:m=S.length)(h:Q (.ref m) T):zj9 zbY dl S Q:=by
 subst e em
 exact h
def zpq (S T:Sto):Prop:=∀(x:Nat) (o:Ob),S[x]?=some o→T[x]?=some o
theorem zpq.app (S T:Sto):zpq S (S++T):=λ_ _ h=>zaw h
theorem zbf {S:Sto}{n:Nat}{o:Ob}(h:S[n]?=some o):n<S.length:=(Vaf.mp h).1
theorem zu5 {n m:Nat}{S:Sto}{Q:DK}{xs ys:List D}{b:Bool}(h1:S[n]?=some (.lst xs))(h2:S[m]?=some (.lst ys))(e:eqL (eqN 1) xs ys=some b)(hq:Q (.bl b) S):zbP (zeU 1) (.ref n) (.ref m) S Q:=by
 rw[zb8]
 unfold zeU
 simp only[zek,zbr h1 rfl,zbr h2 rfl,zax,e]
 exact hq
theorem zrO {i n:Nat}{tb:TDS}{E:zbN}{dl:Ev}{S:Sto}{o:Ob}(W:Nat→Ev→Sto→Prop)(h0:W 0 dl S)(hk:∀k dl' S',W k dl' S'→S'[n]?=some o)
  (ht:∀(k:Nat) (x:D) (dl':Ev) (S':Sto) (nx ct:Ev→Sto→Prop),(zax o)[k]?=some x→W k dl' S'→(∀dl2 S2,W (k+1) dl2 S2→nx dl2 S2)→tb { nx:=nx,rt:=E.rt,bk:=E.nx,ct:=ct } (dl'.set i (some x)) S')(he:∀dl' S',W (zax o).length dl' S'→E.nx dl' S')(hL:zcs o=some o:=by rfl):
  (lAt S n).isSome=true∧∃W:Nat→Nat→Ev→Sto→Prop,(∃m,W 0 m dl S)∧∀k m dl S,W k m dl S→match lAt S n with
  | some o=>match (zax o)[k]? with
   | some x=>tb { nx:=λdl' S'=>∃m',m'<m∧W (k+1) m' dl' S',rt:=E.rt,bk:=E.nx,ct:=λdl' S'=>∃m',m'<m∧W (k+1) m' dl' S' } (dl.set i (some x)) S
   | none=>E.nx dl S
  | none=>False:=by
 refine⟨by rw[zbr (hk _ _ _ h0) hL]; rfl,λk m dl' S'=>m+k=(zax o).length∧W k dl' S',⟨(zax o).length,by omega,h0⟩,?_⟩
 rintro k m dl' S' ⟨hm,w⟩
 rw[zbr (hk _ _ _ w) hL]
 show (match (zax o)[k]? with
   | some x=>tb { nx:=λdl' S''=>∃m',m'<m∧(m'+(k+1)=(zax o).length∧W (k+1) dl' S''),rt:=E.rt,bk:=E.nx,ct:=λdl' S''=>∃m',m'<m∧(m'+(k+1)=(zax o).length∧W (k+1) dl' S'') } (dl'.set i (some x)) S'
   | none=>E.nx dl' S')
 split
 ·rename_i x hx
  have hk:k<(zax o).length:=(Vaf.mp hx).1
  exact ht k x dl' S' _ _ hx w λdl2 S2 w2=>⟨m-1,by omega,by omega,w2⟩
 ·rename_i hx
  have hk:k=(zax o).length:=by
   have:=List.getElem?_eq_none_iff.mp hx
   omega
  exact he dl' S' (hk ▸ w)
open PySem.W.KIN PySem.NumText
abbrev cs (x:Str):List Nat:=x.cps.toList
theorem zc3 {x y:Str}(h:cs x=cs y):x=y:=by
 cases x; cases y
 simp only[Str.mk.injEq]
 exact Array.toList_inj.mp h
theorem zeM (w:Str):w.length=(cs w).length:=by simp[Str.length]
theorem ziL (a b:Str):cs (a++b)=cs a++cs b:=by show (a++b).cps.toList=_; rw[Str.cps_append]; simp
def dec (m:Nat):List Nat:=(Nat.toDigits 10 m).map Char.toNat
theorem zi3 (m:Nat):AllDigits (dec m):=λc hc=>by
 obtain⟨x,hx,e⟩:=List.mem_map.mp hc
 have r:=digit_range (Nat.isDigit_of_mem_toDigits (by decide) (by decide) hx)
 rw[← e]
 exact r
theorem zhD (m:Nat):dec m≠[]:=λe=>by
 have l1:=toDigits_len_ge 10 m
 rw[List.map_eq_nil_iff.mp e] at l1
 exact absurd l1 (by decide)
theorem zfq (m:Nat):digitsVal (dec m)=m:=val_back m
theorem zom {a b:Nat}(h:dec a=dec b):a=b:=by rw[← zfq a,← zfq b,h]
theorem zgH {m:Nat}(h:10≤m):dec m=dec (m/10)++[48+m%10]:=by
 have hm:m%10<10:=Nat.mod_lt m (by decide)
 have two:Nat.toDigits 10 (m/10)++Nat.toDigits 10 (m%10)=Nat.toDigits 10 (10*(m/10)+m%10):=Nat.toDigits_append_toDigits (by decide) (by omega) hm
 rw[Nat.div_add_mod] at two
 unfold dec
 rw[← two,VaF,Nat.toDigits_of_lt_base hm]
 have e:∀d:Nat,d<10→(Nat.digitChar d).toNat=48+d:=by decide
 show _++[(Nat.digitChar (m%10)).toNat]=_
 rw[e _ hm]
theorem zio {m:Nat}(h:m<10):dec m=[48+m]:=by
 unfold dec
 rw[Nat.toDigits_of_lt_base h]
 have e:∀d:Nat,d<10→(Nat.digitChar d).toNat=48+d:=by decide
 show [(Nat.digitChar m).toNat]=_
 rw[e _ h]
theorem zp2 (m:Nat):∀r,dec m=48::r→m=0∧r=[]:=by
 refine Nat.strongRecOn m λm ih=>?_
 ·intro r e
  by_cases h:m<10
  ·rw[zio h] at e
   simp only[List.cons.injEq] at e
   exact⟨by omega,e.2.symm⟩
  ·rw[zgH (by omega)] at e
   cases d:dec (m/10) with
   | nil=>exact absurd d (zhD _)
   | cons c t=>
    rw[d] at e
    simp only[VaD,List.cons.injEq] at e
    have:=ih (m/10) (by omega) t (by rw[d,e.1])
    omega
theorem zeQ {m k:Nat}(hk:1≤k)(h:m<10^k):(dec m).length≤k:=by
 induction k generalizing m with
 | zero=>omega
 | succ k ih=>
  by_cases hm:m<10
  ·rw[zio hm]; simp
  ·rw[zgH (by omega)]
   by_cases k0:k=0
   ·subst k0
    simp at h
    omega
   ·have:=ih (m:=m/10) (by omega) (by rw[VaB] at h; omega)
    simp
    exact this
theorem zoz (l:List Nat):AllDigits l→digitsVal l<10^l.length:=by
 induction l using PyProof.Rows.snocInd with
 | nil=>intro _; decide
 | snoc l c ih=>
  intro h
  have h1:=ih (λd hd=>h d (VaA _ hd))
  have h2:=h c (by simp)
  rw[digitsVal_snoc,Vad,List.length_singleton,VaB]
  omega
def num (i:Int):List Nat:=if i<0 then 45::dec i.natAbs else dec i.natAbs
theorem zrz (i:Int):cs (Str.ofString (toString i))=num i:=by
 unfold num
 cases i with
 | ofNat m=>exact signs_num m
 | negSucc k=>
  rw[if_pos (Int.negSucc_lt_zero k)]
  show (Str.ofString (toString (Int.negSucc k))).cps.toList=_
  rw[signs_ofString]
  show (("-":String)++Nat.repr (k+1)).toList.map Char.toNat=_
  rw[String.toList_append,VaF,Nat.toList_repr]
  rfl
theorem zes {i:Int}(h:0≤i):num i=dec i.natAbs:=if_neg (by omega)
theorem zlG {i:Int}(h:i<0):num i=45::dec i.natAbs:=if_pos h
theorem zmW (i:Int):num i≠[]:=by
 unfold num
 split
 ·exact λe=>by cases e
 ·exact zhD _
theorem zfy {i:Int}{c:Nat}(h:c∈num i):c=45∨48≤c∧c≤57:=by
 unfold num at h
 split at h
 ·rcases Vab.mp h with e | e
  ·exact .inl e
  ·exact .inr (zi3 _ c e)
 ·exact .inr (zi3 _ c h)
theorem zdB {m:Nat}{c:Nat}{r:List Nat}(h:dec m=c::r):48≤c∧c≤57:=zi3 m c (by rw[h]; exact Vau ..)
theorem zep {a b:Int}(h:num a=num b):a=b:=by
 unfold num at h
 split at h <;> split at h
 ·have:=zom (List.cons.inj h).2
  omega
 ·have:=zdB h.symm
  omega
 ·have:=zdB h
  omega
 ·have:=zom h
  omega
def za5 (t b:Int):List Nat:=num t++(if b=1 then [] else 47::num b)
structure zbi (w:List Nat)(t b:Int):Prop where
 pos:1≤b
 low:Int.gcd t b=1
 top:t.natAbs<10^9
 bot:b<10^9
 eq:w=za5 t b
theorem zhW (i:Int):47 ∉ num i:=λh=>by
 have:=zfy h
 omega
theorem zp0:∀ {X A Y B:List Nat},47 ∉ X→47 ∉ A→X++47::Y=A++47::B→X=A∧Y=B
 | [],[],Y,B,_,_,e=>⟨rfl,(List.cons.inj e).2⟩
 | [],a::A,Y,B,_,h,e=>absurd (show 47∈a::A by rw[show a=47 from ((List.cons.inj e).1).symm]; exact Vau ..) h
 | x::X,[],Y,B,h,_,e=>absurd (show 47∈x::X by rw[show x=47 from (List.cons.inj e).1]; exact Vau ..) h
 | x::X,a::A,Y,B,h1,h2,e=>by
  obtain⟨e1,e2⟩:=List.cons.inj e
  obtain⟨r1,r2⟩:=zp0 (λm=>h1 (Vam _ m)) (λm=>h2 (Vam _ m)) e2
  exact⟨by rw[e1,r1],r2⟩
theorem zbi.split {A B:List Nat}{t b:Int}(h:zbi (A++47::B) t b)(hA:47 ∉ A):num t=A∧num b=B∧b≠1:=by
 have e:=h.eq
 unfold za5 at e
 split at e
 ·rw[Vav] at e
  exact absurd (show 47∈num t by rw[← e]; simp) (zhW t)
 ·rename_i hb
  obtain⟨r1,r2⟩:=zp0 hA (zhW t) e
  exact⟨r1.symm,r2.symm,hb⟩
theorem zbi.plain {w:List Nat}{t b:Int}(h:zbi w t b)(hw:47 ∉ w):num t=w∧b=1:=by
 have e:=h.eq
 unfold za5 at e
 split at e
 ·rename_i hb
  rw[Vav] at e
  exact⟨e.symm,hb⟩
 ·exact absurd (by rw[e]; simp) hw
theorem zbi.mem {w:List Nat}{t b:Int}(h:zbi w t b){c:Nat}(hc:c∈w):c=45∨c=47∨48≤c∧c≤57:=by
 rw[h.eq] at hc
 unfold za5 at hc
 rcases Vae.mp hc with e | e
 ·rcases zfy e with z | z
  ·exact .inl z
  ·exact .inr (.inr z)
 ·split at e
  ·cases e
  ·rcases Vab.mp e with z | z
   ·exact .inr (.inl z)
   ·rcases zfy z with z | z
    ·exact .inl z
    ·exact .inr (.inr z)
def Bad (w:List Nat):Prop:=∀t b:Int,¬ zbi w t b
theorem zcF {w:List Nat}{c:Nat}(hc:c∈w)(h:c≠45∧c≠47∧¬ (48≤c∧c≤57)):Bad w:=λt b n=>by
 have:=n.mem hc
 omega
theorem zsD {A B:List Nat}(hA:47 ∉ A)(h:∀b:Int,1<b→num b≠B):Bad (A++47::B):=λ_ b n=>by
 obtain⟨_,e,hb⟩:=n.split hA
 have:=n.pos
 exact h b (by omega) e
theorem zfC {w:List Nat}(hw:47 ∉ w)(h:∀t:Int,t.natAbs<10^9→num t≠w):Bad w:=λt _ n=>h t n.top (n.plain hw).1
theorem ztC (t:Int):num t≠[]:=zmW t
theorem zqm (t:Int):num t≠[45]:=λe=>by
 unfold num at e
 split at e
 ·exact zhD _ (List.cons.inj e).2
 ·have:=zdB e
  omega
theorem zuN {r:List Nat}(hr:r≠[])(t:Int):num t≠48::r:=λe=>by
 unfold num at e
 split at e
 ·have:=(List.cons.inj e).1
  omega
 ·exact hr (zp2 _ _ e).2
theorem zsc (r:List Nat)(t:Int):num t≠45::48::r:=λe=>by
 unfold num at e
 split at e
 ·rename_i h
  have:=(zp2 _ _ (List.cons.inj e).2).1
  omega
 ·have:=zdB e
  omega
theorem zrD (r:List Nat)(t:Int):num t≠45::45::r:=λe=>by
 unfold num at e
 split at e
 ·have:=zdB (List.cons.inj e).2
  omega
 ·have:=zdB e
  omega
theorem zoU {t0 b0 m:Int}(hm:2≤m)(hb:1≤b0):Bad (num (t0*m)++47::num (b0*m)):=λt b n=>by
 obtain⟨e1,e2,_⟩:=n.split (zhW _)
 have e1:=zep e1
 have e2:=zep e2
 subst e1 e2
 have d1:(m.natAbs:Int) ∣ t0*m:=Int.natAbs_dvd.mpr (Int.dvd_mul_left _ _)
 have d2:(m.natAbs:Int) ∣ b0*m:=Int.natAbs_dvd.mpr (Int.dvd_mul_left _ _)
 have g:=Int.dvd_gcd d1 d2
 rw[n.low] at g
 have:=Nat.le_of_dvd (by decide) g
 omega
def pad (k r:Nat):List Nat:=List.replicate (k-(dec r).length) 48++dec r
theorem zna {q:Nat}(hq:0<q):∀(k r:Nat),1≤k→r<10^k→dec (q*10^k+r)=dec q++pad k r
 | 0,_,h,_=>absurd h (by decide)
 | 1,r,_,hr=>by
  have hr':r<10:=by simpa using hr
  rw[zgH (by omega),show (q*10^1+r)/10=q by omega,show (q*10^1+r)%10=r by omega]
  unfold pad
  rw[zio hr']
  rfl
 | k+2,r,_,hr=>by
  have ih:=zna hq (k+1) (r/10) (by omega) (by rw[VaB] at hr; omega)
  have e1:(q*10^(k+2)+r)/10=q*10^(k+1)+r/10:=by rw[VaB,← Nat.mul_assoc]; omega
  have e2:(q*10^(k+2)+r)%10=r%10:=by rw[VaB,← Nat.mul_assoc]; omega
  have big:10≤q*10^(k+2)+r:=by
   have:1≤q*10^(k+1):=Nat.mul_pos hq (Nat.pow_pos (by decide))
   rw[VaB,← Nat.mul_assoc]
   omega
  rw[zgH big,e1,e2,ih,Vaw]
  congr 1
  unfold pad
  by_cases h:r<10
  ·rw[zio h,show r/10=0 by omega,show r%10=r by omega,zio (by decide)]
   show List.replicate (k+1-1) 48++[48+0]++[48+r]=List.replicate (k+2-1) 48++[48+r]
   congr 1
   rw[show k+2-1=(k+1-1)+1 by omega,List.replicate_succ']
  ·rw[zgH (show 10≤r by omega),Vaw,Vad,List.length_singleton]
   rw[show k+1+1-((dec (r/10)).length+1)=k+1-(dec (r/10)).length by omega]
theorem zjv:("/":Str)=⟨#[47]⟩:=by decide
theorem zpl:("-":Str)=⟨#[45]⟩:=by decide
theorem zuC {x:Str}(h:47 ∉ cs x):Txt.partition x "/"=(x,Str.empty,Str.empty):=by
 rw[zjv]
 unfold Txt.partition
 rcases StrLaws.occ_head x ⟨#[47]⟩ 1 (Vaa 1) with ⟨h0,_⟩ | ⟨i,r,h0,hi,hn⟩
 ·rw[h0]
 ·exact absurd (VaI ((StrLaws.subAt_one x 47 i).mp hi)) h
theorem zqs {x:Str}{A B:List Nat}(e:cs x=A++47::B)(hA:47 ∉ A):Txt.partition x "/"=((⟨A.toArray⟩:Str),("/":Str),(⟨B.toArray⟩:Str)):=by
 rw[zjv]
 unfold Txt.partition
 have at47:(cs x)[A.length]?=some 47:=by rw[e]; simp
 rcases StrLaws.occ_head x ⟨#[47]⟩ 1 (Vaa 1) with ⟨_,hn⟩ | ⟨i,r,h0,hi,hn⟩
 ·exact absurd ((StrLaws.subAt_one x 47 A.length).mpr at47) (hn _)
 ·rw[h0]
  have hi':=(StrLaws.subAt_one x 47 i).mp hi
  have ei:i=A.length:=by
   rcases Nat.lt_trichotomy i A.length with l | l | l
   ·have z:(cs x)[i]?=A[i]?:=by rw[e,Van l]
    rw[z] at hi'
    exact absurd (VaI hi') hA
   ·exact l
   ·exact absurd ((StrLaws.subAt_one x 47 A.length).mpr at47) (hn _ l)
  subst ei
  have lx:x.length=A.length+1+B.length:=by rw[zeM,e]; simp; omega
  have p1:Builtin.Str.strSub x 0 A.length=⟨A.toArray⟩:=zc3 (by
   show (Builtin.Str.strSub x 0 A.length).cps.toList=A
   rw[StrLaws.strSub_toList,show x.cps.toList=A++47::B from e]
   simp)
  have p2:Builtin.Str.strSub x (A.length+(⟨#[47]⟩:Str).length) x.length=⟨B.toArray⟩:=zc3 (by
   show (Builtin.Str.strSub x (A.length+1) x.length).cps.toList=B
   rw[StrLaws.strSub_toList,show x.cps.toList=A++47::B from e,lx]
   simp)
  show (Builtin.Str.strSub x 0 A.length,(⟨#[47]⟩:Str),Builtin.Str.strSub x (A.length+(⟨#[47]⟩:Str).length) x.length)=_
  rw[p1,p2]
theorem zw5 (x:Str):Txt.startswith x "-"=decide ((cs x)[0]?=some 45):=by
 rw[zpl]
 unfold Txt.startswith
 have z:=StrLaws.subAt_one x 45 0
 rw[VaO,Vay,decide_eq_true_eq,decide_eq_true_eq]
 exact z
abbrev mk (l:List Nat):Str:=⟨l.toArray⟩
theorem zbv (l:List Nat):cs (mk l)=l:=by simp
theorem zb1 (x:Str):mk (cs x)=x:=zc3 (by simp)
theorem zbL (l:List Nat):(mk l).length=l.length:=by rw[zeM,zbv]
theorem zhe (a b:List Nat):mk a++mk b=mk (a++b):=zc3 (by rw[ziL,zbv,zbv,zbv])
theorem zeK (i:Int):Str.ofString (toString i)=mk (num i):=zc3 (by rw[zrz,zbv])
theorem zwV {x:Str}{r:List Nat}(h:cs x=45::r):StrLaws.sliceText x (some 1) none=mk r:=by
 have l:x.cps.toList.length=r.length+1:=by rw[show x.cps.toList=45::r from h]; simp
 rw[StrLaws.sliceText_from (x:=x) (i:=1) ⟨by decide,by omega⟩]
 refine zc3 ?_
 rw[zbv]
 show (⟨_⟩:Str).cps.toList=r
 rw[show x.cps.toList=45::r from h]
 simp
theorem zgb {i:Int}{k:Nat}(hk:1≤k)(h:i.natAbs<10^k):(num i).length≤k+1:=by
 have:=zeQ hk h
 unfold num
 split
 ·simp; omega
 ·omega
theorem zrY {r:Nat}(h:(dec r).length≤64):Txt.zfill (mk (dec r)) 64=mk (pad 64 r):=by
 unfold Txt.zfill
 rw[zbL]
 split
 ·rename_i c
  have e:(dec r).length=64:=by omega
  unfold pad
  rw[e]
  rfl
 ·unfold zfilled
  cases d:dec r with
  | nil=>exact absurd d (zhD r)
  | cons c t=>
   have hc:=zdB d
   rw[show (mk (c::t)).cps[0]?=some c by simp]
   split
   ·rename_i z
    cases z
    omega
   ·rename_i z
    cases z
    omega
   ·refine zc3 ?_
    unfold pad Builtin.Str.padded
    rw[d]
    simp
theorem zs8 (zs:List Str):cs (zaF zs)=zs.flatMap cs:=by simp[zaF]
theorem zpe:∀ls:List (List Nat),zcw (ls.map λl=>D.str (mk l))=some (ls.map mk)
 | []=>rfl
 | l::ls=>by
  show (zcw (ls.map λl=>D.str (mk l))).map (mk l::·)=_
  rw[zpe ls]
  rfl
theorem zvs (ls:List (List Nat)):zaF (ls.map mk)=mk ls.flatten:=zc3 (by
 rw[zs8,zbv,List.flatMap_map]
 have e:∀ks:List (List Nat),(ks.flatMap λa=>cs (mk a))=ks.flatten:=λks=>by
  induction ks with
  | nil=>rfl
  | cons k ks ih=>rw[List.flatMap_cons,List.flatten_cons,ih,zbv]
 exact e ls)
theorem zgr {i:Int}{k:Nat}(h:i.natAbs<10^k)(hk:k≤400):i.natAbs.log2<1920:=by
 by_cases z:i.natAbs=0
 ·rw[z]; decide
 ·rw[Nat.log2_lt z]
  refine Vai h ?_
  have h1:(10:Nat)^k≤16^k:=Nat.pow_le_pow_left (by decide) k
  have h2:(16:Nat)^k=2^(4*k):=by rw[Nat.pow_mul]
  rw[h2] at h1
  exact Vat h1 (Nat.pow_le_pow_right (by decide) (by omega))
theorem zpc {F:List Nat}(h:AllDigits F)(h1:F≠[])(h2:F.length≤600):PySem.intText? (mk F)=some ((digitsVal F:Nat):Int)∧PySem.intText? (mk (45::F))=some (-((digitsVal F:Nat):Int)):=by
 refine⟨?_,?_⟩
 ·have z:=intText_digits (x:=mk F) (by rw[show (mk F).cps.toList=F from zbv F]; exact h) (by rw[show (mk F).cps.toList=F from zbv F]; exact h1) (by rw[zbL]; omega)
  rw[show (mk F).cps.toList=F from zbv F] at z
  exact z
 ·exact intText_neg (x:=mk (45::F)) (cs:=F) (zbv _) h h1 (by rw[zbL]; simp; omega)
theorem zol:∀w:List Nat,47∈w→∃A B,w=A++47::B∧47 ∉ A
 | [],h=>by cases h
 | c::w,h=>by
  by_cases e:c=47
  ·subst e
   exact⟨[],w,rfl,by simp⟩
  ·have h':47∈w:=by
    rcases Vab.mp h with z | z
    ·exact absurd z.symm e
    ·exact z
   obtain⟨A,B,e1,e2⟩:=zol w h'
   exact⟨c::A,B,by rw[e1]; rfl,by simp; exact⟨λz=>e z.symm,e2⟩⟩
structure Eb (K:PySem.W.Frag)(mg:Str→Option Value)(x:Str) where
 c:Addr
 bound:mg x=some (.ref c)
theorem all_map (f:Nat→Bool)(l:List Nat):(l.map f).all id=l.all f:=by rw[List.all_map]; rfl
theorem zrV {a P B j:Nat}(h:a*P^j<B):a/P*P^(j+1)<B:=by
 rw[VaB,Nat.mul_comm (P^j),← Nat.mul_assoc]
 exact Nat.lt_of_le_of_lt (Nat.mul_le_mul_right _ (Nat.div_mul_le_self _ _)) h
theorem cut4 {s1 s2 s3 s4 t2:TDS}{E:zbN}{dl:Ev}{S:Sto}{α:Type}(G:α→Ev)(P:α→Prop)(h:(∀a,P a→t2 E (G a) S)→zaW s1 (zaW s2 (zaW s3 (zaW s4 t2))) E dl S)(main:∀a,P a→t2 E (G a) S):zaW s1 (zaW s2 (zaW s3 (zaW s4 t2))) E dl S:=h main
abbrev FIG:Str:="0123456789"
theorem zp4 (c:Nat):c∈cs FIG↔48≤c∧c≤57:=by
 have e:cs FIG=[48,49,50,51,52,53,54,55,56,57]:=by decide
 rw[e]
 simp
 omega
def zdH (w:Str):Bool:=(decide (1≤(w.length:Int))&&decide ((w.length:Int)≤9))&&w.cps.toList.all (λc=>decide (c∈FIG.cps.toList))
theorem zmC (w:Str):zdH w=true↔(cs w≠[]∧(cs w).length≤9∧PySem.NumText.AllDigits (cs w)):=by
 unfold zdH
 rw[Vay,Vay,decide_eq_true_eq,decide_eq_true_eq,List.all_eq_true]
 rw[zeM]
 constructor
 ·rintro⟨⟨h1,h2⟩,h3⟩
  refine⟨λz=>?_,by omega,λc hc=>(zp4 c).mp (of_decide_eq_true (h3 c hc))⟩
  rw[z] at h1
  simp at h1
 ·rintro⟨h1,h2,h3⟩
  have:0<(cs w).length:=List.length_pos_iff.mpr h1
  exact⟨⟨by omega,by omega⟩,λc hc=>decide_eq_true ((zp4 c).mpr (h3 c hc))⟩
def zla (w T B:List Nat):Prop:=(w=T∧B=[49]∨w=T++47::B)∧47 ∉ T
def Sig (T F:List Nat):Prop:=T=45::F∨T=F∧T[0]?≠some 45
theorem zfs {w T B F:List Nat}{t b:Int}(n:zbi w t b)(sh:zla w T B)(sg:Sig T F):T=num t∧F=dec t.natAbs∧B=dec b.natAbs:=by
 obtain⟨sh,nT⟩:=sh
 have e:T=num t∧B=dec b.natAbs:=by
  rcases sh with ⟨rfl,rfl⟩ | rfl
  ·obtain⟨e1,rfl⟩:=n.plain nT
   exact⟨e1.symm,by decide⟩
  ·obtain⟨e1,e2,_⟩:=n.split nT
   rw[zes (by have:=n.pos; omega)] at e2
   exact⟨e1.symm,e2.symm⟩
 refine⟨e.1,?_,e.2⟩
 have e1:=e.1
 by_cases ht:t<0
 ·rw[zlG ht] at e1
  rcases sg with rfl | ⟨rfl,z⟩
  ·exact(List.cons.inj e1).2
  ·rw[e1] at z
   exact absurd rfl z
 ·rw[zes (by omega)] at e1
  rcases sg with rfl | ⟨rfl,_⟩
  ·have:=zdB e1.symm
   omega
  ·exact e1
theorem zns {m:Nat}(h:m<10^9):zdH (mk (dec m))=true:=by
 rw[zmC,zbv]
 exact⟨zhD m,zeQ (by decide) h,zi3 m⟩
theorem zq0 {t b t' b':Int}(hb:1≤b)(hb':1≤b')(g:Int.gcd t b=1)(g':Int.gcd t' b'=1)(e:t*b'=t'*b):t=t'∧b=b':=by
 have d1:b ∣ b':=by
  have z:b ∣ t*b':=⟨t',by rw[e,Int.mul_comm]⟩
  have z':=Int.natAbs_dvd_natAbs.mpr z
  rw[Int.natAbs_mul] at z'
  exact Int.natAbs_dvd_natAbs.mp (Nat.Coprime.dvd_of_dvd_mul_left (show Nat.gcd b.natAbs t.natAbs=1 by rw[Nat.gcd_comm]; exact g) z')
 have d2:b' ∣ b:=by
  have z:b' ∣ t'*b:=⟨t,by rw[← e,Int.mul_comm]⟩
  have z':=Int.natAbs_dvd_natAbs.mpr z
  rw[Int.natAbs_mul] at z'
  exact Int.natAbs_dvd_natAbs.mp (Nat.Coprime.dvd_of_dvd_mul_left (show Nat.gcd b'.natAbs t'.natAbs=1 by rw[Nat.gcd_comm]; exact g') z')
 have eb:b=b':=Int.le_antisymm (Int.le_of_dvd (by omega) d1) (Int.le_of_dvd (by omega) d2)
 subst eb
 exact⟨Int.eq_of_mul_eq_mul_right (by omega) e,rfl⟩
theorem pick (ws:List (List Nat))(n:Int)(hn:(ws.length:Int)=n)(h0:0<n)(c:Int):∃l∈ws,atI (ws.map λl=>D.str (mk l)) (c%n)=some (.str (mk l)):=by
 have rr:=zhE (a:=c) h0
 have hk:(c%n).toNat<ws.length:=by omega
 refine⟨ws[(c%n).toNat],VaU hk,?_⟩
 have z:=zex (xs:=ws.map λl=>D.str (mk l)) (j:=(c%n).toNat) (v:=.str (mk ws[(c%n).toNat])) (by rw[Vao,VaL hk]; rfl)
 rw[show (((c%n).toNat:Nat):Int)=c%n by omega] at z
 exact z
theorem zdK (a b:Str):(a++b).length=a.length+b.length:=Str.length_append a b
theorem zbi.one {w:List Nat}{t b t' b':Int}(h:zbi w t b)(h':zbi w t' b'):t=t'∧b=b':=by
 have e':=h'.eq
 unfold za5 at e'
 split at e'
 ·rename_i z
  rw[Vav] at e'
  have w47:47 ∉ w:=by rw[e']; exact zhW _
  obtain⟨e1,e2⟩:=h.plain w47
  exact⟨zep (e1.trans e'),by rw[e2,z]⟩
 ·rw[e'] at h
  obtain⟨e1,e2,_⟩:=h.split (zhW _)
  exact⟨zep e1,zep e2⟩
abbrev LET:Str:="abcdefghijklmnopqrstuvwxyz"
abbrev KEPT:List Str:=["let","in","grid","fine","looks","solve","boxes","point","right","islands"]
def zaL (w:Str):Bool:=((decide (1≤(w.length:Int))&&decide ((w.length:Int)≤8))&&w.cps.toList.all (λc=>decide (c∈LET.cps.toList)))&&!KEPT.any (·==w)
theorem zs5 {w:Str}{c:Nat}(hc:c∈w.cps.toList)(hn:c ∉ LET.cps.toList):zaL w=false:=by
 unfold zaL
 have e:w.cps.toList.all (λc=>decide (c∈LET.cps.toList))=false:=by
  rw[List.all_eq_false]
  exact⟨c,hc,by simpa using hn⟩
 rw[e,Bool.and_false,VaQ]
inductive Tr
 | nm (w:List Nat) | nb (t b:Int) | pw (t:Tr) (k:Int) | bi (kind:Nat) (l r:Tr)
inductive Wd
 | lp | rp | pl | mi | ti | ca | at
 deriving DecidableEq
section
variable {α:Type}(K:α→Wd)(av:α→Option Tr)(pv:α→Option Int)
abbrev Rd (α:Type):=List α→Option (Tr×List α)
def zbG (ex:Rd α):Rd α
 | []=>none
 | w::r=>if K w=.lp then (match ex r with
   | some (t,w2::r2)=>if K w2=.rp then some (t,r2) else none
   | _=>none) else (av w).map λt=>(t,r)
def za4 (ex:Rd α):Rd α:=λws=>match zbG K av ex ws with
 | none=>none
 | some (t,[])=>some (t,[])
 | some (t,w::r)=>if K w=.ca then (match r with
   | []=>none
   | p::r2=>(pv p).map λk=>(.pw t k,r2)) else some (t,w::r)
def zbK (ex:Rd α):Nat→Tr→Rd α
 | _,t,[]=>some (t,[])
 | 0,t,w::r=>some (t,w::r)
 | n+1,t,w::r=>if K w=.ti then (match za4 K av pv ex r with
   | none=>none
   | some (t2,r2)=>zbK ex n (.bi 2 t t2) r2) else some (t,w::r)
def zbl (ex:Rd α):Rd α:=λws=>match za4 K av pv ex ws with
 | none=>none
 | some (t,r)=>zbK K av pv ex ws.length t r
def zdg:Wd→Option Nat
 | .pl=>some 0
 | .mi=>some 1
 | _=>none
def zbW (ex:Rd α):Nat→Tr→Rd α
 | _,t,[]=>some (t,[])
 | 0,t,w::r=>some (t,w::r)
 | n+1,t,w::r=>match zdg (K w) with
  | none=>some (t,w::r)
  | some k=>match zbl K av pv ex r with
   | none=>none
   | some (t2,r2)=>zbW ex n (.bi k t t2) r2
def zb6 (ex:Rd α):Rd α:=λws=>match zbl K av pv ex ws with
 | none=>none
 | some (t,r)=>zbW K av pv ex ws.length t r
def zd1:Nat→Rd α
 | 0=>zb6 K av pv λ_=>none
 | f+1=>zb6 K av pv (zd1 f)
def zch:Nat→Rd α
 | 0=>λ_=>none
 | f+1=>zd1 K av pv f
theorem zmE (f:Nat):zd1 K av pv f=zb6 K av pv (zch K av pv f):=by cases f <;> rfl
inductive Ex:Nat→Nat→List α→Tr→Prop
 | atom {w:α} {t:Tr}:K w=.at→av w=some t→Ex 3 0 [w] t
 | shut {a b:α} {l k:Nat} {c:List α} {t:Tr}:K a=.lp→K b=.rp→Ex l k c t→Ex 3 (k+1) (a::c++[b]) t
 | pow {a p:α} {k:Nat} {c:List α} {t:Tr} {n:Int}:K a=.ca→K p=.at→pv p=some n→Ex 3 k c t→Ex 2 k (c++[a,p]) (.pw t n)
 | tim {a:α} {l m k j:Nat} {c d:List α} {t s:Tr}:K a=.ti→1≤l→2≤m→Ex l k c t→Ex m j d s→Ex 1 (max k j) (c++a::d) (.bi 2 t s)
 | sum {a:α} {l m k j n:Nat} {c d:List α} {t s:Tr}:zdg (K a)=some n→1≤m→Ex l k c t→Ex m j d s→Ex 0 (max k j) (c++a::d) (.bi n t s)
variable {K av pv}
theorem zp1 {ex:Rd α}(hx:∀ws t r,ex ws=some (t,r)→r.length<ws.length){ws:List α}{t:Tr}{r:List α}(h:zbG K av ex ws=some (t,r)):r.length<ws.length:=by
 unfold zbG at h
 split at h
 ·cases h
 ·rename_i w rr
  split at h
  ·split at h
   ·rename_i t2 w2 r2 e
    split at h
    ·cases h
     have:=hx _ _ _ e
     simp at this ⊢
     omega
    ·cases h
   ·cases h
  ·cases e:av w with
   | none=>simp[e] at h
   | some t2=>
    rw[e] at h
    cases h
    simp
theorem ziX {ex:Rd α}(hx:∀ws t r,ex ws=some (t,r)→r.length<ws.length){ws:List α}{t:Tr}{r:List α}(h:za4 K av pv ex ws=some (t,r)):r.length<ws.length:=by
 unfold za4 at h
 split at h
 ·cases h
 ·rename_i t2 e
  cases h
  exact zp1 hx e
 ·rename_i t2 w r2 e
  have z:=zp1 hx e
  split at h
  ·split at h
   ·cases h
   ·rename_i p r3
    cases e2:pv p with
    | none=>rw[e2] at h; cases h
    | some k=>
     rw[e2] at h
     cases h
     simp at z ⊢
     omega
  ·cases h
   exact z
theorem znP {ex:Rd α}(hx:∀ws t r,ex ws=some (t,r)→r.length<ws.length):∀(n:Nat) {ws:List α} {t0 t:Tr} {r:List α},zbK K av pv ex n t0 ws=some (t,r)→r.length≤ws.length
 | n,[],t0,t,r,h=>by cases n <;> (cases h; simp)
 | 0,w::ws,t0,t,r,h=>by cases h; simp
 | n+1,w::ws,t0,t,r,h=>by
  unfold zbK at h
  split at h
  ·split at h
   ·cases h
   ·rename_i t2 r2 e
    have a:=ziX hx e
    have b:=znP hx n h
    simp
    omega
  ·cases h; simp
theorem zhi {ex:Rd α}(hx:∀ws t r,ex ws=some (t,r)→r.length<ws.length){ws:List α}{t:Tr}{r:List α}(h:zbl K av pv ex ws=some (t,r)):r.length<ws.length:=by
 unfold zbl at h
 split at h
 ·cases h
 ·rename_i t2 r2 e
  have a:=ziX hx e
  have b:=znP hx _ h
  omega
theorem zo4 {ex:Rd α}(hx:∀ws t r,ex ws=some (t,r)→r.length<ws.length):∀(n:Nat) {ws:List α} {t0 t:Tr} {r:List α},zbW K av pv ex n t0 ws=some (t,r)→r.length≤ws.length
 | n,[],t0,t,r,h=>by cases n <;> (cases h; simp)
 | 0,w::ws,t0,t,r,h=>by cases h; simp
 | n+1,w::ws,t0,t,r,h=>by
  unfold zbW at h
  split at h
  ·cases h; simp
  ·split at h
   ·cases h
   ·rename_i t2 r2 e
    have a:=zhi hx e
    have b:=zo4 hx n h
    simp
    omega
theorem zn7 {ex:Rd α}(hx:∀ws t r,ex ws=some (t,r)→r.length<ws.length){ws:List α}{t:Tr}{r:List α}(h:zb6 K av pv ex ws=some (t,r)):r.length<ws.length:=by
 unfold zb6 at h
 split at h
 ·cases h
 ·rename_i t2 r2 e
  have a:=zhi hx e
  have b:=zo4 hx _ h
  omega
theorem zme:∀(f:Nat) {ws:List α} {t:Tr} {r:List α},zd1 K av pv f ws=some (t,r)→r.length<ws.length
 | 0,_,_,_,h=>zn7 (λ_ _ _ e=>by cases e) h
 | f+1,_,_,_,h=>zn7 (λ_ _ _ e=>zme f e) h
def Sou (ex:Rd α)(l0:Nat):Prop:=∀ws t r,ex ws=some (t,r)→∃c l k,ws=c++r∧l0≤l∧Ex K av pv l k c t
variable (hav:∀w t,av w=some t→K w=.at)(hpv:∀w k,pv w=some k→K w=.at)
include hav in
theorem zmV {ex:Rd α}(hx:Sou (K:=K) (av:=av) (pv:=pv) ex 0):Sou (K:=K) (av:=av) (pv:=pv) (zbG K av ex) 3:=λws t r h=>by
 unfold zbG at h
 split at h
 ·cases h
 ·rename_i w rr
  split at h
  ·rename_i ew
   split at h
   ·rename_i t2 w2 r2 e
    split at h
    ·rename_i ew2
     cases h
     obtain⟨c,l,k,e1,_,d⟩:=hx _ _ _ e
     exact⟨w::c++[w2],3,k+1,by rw[e1]; simp,Vaa _,.shut ew ew2 d⟩
    ·cases h
   ·cases h
  ·cases e:av w with
   | none=>simp[e] at h
   | some t2=>
    rw[e] at h
    cases h
    exact⟨[w],3,0,rfl,Vaa _,.atom (hav _ _ e) e⟩
theorem zf6 {l k:Nat}{c:List α}{t:Tr}(h:Ex K av pv l k c t):l≤3:=by cases h <;> omega
include hav hpv in
theorem zj8 {ex:Rd α}(hx:Sou (K:=K) (av:=av) (pv:=pv) ex 0):Sou (K:=K) (av:=av) (pv:=pv) (za4 K av pv ex) 2:=λws t r h=>by
 unfold za4 at h
 split at h
 ·cases h
 ·rename_i t2 e
  cases h
  obtain⟨c,l,k,e1,l3,d⟩:=zmV hav hx _ _ _ e
  exact⟨c,l,k,e1,by omega,d⟩
 ·rename_i t2 w r2 e
  obtain⟨c,l,k,e1,l3,d⟩:=zmV hav hx _ _ _ e
  have el:l=3:=by have:=zf6 d; omega
  subst el
  split at h
  ·rename_i ew
   split at h
   ·cases h
   ·rename_i p r3
    cases e2:pv p with
    | none=>rw[e2] at h; cases h
    | some n=>
     rw[e2] at h
     cases h
     exact⟨c++[w,p],2,k,by rw[e1]; simp,Vaa _,.pow ew (hpv _ _ e2) e2 d⟩
  ·cases h
   exact⟨c,3,k,e1,by omega,d⟩
include hav hpv in
theorem zqa {ex:Rd α}(hx:Sou (K:=K) (av:=av) (pv:=pv) ex 0):∀(n:Nat) (ws:List α) (t0 t:Tr) (r c:List α) (l k:Nat),zbK K av pv ex n t0 ws=some (t,r)→1≤l→Ex K av pv l k c t0→∃d l' k',ws=d++r∧1≤l'∧Ex K av pv l' k' (c++d) t
 | n,[],t0,t,r,c,l,k,h,hl,d=>by cases n <;> (cases h; exact⟨[],l,k,rfl,hl,by simpa using d⟩)
 | 0,w::ws,t0,t,r,c,l,k,h,hl,d=>by cases h; exact⟨[],l,k,rfl,hl,by simpa using d⟩
 | n+1,w::ws,t0,t,r,c,l,k,h,hl,d=>by
  unfold zbK at h
  split at h
  ·rename_i ew
   split at h
   ·cases h
   ·rename_i t2 r2 e
    obtain⟨c2,l2,k2,e1,hl2,d2⟩:=zj8 hav hpv hx _ _ _ e
    obtain⟨d3,l3,k3,e3,hl3,x3⟩:=zqa hx n r2 _ t r (c++w::c2) 1 _ h (Vaa _) (.tim ew hl hl2 d d2)
    exact⟨w::c2++d3,l3,k3,by rw[e1,e3]; simp,hl3,by simpa using x3⟩
  ·cases h
   exact⟨[],l,k,rfl,hl,by simpa using d⟩
include hav hpv in
theorem zhR {ex:Rd α}(hx:Sou (K:=K) (av:=av) (pv:=pv) ex 0):Sou (K:=K) (av:=av) (pv:=pv) (zbl K av pv ex) 1:=λws t r h=>by
 unfold zbl at h
 split at h
 ·cases h
 ·rename_i t2 r2 e
  obtain⟨c,l,k,e1,l2,d⟩:=zj8 hav hpv hx _ _ _ e
  obtain⟨d3,l3,k3,e3,hl3,x3⟩:=zqa hav hpv hx _ _ _ _ _ c l k h (by omega) d
  exact⟨c++d3,l3,k3,by rw[e1,e3]; simp,hl3,x3⟩
include hav hpv in
theorem zpN {ex:Rd α}(hx:Sou (K:=K) (av:=av) (pv:=pv) ex 0):∀(n:Nat) (ws:List α) (t0 t:Tr) (r c:List α) (l k:Nat),zbW K av pv ex n t0 ws=some (t,r)→Ex K av pv l k c t0→∃d l' k',ws=d++r∧Ex K av pv l' k' (c++d) t
 | n,[],t0,t,r,c,l,k,h,d=>by cases n <;> (cases h; exact⟨[],l,k,rfl,by simpa using d⟩)
 | 0,w::ws,t0,t,r,c,l,k,h,d=>by cases h; exact⟨[],l,k,rfl,by simpa using d⟩
 | n+1,w::ws,t0,t,r,c,l,k,h,d=>by
  unfold zbW at h
  split at h
  ·cases h
   exact⟨[],l,k,rfl,by simpa using d⟩
  ·rename_i m ew
   split at h
   ·cases h
   ·rename_i t2 r2 e
    obtain⟨c2,l2,k2,e1,hl2,d2⟩:=zhR hav hpv hx _ _ _ e
    obtain⟨d3,l3,k3,e3,x3⟩:=zpN hx n r2 _ t r (c++w::c2) 0 _ h (.sum ew hl2 d d2)
    exact⟨w::c2++d3,l3,k3,by rw[e1,e3]; simp,by simpa using x3⟩
include hav hpv in
theorem zoE {ex:Rd α}(hx:Sou (K:=K) (av:=av) (pv:=pv) ex 0):Sou (K:=K) (av:=av) (pv:=pv) (zb6 K av pv ex) 0:=λws t r h=>by
 unfold zb6 at h
 split at h
 ·cases h
 ·rename_i t2 r2 e
  obtain⟨c,l,k,e1,l2,d⟩:=zhR hav hpv hx _ _ _ e
  obtain⟨d3,l3,k3,e3,x3⟩:=zpN hav hpv hx _ _ _ _ _ c l k h d
  exact⟨c++d3,l3,k3,by rw[e1,e3]; simp,Vaz _,x3⟩
include hav hpv in
theorem zpy:∀f,Sou (K:=K) (av:=av) (pv:=pv) (zd1 K av pv f) 0
 | 0=>zoE hav hpv λ_ _ _ e=>by cases e
 | f+1=>zoE hav hpv (zpy f)
end
section
variable {α:Type}{K:α→Wd}{av:α→Option Tr}{pv:α→Option Int}
def Nst (K:α→Wd)(x:Wd)(r:List α):Prop:=∀w r',r=w::r'→K w≠x
theorem Nst.nil {x:Wd}:Nst K x []:=λ_ _ e=>by cases e
theorem Nst.cons {x:Wd}{w:α}{r:List α}(h:K w≠x):Nst K x (w::r):=λ_ _ e=>by cases e; exact h
theorem zi0 {ex:Rd α}{t:Tr}{r:List α}(h:Nst K .ti r)(n:Nat):zbK K av pv ex n t r=some (t,r):=by
 cases r with
 | nil=>cases n <;> rfl
 | cons w r=>
  cases n with
  | zero=>rfl
  | succ n=>
   unfold zbK
   rw[if_neg (h w r rfl)]
theorem zke {ex:Rd α}{t:Tr}{r:List α}(h:∀w r',r=w::r'→zdg (K w)=none)(n:Nat):zbW K av pv ex n t r=some (t,r):=by
 cases r with
 | nil=>cases n <;> rfl
 | cons w r=>
  cases n with
  | zero=>rfl
  | succ n=>
   unfold zbW
   rw[h w r rfl]
theorem zte {ex:Rd α}{a w:α}{r r2:List α}{t:Tr}(ha:K a=.lp)(e:ex r=some (t,w::r2))(hb:K w=.rp):zbG K av ex (a::r)=some (t,r2):=by simp[zbG,ha,e,hb]
theorem zfx {ex:Rd α}{c:List α}{t:Tr}(h:∀r,zbG K av ex (c++r)=some (t,r)):∀r,Nst K .ca r→za4 K av pv ex (c++r)=some (t,r):=λr hr=>by
 unfold za4
 rw[h r]
 cases r with
 | nil=>rfl
 | cons w r=>
  show (if K w=.ca then _ else some (t,w::r))=_
  rw[if_neg (hr w r rfl)]
theorem zfW {ex:Rd α}{c r:List α}{t:Tr}(h:za4 K av pv ex (c++r)=some (t,r)):∃n,r.length≤n∧zbl K av pv ex (c++r)=zbK K av pv ex n t r:=by
 refine⟨(c++r).length,by simp,?_⟩
 unfold zbl
 rw[h]
theorem ziz {ex:Rd α}{c r:List α}{t:Tr}(h:∃n,r.length≤n∧zbl K av pv ex (c++r)=zbK K av pv ex n t r)(hr:Nst K .ti r):∃n,r.length≤n∧zb6 K av pv ex (c++r)=zbW K av pv ex n t r:=by
 obtain⟨n,_,e⟩:=h
 refine⟨(c++r).length,by simp,?_⟩
 unfold zb6
 rw[e,zi0 hr]
theorem zu6 {l k:Nat}{c:List α}{t:Tr}(h:Ex K av pv l k c t):∀f,k≤f→(l=3→∀r,zbG K av (zch K av pv f) (c++r)=some (t,r))∧(2≤l→∀r,Nst K .ca r→za4 K av pv (zch K av pv f) (c++r)=some (t,r))∧(1≤l→∀r,Nst K .ca r→∃n,r.length≤n∧zbl K av pv (zch K av pv f) (c++r)=zbK K av pv (zch K av pv f) n t r)∧∀r,Nst K .ca r→Nst K .ti r→∃n,r.length≤n∧zb6 K av pv (zch K av pv f) (c++r)=zbW K av pv (zch K av pv f) n t r:=by
 induction h with
 | @atom w t hw ha=>
  intro f _
  have A:∀r,zbG K av (zch K av pv f) ([w]++r)=some (t,r):=λr=>by
   show (if K w=.lp then _ else (av w).map λt=>(t,r))=_
   rw[if_neg (by rw[hw]; decide),ha]
   rfl
  exact⟨λ_=>A,λ_=>zfx A,λ_ r hr=>zfW (zfx A r hr),λr hr ht=>ziz (zfW (zfx A r hr)) ht⟩
 | @shut a b l k c t ha hb _ ih=>
  intro f hf
  obtain⟨f',rfl⟩:∃f',f=f'+1:=⟨f-1,by omega⟩
  obtain⟨_,_,_,i4⟩:=ih f' (by omega)
  have A:∀r,zbG K av (zch K av pv (f'+1)) (a::c++[b]++r)=some (t,r):=λr=>by
   have e0:a::c++[b]++r=a::(c++b::r):=by simp
   rw[e0]
   obtain⟨n,_,e⟩:=i4 (b::r) (Nst.cons (by rw[hb]; decide)) (Nst.cons (by rw[hb]; decide))
   have e2:zch K av pv (f'+1) (c++b::r)=some (t,b::r):=by
    show zd1 K av pv f' (c++b::r)=_
    rw[zmE,e]
    exact zke (λw r' q=>by cases q; rw[hb]; rfl) n
   exact zte ha e2 hb
  exact⟨λ_=>A,λ_=>zfx A,λ_ r hr=>zfW (zfx A r hr),λr hr ht=>ziz (zfW (zfx A r hr)) ht⟩
 | @pow a p k c t n ha hp hn _ ih=>
  intro f hf
  obtain⟨i1,_⟩:=ih f hf
  have F:∀r,za4 K av pv (zch K av pv f) (c++[a,p]++r)=some (.pw t n,r):=λr=>by
   have e0:c++[a,p]++r=c++(a::p::r):=by simp
   rw[e0]
   unfold za4
   rw[i1 rfl]
   show (if K a=.ca then _ else _)=_
   rw[if_pos ha]
   show (pv p).map _=_
   rw[hn]
   rfl
  exact⟨λe=>by omega,λ_ r _=>F r,λ_ r _=>zfW (F r),λr _ ht=>ziz (zfW (F r)) ht⟩
 | @tim a l m k j c d t s ha hl hm _ _ ih1 ih2=>
  intro f hf
  obtain⟨_,_,i3,_⟩:=ih1 f (by omega)
  obtain⟨_,j2,_,_⟩:=ih2 f (by omega)
  have T:∀r,Nst K .ca r→∃n,r.length≤n∧zbl K av pv (zch K av pv f) (c++a::d++r)=zbK K av pv (zch K av pv f) n (.bi 2 t s) r:=λr hr=>by
   have e0:c++a::d++r=c++(a::(d++r)):=by simp
   rw[e0]
   obtain⟨n,hn,e⟩:=i3 hl (a::(d++r)) (Nst.cons (by rw[ha]; decide))
   obtain⟨n',rfl⟩:∃n',n=n'+1:=⟨n-1,by simp at hn; omega⟩
   refine⟨n',by simp at hn; omega,?_⟩
   rw[e]
   show (if K a=.ti then _ else _)=_
   rw[if_pos ha,j2 hm r hr]
  exact⟨λe=>by omega,λe=>by omega,λ_=>T,λr hr ht=>ziz (T r hr) ht⟩
 | @sum a l m k j x c d t s ha hm _ _ ih1 ih2=>
  intro f hf
  obtain⟨_,_,_,i4⟩:=ih1 f (by omega)
  obtain⟨_,_,j3,_⟩:=ih2 f (by omega)
  have n1:K a≠.ca:=λe=>by rw[e] at ha; cases ha
  have n2:K a≠.ti:=λe=>by rw[e] at ha; cases ha
  refine⟨λe=>by omega,λe=>by omega,λe=>by omega,λr hr ht=>?_⟩
  have e0:c++a::d++r=c++(a::(d++r)):=by simp
  rw[e0]
  obtain⟨n,hn,e⟩:=i4 (a::(d++r)) (Nst.cons n1) (Nst.cons n2)
  obtain⟨n',rfl⟩:∃n',n=n'+1:=⟨n-1,by simp at hn; omega⟩
  refine⟨n',by simp at hn; omega,?_⟩
  obtain⟨q,_,e2⟩:=j3 hm r hr
  rw[e]
  show (match zdg (K a) with | none=>_ | some k=>_)=_
  rw[ha]
  dsimp only
  rw[e2,zi0 ht]
theorem zti {l k f:Nat}{c:List α}{t:Tr}(h:Ex K av pv l k c t)(hf:k≤f):zd1 K av pv f c=some (t,[]):=by
 obtain⟨_,_,_,i4⟩:=zu6 h f hf
 obtain⟨n,_,e⟩:=i4 [] Nst.nil Nst.nil
 rw[Vav] at e
 rw[zmE,e]
 exact zke (λw r' q=>by cases q) n
theorem zr1 {a:α}{n:Nat}(h:zdg (K a)=some n):K a=.pl∨K a=.mi:=by
 cases e:K a <;> rw[e] at h <;> first | exact .inl rfl | exact .inr rfl | cases h
end
section
variable {X:Cx}{Z:Zx}{pos:Pos}
@[irreducible] def zfL (C:Addr)(f:Str)(sg:Int→Int→Int)(to te:TDE):TDS:=λE dl S=>to dl S λd S1=>match zb2 C S1 d with
 | some (_,fs)=>match fs.lookup f with
  | some (.int i)=>te dl S1 λy S2=>match y with
   | .int j=>match zb2 C S2 d with
    | some (n,fs2)=>fs2.length<1000∧E.nx dl (S2.set n (.ins C (zaP f (.int (sg i j)) fs2)))
    | none=>False
   | _=>False
  | _=>False
 | none=>False
theorem zoL {op:Operator}{rd:V→V→Hp→VK→Prop}{sg:Int→Int→Int}{C:Addr}{f:Str}{o e:Expr}{to te:TDE}{p2:Pos}(c:Cls X.K C)(n:zbq X.K C f)(hop:zjr X op rd)(hrd:∀i j H Q,Q (.int (sg i j)) H→rd (.int i) (.int j) H Q)(ho:PD X Z o to)(he:PD X Z e te):
  PDS X Z (.AugAssign (.Attribute o f p2) op e pos) (zfL C f sg to te):=
 zcy (zsv ho he hop) λF σ H ⟨r,dl,S,E,rs,rel,h,ret⟩=>by
  unfold zfL at h
  refine⟨r,dl,S,_,rs,rel,h,λv H1 r1 d S1 e1 rel1 p1 q1=>?_⟩
  split at q1
  ·rename_i m fs ei
   obtain⟨rfl,eS⟩:=zhC ei
   split at q1
   ·rename_i i ef
    obtain⟨a,ha,ob⟩:=rel1.at eS
    obtain⟨dx,fs',eH,fr⟩:=id ob
    cases p1 with
    | ref hr=>
     rw[hr] at ha; cases ha
     obtain⟨u,hu,pu⟩:=fr.lookup.1 _ ef
     cases pu
     refine⟨a,C,dx,fs',_,rfl,eH,c,n,hu,r1,dl,S1,_,rs.ext e1,rel1,q1,λw H2 r2 y S2 e2 rel2 p2' q2=>?_⟩
     split at q2
     ·rename_i j
      cases p2'
      split at q2
      ·rename_i m2 fs2 ei2
       obtain⟨em,eS2⟩:=zhC ei2
       cases em
       obtain⟨hl,q2⟩:=q2
       obtain⟨a2,ha2,ob2⟩:=rel2.at eS2
       obtain⟨dx2,fs2',eH2,fr2⟩:=id ob2
       have hr2:=e2.adr _ _ hr
       rw[hr2] at ha2; cases ha2
       have hlen:fs2'.length=fs2.length:=by
        have:=congrArg List.length fr2.1
        simpa using this.symm
       refine hrd i j _ _ ?_
       obtain⟨rb,x⟩:=rel2.b.setO (o':=.ins C (zaP f (.int (sg i j)) fs2)) (u:=.ins C dx2 (zbC f (.int (sg i j)) fs2')) hr2 eS2 rfl rfl λx=>⟨dx2,_,zbR,(fr2.put (.int _)).ext x⟩
       exact⟨dx2,fs2',eH2,by omega,ret.nx _ _ r2 _ _ (e1.trans (e2.trans x)) (rs.ext (e1.trans (e2.trans x))) ⟨rb,rel2.xw.ext x⟩ q2⟩
      ·exact q2.elim
     ·exact q2.elim
   ·exact q1.elim
  ·exact q1.elim
theorem znT {C:Addr}{f:Str}{o e:Expr}{to te:TDE}{p2:Pos}(c:Cls X.K C)(n:zbq X.K C f)(ho:PD X Z o to)(he:PD X Z e te):PDS X Z (.AugAssign (.Attribute o f p2) .Add e pos) (zfL C f (λi j=>i+j) to te):=zoL c n zwq (λi j H Q q=>⟨i,j,rfl,rfl,q⟩) ho he
theorem zvS {C:Addr}{f:Str}{o e:Expr}{to te:TDE}{p2:Pos}(c:Cls X.K C)(n:zbq X.K C f)(ho:PD X Z o to)(he:PD X Z e te):PDS X Z (.AugAssign (.Attribute o f p2) .Sub e pos) (zfL C f (λi j=>i-j) to te):=zoL c n zuS (λi j H Q q=>⟨i,j,rfl,rfl,q⟩) ho he
end
def GD (P:Program)(w:World)(K:PySem.W.Frag)(mg:Str→Option Value)(x:Str)(kvs:List (Str×Str)):Prop:=
 ∃(a:Addr) (o:Obj) (vs:List (Key×Value)),mg x=some (.ref a)∧K.lookup a=some o∧(∀h:Heap,h.get? a=some o→h.DictOf (zce P w) a vs)∧(∀k v,kvs.lookup k=some v→∃t,valueAt vs (.inr k)=some (.str v t))∧(∀k,kvs.lookup k=none→valueAt vs (.inr k)=none)∧(a==sysModules)=false
section
variable {X:Cx}{Z:Zx}{pos:Pos}
def tGetS (kvs:List (Str×Str))(ty:TE):TE:=λσ H Q=>ty σ H λy H1=>∃k v,y=.str k∧kvs.lookup k=some v∧Q (.str v) H1
theorem zu0 {x:Str}{i:Expr}{ty:TE}{p:Pos}{kvs:List (Str×Str)}(g:GD X.prog X.w X.K X.mg x kvs)(hg:Gl X x)(hi:PE X i ty)(hs:zfg i)(hd:(x==("__debug__":Str))=false:=by decide):PE X (.Subscript (.Name x p) i pos) (tGetS kvs ty):=by
 intro pins s σ H Q I h
 obtain⟨a,o,vs,hm,hk,hdo,hv,_,_⟩:=g
 refine zpQ (T:="dict") PySem.F.slot_dict_getitem.lookup hs (thn (zfz hg hm (v:=.ref a) rfl hd pins s σ H (λx H1=>x=.ref a∧H1=H) I ⟨rfl,rfl⟩) λu s1 ⟨x1,H1,I1,rx,e1,e2⟩=>?_)
 subst e1
 subst e2
 obtain rfl:u=Value.ref a:=rx
 refine thn (hi pins s1 σ H1 _ I1 h) λiv s2 ⟨y,H2,I2,ry,k,v,ey,el,q2⟩=>?_
 subst ey
 have dd:=hdo s2.heap (I2.kIn a o hk)
 obtain⟨t,hw⟩:=hv k v el
 exact⟨dd.typeIs,wpAny_getItem_of (zeJ (k:=.inr k) ry) dd.mapOf hw ⟨.str v,H2,I2.tok _,⟨t,rfl⟩,q2⟩⟩
@[irreducible] def zix (kvs:List (Str×Str))(te:TDE):TDE:=λdl S Q=>te dl S λd S1=>match d with
 | .str k=>match kvs.lookup k with
  | some v=>Q (.str v) S1
  | none=>False
 | _=>False
theorem zoT {x:Str}{i:Expr}{te:TDE}{p:Pos}{kvs:List (Str×Str)}(g:GD X.prog X.w X.K X.mg x kvs)(hg:Gl X x)(hi:PD X Z i te)(hs:zfg i)(hd:(x==("__debug__":Str))=false:=by decide):PD X Z (.Subscript (.Name x p) i pos) (zix kvs te):=
 zaJ (zu0 g hg hi hs hd) λσ H Qv ⟨r,dl,S,Q,rs,rel,h,ret⟩=>by
  unfold zix at h
  refine⟨r,dl,S,_,rs,rel,h,λv H1 r1 d S1 e1 rel1 p1 q1=>?_⟩
  split at q1
  ·rename_i k
   cases p1
   split at q1
   ·rename_i z ez
    exact⟨k,z,rfl,ez,ret _ H1 r1 (.str z) S1 e1 rel1 (.str z) q1⟩
   ·exact q1.elim
  ·exact q1.elim
end
theorem zn3 {P:Program}{w:World}{K:PySem.W.Frag}{mg:Str→Option Value}{x k1 k2 v1 v2:Str}{a:Addr}{o:Obj}{t1 t2 u1 u2:Tok}{ep:Nat}(hm:mg x=some (.ref a))(hk:K.lookup a=some o)(ho:o.ExactDict)(hd:o.data=.dict #[⟨zeL w (.inr k1),.str k1 t1,.str v1 u1⟩,⟨zeL w (.inr k2),.str k2 t2,.str v2 u2⟩] ep)(ne:k1≠k2)(hs:(a==sysModules)=false):GD P w K mg x [(k1,v1),(k2,v2)]:=by
 refine⟨a,o,[(.inr k1,.str v1 u1),(.inr k2,.str v2 u2)],hm,hk,λh e=>⟨o,_,ep,e,ho,hd,?_,?_,?_⟩,λk v hl=>?_,λk hl=>?_,hs⟩
 ·intro e he
  simp only[List.mem_toArray,Vab,Vag,or_false] at he
  rcases he with rfl | rfl
  ·exact⟨.inr k1,zg7 P w k1 t1,rfl⟩
  ·exact⟨.inr k2,zg7 P w k2 t2,rfl⟩
 ·exact .cons (zg7 P w k1 t1) rfl (.cons (zg7 P w k2 t2) rfl .nil)
 ·simp[ne]
 ·unfold valueAt
  by_cases c1:k=k1
  ·subst c1
   simp at hl
   subst hl
   exact⟨u1,by simp⟩
  ·by_cases c2:k=k2
   ·subst c2
    rw[Vah,show (k==k1)=false by simpa using c1,Vah] at hl
    simp at hl
    subst hl
    exact⟨u2,by simp[ne]⟩
   ·rw[Vah,show (k==k1)=false by simpa using c1,Vah,show (k==k2)=false by simpa using c2] at hl
    cases hl
 ·unfold valueAt
  by_cases c1:k=k1
  ·subst c1
   simp at hl
  ·by_cases c2:k=k2
   ·subst c2
    rw[Vah,show (k==k1)=false by simpa using c1,Vah] at hl
    simp at hl
   ·simp[Ne.symm c1,Ne.symm c2]
section
variable {X:Cx}{Z:Zx}{pos:Pos}
def tInS (kvs:List (Str×Str))(ty:TE):TE:=λσ H Q=>ty σ H λy H1=>∃k,y=.str k∧Q (.bl (kvs.lookup k).isSome) H1
theorem zvl {x:Str}{i:Expr}{ty:TE}{p:Pos}{kvs:List (Str×Str)}(g:GD X.prog X.w X.K X.mg x kvs)(hg:Gl X x)(hi:PE X i ty)(hd:(x==("__debug__":Str))=false:=by decide):PC X .In i (.Name x p) (tInS kvs ty):=by
 intro pins s σ H Q I h
 obtain⟨a,o,vs,hm,hk,hdo,hv,hn,hs⟩:=g
 refine thn (hi pins s σ H _ I h) λiv s1 ⟨y,H1,I1,ry,k,ey,q1⟩=>?_
 subst ey
 refine thn (zfz hg hm (v:=.ref a) rfl hd pins s1 σ H1 (λx H2=>x=.ref a∧H2=H1) I1 ⟨rfl,rfl⟩) λu s2 ⟨x1,H2,I2,rx,e1,e2⟩=>?_
 subst e1
 subst e2
 obtain rfl:u=Value.ref a:=rx
 have dd:=hdo s2.heap (I2.kIn a o hk)
 refine wpAny_in_of (zeJ (k:=.inr k) ry) hs dd.mapOf ?_
 have e:(valueAt vs (.inr k)).isSome=(kvs.lookup k).isSome:=by
  cases c:kvs.lookup k with
  | none=>rw[hn k c]; rfl
  | some v=>
   obtain⟨t,z⟩:=hv k v c
   rw[z]
   rfl
 rw[e]
 exact⟨.bl (kvs.lookup k).isSome,H2,I2.tok _,rfl,q1⟩
@[irreducible] def zgN (kvs:List (Str×Str))(te:TDE):TDE:=λdl S Q=>te dl S λd S1=>match d with
 | .str k=>Q (.bl (kvs.lookup k).isSome) S1
 | _=>False
theorem zux {kvs:List (Str×Str)}{te:TDE}{σ:L3.St}{H:Hp}{Qv:VK}(h:up X.K Z (zgN kvs te) σ H Qv):tInS kvs (up X.K Z te) σ H Qv:=by
 obtain⟨r,dl,S,Q,rs,rel,h,ret⟩:=h
 unfold zgN at h
 refine⟨r,dl,S,_,rs,rel,h,λv H1 r1 d S1 e1 rel1 p1 q1=>?_⟩
 split at q1
 ·rename_i k
  cases p1
  exact⟨k,rfl,ret _ H1 r1 (.bl _) S1 e1 rel1 (.bl _) q1⟩
 ·exact q1.elim
theorem zu9 {x:Str}{i:Expr}{te:TDE}{p:Pos}{kvs:List (Str×Str)}(g:GD X.prog X.w X.K X.mg x kvs)(hg:Gl X x)(hi:PD X Z i te)(hm:behindInMarks .In (.Name x p)=false:=by rfl)(hd:(x==("__debug__":Str))=false:=by decide):PDT X Z (.Compare i [.In] [.Name x p] pos) (zcG (zgN kvs te)):=
 zeu (zj3 (zvl g hg hi hd) hm) λσ H Qb ⟨r,dl,S,Q,rs,rel,h,ret⟩=>zux ⟨r,dl,S,_,rs,rel,h,zfT ret⟩
theorem zoh {kvs:List (Str×Str)}{te:TDE}{dl:Ev}{S S1:Sto}{Q:DK}{k:Str}(hte:∀K:DK,K (.str k) S1→te dl S K)(hq:Q (.bl (kvs.lookup k).isSome) S1):zgN kvs te dl S Q:=by
 unfold zgN
 exact hte _ hq
end
section
variable {X:Cx}{Z:Zx}{pos:Pos}
def dGlbT (ws:List Str):TDE:=λ_ S Q=>Q (.ref S.length) (S++[.tpl ws])
theorem zu3 {x:Str}{ws:List Str}{p:Pos}(hG:GT X.K X.mg x ws)(hg:Gl X x)(hd:(x==("__debug__":Str))=false:=by decide):PD X Z (.Name x p) (dGlbT ws):=by
 obtain⟨b,o,its,n,hm,hk,hc,hdt,hz,hv⟩:=hG
 refine zaJ (zfz (v:=.ref b) hg hm rfl hd) λσ H Qv ⟨r,dl,S,Q,rs,rel,h,ret⟩=>?_
 obtain⟨rb,x⟩:=rel.b.pushF (p:=b) (o:=.tpl ws) rfl ⟨o,its,n,hk,hc,hdt,hz,hv⟩
 exact ret (.ref b) H (r++[b]) (.ref S.length) _ x ⟨rb,rel.xw.ext x⟩ (zc0 rel.len) h
def zfn:W2:=λx y S Q=>match y with
 | .tup ys=>match zb9 (eqN 0) ys x with
  | some b=>Q (.bl b) S
  | none=>False
 | .ref n=>match x with
  | .str w=>match S[n]? with
   | some (.tpl ws)=>Q (.bl (ws.any (·==w))) S
   | _=>False
  | _=>False
 | _=>False
theorem ztu {j:Nat}(hr:zaC j X.A):OpR X (compareOp .In) (upO X.K Z (zbP zfn)):=by
 rw[zb8]
 intro pins s σ H x y v u Qv I rx ry h
 obtain⟨r,S,dx,dy,Q,rel,px,py,q,ret⟩:=h
 cases py with
 | tup e1 l1 f1=>exact znX (k:=0) hr (by decide) pins s σ H x _ v u Qv I rx ry ⟨r,S,dx,_,Q,rel,px,.tup e1 l1 f1,q,ret⟩
 | @ref n a hn=>
  unfold zfn at q
  dsimp only at q
  split at q
  ·rename_i w
   cases px
   split at q
   ·rename_i ws eS
    obtain⟨a',ha',o,its,m,hk,hc,hdt,hz,hv⟩:=rel.at eS
    rw[hn] at ha'; cases ha'
    refine zrZ pins s σ H _ _ v u Qv I rx ry ⟨a,ws.map V.str,rfl,.inr (.inr ⟨o,its,m,hk,hc,hdt,hz,hv⟩),rfl,zlZ ws,?_⟩
    show Qv (.bl (inV (.str w) (ws.map V.str))) H
    rw[zl5]
    exact ret _ H r (.bl _) S Ext.refl rel (.bl _) q
   ·exact q.elim
  ·exact q.elim
 | _=>exact(show False from q).elim
theorem ztI {S:Sto}{Q:DK}{ws:List Str}{w:Str}(h:Q (.bl (ws.any (·==w))) S):zbP zfn (.str w) (.tup (ws.map D.str)) S Q:=by
 rw[zb8]
 unfold zfn
 dsimp only
 have e:∀ws:List Str,zb9 (eqN 0) (ws.map D.str) (.str w)=some (ws.any (·==w)):=λws=>zlQ ..
 rw[e]
 exact h
theorem zvN {S:Sto}{Q:DK}{n:Nat}{ws:List Str}{w:Str}(hn:S[n]?=some (.tpl ws))(h:Q (.bl (ws.any (·==w))) S):zbP zfn (.str w) (.ref n) S Q:=by
 rw[zb8]
 unfold zfn
 dsimp only
 rw[hn]
 exact h
end
def _root_.L3.Df.vac {P:Program}{w:World}{K:PySem.W.Frag}{mg:Str→Option Value}{base:Heap}{x:Str}{st:Stmt}{ps:List Str}{sd:Sd}(d:Df K mg x st ps)(k:Nat)(hv:∀ds S Q ex,sd ds S Q ex→False):Fk P w K mg base k x ps sd:=
 ⟨d.f,d.fd,⟨λ_ _ _ _ ⟨_,_,_,_,_,_,_,z,_⟩=>(hv _ _ _ _ z).elim,λ_ _ _ _ _ _ _ _ _ _ _ _ _ ⟨_,_,_,_,_,_,_,z,_⟩=>(hv _ _ _ _ z).elim⟩,d.m,d.F.kp,d.b⟩
def _root_.L3.Dm.vac {P:Program}{w:World}{K:PySem.W.Frag}{mg:Str→Option Value}{base:Heap}{C:Addr}{x qual:Str}{st:Stmt}{ps:List Str}{sd:Sd}(d:Dm K C x qual st ps)(k:Nat)(hv:∀ds S Q ex,sd ds S Q ex→False):Fm P w K mg base k C x ps sd:=
 ⟨d.f,d.fd,⟨λ_ _ _ _ ⟨_,_,_,_,_,_,_,z,_⟩=>(hv _ _ _ _ z).elim,λ_ _ _ _ _ _ _ _ _ _ _ _ _ ⟨_,_,_,_,_,_,_,z,_⟩=>(hv _ _ _ _ z).elim⟩,d.m,d.b⟩
def trD:Tr→D
 | .nm w=>.tup [.str "name",.str (mk w)]
 | .nb t b=>.tup [.str "number",.int t,.int b]
 | .pw t k=>.tup [.str "power",trD t,.int k]
 | .bi 0 l r=>.tup [.str "plus",trD l,trD r]
 | .bi 1 l r=>.tup [.str "minus",trD l,trD r]
 | .bi _ l r=>.tup [.str "times",trD l,trD r]
def kS (w:Str):Wd:=if w="(" then .lp else if w=")" then .rp else if w="+" then .pl else if w="-" then .mi else if w="*" then .ti else if w="^" then .ca else .at
def POW:List Str:=["2","3","4","5","6"]
def pvS (w:Str):Option Int:=if w="2" then some 2 else if w="3" then some 3 else if w="4" then some 4 else if w="5" then some 5 else if w="6" then some 6 else none
open Classical in
noncomputable def avS (w:Str):Option Tr:=if zaL w=true then some (.nm (cs w)) else if h:∃t b:Int,zbi (cs w) t b then some (.nb h.choose h.choose_spec.choose) else none
noncomputable abbrev exS (f:Nat):Rd Str:=zd1 kS avS pvS f
noncomputable abbrev inS (f:Nat):Rd Str:=zch kS avS pvS f
def rdF (wm:Nat)(p d:Int):List (Str×D):=[("words",.ref wm),("place",.int p),("depth",.int d)]
structure za9 (C:Addr)(S:Sto)(n wm:Nat)(ws:List Str)(p d:Nat):Prop where
 rd:S[n]?=some (.ins C (rdF wm (p:Int) (d:Int)))
 wd:S[wm]?=some (.lst (ws.map D.str))
 pl:p≤ws.length
 ln:ws.length≤900
 wl:∀w∈ws,w.length≤900
def zaT (n:Nat)(S T:Sto):Prop:=n<T.length∧∀(x:Nat) (o:Ob),x≠n→S[x]?=some o→T[x]?=some o
theorem zaT.refl {n:Nat}{S:Sto}(h:n<S.length):zaT n S S:=⟨h,λ_ _ _ e=>e⟩
theorem zaT.trans {n:Nat}{S T U:Sto}(a:zaT n S T)(b:zaT n T U):zaT n S U:=⟨b.1,λx o ne e=>b.2 x o ne (a.2 x o ne e)⟩
theorem zaT.set {n:Nat}{S T:Sto}(a:zaT n S T)(o:Ob):zaT n S (T.set n o):=⟨by rw[List.length_set]; exact a.1,λx u ne e=>by rw[VaE (Ne.symm ne)]; exact a.2 x u ne e⟩
theorem zaT.app {n:Nat}{S T:Sto}(a:zaT n S T)(U:Sto):zaT n S (T++U):=⟨by rw[Vad]; have:=a.1; omega,λx u ne e=>by
 have z:=a.2 x u ne e
 rw[Van (Vaf.mp z).1]
 exact z⟩
theorem zl0 {C:Addr}{f:Str}{sg:Int→Int→Int}{to te:TDE}{dl:Ev}{S S1 S2:Sto}{E:zbN}{n:Nat}{fs fs2:List (Str×D)}{i j:Int}(hto:∀K:DK,K (.ref n) S1→to dl S K)(h1:S1[n]?=some (.ins C fs))(hf:fs.lookup f=some (.int i))(hte:∀K:DK,K (.int j) S2→te dl S1 K)(h2:S2[n]?=some (.ins C fs2))(hl:fs2.length<1000)(hq:E.nx dl (S2.set n (.ins C (zaP f (.int (sg i j)) fs2)))):zfL C f sg to te E dl S:=by
 unfold zfL
 refine hto _ ?_
 simp only[zb2,h1,if_pos,hf]
 refine hte _ ?_
 simp only[h2,if_pos]
 exact⟨hl,hq⟩
theorem zml (T:Sto)(u v:Ob):(T++[u]).set T.length v=T++[v]:=by simp
theorem za9.ne {C:Addr}{S:Sto}{n wm p d:Nat}{ws:List Str}(h:za9 C S n wm ws p d):wm≠n:=λe=>by
 have a:=h.wd
 rw[e,h.rd] at a
 cases a
theorem za9.lt {C:Addr}{S:Sto}{n wm p d:Nat}{ws:List Str}(h:za9 C S n wm ws p d):n<S.length:=(Vaf.mp h.rd).1
theorem za9.put {C:Addr}{S:Sto}{n wm p d:Nat}{ws:List Str}(h:za9 C S n wm ws p d){p' d':Nat}(pi di:Int)(hp:pi=(p':Int))(hd:di=(d':Int))(l:p'≤ws.length):za9 C (S.set n (.ins C (rdF wm pi di))) n wm ws p' d'∧zaT n S (S.set n (.ins C (rdF wm pi di))):=by
 subst hp
 subst hd
 refine⟨⟨?_,?_,l,h.ln,h.wl⟩,(zaT.refl h.lt).set _⟩
 ·rw[VaN h.lt]
 ·rw[VaE (Ne.symm h.ne)]
  exact h.wd
theorem za9.app {C:Addr}{S:Sto}{n wm p d:Nat}{ws:List Str}(h:za9 C S n wm ws p d)(U:Sto):za9 C (S++U) n wm ws p d∧zaT n S (S++U):=by
 refine⟨⟨?_,?_,h.pl,h.ln,h.wl⟩,(zaT.refl h.lt).app U⟩
 ·rw[Van h.lt]; exact h.rd
 ·rw[Van (Vaf.mp h.wd).1]; exact h.wd
theorem zdj {ws:List Str}{p:Nat}(lp:p<ws.length):atI (ws.map D.str) (p:Int)=some (.str ws[p]):=zex (j:=p) (by rw[Vao,VaL lp]; rfl)
theorem zda (w:Str)(t:Tr)(h:avS w=some t):kS w=.at:=by
 have bad:∀x:Str,zaL x=false→Bad (cs x)→avS x=none:=λx a b=>by
  unfold avS
  rw[if_neg (by rw[a]; decide),dif_neg λ⟨t,q,z⟩=>b t q z]
 have no:∀x:Str,avS x=none→w≠x:=λx e z=>by rw[z,e] at h; cases h
 have b1:avS "("=none:=bad _ (by decide) (zcF (c:=40) (by decide) (by decide))
 have b2:avS ")"=none:=bad _ (by decide) (zcF (c:=41) (by decide) (by decide))
 have b3:avS "+"=none:=bad _ (by decide) (zcF (c:=43) (by decide) (by decide))
 have b4:avS "*"=none:=bad _ (by decide) (zcF (c:=42) (by decide) (by decide))
 have b5:avS "^"=none:=bad _ (by decide) (zcF (c:=94) (by decide) (by decide))
 have b6:avS "-"=none:=bad _ (by decide) (by
  rw[show cs ("-":Str)=[45] by decide]
  exact zfC (by decide) λt _=>zqm t)
 unfold kS
 rw[if_neg (no _ b1),if_neg (no _ b2),if_neg (no _ b3),if_neg (no _ b6),if_neg (no _ b4),if_neg (no _ b5)]
theorem zdN (w:Str)(k:Int)(h:pvS w=some k):kS w=.at:=by
 unfold pvS at h
 by_cases c2:w="2"
 ·rw[c2]; decide
 by_cases c3:w="3"
 ·rw[c3]; decide
 by_cases c4:w="4"
 ·rw[c4]; decide
 by_cases c5:w="5"
 ·rw[c5]; decide
 by_cases c6:w="6"
 ·rw[c6]; decide
 rw[if_neg c2,if_neg c3,if_neg c4,if_neg c5,if_neg c6] at h
 cases h
theorem zui {α:Type}(A r:List α):(A++r).drop ((A++r).length-r.length)=r∧r.length≤(A++r).length:=by
 rw[Vad,Nat.add_sub_cancel]
 exact⟨List.drop_left,by omega⟩
theorem zeo {ex:Rd Str}{l:Nat}(hx:Sou (K:=kS) (av:=avS) (pv:=pvS) ex l){ws:List Str}{p:Nat}{t:Tr}{r:List Str}(h:ex (ws.drop p)=some (t,r)):ws.drop (ws.length-r.length)=r∧r.length≤ws.length:=by
 obtain⟨c,_,_,e,_⟩:=hx _ _ _ h
 have z:ws=(ws.take p++c)++r:=by
  rw[Vaw,← e]
  exact(List.take_append_drop p ws).symm
 have y:=zui (ws.take p++c) r
 rw[← z] at y
 exact y
theorem zlD (f:Nat):Sou (K:=kS) (av:=avS) (pv:=pvS) (exS f) 0:=zpy zda zdN f
theorem zff (f:Nat):Sou (K:=kS) (av:=avS) (pv:=pvS) (inS f) 0:=by
 cases f with
 | zero=>exact λ_ _ _ e=>by cases e
 | succ f=>exact zlD f
theorem zos (w:Str):kS w=.lp↔w="(":=by
 unfold kS
 constructor
 ·intro h
  (repeat' split at h) <;> first | assumption | cases h
 ·rintro rfl
  decide
theorem zpf (w:Str):kS w=.rp↔w=")":=by
 unfold kS
 constructor
 ·intro h
  (repeat' split at h) <;> first | assumption | cases h
 ·rintro rfl
  decide
theorem zl8 (w:Str):kS w=.ti↔w="*":=by
 unfold kS
 constructor
 ·intro h
  (repeat' split at h) <;> first | assumption | cases h
 ·rintro rfl
  decide
theorem zmU (w:Str):kS w=.ca↔w="^":=by
 unfold kS
 constructor
 ·intro h
  (repeat' split at h) <;> first | assumption | cases h
 ·rintro rfl
  decide
theorem zoB (w:Str):kS w=.pl↔w="+":=by
 unfold kS
 constructor
 ·intro h
  (repeat' split at h) <;> first | assumption | cases h
 ·rintro rfl
  decide
theorem znu (w:Str):kS w=.mi↔w="-":=by
 unfold kS
 constructor
 ·intro h
  (repeat' split at h) <;> first | assumption | cases h
 ·rintro rfl
  decide
theorem txNe {a b:Str}{S:Sto}{Q:DK}(h:Q (.bl (!decide (a=b))) S):wNe eq2 (.str a) (.str b) S Q:=h
theorem txEq {a b:Str}{S:Sto}{Q:DK}(h:Q (.bl (decide (a=b))) S):wEq eq2 (.str a) (.str b) S Q:=h
noncomputable def brS (f:Nat)(r:List Str):Option (Tr×List Str):=match inS f r with
 | some (t,w2::r2)=>if kS w2=Wd.rp then some (t,r2) else none
 | _=>none
theorem zwl {f:Nat}{w:Str}{r:List Str}(h:w="("):zbG kS avS (inS f) (w::r)=brS f r:=by
 show (if kS w=.lp then _ else _)=_
 rw[if_pos ((zos w).mpr h)]
 unfold brS
 cases inS f r with
 | none=>rfl
 | some x=>
  obtain⟨t,l⟩:=x
  cases l <;> rfl
theorem zuG {f:Nat}{w:Str}{r:List Str}(h:w≠"("):zbG kS avS (inS f) (w::r)=(avS w).map λt=>(t,r):=by
 show (if kS w=.lp then _ else _)=_
 rw[if_neg λz=>h ((zos w).mp z)]
theorem zgW {w:Str}(h:zaL w=true):avS w=some (.nm (cs w)):=by
 unfold avS
 rw[if_pos h]
theorem zm8 {w:Str}(h:zaL w=false){t b:Int}(hn:zbi (cs w) t b):avS w=some (.nb t b):=by
 unfold avS
 have z:∃t b:Int,zbi (cs w) t b:=⟨t,b,hn⟩
 rw[if_neg (by rw[h]; decide),dif_pos z]
 obtain⟨e1,e2⟩:=zbi.one z.choose_spec.choose_spec hn
 exact congrArg some (by rw[Tr.nb.injEq]; exact⟨e1,e2⟩)
theorem zpB {w:Str}(h:zaL w=false)(hn:Bad (cs w)):avS w=none:=by
 unfold avS
 rw[if_neg (by rw[h]; decide),dif_neg λ⟨t,b,z⟩=>hn t b z]
theorem zwh {i:Nat}{a b:Str}{t u v:TDS}{E:zbN}{dl:Ev}{S:Sto}(hv:dl[i]?=some (some (.str a)))(h1:a=b→zaW t v E dl S)(h2:a≠b→zaW u v E dl S):zaW (dIf (zcG (dOp (wEq eq2) (zbB i) (dC (.str b)))) t u) v E dl S:=by
 unfold zaW dIf zcG dOp zbB dC
 rw[hv]
 dsimp only
 refine txEq ?_
 by_cases c:a=b
 ·rw[decide_eq_true c]
  exact h1 c
 ·rw[decide_eq_false c]
  exact h2 c
section
variable {ex:Rd Str}{ws r:List Str}{t:Tr}{w p:Str}
theorem zrC (h:zbG kS avS ex ws=none):za4 kS avS pvS ex ws=none:=by simp[za4,h]
theorem zq6 (h:zbG kS avS ex ws=some (t,[])):za4 kS avS pvS ex ws=some (t,[]):=by simp[za4,h]
theorem zsX (h:zbG kS avS ex ws=some (t,w::r))(c:w≠"^"):za4 kS avS pvS ex ws=some (t,w::r):=by simp[za4,h,zmU,c]
theorem zt1 (h:zbG kS avS ex ws=some (t,[w]))(c:w="^"):za4 kS avS pvS ex ws=none:=by simp[za4,h,zmU,c]
theorem zrj (h:zbG kS avS ex ws=some (t,w::p::r))(c:w="^"):za4 kS avS pvS ex ws=(pvS p).map λk=>(.pw t k,r):=by simp[za4,h,zmU,c]
end
theorem zqv (p:Str):(POW.any λx=>x==p)=(pvS p).isSome:=by
 unfold pvS POW
 by_cases c2:p="2"
 ·rw[c2]; decide
 by_cases c3:p="3"
 ·rw[c3]; decide
 by_cases c4:p="4"
 ·rw[c4]; decide
 by_cases c5:p="5"
 ·rw[c5]; decide
 by_cases c6:p="6"
 ·rw[c6]; decide
 rw[if_neg c2,if_neg c3,if_neg c4,if_neg c5,if_neg c6]
 simp[Ne.symm c2,Ne.symm c3,Ne.symm c4,Ne.symm c5,Ne.symm c6]
theorem ztb {p:Str}{k:Int}(h:pvS p=some k):PySem.intText? p=some k∧p.length≤640:=by
 unfold pvS at h
 by_cases c2:p="2"
 ·rw[if_pos c2] at h; cases h; rw[c2]; exact⟨by decide +kernel,by decide⟩
 rw[if_neg c2] at h
 by_cases c3:p="3"
 ·rw[if_pos c3] at h; cases h; rw[c3]; exact⟨by decide +kernel,by decide⟩
 rw[if_neg c3] at h
 by_cases c4:p="4"
 ·rw[if_pos c4] at h; cases h; rw[c4]; exact⟨by decide +kernel,by decide⟩
 rw[if_neg c4] at h
 by_cases c5:p="5"
 ·rw[if_pos c5] at h; cases h; rw[c5]; exact⟨by decide +kernel,by decide⟩
 rw[if_neg c5] at h
 by_cases c6:p="6"
 ·rw[if_pos c6] at h; cases h; rw[c6]; exact⟨by decide +kernel,by decide⟩
 rw[if_neg c6] at h
 cases h
theorem zl6 {ws r:List Str}{w:Str}(h:ws.drop (ws.length-(r.length+1))=w::r)(l:r.length+1≤ws.length):ws.drop (ws.length-r.length)=r:=by
 have z:=congrArg List.tail h
 rw[List.tail_drop] at z
 rw[show ws.length-r.length=ws.length-(r.length+1)+1 by omega]
 exact z
section
variable {ex:Rd Str}{ws r r2:List Str}{t t2:Tr}{w p:Str}{n k:Nat}
theorem ztr (h:za4 kS avS pvS ex ws=none):zbl kS avS pvS ex ws=none:=by simp[zbl,h]
theorem zw4 (h:za4 kS avS pvS ex ws=some (t,r)):zbl kS avS pvS ex ws=zbK kS avS pvS ex ws.length t r:=by simp[zbl,h]
theorem zwv (c:w="*")(h:za4 kS avS pvS ex r=none):zbK kS avS pvS ex (n+1) t (w::r)=none:=by simp[zbK,zl8,c,h]
theorem zsP (c:w="*")(h:za4 kS avS pvS ex r=some (t2,r2)):zbK kS avS pvS ex (n+1) t (w::r)=zbK kS avS pvS ex n (.bi 2 t t2) r2:=by simp[zbK,zl8,c,h]
theorem zuj (h:zbl kS avS pvS ex ws=none):zb6 kS avS pvS ex ws=none:=by simp[zb6,h]
theorem ztY (h:zbl kS avS pvS ex ws=some (t,r)):zb6 kS avS pvS ex ws=zbW kS avS pvS ex ws.length t r:=by simp[zb6,h]
theorem zoa (c:zdg (kS w)=some k)(h:zbl kS avS pvS ex r=none):zbW kS avS pvS ex (n+1) t (w::r)=none:=by simp[zbW,c,h]
theorem znC (c:zdg (kS w)=some k)(h:zbl kS avS pvS ex r=some (t2,r2)):zbW kS avS pvS ex (n+1) t (w::r)=zbW kS avS pvS ex n (.bi k t t2) r2:=by simp[zbW,c,h]
end
theorem zig {f:Nat}{ws:List Str}{t:Tr}{r:List Str}(h:inS f ws=some (t,r)):r.length<ws.length:=by
 cases f with
 | zero=>cases h
 | succ f=>exact zme f h
theorem zl1 {kvs:List (Str×Str)}{te:TDE}{dl:Ev}{S:Sto}{Q:DK}(h:te dl S λd S1=>match d with | .str k=>(match kvs.lookup k with | some v=>Q (.str v) S1 | none=>False) | _=>False):zix kvs te dl S Q:=by
 unfold zix
 exact h
theorem zwj {w:Str}(h1:w≠"+")(h2:w≠"-"):zdg (kS w)=none:=by
 cases e:kS w with
 | pl=>exact absurd ((zoB w).mp e) h1
 | mi=>exact absurd ((znu w).mp e) h2
 | _=>rfl
noncomputable def trS (ws:List Str):Option Tr:=if 120<ws.length then none else match exS 16 ws with
 | some (t,[])=>some t
 | _=>none
theorem zse {ws:List Str}(l:¬ 120<ws.length)(e:exS 16 ws=none):trS ws=none:=by unfold trS; rw[if_neg l,e]
theorem zpk {ws:List Str}{t:Tr}(l:¬ 120<ws.length)(e:exS 16 ws=some (t,[])):trS ws=some t:=by unfold trS; rw[if_neg l,e]
theorem zvD {ws:List Str}{t:Tr}{w:Str}{r:List Str}(l:¬ 120<ws.length)(e:exS 16 ws=some (t,w::r)):trS ws=none:=by unfold trS; rw[if_neg l,e]
abbrev exP (l k:Nat)(ws:List Str)(t:Tr):Prop:=Ex kS avS pvS l k ws t
structure Pc (S:Sto)(d:D)(t:Tr)(m:Nat)(ws:List Str)(l k:Nat):Prop where
 eq:d=.tup [trD t,.ref m,.int (l:Int),.int (k:Int)]
 at_:S[m]?=some (.lst (ws.map D.str))
 ex:exP l k ws t
 ln:ws.length≤400
 wl:∀w∈ws,w.length≤600
theorem Pc.pre {S T:Sto}{d:D}{t:Tr}{m:Nat}{ws:List Str}{l k:Nat}(h:Pc S d t m ws l k)(p:Pre S T):Pc T d t m ws l k:=⟨h.eq,p _ _ h.at_,h.ex,h.ln,h.wl⟩
theorem zaA {S T:Sto}(p:Pre S T)(U:Sto):Pre S (T++U):=λx o e=>zaw (p x o e)
theorem zm2 {v:Int}(h:2≤v∧v≤6):pvS (mk (num v))=some v∧(mk (num v)).length≤600:=by
 have c:v=2∨v=3∨v=4∨v=5∨v=6:=by omega
 rcases c with rfl | rfl | rfl | rfl | rfl <;> exact⟨by decide +kernel,by decide +kernel⟩
theorem zno {v:Int}(h:2≤v∧v≤6):v.natAbs.log2<1920:=by
 have c:v=2∨v=3∨v=4∨v=5∨v=6:=by omega
 rcases c with rfl | rfl | rfl | rfl | rfl <;> decide +kernel
def Tr.dp:Tr→Nat
 | .nm _=>0
 | .nb _ _=>0
 | .pw t _=>t.dp+1
 | .bi _ l r=>max l.dp r.dp+1
def NOAT:List Str:=["grid","let","in","islands","abcdefghi","1234567890","2/4","-0","007","1/1","1/1234567890","x2","X","","0/3","--1"]
theorem zwA (w:Str)(h:w∈NOAT):avS w=none∧kS w=.at∧w.length≤20:=by
 have one:∀x:Str,zaL x=false→Bad (cs x)→kS x=.at→x.length≤20→w=x→avS w=none∧kS w=.at∧w.length≤20:=λx a b c d e=>by
  subst e
  exact⟨zpB a b,c,d⟩
 unfold NOAT at h
 simp only[Vab,Vag,or_false] at h
 rcases h with h | h | h | h | h | h | h | h | h | h | h | h | h | h | h | h
 ·exact one _ (by decide) (zcF (c:=103) (by decide) (by decide)) (by decide) (by decide) h
 ·exact one _ (by decide) (zcF (c:=108) (by decide) (by decide)) (by decide) (by decide) h
 ·exact one _ (by decide) (zcF (c:=105) (by decide) (by decide)) (by decide) (by decide) h
 ·exact one _ (by decide) (zcF (c:=105) (by decide) (by decide)) (by decide) (by decide) h
 ·exact one _ (by decide) (zcF (c:=97) (by decide) (by decide)) (by decide) (by decide) h
 ·refine one _ (by decide) ?_ (by decide) (by decide) h
  refine zfC (by decide) λt ht e=>?_
  have hl:=congrArg List.length e
  rw[show (cs ("1234567890":Str)).length=10 by decide] at hl
  by_cases c:t<0
  ·rw[zlG c] at e
   rw[show cs ("1234567890":Str)=49::[50,51,52,53,54,55,56,57,48] by decide] at e
   cases e
  ·rw[zes (by omega)] at hl
   have:=zeQ (m:=t.natAbs) (k:=9) (by decide) ht
   omega
 ·refine one _ (by decide) ?_ (by decide) (by decide) h
  rw[show cs ("2/4":Str)=num (1*2)++47::num (2*2) by decide +kernel]
  exact zoU (by decide) (by decide)
 ·refine one _ (by decide) ?_ (by decide) (by decide) h
  exact zfC (by decide) λt _=>zsc [] t
 ·refine one _ (by decide) ?_ (by decide) (by decide) h
  exact zfC (by decide) λt _=>zuN (r:=[48,55]) (by decide) t
 ·refine one _ (by decide) ?_ (by decide) (by decide) h
  rw[show cs ("1/1":Str)=[49]++47::[49] by decide]
  refine zsD (by decide) λb hb e=>?_
  have z:b=1:=zep (e.trans (show ([49]:List Nat)=num 1 by decide +kernel))
  omega
 ·refine one _ (by decide) ?_ (by decide) (by decide) h
  rw[show cs ("1/1234567890":Str)=[49]++47::num 1234567890 by decide +kernel]
  intro t b n
  obtain⟨_,e,_⟩:=n.split (by decide)
  have z:=zep e
  have y:=n.bot
  omega
 ·exact one _ (by decide) (zcF (c:=120) (by decide) (by decide)) (by decide) (by decide) h
 ·exact one _ (by decide) (zcF (c:=88) (by decide) (by decide)) (by decide) (by decide) h
 ·refine one _ (by decide) ?_ (by decide) (by decide) h
  exact zfC (by decide) λt _=>ztC t
 ·refine one _ (by decide) ?_ (by decide) (by decide) h
  rw[show cs ("0/3":Str)=num (0*3)++47::num (1*3) by decide +kernel]
  exact zoU (by decide) (by decide)
 ·refine one _ (by decide) ?_ (by decide) (by decide) h
  exact zfC (by decide) λt _=>zrD [49] t
theorem zg0 {w:Str}(h:zaL w=true):exP 3 0 [w] (.nm (cs w)):=Ex.atom (zda _ _ (zgW h)) (zgW h)
theorem zhH {l k:Nat}{c:List Str}{t:Tr}(h:exP l k c t)(hk:k≤16)(hl:c.length≤120):trS c=some t:=zpk (by omega) (zti h hk)
theorem znU {is:List Nat}{ta:TDA}{tb:TDS}{E:zbN}{dl:Ev}{S S1:Sto}{n:Nat}{xs:List D}(W:Nat→Ev→Sto→Prop)(hta:∀K:List D→Sto→Prop,K [.ref n] S1→ta dl S K)(hk:∀k dl' S',W k dl' S'→S'[n]?=some (.lst xs))(h0:W 0 dl S1)
  (hb:∀(k:Nat) (x:D) (dl':Ev) (S':Sto) (nx ct:Ev→Sto→Prop),xs[k]?=some x→W k dl' S'→(∀dl2 S2,W (k+1) dl2 S2→nx dl2 S2)→tb { nx:=nx,rt:=E.rt,bk:=E.nx,ct:=ct } (zhJ is [.int (k:Int),x] dl') S')(he:∀dl' S',W xs.length dl' S'→E.nx dl' S'):zkJ is ta tb E dl S:=by
 unfold zkJ
 refine hta _ ⟨by rw[zbr (hk _ _ _ h0) rfl]; rfl,λk m dl' S'=>W k dl' S'∧k+m=xs.length,⟨xs.length,h0,by omega⟩,?_⟩
 rintro k m dl' S' ⟨w,hm⟩
 rw[zbr (hk _ _ _ w) rfl]
 dsimp only[zax]
 split
 ·rename_i x e1
  have l1:=(Vaf.mp e1).1
  exact hb k x dl' S' _ _ e1 w (λdl2 S2 w2=>⟨m-1,by omega,w2,by omega⟩)
 ·rename_i e1
  have l1:=List.getElem?_eq_none_iff.mp e1
  have ek:k=xs.length:=by omega
  exact⟨ek,he _ _ (ek ▸ w)⟩
theorem zc5 {a b:TDS}{E:zbN}{dl:Ev}{S:Sto}(W:Ev→Sto→Prop)(ha:∀nx:Ev→Sto→Prop,(∀dl' S',W dl' S'→nx dl' S')→a { nx:=nx,rt:=E.rt,bk:=E.bk,ct:=E.ct } dl S)(hb:∀dl' S',W dl' S'→b E dl' S'):zaW a b E dl S:=ha _ hb
theorem zp7 {a b c d:TDS}{E:zbN}{dl:Ev}{S:Sto}(W:Ev→Sto→Prop)(ha:∀nx:Ev→Sto→Prop,(∀dl' S',W dl' S'→nx dl' S')→zaW a (zaW b c) { nx:=nx,rt:=E.rt,bk:=E.bk,ct:=E.ct } dl S)(hb:∀dl' S',W dl' S'→d E dl' S'):zaW a (zaW b (zaW c d)) E dl S:=ha _ hb
theorem zpd (xs:List D)(c:Nat):zbH xs none (some (c:Int))=xs.take c:=by
 unfold L3.zbH
 rw[HT.sIx_nat,HT.sIx_none,List.drop_zero,Nat.sub_zero]
 by_cases h:c≤xs.length
 ·rw[Nat.min_eq_left h]
 ·rw[Nat.min_eq_right (by omega),List.take_of_length_le (Nat.le_of_eq rfl),List.take_of_length_le (by omega)]
theorem zqJ (xs:List D)(c:Nat):zbH xs (some (c:Int)) none=xs.drop c:=by
 unfold L3.zbH
 rw[HT.sIx_nat,HT.sIx_none]
 by_cases h:c≤xs.length
 ·rw[Nat.min_eq_left h]
  exact List.take_of_length_le (by rw[List.length_drop]; exact Vaa _)
 ·rw[VaV (by omega),VaV (by omega)]
  simp
theorem cw_to (ws:List Str)(a:Nat):zbH (ws.map D.str) none (some (a:Int))=(ws.take a).map D.str:=by rw[zpd,List.map_take]
theorem zl3 (ws:List Str)(a:Nat):zbH (ws.map D.str) (some (a:Int)) none=(ws.drop a).map D.str:=by rw[zqJ,List.map_drop]
theorem zuA (ws:List Str)(a:Nat):zbH (ws.map D.str) (some ((a:Int)+1)) none=(ws.drop (a+1)).map D.str:=zl3 ws (a+1)
theorem zsV {c:Nat}(h:c=45∨48≤c∧c≤57):c ∉ LET.cps.toList:=by
 have e:LET.cps.toList=[97,98,99,100,101,102,103,104,105,106,107,108,109,110,111,112,113,114,115,116,117,118,119,120,121,122]:=by decide
 rw[e]
 simp only[Vab,Vag,or_false]
 omega
theorem zxp (t:Int)(r:List Nat):zaL (mk (num t++r))=false:=by
 cases e:num t with
 | nil=>exact absurd e (zmW t)
 | cons c l=>
  have z:=zfy (i:=t) (c:=c) (by rw[e]; exact Vau ..)
  exact zs5 (c:=c) (by show c∈cs (mk (c::l++r)); rw[zbv]; simp) (zsV z)
theorem zqO {t b:Int}(h:zbi (za5 t b) t b):exP 3 0 [mk (za5 t b)] (.nb t b):=by
 have z:avS (mk (za5 t b))=some (.nb t b):=zm8 (zxp t _) (by rw[zbv]; exact h)
 exact Ex.atom (zda _ _ z) z
theorem zqg {t:Int}(h:t.natAbs<10^9):zbi (za5 t 1) t 1:=⟨by decide,Int.gcd_one_right t,h,by decide,rfl⟩
theorem zv2 {b q:Int}(hb:2≤b)(hb2:b≤998)(hq:-1000≤q∧q≤1000):zbi (za5 (b*q+1) b) (b*q+1) b:=by
 have b1:b*q≤998*1000:=by
  have:=Int.mul_le_mul_of_nonneg_left hq.2 (show 0≤b by omega)
  omega
 have b2:-(998*1000)≤b*q:=by
  have:=Int.mul_le_mul_of_nonneg_left hq.1 (show 0≤b by omega)
  omega
 refine⟨by omega,?_,by omega,by omega,rfl⟩
 have z:((Int.gcd (b*q+1) b:Nat):Int) ∣ 1:=by
  have d1:((Int.gcd (b*q+1) b:Nat):Int) ∣ b*q+1:=Int.gcd_dvd_left ..
  have d2:((Int.gcd (b*q+1) b:Nat):Int) ∣ b:=Int.gcd_dvd_right ..
  have d3:=Int.dvd_sub d1 (Int.dvd_mul_of_dvd_left (c:=q) d2)
  rw[show b*q+1-b*q=1 by omega] at d3
  exact d3
 have y:Int.gcd (b*q+1) b ∣ 1:=by
  have:=Int.natAbs_dvd_natAbs.mpr z
  rw[Int.natAbs_natCast] at this
  exact this
 exact Nat.dvd_one.mp y
structure PDq (X:Cx)(Z:Zx)(e:Expr)(t:TDE):Prop where
 h:PD X Z e t
structure zkB (X:Cx)(Z:Zx)(es:List Expr)(t:TDA):Prop where
 h:PDA X Z es t
structure PDSq (X:Cx)(Z:Zx)(st:Stmt)(t:TDS):Prop where
 h:PDS X Z st t
structure zjt (X:Cx)(Z:Zx)(st:List Stmt)(t:TDS):Prop where
 h:zcz X Z st t
section
variable {X:Cx}{Z:Zx}{pos:Pos}
theorem zgz:zkB X Z [] zbY:=⟨zae⟩
theorem zcD {e:Expr}{es:List Expr}{te:TDE}{t:TDA}(ha:PDq X Z e te)(hr:zkB X Z es t)(hs:starEach (e::es) X.env=(false,eval e X.env)::starEach es X.env:=by rfl):zkB X Z (e::es) (zb0 te t):=⟨zaa ha.h hr.h hs⟩
theorem zeg {x:Str}{j:Nat}:PDq X Z (.Constant (.str x) j pos) (dC (.str x)):=⟨zai⟩
theorem zib {es:List Expr}{t:TDA}(h:zkB X Z es t):PDq X Z (.List es pos) (zj9 t):=⟨zaX h.h⟩
theorem zbJ {st:Stmt}{zbc:List Stmt}{t u:TDS}(h1:PDSq X Z st t)(h2:zjt X Z zbc u):zjt X Z (st::zbc) (zaW t u):=⟨zah h1.h h2.h⟩
theorem zqk {st:Stmt}{t:TDS}(h1:PDSq X Z st t):zjt X Z [st] t:=⟨zag h1.h⟩
theorem ztF {a b:Expr}{ta tb:TDE}(ha:PDq X Z a ta)(hb:PDq X Z b tb)(hs:zjg b):PDq X Z (.Subscript a b pos) (dOp (zbP wIx) ta tb):=⟨zaU ha.h hb.h hs⟩
theorem zuP {e:Expr}{te:TDE}{i:Nat}{x:Str}{pos':Pos}(hN:X.N.Nodup)(hi:X.N[i]?=some x)(hx:Loc X.env.scope x)(he:PDq X Z e te)(hs:swapsWith e (some (.Name x pos')) pos.line X.env=pure false:=by rfl)
  (hf:X.fn x=true∨X.env.scope.names.lookup x=some .local:=by first | exact .inl rfl | exact .inr rfl | assumption):PDSq X Z (.Assign [.Name x pos'] e pos) (zfe i te):=⟨zap hN hi hx he.h hs hf⟩
end
theorem zuc {P:Program}{w:World}{K:PySem.W.Frag}{mg:Str→Option Value}{base:Heap}{x qual:Str}{st:Stmt}{f:Addr}{fd:FuncData}{N ps:List Str}{k:Nat}{sd:Sd}(F:Fun K x qual st f fd)(Sc:zaB N ps (zau st))(len:∀ds S Q ex,sd ds S Q ex→ds.length=ps.length)
  (hbody:∀(cdv:Value) (A:Around) (outer:List Env) (s:Shared) (H:Hp) (E:XK),zaC k (A.deeper (envOfC qual (zau st) s.heap.objs.size f cdv))→
   ∃t,zjt (zbj (CXE P w) P w K mg base N qual (zau st) f cdv A outer s H E).nox Z0 (zcW st) t∧∀ds S Q ex,sd ds S Q ex→t { nx:=λ_ S'=>Q .non S',rt:=Q } (zc7 N ds) S):zaV P w K mg base (CXE P w) (k+1) f fd ps (upF K sd):=
 zaO F Sc len λcdv A outer s H E hr=>by
  obtain⟨t,h1,h2⟩:=hbody cdv A outer s H E hr
  exact⟨t,h1.h,h2⟩
section
variable {X:Cx}{Z:Zx}{pos:Pos}
end
inductive Nd where
 | number (t b:Int) | unknown (k:Int) | power (i n:Int) | two (x:Str) (i j:Int)
def Nd.d:Nd→D
 | .number t b=>.tup [.str "number",.int t,.int b]
 | .unknown k=>.tup [.str "unknown",.int k]
 | .power i n=>.tup [.str "power",.int i,.int n]
 | .two x i j=>.tup [.str x,.int i,.int j]
def inL (hs:List Int)(i:Int):Prop:=0≤i∧i<hs.length
def Nd.ok (hs:List Int):Nd→Prop
 | .number _ _=>True
 | .unknown _=>True
 | .power i n=>inL hs i∧2≤n∧n≤6
 | .two x i j=>(x="plus"∨x="minus"∨x="times")∧inL hs i∧inL hs j
def Nd.w (hs:List Int):Nd→Int
 | .number _ _=>1
 | .unknown _=>1
 | .power i n=>n*hs.getD i.toNat 0
 | .two _ i j=>hs.getD i.toNat 0+hs.getD j.toNat 0
def small (hs:List Int):Prop:=∀x∈hs,1≤x∧x≤16
def zbD (a b c:Nat):List (Str×D):=[("kept",.ref a),("weights",.ref b),("numbers",.ref c)]
theorem zrr {ty td:TDE}{dl:Ev}{S:Sto}{Q:DK}{n:Nat}{kvs:List (List Key×D)}{y:D}{k:List Key}(hy:∀K:DK,K y S→ty dl S K)(hd:∀K:DK,K (.ref n) S→td dl S K)(h:S[n]?=some (.dct kvs))(hk:zd8 y=some k)(hq:Q (.bl (zbs kvs k).isSome) S):zg5 ty td dl S Q:=by
 unfold zg5
 refine hy _ (hd _ ?_)
 simp only[atD,zeS,h,hk]
 exact hq
theorem zuV {ty td:TDE}{dl:Ev}{S:Sto}{Q:DK}{n:Nat}{kvs:List (List Key×D)}{y v:D}{k:List Key}(hd:∀K:DK,K (.ref n) S→td dl S K)(hy:∀K:DK,K y S→ty dl S K)(h:S[n]?=some (.dct kvs))(hk:zd8 y=some k)(hv:zbs kvs k=some v)(hq:Q v S):zjF td ty dl S Q:=by
 unfold zjF
 refine hd _ (hy _ ?_)
 simp only[atD,zeS,h,hk,hv]
 exact hq
theorem zs2 {ty td tv:TDE}{dl:Ev}{S:Sto}{E:zbN}{n:Nat}{kvs:List (List Key×D)}{y v:D}{k:List Key}(hv:∀K:DK,K v S→tv dl S K)(hd:∀K:DK,K (.ref n) S→td dl S K)(hy:∀K:DK,K y S→ty dl S K)(h:S[n]?=some (.dct kvs))(hk:zd8 y=some k)(hl:kvs.length<1000)(hq:E.nx dl (S.set n (.dct (zcd kvs k v)))):ziB td ty tv E dl S:=by
 unfold ziB
 refine hv _ (hd _ (hy _ ?_))
 simp only[zeS,h,hk]
 exact⟨hl,hq⟩
def kD:Key→D
 | .inl i=>.int i
 | .inr x=>.str x
def Nd.k:Nd→List Key
 | .number t b=>[.inr "number",.inl t,.inl b]
 | .unknown k=>[.inr "unknown",.inl k]
 | .power i n=>[.inr "power",.inl i,.inl n]
 | .two x i j=>[.inr x,.inl i,.inl j]
theorem Nd.dk (v:Nd):v.d=.tup (v.k.map kD):=by cases v <;> rfl
theorem Nd.key (v:Nd):zd8 v.d=some v.k:=by cases v <;> rfl
def zct (m:Nat):List Nd→List (List Key×D)
 | []=>[]
 | v::vs=>(v.k,.int (m:Nat))::zct (m+1) vs
def idx (v:Nd):List Nd→Option Nat
 | []=>none
 | u::us=>if u.k=v.k then some 0 else (idx v us).map (·+1)
theorem ziM (v:Nd):∀(m:Nat) (ns:List Nd),zbs (zct m ns) v.k=(idx v ns).map λj=>D.int ((m+j:Nat):Int)
 | m,[]=>rfl
 | m,u::us=>by
  unfold zct idx zbs
  rw[VaH]
  by_cases e:u.k=v.k
  ·simp[e]
  ·have z:=ziM v (m+1) us
   unfold zbs at z
   simp only[e,decide_false,if_false]
   rw[z,Option.map_map]
   congr 1
   funext j
   show D.int ((m+1+j:Nat):Int)=D.int ((m+(j+1):Nat):Int)
   rw[show m+1+j=m+(j+1) by omega]
theorem zpU (v:Nd):∀(m:Nat) (ns:List Nd),zct m ns++[(v.k,.int ((m+ns.length:Nat):Int))]=zct m (ns++[v])
 | m,[]=>rfl
 | m,u::us=>by
  have z:=zpU v (m+1) us
  show (u.k,D.int (m:Nat))::(zct (m+1) us++_)=(u.k,D.int (m:Nat))::zct (m+1) (us++[v])
  rw[← z]
  rw[show m+(u::us).length=m+1+us.length by simp; omega]
theorem zrd (m:Nat)(ns:List Nd):(zct m ns).length=ns.length:=by
 induction ns generalizing m with
 | nil=>rfl
 | cons u us ih=>show (zct (m+1) us).length+1=us.length+1; rw[ih]
theorem zsr {kvs:List (List Key×D)}{k:List Key}(h:zbs kvs k=none):(kvs.any λkv=>decide (kv.1=k))=false:=by
 unfold zbs at h
 rw[Option.map_eq_none_iff,List.find?_eq_none] at h
 rw[List.any_eq_false]
 exact h
structure zba (C:Addr)(S:Sto)(n a b c:Nat)(ns:List Nd)(hs:List Int):Prop where
 net:S[n]?=some (.ins C (zbD a b c))
 kept:S[a]?=some (.lst (ns.map Nd.d))
 weights:S[b]?=some (.lst (hs.map D.int))
 numbers:S[c]?=some (.dct (zct 0 ns))
 ne:a≠b
 len:ns.length=hs.length
def zgx (S:Sto)(a b c:Nat)(ns:List Nd)(hs:List Int)(v:Nd):Sto:=((S.set a (.lst (ns.map Nd.d++[v.d]))).set b (.lst (hs.map D.int++[.int (v.w hs)]))).set c (.dct (zct 0 (ns++[v])))
theorem zmJ (a b c:Nat):(zbD a b c).lookup ("kept":Str)=some (D.ref a):=rfl
theorem zqf (a b c:Nat):(zbD a b c).lookup ("weights":Str)=some (D.ref b):=rfl
theorem zm9 (a b c:Nat):(zbD a b c).lookup ("numbers":Str)=some (D.ref c):=rfl
theorem zlW {hs:List Int}{i:Int}(h:inL hs i):atI (hs.map D.int) i=some (.int (hs.getD i.toNat 0)):=by
 obtain⟨h0,h1⟩:=h
 have hk:i.toNat<hs.length:=by omega
 have z:=zex (xs:=hs.map D.int) (j:=i.toNat) (v:=.int (hs.getD i.toNat 0)) (by rw[Vao,VaL hk]; simp[hk])
 rw[show ((i.toNat:Nat):Int)=i by omega] at z
 exact z
theorem zkg {hs:List Int}{i:Int}(s:small hs)(h:inL hs i):1≤hs.getD i.toNat 0∧hs.getD i.toNat 0≤16:=by
 obtain⟨h0,h1⟩:=h
 have hk:i.toNat<hs.length:=by omega
 have e:hs.getD i.toNat 0=hs[i.toNat]:=by simp[hk]
 rw[e]
 exact s _ (VaU hk)
theorem zsl {dl:Ev}{S:Sto}{Q:DK}{T:Sto}{m:Nat}(e:T=S++[.dct []])(em:m=S.length)(h:Q (.ref m) T):zon dl S Q:=by
 subst e em
 exact h
theorem zba.app {C:Addr}{S:Sto}{n a b c:Nat}{ns:List Nd}{hs:List Int}(N:zba C S n a b c ns hs)(T:Sto):zba C (S++T) n a b c ns hs:=
 ⟨zaw N.net,zaw N.kept,zaw N.weights,zaw N.numbers,N.ne,N.len⟩
theorem ztp (a b:Key):eqF (kD a) (kD b)=some (decide (a=b)):=by
 cases a with
 | inl i=>
  cases b with
  | inl j=>simp[kD,eqF]
  | inr y=>simp[kD,eqF]
 | inr x=>
  cases b with
  | inl j=>simp[kD,eqF]
  | inr y=>simp[kD,eqF]
theorem zpw:∀a b:List Key,eqL eqF (a.map kD) (b.map kD)=some (decide (a=b))
 | [],[]=>rfl
 | [],_::_=>rfl
 | _::_,[]=>rfl
 | x::xs,y::ys=>by
  show (match eqF (kD x) (kD y),eqL eqF (xs.map kD) (ys.map kD) with | some b,some c=>some (b&&c) | _,_=>none)=_
  rw[ztp,zpw]
  simp[Bool.decide_and]
theorem znA (u v:Nd):eqN 1 u.d v.d=some (decide (u.k=v.k)):=by
 rw[Nd.dk,Nd.dk]
 exact zpw _ _
theorem znH (v:Nd):∀ns:List Nd,zb9 (eqN 1) (ns.map Nd.d) v.d=some (idx v ns).isSome
 | []=>rfl
 | u::us=>by
  show (match eqN 1 u.d v.d,zb9 (eqN 1) (us.map Nd.d) v.d with | some b,some c=>some (b||c) | _,_=>none)=_
  rw[znA,znH v us]
  show _=some (if u.k=v.k then some 0 else (idx v us).map (·+1)).isSome
  by_cases e:u.k=v.k
  ·simp[e]
  ·simp[e]
theorem zrq {v:Nd}{ns:List Nd}{n:Nat}{S:Sto}{Q:DK}(h:S[n]?=some (.lst (ns.map Nd.d)))(hq:Q (.bl (idx v ns).isSome) S):zbP (wIn 1 false) v.d (.ref n) S Q:=by
 rw[zb8]
 unfold wIn
 simp only[zbr h rfl,zax,znH]
 exact hq
theorem zmk:∀ns:List Nd,eqL (eqN 1) (ns.map Nd.d) (ns.map Nd.d)=some true
 | []=>rfl
 | u::us=>by
  show (match eqN 1 u.d u.d,eqL (eqN 1) (us.map Nd.d) (us.map Nd.d) with | some b,some c=>some (b&&c) | _,_=>none)=_
  rw[znA,zmk us]
  simp
def Lw (C:Addr)(sc:List Int)(T:Sto):Prop:=∃(vs:List Nd) (hs:List Int),zba C T 1 2 3 4 vs hs∧T[9]?=some (.lst (vs.map Nd.d))∧T[10]?=some (.lst (hs.map D.int))∧small hs∧vs.length≤60∧T[0]?=some (.frz (sc.map D.int))∧T[5]?=some (.ins C (zbD 6 7 8))∧T[6]?=some (.lst [])∧11≤T.length
theorem Lw.app {C:Addr}{sc:List Int}{T:Sto}(L:Lw C sc T)(R:Sto):Lw C sc (T++R):=by
 obtain⟨vs,hs,N,a1,a2,a3,a4,a5,a6,a7,a8⟩:=L
 exact⟨vs,hs,N.app R,zaw a1,zaw a2,a3,a4,zaw a5,zaw a6,zaw a7,by simp; omega⟩
section
variable {X:Cx}{Z:Zx}{pos:Pos}
theorem zne:∀l:List (Str×Tok),zal ((l.map (·.1)).map V.str) (strValues l)
 | []=>.nil
 | (_,t)::l=>.cons ⟨t,rfl⟩ (zne l)
theorem zwD:MtR X "str.split" (λx xs H Q=>∃z y,x=.str z∧xs=[.str y]∧(y.length≠0∧z.length≤1000)∧∀p,H p=none→Q (.ref p) (upd H p (.lst ((Txt.split z y).map V.str)))):=by
 intro pins s σ H x xs v us Q I rx rv h
 obtain⟨z,y,rfl,rfl,⟨hy,hz⟩,q⟩:=h
 obtain⟨t,rfl⟩:=rx
 obtain⟨u,rfl,ru⟩:=zb4 rv
 obtain⟨t2,rfl⟩:=ru
 have ly:(y.length==0)=false:=by simpa using hy
 have e1:=StrLaws.occ_length_le z y 0 z.length (z.length+1)
 have e2:=length_partsBetween z (Builtin.Str.occurrences z y 0 z.length (z.length+1)) y.length
 have hn:(Builtin.Str.partsBetween z (Builtin.Str.occurrences z y 0 z.length (z.length+1)) y.length).length≤1002:=by omega
 have sz:∀n:Nat,n≤1002→n≤sizeLine:=λn h=>by unfold sizeLine; omega
 have fin:∀(l:List (Str×Tok)) (k:Tok),l.map (·.1)=Txt.split z y→l.length≤1002→EP X pins σ Q (.ref s.heap.objs.size) { s with heap:=s.heap.push { cls:=.type "list",data:=.seq (strValues l).toArray },toks:=k }:=λl k el ll=>by
  refine⟨.ref s.heap.objs.size,_,I.laid (o:=.lst ((Txt.split z y).map V.str)) (t':=k) (λb ob e=>Heap.get?_push_of_some _ e) (Vaa _) ?_,rfl,q _ (I.hok.fresh (Vaa _))⟩
  rw[← el]
  exact⟨sz _ (by rw[Vac,Vac]; exact ll),_,0,zne l,Heap.get?_push_size _ rfl⟩
 cases h1:(decide (z.length<y.length)||decide (Builtin.Str.strKind z<Builtin.Str.strKind y))
 ·cases hf:(Builtin.Str.occurrences z y 0 z.length (z.length+1)).isEmpty
  ·refine call_meets PySem.F.slot_str_split (typeIs_str _ _ _) PySem.F.entry_str_split (PySem.F.args_str_split_2 _ _) (meets_str_split_sep z y t t2 h1 ly hf (sz _ (by omega)) (sz _ hn)) ?_
   rw[strsFrom_eq]
   refine fin _ _ ((numbered_texts _ _).trans ((if_neg (ne_true_of_eq_false h1)).trans (if_neg (ne_true_of_eq_false hf))).symm) ?_
   have:=congrArg List.length (numbered_texts s.toks (Builtin.Str.partsBetween z (Builtin.Str.occurrences z y 0 z.length (z.length+1)) y.length))
   rw[Vac] at this
   omega
  ·exact call_meets PySem.F.slot_str_split (typeIs_str _ _ _) PySem.F.entry_str_split (PySem.F.args_str_split_2 _ _) (meets_str_split_not_found z y t t2 h1 ly hf) (fin [(z,t)] s.toks ((if_neg (ne_true_of_eq_false h1)).trans (if_pos hf)).symm (show 1≤1002 by decide))
 ·exact call_meets PySem.F.slot_str_split (typeIs_str _ _ _) PySem.F.entry_str_split (PySem.F.args_str_split_2 _ _) (meets_str_split_cannot_occur z y t t2 h1) (fin [(z,t)] s.toks (if_pos h1).symm (show 1≤1002 by decide))
def zlA:Str→D→Sto→DK→Prop:=λx y S Q=>match y with
 | .str y=>(y.length≠0∧x.length≤1000)∧Q (.ref S.length) (S++[.lst ((Txt.split x y).map D.str)])
 | _=>False
theorem zoS {r:List Addr}{H:Hp}:∀ws:List Str,Rps r H (ws.map D.str) (ws.map V.str)
 | []=>Rps.nil
 | w::ws=>Rps.cons (.str w) (zoS ws)
theorem zu4 {o e:Expr}{to:TDE}{t:TDA}{apos cpos:Pos}(ho:PD X Z o to)(ha:PDA X Z [e] t)(hbase:attributeBase o "split" X.env (eval o X.env)=eval o X.env:=by rfl)
  (hfew:((backTo cpos (starEach [e] X.env)).all (λx=>!x.1)&&(backToKw cpos (keywordEach [] X.env)).all (λx=>x.1.isSome)
  &&decide ([e].length+([]:List Keyword).length+(if ([]:List Keyword).isEmpty then 0 else 1)<30))=true:=by rfl)
  (hline:(apos.endLine==cpos.line)=true:=by rfl)(hs:starEach [e] X.env=(false,eval e X.env)::starEach [] X.env:=by rfl)(hplain:(backTo cpos (starEach [] X.env)).any (·.1)=false:=by rfl):
  PD X Z (.Call (.Attribute o "split" apos) [e] [] cpos) (zcA zlA to t):=
 zaJ (zem (T:="str") PySem.F.plainAttrs_str PySem.F.slot_str_split PySem.F.type_str_split zwD ho ha hbase hfew hline hs hplain) λσ H Qv ⟨r,dl,S,Q,rs,rel,h,ret⟩=>by
  unfold zcA at h
  refine⟨r,dl,S,_,rs,rel,h,λv H1 r1 d S1 e1 rel1 p1 q1=>?_⟩
  cases p1 with
  | str x=>
   refine⟨rfl,r1,dl,S1,_,rs.ext e1,rel1,q1,λvs H2 r2 ds S2 e2 rel2 p2 q2=>?_⟩
   split at q2
   ·rename_i y
    obtain⟨v2,vs',rfl,p3,p4⟩:=p2.uncons
    have z:=p4.unnil
    subst z
    unfold zlA at q2
    split at q2
    ·rename_i i
     cases p3
     refine⟨x,i,rfl,rfl,q2.1,λp hp=>?_⟩
     obtain⟨rel3,x3⟩:=rel2.push hp (zoS (Txt.split x i))
     exact ret _ _ _ (.ref S2.length) _ (e1.trans (e2.trans x3)) rel3 (zc0 rel2.len) q2.2
    ·exact q2.elim
   ·exact q2.elim
  | _=>exact(show False from q1).elim
@[irreducible] def zkZ (to:TDE)(t:TDA):TDE:=λdl S Q=>to dl S λd S1=>match d with
 | .str sep=>t dl S1 λds S2=>match ds with
  | [.ref n]=>match lAt S2 n with
   | some o=>∃zs,zcw (zax o)=some zs∧sep.length≤16∧(∀z∈zs,z.length≤1000)∧zs.length≤1000∧Q (.str (Txt.join sep zs)) S2
   | none=>False
  | _=>False
 | _=>False
theorem zn1:∀zs:List Str,(∀z∈zs,z.length≤1000)→(zs.map (·.length)).sum≤1000*zs.length
 | [],_=>by simp
 | z::zs,h=>by
  have i:=zn1 zs λy hy=>h y (Vam _ hy)
  have j:=h z (Vau ..)
  rw[Vaj,List.sum_cons,Vaq]
  omega
theorem zsg:MtR X "str.join" (λx xs H Q=>∃sep p ys zs,x=.str sep∧xs=[.ref p]∧SqL X.K H p ys∧(∀us,zal ys us→StrsAre us zs)∧sep.length≤16∧(∀z∈zs,z.length≤1000)∧zs.length≤1000∧Q (.str (Txt.join sep zs)) H):=by
 intro pins s σ H x xs v us Q I rx rv h
 obtain⟨sep,p,ys,zs,rfl,rfl,sq,st,h0,hB,hn,q⟩:=h
 obtain⟨t,rfl⟩:=rx
 obtain⟨u,rfl,ru⟩:=zb4 rv
 cases ru
 obtain⟨its,r,pl,_⟩:=I.list sq
 have hs:=zn1 zs hB
 have hm:zs.length*sep.length≤1000*16:=Nat.mul_le_mul hn h0
 refine join_list pl.isList (st its r) (by omega) λt' k=>?_
 exact⟨.str (Txt.join sep zs),H,I.kept (t':=k) λb o e=>e,⟨t',rfl⟩,q⟩
theorem zlL {o e:Expr}{to:TDE}{t:TDA}{apos cpos:Pos}(ho:PD X Z o to)(ha:PDA X Z [e] t)(hbase:attributeBase o "join" X.env (eval o X.env)=eval o X.env:=by rfl)
  (hfew:((backTo cpos (starEach [e] X.env)).all (λx=>!x.1)&&(backToKw cpos (keywordEach [] X.env)).all (λx=>x.1.isSome)
  &&decide ([e].length+([]:List Keyword).length+(if ([]:List Keyword).isEmpty then 0 else 1)<30))=true:=by rfl)
  (hline:(apos.endLine==cpos.line)=true:=by rfl)(hs:starEach [e] X.env=(false,eval e X.env)::starEach [] X.env:=by rfl)(hplain:(backTo cpos (starEach [] X.env)).any (·.1)=false:=by rfl):
  PD X Z (.Call (.Attribute o "join" apos) [e] [] cpos) (zkZ to t):=
 zaJ (zem (T:="str") PySem.F.plainAttrs_str PySem.F.slot_str_join PySem.F.type_str_join zsg ho ha hbase hfew hline hs hplain) λσ H Qv ⟨r,dl,S,Q,rs,rel,h,ret⟩=>by
  unfold zkZ at h
  refine⟨r,dl,S,_,rs,rel,h,λv H1 r1 d S1 e1 rel1 p1 q1=>?_⟩
  cases p1 with
  | str sep=>
   refine⟨rfl,r1,dl,S1,_,rs.ext e1,rel1,q1,λvs H2 r2 ds S2 e2 rel2 p2 q2=>?_⟩
   split at q2
   ·rename_i n
    obtain⟨v2,vs',rfl,p3,p4⟩:=p2.uncons
    have z:=p4.unnil
    subst z
    split at q2
    ·rename_i o eo
     obtain⟨zs,z1,z2,z3,z4,q⟩:=q2
     cases p3 with
     | @ref n a hn=>
      obtain⟨eo,eL⟩:=zcr eo
      obtain⟨a',ha',ob⟩:=rel2.at eo
      rw[hn] at ha'; cases ha'
      obtain⟨ys,sq,pr⟩:=ob.list eL
      exact⟨sep,a,ys,zs,rfl,rfl,sq,λus ru=>zmo z1 pr ru,z2,z3,z4,ret _ H2 r2 _ S2 (e1.trans e2) rel2 (.str _) q⟩
    ·exact q2.elim
   ·exact q2.elim
  | _=>exact(show False from q1).elim
theorem ztw {to:TDE}{t:TDA}{dl:Ev}{S S1:Sto}{Q:DK}{x y:Str}(hto:∀K:DK,K (.str x) S→to dl S K)(ht:∀K:List D→Sto→Prop,K [.str y] S1→t dl S K)(hy:y.length≠0)(hx:x.length≤1000)(hq:Q (.ref S1.length) (S1++[.lst ((Txt.split x y).map D.str)])):zcA zlA to t dl S Q:=by
 unfold zcA
 exact hto _ (ht _ ⟨⟨hy,hx⟩,hq⟩)
end
def kdS:Nat→Str
 | 0=>"plus"
 | 1=>"minus"
 | _=>"times"
def zaQ (N:List Nd×List Int)(v:Nd):Option ((List Nd×List Int)×Nat):=match idx v N.1 with
 | some j=>some (N,j)
 | none=>if 16<v.w N.2∨N.1.length=60 then none else some ((N.1++[v],N.2++[v.w N.2]),N.1.length)
def zaz (ms:Str→Option Nat):Tr→List Nd×List Int→Option ((List Nd×List Int)×Nat)
 | .nm w,N=>(ms (mk w)).map λj=>(N,j)
 | .nb t b,N=>zaQ N (.number t b)
 | .pw t k,N=>match zaz ms t N with
  | some (N1,i)=>zaQ N1 (.power i k)
  | none=>none
 | .bi d l r,N=>match zaz ms l N with
  | some (N1,i)=>match zaz ms r N1 with
   | some (N2,j)=>zaQ N2 (.two (kdS d) i j)
   | none=>none
  | none=>none
inductive NOk:List Nd→List Int→Prop
 | nil:NOk [] []
 | snoc {ns:List Nd} {hs:List Int} {v:Nd}:NOk ns hs→v.ok hs→idx v ns=none→v.w hs≤16→ns.length<60→NOk (ns++[v]) (hs++[v.w hs])
theorem NOk.len {ns:List Nd}{hs:List Int}(h:NOk ns hs):ns.length=hs.length:=by
 induction h with
 | nil=>rfl
 | snoc _ _ _ _ _ ih=>simp[ih]
theorem w_pos {hs:List Int}{v:Nd}(s:small hs)(h:v.ok hs):1≤v.w hs:=by
 cases v with
 | number t b=>exact VaT _
 | unknown k=>exact VaT _
 | power i n=>
  obtain⟨hi,n2,n6⟩:=h
  have b:=zkg s hi
  show 1≤n*hs.getD i.toNat 0
  have:=Int.mul_le_mul (show 1≤n by omega) b.1 (by decide) (by omega)
  omega
 | two x i j=>
  obtain⟨_,hi,hj⟩:=h
  have b:=zkg s hi
  have c:=zkg s hj
  show 1≤hs.getD i.toNat 0+hs.getD j.toNat 0
  omega
theorem NOk.small {ns:List Nd}{hs:List Int}(h:NOk ns hs):small hs:=by
 induction h with
 | nil=>intro x hx; cases hx
 | snoc h0 ok _ w16 _ ih=>
  intro x hx
  rcases Vae.1 hx with hx | hx
  ·exact ih x hx
  ·rw[Vas.mp hx]
   exact⟨w_pos ih ok,w16⟩
theorem NOk.sixty {ns:List Nd}{hs:List Int}(h:NOk ns hs):ns.length≤60:=by
 cases h with
 | nil=>decide
 | snoc _ _ _ _ l=>simp; omega
theorem zmR {hs l:List Int}{i:Int}(h:inL hs i):(hs++l).getD i.toNat 0=hs.getD i.toNat 0:=by
 obtain⟨h0,h1⟩:=h
 rw[VaK,VaK,Van (by omega)]
theorem zlK {hs l:List Int}{i:Int}(h:inL hs i):inL (hs++l) i:=⟨h.1,by have:=h.2; rw[Vad]; omega⟩
theorem zi2 {hs l:List Int}{v:Nd}(h:v.ok hs):v.ok (hs++l):=by
 cases v with
 | number t b=>trivial
 | unknown k=>trivial
 | power i n=>exact⟨zlK h.1,h.2⟩
 | two x i j=>exact⟨h.1,zlK h.2.1,zlK h.2.2⟩
theorem zpi {hs l:List Int}{v:Nd}(h:v.ok hs):v.w (hs++l)=v.w hs:=by
 cases v with
 | number t b=>rfl
 | unknown k=>rfl
 | power i n=>show n*_=n*_; rw[zmR h.1]
 | two x i j=>show _+_=_+_; rw[zmR h.2.1,zmR h.2.2]
theorem NOk.node {ns:List Nd}{hs:List Int}(h:NOk ns hs):∀(j:Nat) (v:Nd),ns[j]?=some v→v.ok hs∧hs.getD j 0=v.w hs:=by
 induction h with
 | nil=>intro j v e; cases e
 | @snoc ns hs u h0 ok _ _ _ ih=>
  intro j v e
  have hl:=h0.len
  by_cases c:j<ns.length
  ·rw[Van c] at e
   obtain⟨a,b⟩:=ih j v e
   refine⟨zi2 a,?_⟩
   rw[zpi a,← b,VaK,VaK,Van (by omega)]
  ·have ej:j=ns.length:=by
    have:=(Vaf.mp e).1
    simp at this
    omega
   subst ej
   have eu:u=v:=by simpa using e
   subst eu
   refine⟨zi2 ok,?_⟩
   rw[zpi ok,hl]
   simp
theorem zmQ {v:Nd}{r:List Nd}:∀ {ns:List Nd} {j:Nat},idx v ns=some j→idx v (ns++r)=some j
 | [],_,e=>by cases e
 | u::us,j,e=>by
  unfold idx at e
  show (if u.k=v.k then some 0 else (idx v (us++r)).map (·+1))=_
  by_cases c:u.k=v.k
  ·rw[if_pos c] at e ⊢
   exact e
  ·rw[if_neg c] at e ⊢
   cases e2:idx v us with
   | none=>rw[e2] at e; cases e
   | some i=>
    rw[e2] at e
    rw[zmQ e2]
    exact e
theorem zmd {v:Nd}:∀ {ns:List Nd},idx v ns=none→idx v (ns++[v])=some ns.length
 | [],_=>by
  show (if v.k=v.k then some 0 else _)=_
  rw[if_pos rfl]
  rfl
 | u::us,e=>by
  unfold idx at e
  show (if u.k=v.k then some 0 else (idx v (us++[v])).map (·+1))=_
  by_cases c:u.k=v.k
  ·rw[if_pos c] at e
   cases e
  ·rw[if_neg c] at e ⊢
   cases e2:idx v us with
   | none=>rw[zmd e2]; rfl
   | some i=>rw[e2] at e; cases e
theorem zh5 {v:Nd}:∀ {ns:List Nd} {j:Nat},idx v ns=some j→∃u,ns[j]?=some u∧u.k=v.k
 | [],_,e=>by cases e
 | u::us,j,e=>by
  unfold idx at e
  by_cases c:u.k=v.k
  ·rw[if_pos c] at e
   cases e
   exact⟨u,rfl,c⟩
  ·rw[if_neg c] at e
   cases e2:idx v us with
   | none=>rw[e2] at e; cases e
   | some i=>
    rw[e2] at e
    cases e
    obtain⟨x,a,b⟩:=zh5 e2
    exact⟨x,by simpa using a,b⟩
theorem zjE {x y:Str}(h:x="plus"∨x="minus"∨x="times")(hy:y="number"∨y="power"):x≠y:=by
 rcases h with rfl | rfl | rfl <;> rcases hy with rfl | rfl <;> decide
theorem zmB {hs hs':List Int}{u v:Nd}(hu:u.ok hs)(hv:v.ok hs')(e:u.k=v.k):u=v:=by
 have fst:∀ {x y:Str} {l m:List Key},(Sum.inr x:Key)::l=Sum.inr y::m→x=y:=λe=>Sum.inr.inj (List.cons.inj e).1
 cases u with
 | number t b=>
  cases v with
  | number t' b'=>simp[Nd.k] at e; obtain⟨rfl,rfl⟩:=e; rfl
  | unknown k=>simp[Nd.k] at e
  | power i n=>exact absurd (fst e) (by decide)
  | two x i j=>exact absurd (fst e).symm (zjE hv.1 (.inl rfl))
 | unknown k=>
  cases v with
  | number t' b'=>simp[Nd.k] at e
  | unknown k'=>simp[Nd.k] at e; subst e; rfl
  | power i n=>simp[Nd.k] at e
  | two x i j=>simp[Nd.k] at e
 | power i n=>
  cases v with
  | number t' b'=>exact absurd (fst e) (by decide)
  | unknown k=>simp[Nd.k] at e
  | power i' n'=>simp[Nd.k] at e; obtain⟨rfl,rfl⟩:=e; rfl
  | two x i' j=>exact absurd (fst e).symm (zjE hv.1 (.inr rfl))
 | two x i j=>
  cases v with
  | number t' b'=>exact absurd (fst e) (zjE hu.1 (.inl rfl))
  | unknown k=>simp[Nd.k] at e
  | power i' n'=>exact absurd (fst e) (zjE hu.1 (.inr rfl))
  | two x' i' j'=>simp[Nd.k] at e; obtain⟨rfl,rfl,rfl⟩:=e; rfl
structure Put (ns:List Nd)(hs:List Int)(ns':List Nd)(hs':List Int)(j:Nat)(wt:Int)(c:Nat):Prop where
 ok:NOk ns' hs'
 ext:∃r,ns'=ns++r
 exh:∃r,hs'=hs++r
 lt:j<ns'.length
 wt:hs'.getD j 0=wt
 le:ns'.length≤ns.length+c
theorem zih {ns:List Nd}{hs:List Int}{v:Nd}(h:NOk ns hs)(ok:v.ok hs)(w:v.w hs≤16)(l:ns.length<60):∃ns' hs' j,zaQ (ns,hs) v=some ((ns',hs'),j)∧Put ns hs ns' hs' j (v.w hs) 1∧idx v ns'=some j:=by
 unfold zaQ
 cases e:idx v ns with
 | some j=>
  obtain⟨u,e1,e2⟩:=zh5 e
  obtain⟨o1,o2⟩:=h.node j u e1
  have eu:=zmB o1 ok e2
  subst eu
  exact⟨ns,hs,j,rfl,⟨h,⟨[],by simp⟩,⟨[],by simp⟩,(Vaf.mp e1).1,o2,by omega⟩,e⟩
 | none=>
  have c:¬ (16<v.w hs∨ns.length=60):=by omega
  refine⟨ns++[v],hs++[v.w hs],ns.length,if_neg c,⟨.snoc h ok e w l,⟨_,rfl⟩,⟨_,rfl⟩,by simp,?_,by simp⟩,zmd e⟩
  rw[h.len]
  simp
def Tr.wt:Tr→Int
 | .nm _=>1
 | .nb _ _=>1
 | .pw t k=>k*t.wt
 | .bi _ l r=>l.wt+r.wt
def Tr.sz:Tr→Nat
 | .nm _=>0
 | .nb _ _=>1
 | .pw t _=>t.sz+1
 | .bi _ l r=>l.sz+r.sz+1
def Tr.nms:Tr→List Str
 | .nm w=>[mk w]
 | .nb _ _=>[]
 | .pw t _=>t.nms
 | .bi _ l r=>l.nms++r.nms
def Tr.good:Tr→Prop
 | .nm _=>True
 | .nb _ _=>True
 | .pw t k=>t.good∧2≤k∧k≤6
 | .bi d l r=>l.good∧r.good∧d≤2
theorem zia {d:Nat}(h:d≤2):kdS d="plus"∨kdS d="minus"∨kdS d="times":=by
 match d,h with
 | 0,_=>exact .inl rfl
 | 1,_=>exact .inr (.inl rfl)
 | 2,_=>exact .inr (.inr rfl)
theorem zg1 {hs r:List Int}{j:Nat}(h:j<hs.length):(hs++r).getD j 0=hs.getD j 0:=by
 rw[VaK,VaK,Van h]
theorem zfR {ns r ns1:List Nd}{hs r' hs1:List Int}{v:Nd}{j:Nat}(e:zaQ (ns,hs) v=some ((ns1,hs1),j)):(∃q,ns1=ns++q)∧(∃q,hs1=hs++q)∧zaQ (ns1++r,hs1++r') v=some ((ns1++r,hs1++r'),j):=by
 unfold zaQ at e
 cases c:idx v ns with
 | some i=>
  simp only[c] at e
  cases e
  refine⟨⟨[],by simp⟩,⟨[],by simp⟩,?_⟩
  unfold zaQ
  simp only[zmQ c]
 | none=>
  simp only[c] at e
  split at e
  ·cases e
  ·cases e
   refine⟨⟨_,rfl⟩,⟨_,rfl⟩,?_⟩
   unfold zaQ
   simp only[zmQ (zmd c)]
theorem zh6 {ms ms':Str→Option Nat}(hm:∀w j,ms w=some j→ms' w=some j):∀(t:Tr) {ns ns1:List Nd} {hs hs1:List Int} {j:Nat},zaz ms t (ns,hs)=some ((ns1,hs1),j)→(∃q,ns1=ns++q)∧(∃q,hs1=hs++q)∧∀r r',zaz ms' t (ns1++r,hs1++r')=some ((ns1++r,hs1++r'),j)
 | .nm w,ns,ns1,hs,hs1,j,e=>by
  have e':(ms (mk w)).map (λj=>((ns,hs),j))=some ((ns1,hs1),j):=e
  cases c:ms (mk w) with
  | none=>rw[c] at e'; cases e'
  | some i=>
   rw[c] at e'
   cases e'
   refine⟨⟨[],by simp⟩,⟨[],by simp⟩,λr r'=>?_⟩
   show (ms' (mk w)).map _=_
   rw[hm _ _ c]
   rfl
 | .nb t b,ns,ns1,hs,hs1,j,e=>by
  obtain⟨a,b',_⟩:=zfR (r:=[]) (r':=[]) (v:=.number t b) e
  exact⟨a,b',λr r'=>(zfR (v:=.number t b) e).2.2⟩
 | .pw t k,ns,ns1,hs,hs1,j,e=>by
  have e':(match zaz ms t (ns,hs) with | some (N1,i)=>zaQ N1 (.power i k) | none=>none)=some ((ns1,hs1),j):=e
  cases c:zaz ms t (ns,hs) with
  | none=>rw[c] at e'; cases e'
  | some x=>
   obtain⟨⟨n1,h1⟩,i⟩:=x
   rw[c] at e'
   obtain⟨⟨q1,rfl⟩,⟨q2,rfl⟩,f⟩:=zh6 hm t c
   obtain⟨⟨s1,rfl⟩,⟨s2,rfl⟩,_⟩:=zfR (r:=[]) (r':=[]) e'
   refine⟨⟨q1++s1,by simp⟩,⟨q2++s2,by simp⟩,λr r'=>?_⟩
   show (match zaz ms' t _ with | some (N1,i)=>zaQ N1 (.power i k) | none=>none)=_
   rw[Vaw _ s1 r,Vaw _ s2 r',f]
   dsimp only
   rw[← Vaw _ s1 r,← Vaw _ s2 r']
   exact(zfR e').2.2
 | .bi d tl tr,ns,ns1,hs,hs1,j,e=>by
  have e':(match zaz ms tl (ns,hs) with | some (N1,i)=>(match zaz ms tr N1 with | some (N2,j)=>zaQ N2 (.two (kdS d) i j) | none=>none) | none=>none)=some ((ns1,hs1),j):=e
  cases c:zaz ms tl (ns,hs) with
  | none=>rw[c] at e'; cases e'
  | some x=>
   obtain⟨⟨n1,h1⟩,i⟩:=x
   rw[c] at e'
   dsimp only at e'
   cases c2:zaz ms tr (n1,h1) with
   | none=>rw[c2] at e'; cases e'
   | some y=>
    obtain⟨⟨n2,h2⟩,i2⟩:=y
    rw[c2] at e'
    obtain⟨⟨q1,rfl⟩,⟨q2,rfl⟩,f⟩:=zh6 hm tl c
    obtain⟨⟨s1,rfl⟩,⟨s2,rfl⟩,g⟩:=zh6 hm tr c2
    obtain⟨⟨u1,rfl⟩,⟨u2,rfl⟩,_⟩:=zfR (r:=[]) (r':=[]) e'
    refine⟨⟨q1++s1++u1,by simp⟩,⟨q2++s2++u2,by simp⟩,λr r'=>?_⟩
    show (match zaz ms' tl _ with | some (N1,i)=>(match zaz ms' tr N1 with | some (N2,j)=>zaQ N2 (.two (kdS d) i j) | none=>none) | none=>none)=_
    have f':=f (s1++(u1++r)) (s2++(u2++r'))
    have g':=g (u1++r) (u2++r')
    simp only[Vaw] at f' g' ⊢
    rw[f']
    dsimp only
    rw[g']
    dsimp only
    have z:=(zfR (r:=r) (r':=r') e').2.2
    simp only[Vaw] at z
    exact z
def Ng (ow:List Nat)(S T:Sto):Prop:=S.length≤T.length∧∀(x:Nat) (o:Ob),x ∉ ow→S[x]?=some o→T[x]?=some o
theorem Ng.refl {ow:List Nat}{S:Sto}:Ng ow S S:=⟨Vaa _,λ_ _ _ e=>e⟩
theorem Ng.trans {ow ow':List Nat}{S T U:Sto}(a:Ng ow S T)(b:Ng ow' T U)(h:∀x∈ow',x∈ow∨S.length≤x):Ng ow S U:=⟨Vat a.1 b.1,λx o nx e=>b.2 x o (λhx=>by
 rcases h x hx with z | z
 ·exact nx z
 ·have:=zbf e
  omega) (a.2 x o nx e)⟩
theorem Ng.app {ow:List Nat}{S:Sto}(U:Sto):Ng ow S (S++U):=⟨by simp,λ_ _ _ e=>zaw e⟩
theorem Ng.set {ow:List Nat}{S:Sto}{n:Nat}(h:n∈ow)(o:Ob):Ng ow S (S.set n o):=⟨by simp,λx u nx e=>by
 have ne:n≠x:=λz=>nx (by rw[← z]; exact h)
 rw[VaE ne]
 exact e⟩
theorem Ng.pre {ow:List Nat}{S T:Sto}(h:Pre S T):S.length≤T.length→Ng ow S T:=λl=>⟨l,λx o _ e=>h x o e⟩
theorem zas {S:Sto}{x n:Nat}{o u:Ob}(h:S[x]?=some o)(ne:x≠n):(S.set n u)[x]?=some o:=by
 rw[VaE (Ne.symm ne)]
 exact h
theorem zbb {S:Sto}{x y:Nat}{o u:Ob}(h:S[x]?=some o)(h':S[y]?=some u)(ne:o≠u):x≠y:=λe=>by
 rw[e,h'] at h
 exact ne (Option.some.inj h).symm
theorem zba.put {C:Addr}{S:Sto}{n a b c:Nat}{ns:List Nd}{hs:List Int}(N:zba C S n a b c ns hs)(v:Nd):zba C (zgx S a b c ns hs v) n a b c (ns++[v]) (hs++[v.w hs])∧Ng [a,b,c] S (zgx S a b c ns hs v):=by
 have ac:a≠c:=zbb N.kept N.numbers (by intro z; cases z)
 have bc:b≠c:=zbb N.weights N.numbers (by intro z; cases z)
 have na:n≠a:=zbb N.net N.kept (by intro z; cases z)
 have nb:n≠b:=zbb N.net N.weights (by intro z; cases z)
 have nc:n≠c:=zbb N.net N.numbers (by intro z; cases z)
 unfold zgx
 refine⟨⟨?_,?_,?_,?_,N.ne,by simp[N.len]⟩,?_⟩
 ·exact zas (zas (zas N.net na) nb) nc
 ·rw[VaF]
  exact zas (zas (zc2 N.kept) N.ne) ac
 ·rw[VaF]
  exact zas (zc2 (zas N.weights (Ne.symm N.ne))) bc
 ·exact zc2 (zas (zas N.numbers (Ne.symm ac)) (Ne.symm bc))
 ·have m:∀y∈[a,b,c],y∈[a,b,c]∨S.length≤y:=λy hy=>.inl hy
  exact((Ng.set (by simp) _).trans (ow':=[a,b,c]) (Ng.set (by simp) _) m).trans (ow':=[a,b,c]) (Ng.set (by simp) _) m
theorem zfr {C:Addr}{S:Sto}{n a b c:Nat}{ns:List Nd}{hs:List Int}{v:Nd}{Q:DK}{ex:Sto→Prop}(N:zba C S n a b c ns hs)(h:match zaQ (ns,hs) v with | none=>∀T:Sto,Ng [a,b,c] S T→ex T | some (M,j)=>∀T:Sto,Ng [a,b,c] S T→zba C T n a b c M.1 M.2→Q (.int (j:Int)) T):
  (∃j,idx v ns=some j∧Q (.int (j:Int)) S)∨(idx v ns=none∧(16<v.w hs∨ns.length=60)∧ex S)∨(idx v ns=none∧v.w hs≤16∧ns.length≠60∧Q (.int (ns.length:Int)) (zgx S a b c ns hs v)):=by
 unfold zaQ at h
 dsimp only at h
 cases e:idx v ns with
 | some j=>
  rw[e] at h
  exact .inl ⟨j,rfl,h S Ng.refl N⟩
 | none=>
  rw[e] at h
  dsimp only at h
  by_cases c:16<v.w hs∨ns.length=60
  ·rw[if_pos c] at h
   exact .inr (.inl ⟨rfl,c,h S Ng.refl⟩)
  ·rw[if_neg c] at h
   obtain⟨p,g⟩:=N.put v
   exact .inr (.inr ⟨rfl,by omega,by omega,h _ g p⟩)
theorem zkv {ns ns':List Nd}{hs hs':List Int}{v:Nd}{j:Nat}(h:NOk ns hs)(ok:v.ok hs)(e:zaQ (ns,hs) v=some ((ns',hs'),j)):NOk ns' hs'∧j<ns'.length∧(∃r,ns'=ns++r)∧∃r,hs'=hs++r:=by
 unfold zaQ at e
 cases c:idx v ns with
 | some i=>
  simp only[c] at e
  cases e
  obtain⟨u,e1,_⟩:=zh5 c
  exact⟨h,(Vaf.mp e1).1,⟨[],by simp⟩,⟨[],by simp⟩⟩
 | none=>
  simp only[c] at e
  split at e
  ·cases e
  ·rename_i z
   have l6:=h.sixty
   cases e
   exact⟨.snoc h ok c (by omega) (by omega),by simp,⟨_,rfl⟩,⟨_,rfl⟩⟩
theorem zcJ {ms:Str→Option Nat}:∀(t:Tr) {ns ns':List Nd} {hs hs':List Int} {j:Nat},NOk ns hs→(∀w j,ms w=some j→j<ns.length)→t.good→zaz ms t (ns,hs)=some ((ns',hs'),j)→NOk ns' hs'∧j<ns'.length∧(∃r,ns'=ns++r)∧∃r,hs'=hs++r
 | .nm w,ns,ns',hs,hs',j,h,hm,_,e=>by
  have e':(ms (mk w)).map (λj=>((ns,hs),j))=some ((ns',hs'),j):=e
  cases c:ms (mk w) with
  | none=>rw[c] at e'; cases e'
  | some i=>
   rw[c] at e'
   cases e'
   exact⟨h,hm _ _ c,⟨[],by simp⟩,⟨[],by simp⟩⟩
 | .nb t b,ns,ns',hs,hs',j,h,_,_,e=>zkv (v:=.number t b) h trivial e
 | .pw t k,ns,ns',hs,hs',j,h,hm,g,e=>by
  have e':(match zaz ms t (ns,hs) with | some (N1,i)=>zaQ N1 (.power i k) | none=>none)=some ((ns',hs'),j):=e
  cases c:zaz ms t (ns,hs) with
  | none=>rw[c] at e'; cases e'
  | some x=>
   obtain⟨⟨n1,h1⟩,i⟩:=x
   rw[c] at e'
   obtain⟨o1,l1,⟨r1,rfl⟩,⟨s1,rfl⟩⟩:=zcJ t h hm g.1 c
   obtain⟨o2,l2,⟨r2,rfl⟩,⟨s2,rfl⟩⟩:=zkv o1 (v:=.power (i:Int) k) ⟨⟨by omega,by have:=o1.len; omega⟩,g.2⟩ e'
   exact⟨o2,l2,⟨r1++r2,by simp⟩,⟨s1++s2,by simp⟩⟩
 | .bi d tl tr,ns,ns',hs,hs',j,h,hm,g,e=>by
  have e':(match zaz ms tl (ns,hs) with | some (N1,i)=>(match zaz ms tr N1 with | some (N2,j)=>zaQ N2 (.two (kdS d) i j) | none=>none) | none=>none)=some ((ns',hs'),j):=e
  cases c:zaz ms tl (ns,hs) with
  | none=>rw[c] at e'; cases e'
  | some x=>
   obtain⟨⟨n1,h1⟩,i⟩:=x
   rw[c] at e'
   dsimp only at e'
   cases c2:zaz ms tr (n1,h1) with
   | none=>rw[c2] at e'; cases e'
   | some y=>
    obtain⟨⟨n2,h2⟩,i2⟩:=y
    rw[c2] at e'
    obtain⟨o1,l1,⟨r1,rfl⟩,⟨s1,rfl⟩⟩:=zcJ tl h hm g.1 c
    obtain⟨o2,l2,⟨r2,rfl⟩,⟨s2,rfl⟩⟩:=zcJ tr o1 (λw j q=>by have:=hm w j q; rw[Vad]; omega) g.2.1 c2
    have z:=o2.len
    have l1':i<(ns++r1++r2).length:=by rw[Vad]; omega
    obtain⟨o3,l3,⟨r3,rfl⟩,⟨s3,rfl⟩⟩:=zkv o2 (v:=.two (kdS d) (i:Int) (i2:Int)) ⟨zia g.2.2,⟨by omega,by omega⟩,⟨by omega,by omega⟩⟩ e'
    exact⟨o3,l3,⟨r1++r2++r3,by simp⟩,⟨s1++s2++s3,by simp⟩⟩
def mlK (ml:List (Str×Nat)):List (Key×D):=ml.map λp=>(.inr p.1,.int (p.2:Int))
theorem zhp (w:Str):∀ml:List (Str×Nat),zbs (mlK ml) (.inr w)=(ml.lookup w).map λj=>D.int (j:Int)
 | []=>rfl
 | (k,v)::ml=>by
  have i:=zhp w ml
  unfold zbs mlK at i ⊢
  rw[Vaj,VaH,Vah]
  by_cases c:w=k
  ·subst c
   simp
  ·rw[show (w==k)=false by simpa using c]
   simp only[Sum.inr.injEq,show ¬ k=w from λz=>c z.symm,decide_false]
   exact i
theorem zoH {ml:List (Str×Nat)}{w:Str}(j:Nat)(h:ml.lookup w=none):zcd (mlK ml) (.inr w) (.int (j:Int))=mlK (ml++[(w,j)]):=by
 have e:zbs (mlK ml) (.inr w)=none:=by rw[zhp,h]; rfl
 unfold zcd
 have z:((mlK ml).any λkv=>decide (kv.1=Sum.inr w))=false:=by
  unfold zbs at e
  rw[Option.map_eq_none_iff,List.find?_eq_none] at e
  rw[List.any_eq_false]
  exact e
 rw[z]
 show mlK ml++_=_
 unfold mlK
 rw[VaF]
 rfl
theorem zjf {ml:List (Str×Nat)}{w v:Str}{i:Nat}:(ml++[(v,i)]).lookup w=match ml.lookup w with | some j=>some j | none=>if w=v then some i else none:=by
 induction ml with
 | nil=>
  show (match w==v with | true=>some i | false=>none)=_
  by_cases c:w=v
  ·rw[if_pos c,c]; simp
  ·rw[if_neg c,show (w==v)=false by simpa using c]; rfl
 | cons p ml ih=>
  obtain⟨k,x⟩:=p
  rw[VaD,Vah,Vah]
  cases w==k
  ·exact ih
  ·rfl
theorem NOk.front {ns:List Nd}{hs:List Int}(h:NOk ns hs):∀k<ns.length,∃v,ns[k]?=some v∧NOk (ns.take k) (hs.take k)∧v.ok (hs.take k)∧idx v (ns.take k)=none∧v.w (hs.take k)≤16∧ns.take (k+1)=ns.take k++[v]∧hs.take (k+1)=hs.take k++[v.w (hs.take k)]:=by
 induction h with
 | nil=>intro k hk; cases hk
 | @snoc ns hs v h0 ok ix w16 l6 ih=>
  intro k hk
  have hl:=h0.len
  by_cases c:k<ns.length
  ·obtain⟨u,a1,a2,a3,a4,a5,a6,a7⟩:=ih k c
   refine⟨u,by rw[Van c]; exact a1,?_⟩
   rw[List.take_append_of_le_length (by omega),List.take_append_of_le_length (by omega),List.take_append_of_le_length (by omega),List.take_append_of_le_length (by omega)]
   exact⟨a2,a3,a4,a5,a6,a7⟩
  ·have e:k=ns.length:=by simp at hk; omega
   subst e
   refine⟨v,by simp,?_⟩
   rw[List.take_left,show (ns.length+1)=(ns++[v]).length by simp,List.take_length,hl,List.take_left,show (ns++[v]).length=(hs++[v.w hs]).length by simp[hl],List.take_length]
   exact⟨h0,ok,ix,w16,rfl,rfl⟩
theorem Ng.same {ow:List Nat}{S T U:Sto}(a:Ng ow S T)(b:Ng ow T U):Ng ow S U:=a.trans b λx h=>.inl h
theorem ziu {C:Addr}{S T:Sto}{n a b c:Nat}{N:List Nd×List Int}{v:Nd}{Q:DK}{ex:Sto→Prop}(g:Ng [a,b,c] S T)(h:match zaQ N v with | none=>∀T:Sto,Ng [a,b,c] S T→ex T | some (M,j)=>∀T:Sto,Ng [a,b,c] S T→zba C T n a b c M.1 M.2→Q (.int (j:Int)) T):match zaQ N v with | none=>∀U:Sto,Ng [a,b,c] T U→ex U | some (M,j)=>∀U:Sto,Ng [a,b,c] T U→zba C U n a b c M.1 M.2→Q (.int (j:Int)) U:=by
 cases e:zaQ N v with
 | none=>rw[e] at h; exact λU u=>h U (g.same u)
 | some x=>rw[e] at h; exact λU u q=>h U (g.same u) q
def zcq (N m u e r:Nat):List (Str×D):=[("net",.ref N),("meanings",.ref m),("unknown_names",.ref u),("unknown_ends",.ref e),("told_rows",.ref r)]
structure Tk where
 ns:List Nd
 hs:List Int
 ml:List (Str×Nat)
 un:List Str
 en:List D
 rw:List (Str×Nat)
def rwT (p:Str×Nat):D:=.tup [.str p.1,.int (p.2:Int)]
structure zbS (CT CN:Addr)(S:Sto)(n N a b c m u e r:Nat)(k:Tk):Prop where
 tsk:S[n]?=some (.ins CT (zcq N m u e r))
 net:zba CN S N a b c k.ns k.hs
 mea:S[m]?=some (.dck (mlK k.ml))
 nam:S[u]?=some (.lst (k.un.map D.str))
 ends:S[e]?=some (.lst k.en)
 rows:S[r]?=some (.lst (k.rw.map rwT))
 nd:[a,b,u,e,r].Nodup
 nok:NOk k.ns k.hs
 mok:∀w j,k.ml.lookup w=some j→j<k.ns.length
def zbg (n N a b c m u e r:Nat):List Nat:=[n,N,a,b,c,m,u,e,r]
theorem ztt {C:Addr}{S:Sto}:zba C (S++[Ob.ins C (zbD (S.length+1) (S.length+2) (S.length+3)),.lst [],.lst [],.dct []]) S.length (S.length+1) (S.length+2) (S.length+3) [] []:=by
 have g:∀k:Nat,(S++[Ob.ins C (zbD (S.length+1) (S.length+2) (S.length+3)),.lst [],.lst [],.dct []])[S.length+k]?=[Ob.ins C (zbD (S.length+1) (S.length+2) (S.length+3)),.lst [],.lst [],.dct []][k]?:=λk=>by rw[VaG (by omega),Nat.add_sub_cancel_left]
 exact⟨g 0,g 1,g 2,g 3,by omega,rfl⟩
theorem zq5 {n:Nat}{S:Sto}{o:Ob}{Q:DK}{ws:List Str}{w:Str}(ho:S[n]?=some o)(hw:zax o=ws.map D.str)(hq:Q (.bl (ws.any (·==w))) S)(hL:zcs o=some o:=by rfl):zbP (wIn 0 false) (.str w) (.ref n) S Q:=by
 rw[zb8]
 unfold wIn
 simp only[zbr ho hL,hw]
 have e:zb9 (eqN 0) (ws.map D.str) (.str w)=some (ws.any (·==w)):=zlQ ..
 rw[e]
 exact hq
theorem zq3 {ws:List Str}{w:Str}(h:w ∉ ws):ws.any (·==w)=false:=by
 rw[List.any_eq_false]
 intro x hx e
 exact h (eq_of_beq e ▸ hx)
theorem pv_in {w:Str}{k:Int}(h:pvS w=some k):2≤k∧k≤6:=by
 unfold pvS at h
 (repeat' split at h) <;> first | (cases h; decide) | cases h
theorem zmj {l k:Nat}{c:List Str}{t:Tr}(h:exP l k c t):t.good∧∀w∈t.nms,w∈c∧zaL w=true:=by
 have g:∀ {l k:Nat} {c:List Str} {t:Tr},Ex kS avS pvS l k c t→t.good∧∀w∈t.nms,w∈c∧zaL w=true:=by
  intro l k c t h
  induction h with
  | @atom w t hw ha=>
   unfold avS at ha
   split at ha
   ·rename_i z
    cases ha
    refine⟨trivial,λx hx=>?_⟩
    have e:x=w:=by rw[Vas.mp hx,zb1]
    rw[e]
    exact⟨Vas.mpr rfl,z⟩
   ·split at ha
    ·cases ha
     exact⟨trivial,λx hx=>by cases hx⟩
    ·cases ha
  | shut _ _ _ ih=>exact⟨ih.1,λx hx=>⟨by simp[(ih.2 x hx).1],(ih.2 x hx).2⟩⟩
  | pow _ _ hn _ ih=>exact⟨⟨ih.1,pv_in hn⟩,λx hx=>⟨by simp[(ih.2 x hx).1],(ih.2 x hx).2⟩⟩
  | tim _ _ _ _ _ i1 i2=>
   refine⟨⟨i1.1,i2.1,Vaa _⟩,λx hx=>?_⟩
   rcases Vae.1 hx with hx | hx
   ·exact⟨by simp[(i1.2 x hx).1],(i1.2 x hx).2⟩
   ·exact⟨by simp[(i2.2 x hx).1],(i2.2 x hx).2⟩
  | @sum a l m k j n c d t s ha _ _ _ i1 i2=>
   refine⟨⟨i1.1,i2.1,?_⟩,λx hx=>?_⟩
   ·rcases zr1 ha with e | e <;> rw[e] at ha <;> cases ha <;> decide
   ·rcases Vae.1 hx with hx | hx
    ·exact⟨by simp[(i1.2 x hx).1],(i1.2 x hx).2⟩
    ·exact⟨by simp[(i2.2 x hx).1],(i2.2 x hx).2⟩
 exact g h
theorem zj4 {l k:Nat}{c:List Str}{t:Tr}(h:exP l k c t):t.dp<c.length:=by
 have g:∀ {l k:Nat} {c:List Str} {t:Tr},Ex kS avS pvS l k c t→t.dp<c.length:=by
  intro l k c t h
  induction h with
  | @atom w t hw ha=>
   unfold avS at ha
   split at ha
   ·cases ha; exact Nat.one_pos
   ·split at ha
    ·cases ha; exact Nat.one_pos
    ·cases ha
  | shut _ _ _ ih=>simp; omega
  | pow _ _ _ _ ih=>simp[Tr.dp]; omega
  | tim _ _ _ _ _ i1 i2=>simp[Tr.dp]; omega
  | sum _ _ _ _ i1 i2=>simp[Tr.dp]; omega
 exact g h
theorem zjd {c:List Str}{t:Tr}(h:trS c=some t):c.length≤120∧∃l k,exP l k c t:=by
 unfold trS at h
 split at h
 ·cases h
 ·rename_i hl
  split at h
  ·rename_i t' e
   cases h
   obtain⟨c',l,k,e1,_,d⟩:=zlD 16 c t [] e
   rw[Vav] at e1
   subst e1
   exact⟨by omega,l,k,d⟩
  ·cases h
abbrev Tk.ms (k:Tk):Str→Option Nat:=λw=>k.ml.lookup w
def zlz (k:Tk)(ws:List Str):Prop:=∀w∈ws,w.length≤900∧(zaL w=true→∃j,k.ml.lookup w=some j)
def enD (t1 b1 t2 b2:Int):D:=.tup [.tup [.int t1,.int b1],.tup [.int t2,.int b2]]
structure zlh (k:Tk)(ws:List Str)(k':Tk):Prop where
 ex:∃(w0 lo hi:Str) (t1 b1 t2 b2:Int) (M:List Nd×List Int) (j:Nat),ws=[w0,"in",lo,hi]∧zaL w0=true∧lo.length≤900∧hi.length≤900∧zbi (cs lo) t1 b1∧zbi (cs hi) t2 b2∧¬ (t2*b1<t1*b2)∧k.ml.lookup w0=none∧k.ml.length<900∧k.un.length<4∧k.en.length<900∧zaQ (k.ns,k.hs) (.unknown (k.un.length:Int))=some (M,j)∧k'={ k with ns:=M.1,hs:=M.2,ml:=k.ml++[(w0,j)],un:=k.un++[w0],en:=k.en++[enD t1 b1 t2 b2] }
structure ParC (k:Tk)(ws:List Str)(k':Tk):Prop where
 ex:∃(nm:Str) (es:List Str) (t:Tr) (M:List Nd×List Int) (j:Nat),ws=("let":Str)::nm::("=":Str)::es∧zaL nm=true∧trS es=some t∧k.ml.lookup nm=none∧k.ml.length<900∧zlz k es∧zaz k.ms t (k.ns,k.hs)=some (M,j)∧k'={ k with ns:=M.1,hs:=M.2,ml:=k.ml++[(nm,j)] }
def sgS (sg:Str):Str:=if sg="=" then "zero" else "least"
structure RowC (k:Tk)(ws:List Str)(k':Tk):Prop where
 ex:∃(L R:List Str) (sg:Str) (t s:Tr) (M:List Nd×List Int) (j:Nat),ws=L++sg::R∧(∀w∈L,w≠"="∧w≠">=")∧(sg="="∨sg=">=")∧trS L=some t∧trS R=some s∧zlz k ws∧k.rw.length<12∧zaz k.ms (.bi 1 t s) (k.ns,k.hs)=some (M,j)∧k'={ k with ns:=M.1,hs:=M.2,rw:=k.rw++[(sgS sg,j)] }
def zby (CT CN:Addr)(S:Sto)(n:Nat)(ow:List Nat)(k:Tk):Prop:=∃N a b c m u e r,ow=zbg n N a b c m u e r∧zbS CT CN S n N a b c m u e r k
def Fr (ow ow':List Nat)(l:Nat):Prop:=∀x∈ow',x∈ow∨l≤x
structure Apart (n N a b c m u e r:Nat):Prop where
 nN:n≠N
 na:n≠a
 nb:n≠b
 nc:n≠c
 nm:n≠m
 nu:n≠u
 ne:n≠e
 nr:n≠r
 Nm:N≠m
 Nu:N≠u
 Ne:N≠e
 Nr:N≠r
 am:a≠m
 bm:b≠m
 cm:c≠m
 cu:c≠u
 ce:c≠e
 cr:c≠r
 mu:m≠u
 me:m≠e
 mr:m≠r
 au:a≠u
 ae:a≠e
 ar:a≠r
 bu:b≠u
 be:b≠e
 br:b≠r
 ue:u≠e
 ur:u≠r
 er:e≠r
theorem zbS.apart {CT CN:Addr}{S:Sto}{n N a b c m u e r:Nat}{k:Tk}(h:zbS CT CN S n N a b c m u e r k):Apart n N a b c m u e r:=by
 have nd:=h.nd
 simp only[VaP,Vab,Vag,or_false,not_or,List.nodup_nil,and_true,not_false_eq_true] at nd
 obtain⟨⟨_,d2,d3,d4⟩,⟨d5,d6,d7⟩,⟨d8,d9⟩,d10⟩:=nd
 have x:=h.net
 exact⟨zbb h.tsk x.net (by intro z; simp[zcq,zbD] at z),zbb h.tsk x.kept (by intro z; cases z),zbb h.tsk x.weights (by intro z; cases z),zbb h.tsk x.numbers (by intro z; cases z),zbb h.tsk h.mea (by intro z; cases z),zbb h.tsk h.nam (by intro z; cases z),zbb h.tsk h.ends (by intro z; cases z),zbb h.tsk h.rows (by intro z; cases z),
  zbb x.net h.mea (by intro z; cases z),zbb x.net h.nam (by intro z; cases z),zbb x.net h.ends (by intro z; cases z),zbb x.net h.rows (by intro z; cases z),zbb x.kept h.mea (by intro z; cases z),zbb x.weights h.mea (by intro z; cases z),zbb x.numbers h.mea (by intro z; cases z),zbb x.numbers h.nam (by intro z; cases z),zbb x.numbers h.ends (by intro z; cases z),zbb x.numbers h.rows (by intro z; cases z),
  zbb h.mea h.nam (by intro z; cases z),zbb h.mea h.ends (by intro z; cases z),zbb h.mea h.rows (by intro z; cases z),d2,d3,d4,d5,d6,d7,d8,d9,d10⟩
theorem zoO {ml:List (Str×Nat)}{l j0:Nat}{w0:Str}(h:∀w j,ml.lookup w=some j→j<l)(h0:j0<l):∀w j,(ml++[(w0,j0)]).lookup w=some j→j<l:=λw j e=>by
 rw[zjf] at e
 cases c:ml.lookup w with
 | some i=>rw[c] at e; cases e; exact h w _ c
 | none=>
  rw[c] at e
  dsimp only at e
  split at e
  ·cases e; exact h0
  ·cases e
theorem zlt {w:Str}(h:zaL w=true):w.length≤8:=by
 unfold zaL at h
 rw[Vay,Vay,Vay,decide_eq_true_eq,decide_eq_true_eq] at h
 omega
theorem ztl {w:Str}(h1:w≠"=")(h2:w≠">="):[(("=":Str),("zero":Str)),(">=","least")].lookup w=none:=by
 rw[Vah,show (w==("=":Str))=false by simpa using h1,Vah,show (w==(">=":Str))=false by simpa using h2]
 rfl
theorem zoC {td ty tv:TDE}{E:zbN}{dl:Ev}{S:Sto}(h:tv dl S λv S1=>td dl S1 λd S2=>ty dl S2 λy S3=>match zdn S3 d,zds y with
 | some (n,kvs),some k=>kvs.length<1000∧E.nx dl (S3.set n (.dck (zcd kvs k v)))
 | _,_=>False):zjw td ty tv E dl S:=by
 unfold zjw
 exact h
theorem zoI {td ty:TDE}{E:zbN}{dl:Ev}{S S2:Sto}{n:Nat}{kvs:List (Key×D)}{y v:D}{k:Key}(hd:∀K:DK,K (.ref n) S2→td dl S K)(hy:∀K:DK,K y S2→ty dl S2 K)(h:S2[n]?=some (.dck kvs))(hk:zds y=some k)(hl:kvs.length<1000)(hq:E.nx dl (S2.set n (.dck (zcd kvs k v)))):td dl S λd S2=>ty dl S2 λy S3=>match zdn S3 d,zds y with
 | some (n,kvs),some k=>kvs.length<1000∧E.nx dl (S3.set n (.dck (zcd kvs k v)))
 | _,_=>False:=by
 refine hd _ (hy _ ?_)
 simp only[zdn,h,hk]
 exact⟨hl,hq⟩
theorem zou (ml:List (Str×Nat)):(mlK ml).length=ml.length:=by simp[mlK]
theorem zbS.unk {CT CN:Addr}{S T:Sto}{n N a b c m u e r:Nat}{k:Tk}{M:List Nd×List Int}{j:Nat}{w0:Str}{d:D}(h:zbS CT CN S n N a b c m u e r k)(g:Ng [a,b,c] S T)(hn:zba CN T N a b c M.1 M.2)(ok:NOk M.1 M.2)(lj:j<M.1.length)(lm:k.ns.length≤M.1.length):
  zbS CT CN (((T.set m (.dck (mlK (k.ml++[(w0,j)])))).set u (.lst (k.un.map D.str++[.str w0]))).set e (.lst (k.en++[d]))) n N a b c m u e r { k with ns:=M.1,hs:=M.2,ml:=k.ml++[(w0,j)],un:=k.un++[w0],en:=k.en++[d] }∧Ng (zbg n N a b c m u e r) S (((T.set m (.dck (mlK (k.ml++[(w0,j)])))).set u (.lst (k.un.map D.str++[.str w0]))).set e (.lst (k.en++[d]))):=by
 have p:=h.apart
 have mv:∀ {x:Nat} {o:Ob},S[x]?=some o→x≠a→x≠b→x≠c→T[x]?=some o:=λhx n1 n2 n3=>g.2 _ _ (by simp[n1,n2,n3]) hx
 have t1:=mv h.tsk p.na p.nb p.nc
 have t2:=mv h.mea (Ne.symm p.am) (Ne.symm p.bm) (Ne.symm p.cm)
 have t3:=mv h.nam (Ne.symm p.au) (Ne.symm p.bu) (Ne.symm p.cu)
 have t4:=mv h.ends (Ne.symm p.ae) (Ne.symm p.be) (Ne.symm p.ce)
 have t5:=mv h.rows (Ne.symm p.ar) (Ne.symm p.br) (Ne.symm p.cr)
 refine⟨⟨?_,⟨?_,?_,?_,?_,hn.ne,hn.len⟩,?_,?_,?_,?_,h.nd,ok,zoO (λw i q=>Vai (h.mok w i q) lm) lj⟩,?_⟩
 ·exact zas (zas (zas t1 p.nm) p.nu) p.ne
 ·exact zas (zas (zas hn.net p.Nm) p.Nu) p.Ne
 ·exact zas (zas (zas hn.kept p.am) p.au) p.ae
 ·exact zas (zas (zas hn.weights p.bm) p.bu) p.be
 ·exact zas (zas (zas hn.numbers p.cm) p.cu) p.ce
 ·exact zas (zas (zc2 t2) p.mu) p.me
 ·show _=some (Ob.lst ((k.un++[w0]).map D.str))
  rw[VaF]
  exact zas (zc2 (zas t3 (Ne.symm p.mu))) p.ue
 ·exact zc2 (zas (zas t4 (Ne.symm p.me)) (Ne.symm p.ue))
 ·exact zas (zas (zas t5 (Ne.symm p.mr)) (Ne.symm p.ur)) (Ne.symm p.er)
 ·have g':Ng (zbg n N a b c m u e r) S T:=⟨g.1,λx o nx e=>g.2 x o (λz=>nx (by simp only[Vab,Vag,or_false] at z; unfold zbg; simp only[Vab]; rcases z with z | z | z <;> simp[z])) e⟩
  exact((g'.same (Ng.set (by simp[zbg]) _)).same (Ng.set (by simp[zbg]) _)).same (Ng.set (by simp[zbg]) _)
theorem zuM {S T:Sto}(h:Pre S T):S.length≤T.length:=by
 cases c:S.length with
 | zero=>omega
 | succ k=>
  have e:S[k]?=some S[k]:=VaL (by omega)
  have:=zbf (h k _ e)
  omega
theorem Ng.of {ow:List Nat}{S T:Sto}(h:Pre S T):Ng ow S T:=Ng.pre h (zuM h)
theorem Ng.nil {ow:List Nat}{S T:Sto}(h:Ng [] S T):Ng ow S T:=⟨h.1,λx o _ e=>h.2 x o (by simp) e⟩
theorem zba.up {C:Addr}{S T:Sto}{n a b c:Nat}{ns:List Nd}{hs:List Int}(N:zba C S n a b c ns hs)(g:Ng [] S T):zba C T n a b c ns hs:=⟨g.2 _ _ (by simp) N.net,g.2 _ _ (by simp) N.kept,g.2 _ _ (by simp) N.weights,g.2 _ _ (by simp) N.numbers,N.ne,N.len⟩
theorem zbS.up {CT CN:Addr}{S T:Sto}{n N a b c m u e r:Nat}{k:Tk}(h:zbS CT CN S n N a b c m u e r k)(g:Ng [] S T):zbS CT CN T n N a b c m u e r k:=⟨g.2 _ _ (by simp) h.tsk,h.net.up g,g.2 _ _ (by simp) h.mea,g.2 _ _ (by simp) h.nam,g.2 _ _ (by simp) h.ends,g.2 _ _ (by simp) h.rows,h.nd,h.nok,h.mok⟩
structure zde (CN:Addr)(S T:Sto)(N a b c:Nat)(ns:List Nd)(hs:List Int):Prop where
 g:Ng [a,b,c] S T
 lN:S.length≤N
 la:S.length≤a
 lb:S.length≤b
 lc:S.length≤c
 net:zba CN T N a b c ns hs
theorem zde.old {CN:Addr}{S T:Sto}{N a b c:Nat}{ns:List Nd}{hs:List Int}(h:zde CN S T N a b c ns hs){x:Nat}{o:Ob}(e:S[x]?=some o):T[x]?=some o:=h.g.2 x o (λz=>by
 have:=zbf e
 have:=h.la
 have:=h.lb
 have:=h.lc
 simp only[Vab,Vag,or_false] at z
 omega) e
theorem zde.of {CN:Addr}{S T U:Sto}{N a b c:Nat}{ns':List Nd}{hs':List Int}(g:Ng [] S T)(lN:S.length≤N)(la:S.length≤a)(lb:S.length≤b)(lc:S.length≤c)(g2:Ng [a,b,c] T U)(n:zba CN U N a b c ns' hs'):zde CN S U N a b c ns' hs':=⟨(g.nil).trans g2 λx hx=>.inl hx,lN,la,lb,lc,n⟩
theorem zbS.par {CT CN:Addr}{S T:Sto}{n N a b c m u e r N2 a2 b2 c2:Nat}{k:Tk}{M:List Nd×List Int}{j:Nat}{nm:Str}(h:zbS CT CN S n N a b c m u e r k)(w:zde CN S T N2 a2 b2 c2 M.1 M.2)(ok:NOk M.1 M.2)(lj:j<M.1.length)(lm:k.ns.length≤M.1.length):
  zbS CT CN ((T.set m (.dck (mlK (k.ml++[(nm,j)])))).set n (.ins CT (zcq N2 m u e r))) n N2 a2 b2 c2 m u e r { k with ns:=M.1,hs:=M.2,ml:=k.ml++[(nm,j)] }∧Ng (zbg n N a b c m u e r) S ((T.set m (.dck (mlK (k.ml++[(nm,j)])))).set n (.ins CT (zcq N2 m u e r)))∧Fr (zbg n N a b c m u e r) (zbg n N2 a2 b2 c2 m u e r) S.length:=by
 have p:=h.apart
 have ln:=zbf h.tsk
 have lm':=zbf h.mea
 have lu:=zbf h.nam
 have le:=zbf h.ends
 have lr:=zbf h.rows
 have qN:=w.lN
 have qa:=w.la
 have qb:=w.lb
 have qc:=w.lc
 refine⟨⟨?_,⟨?_,?_,?_,?_,w.net.ne,w.net.len⟩,?_,?_,?_,?_,?_,ok,zoO (λw i q=>Vai (h.mok w i q) lm) lj⟩,?_,?_⟩
 ·exact zc2 (zas (w.old h.tsk) p.nm)
 ·exact zas (zas w.net.net (by omega)) (by omega)
 ·exact zas (zas w.net.kept (by omega)) (by omega)
 ·exact zas (zas w.net.weights (by omega)) (by omega)
 ·exact zas (zas w.net.numbers (by omega)) (by omega)
 ·exact zas (zc2 (w.old h.mea)) (Ne.symm p.nm)
 ·exact zas (zas (w.old h.nam) (Ne.symm p.mu)) (Ne.symm p.nu)
 ·exact zas (zas (w.old h.ends) (Ne.symm p.me)) (Ne.symm p.ne)
 ·exact zas (zas (w.old h.rows) (Ne.symm p.mr)) (Ne.symm p.nr)
 ·have ab:=w.net.ne
  simp only[VaP,Vab,Vag,or_false,not_or,List.nodup_nil,and_true,not_false_eq_true]
  exact⟨⟨ab,by omega,by omega,by omega⟩,⟨by omega,by omega,by omega⟩,⟨p.ue,p.ur⟩,p.er⟩
 ·have g':Ng (zbg n N a b c m u e r) S T:=⟨w.g.1,λx o _ q=>w.old q⟩
  exact(g'.same (Ng.set (by simp[zbg]) _)).same (Ng.set (by simp[zbg]) _)
 ·intro x hx
  simp only[zbg,Vab,Vag,or_false] at hx ⊢
  omega
theorem zbS.row {CT CN:Addr}{S T:Sto}{n N a b c m u e r N2 a2 b2 c2:Nat}{k:Tk}{M:List Nd×List Int}{j:Nat}{sg:Str}(h:zbS CT CN S n N a b c m u e r k)(w:zde CN S T N2 a2 b2 c2 M.1 M.2)(ok:NOk M.1 M.2)(lm:k.ns.length≤M.1.length):
  zbS CT CN ((T.set n (.ins CT (zcq N2 m u e r))).set r (.lst (k.rw.map rwT++[rwT (sg,j)]))) n N2 a2 b2 c2 m u e r { k with ns:=M.1,hs:=M.2,rw:=k.rw++[(sg,j)] }∧Ng (zbg n N a b c m u e r) S ((T.set n (.ins CT (zcq N2 m u e r))).set r (.lst (k.rw.map rwT++[rwT (sg,j)])))∧Fr (zbg n N a b c m u e r) (zbg n N2 a2 b2 c2 m u e r) S.length:=by
 have p:=h.apart
 have ln:=zbf h.tsk
 have lm':=zbf h.mea
 have lu:=zbf h.nam
 have le:=zbf h.ends
 have lr:=zbf h.rows
 have qN:=w.lN
 have qa:=w.la
 have qb:=w.lb
 have qc:=w.lc
 refine⟨⟨?_,⟨?_,?_,?_,?_,w.net.ne,w.net.len⟩,?_,?_,?_,?_,?_,ok,λw i q=>Vai (h.mok w i q) lm⟩,?_,?_⟩
 ·exact zas (zc2 (w.old h.tsk)) p.nr
 ·exact zas (zas w.net.net (by omega)) (by omega)
 ·exact zas (zas w.net.kept (by omega)) (by omega)
 ·exact zas (zas w.net.weights (by omega)) (by omega)
 ·exact zas (zas w.net.numbers (by omega)) (by omega)
 ·exact zas (zas (w.old h.mea) (Ne.symm p.nm)) p.mr
 ·exact zas (zas (w.old h.nam) (Ne.symm p.nu)) p.ur
 ·exact zas (zas (w.old h.ends) (Ne.symm p.ne)) p.er
 ·show _=some (Ob.lst ((k.rw++[(sg,j)]).map rwT))
  rw[VaF]
  exact zc2 (zas (w.old h.rows) (Ne.symm p.nr))
 ·have ab:=w.net.ne
  simp only[VaP,Vab,Vag,or_false,not_or,List.nodup_nil,and_true,not_false_eq_true]
  exact⟨⟨ab,by omega,by omega,by omega⟩,⟨by omega,by omega,by omega⟩,⟨p.ue,p.ur⟩,p.er⟩
 ·have g':Ng (zbg n N a b c m u e r) S T:=⟨w.g.1,λx o _ q=>w.old q⟩
  exact(g'.same (Ng.set (by simp[zbg]) _)).same (Ng.set (by simp[zbg]) _)
 ·intro x hx
  simp only[zbg,Vab,Vag,or_false] at hx ⊢
  omega
theorem zm1 {te:TDE}{dl:Ev}{S S1:Sto}{Q:List D→Sto→Prop}{d:D}(h:∀K:DK,K d S1→te dl S K)(hq:Q [d] S1):zb0 te zbY dl S Q:=h _ hq
theorem args3 {t1 t2 t3:TDE}{dl:Ev}{S S1 S2 S3:Sto}{Q:List D→Sto→Prop}{d1 d2 d3:D}(h1:∀K:DK,K d1 S1→t1 dl S K)(h2:∀K:DK,K d2 S2→t2 dl S1 K)(h3:∀K:DK,K d3 S3→t3 dl S2 K)(hq:Q [d1,d2,d3] S3):zb0 t1 (zb0 t2 (zb0 t3 zbY)) dl S Q:=h1 _ (h2 _ (h3 _ hq))
theorem zwk {L R:List Str}{sg:Str}:(L++sg::R).drop (L.length+1)=R:=by
 rw[show L++sg::R=(L++[sg])++R by simp,show L.length+1=(L++[sg]).length by simp]
 exact List.drop_left
theorem zsu (L R:List Str)(sg:Str):atI ((L++sg::R).map D.str) (L.length:Int)=some (.str sg):=by
 have z:=zdj (ws:=L++sg::R) (p:=L.length) (by simp)
 rw[show (L++sg::R)[L.length]=sg by simp] at z
 exact z
theorem zsY {sg:Str}(h:sg="="∨sg=">="):[(("=":Str),("zero":Str)),(">=","least")].lookup sg=some (sgS sg):=by
 rcases h with rfl | rfl <;> decide
inductive zd0 (k:Tk)(ws:List Str)(k':Tk):Str→Prop
 | unk:zlh k ws k'→zd0 k ws k' "unknown"
 | par:ParC k ws k'→zd0 k ws k' "part"
 | row:RowC k ws k'→zd0 k ws k' "row"
theorem zsQ {l k:Nat}{c:List Str}{t:Tr}(h:exP l k c t):∀w∈c,kS w=.at→avS w≠none∨pvS w≠none:=by
 have g:∀ {l k:Nat} {c:List Str} {t:Tr},Ex kS avS pvS l k c t→∀w∈c,kS w=.at→avS w≠none∨pvS w≠none:=by
  intro l k c t h
  induction h with
  | @atom w t hw ha=>intro x hx _; rw[Vas.mp hx]; exact .inl (by rw[ha]; simp)
  | @shut a b l k c t ha hb _ ih=>
   intro x hx hk
   simp only[VaD,Vab,Vae,Vag,or_false] at hx
   rcases hx with rfl | hx | rfl
   ·rw[ha] at hk; cases hk
   ·exact ih x hx hk
   ·rw[hb] at hk; cases hk
  | @pow a p k c t n ha hp hn _ ih=>
   intro x hx hk
   simp only[Vae,Vab,Vag,or_false] at hx
   rcases hx with hx | rfl | rfl
   ·exact ih x hx hk
   ·rw[ha] at hk; cases hk
   ·exact .inr (by rw[hn]; simp)
  | @tim a l m k j c d t s ha _ _ _ _ i1 i2=>
   intro x hx hk
   simp only[Vae,Vab] at hx
   rcases hx with hx | rfl | hx
   ·exact i1 x hx hk
   ·rw[ha] at hk; cases hk
   ·exact i2 x hx hk
  | @sum a l m k j n c d t s ha _ _ _ i1 i2=>
   intro x hx hk
   simp only[Vae,Vab] at hx
   rcases hx with hx | rfl | hx
   ·exact i1 x hx hk
   ·rw[hk] at ha; cases ha
   ·exact i2 x hx hk
 exact g h
theorem zoW {l k:Nat}{c:List Str}{t:Tr}(h:exP l k c t){w:Str}(hw:w∈c):w≠"in"∧w≠"let":=by
 have no:∀x:Str,x∈NOAT→pvS x=none→w≠x:=λx hx hp e=>by
  obtain⟨a,b,_⟩:=zwA x hx
  rcases zsQ h w hw (by rw[e]; exact b) with z | z
  ·exact z (by rw[e]; exact a)
  ·exact z (by rw[e]; exact hp)
 exact⟨no _ (by decide) (by decide),no _ (by decide) (by decide)⟩
theorem znY {l k:Nat}{c:List Str}{t:Tr}(h:exP l k c t):c≠[]:=λe=>by
 have:=zj4 h
 rw[e] at this
 simp at this
theorem zxi {w:Str}(h:zaL w=true):w≠"in"∧w≠"let":=by
 constructor <;> intro e <;> rw[e] at h <;> revert h <;> decide
theorem in_eq (ws:List Str):eqL (eqN 1) (zbH (ws.map D.str) (some 1) (some 2)) [.str "in"]=some (decide (ws[1]?=some ("in":Str))):=by
 match ws with
 | []=>rfl
 | [a]=>rfl
 | a::b::r=>
  have e:zbH ((a::b::r).map D.str) (some 1) (some 2)=[.str b]:=by
   show zbH ((a::b::r).map D.str) (some ((1:Nat):Int)) (some ((2:Nat):Int))=_
   unfold L3.zbH
   rw[HT.sIx_nat,HT.sIx_nat]
   simp
  rw[e]
  show (match some (decide (b="in")),(some true:Option Bool) with | some x,some y=>some (x&&y) | _,_=>none)=_
  simp
theorem zbS.lt {CT CN:Addr}{S:Sto}{n N a b c m u e r:Nat}{k:Tk}(h:zbS CT CN S n N a b c m u e r k):∀x∈zbg n N a b c m u e r,x<S.length:=λx hx=>by
 simp only[zbg,Vab,Vag,or_false] at hx
 rcases hx with rfl | rfl | rfl | rfl | rfl | rfl | rfl | rfl | rfl
 ·exact zbf h.tsk
 ·exact zbf h.net.net
 ·exact zbf h.net.kept
 ·exact zbf h.net.weights
 ·exact zbf h.net.numbers
 ·exact zbf h.mea
 ·exact zbf h.nam
 ·exact zbf h.ends
 ·exact zbf h.rows
theorem zby.up {CT CN:Addr}{S T:Sto}{n:Nat}{ow:List Nat}{k:Tk}(h:zby CT CN S n ow k)(g:Ng [] S T):zby CT CN T n ow k:=by
 obtain⟨N,a,b,c,m,u,e,r,rfl,tp⟩:=h
 exact⟨N,a,b,c,m,u,e,r,rfl,tp.up g⟩
theorem zby.lt {CT CN:Addr}{S:Sto}{n:Nat}{ow:List Nat}{k:Tk}(h:zby CT CN S n ow k):∀x∈ow,x<S.length:=by
 obtain⟨N,a,b,c,m,u,e,r,rfl,tp⟩:=h
 exact tp.lt
theorem zby.tsk {CT CN:Addr}{S:Sto}{n:Nat}{ow:List Nat}{k:Tk}(h:zby CT CN S n ow k):∃N m u e r,S[n]?=some (.ins CT (zcq N m u e r)):=by
 obtain⟨N,a,b,c,m,u,e,r,rfl,tp⟩:=h
 exact⟨N,m,u,e,r,tp.tsk⟩
theorem Fr.le {ow ow':List Nat}{l l':Nat}(h:Fr ow ow' l)(e:l'≤l):Fr ow ow' l':=λx hx=>by
 rcases h x hx with z | z
 ·exact .inl z
 ·exact .inr (by omega)
theorem zuy {C:Addr}{f:Str}{to te:TDE}{E:zbN}{dl:Ev}{S:Sto}(h:te dl S λv S1=>to dl S1 λd S2=>match zb2 C S2 d with | some (n,fs)=>fs.length<1000∧E.nx dl (S2.set n (.ins C (zaP f v fs))) | none=>False):zfX C f to te E dl S:=by
 unfold zfX
 exact h
theorem zqy {C:Addr}{f:Str}{to:TDE}{E:zbN}{dl:Ev}{S1 S2:Sto}{n:Nat}{fs:List (Str×D)}{v:D}(hto:∀K:DK,K (.ref n) S2→to dl S1 K)(h:S2[n]?=some (.ins C fs))(hl:fs.length<1000)(hq:E.nx dl (S2.set n (.ins C (zaP f v fs)))):to dl S1 λd S2=>match zb2 C S2 d with | some (n,fs)=>fs.length<1000∧E.nx dl (S2.set n (.ins C (zaP f v fs))) | none=>False:=by
 refine hto _ ?_
 simp only[zb2,h,if_pos]
 exact⟨hl,hq⟩
theorem zrG {dl:Ev}{S:Sto}{Q:List D→Sto→Prop}(h:Q [] S):zbY dl S Q:=h
theorem ztg {dl:Ev}{S:Sto}{Q:DK}{T:Sto}{m:Nat}(e:T=S++[.dck []])(em:m=S.length)(h:Q (.ref m) T):zn9 dl S Q:=by
 subst e em
 exact h
def zkU (CT CN:Addr)(l:Nat):Sto:=[.ins CT (zcq (l+1) (l+5) (l+6) (l+7) (l+8)),.ins CN (zbD (l+2) (l+3) (l+4)),.lst [],.lst [],.dct [],.dck [],.lst [],.lst [],.lst []]
theorem zsB {CT CN:Addr}(T:Sto):zby CT CN (T++zkU CT CN T.length) T.length (zbg T.length (T.length+1) (T.length+2) (T.length+3) (T.length+4) (T.length+5) (T.length+6) (T.length+7) (T.length+8)) ⟨[],[],[],[],[],[]⟩:=by
 have g:∀k:Nat,(T++zkU CT CN T.length)[T.length+k]?=(zkU CT CN T.length)[k]?:=λk=>by rw[VaG (by omega),Nat.add_sub_cancel_left]
 refine⟨_,_,_,_,_,_,_,_,rfl,⟨g 0,⟨g 1,g 2,g 3,g 4,by omega,rfl⟩,g 5,g 6,g 7,g 8,?_,.nil,λw j e=>by cases e⟩⟩
 simp only[VaP,Vab,Vag,or_false,not_or,List.nodup_nil,and_true,not_false_eq_true]
 omega
def Tr.wf (f:Str→Int):Tr→Int
 | .nm w=>f (mk w)
 | .nb _ _=>1
 | .pw t k=>k*t.wf f
 | .bi _ l r=>l.wf f+r.wf f
open Classical in
noncomputable def Tr.cn:Tr→Nat
 | .nm _=>0
 | .nb _ _=>1
 | .pw t _=>t.cn+1
 | .bi _ l r=>if l=r then l.cn+1 else l.cn+r.cn+1
open Classical in
theorem zga (d:Nat)(l r:Tr):(Tr.bi d l r).cn=if l=r then l.cn+1 else l.cn+r.cn+1:=by
 show (if l=r then l.cn+1 else l.cn+r.cn+1)=_
 split <;> rfl
theorem zfE {f:Str→Int}(wp:∀w,1≤f w):∀t:Tr,t.good→1≤t.wf f
 | .nm w,_=>wp _
 | .nb _ _,_=>VaT _
 | .pw t k,h=>by
  have i:=zfE wp t h.1
  show 1≤k*t.wf f
  have:=Int.mul_le_mul (show 1≤k by have:=h.2.1; omega) i (by decide) (by have:=h.2.1; omega)
  omega
 | .bi _ l r,h=>by
  have i:=zfE wp l h.1
  have j:=zfE wp r h.2.1
  show 1≤l.wf f+r.wf f
  omega
theorem zkL {ms:Str→Option Nat}{wf:Str→Int}(wp:∀w,1≤wf w):∀(t:Tr) {ns:List Nd} {hs:List Int},NOk ns hs→(∀w∈t.nms,∃j,ms w=some j∧j<ns.length∧hs.getD j 0=wf w)→t.good→t.wf wf≤16→ns.length+t.cn≤60→∃ns' hs' j,zaz ms t (ns,hs)=some ((ns',hs'),j)∧Put ns hs ns' hs' j (t.wf wf) t.cn
 | .nm w,ns,hs,h,hn,_,_,_=>by
  obtain⟨j,e,l,o⟩:=hn (mk w) (Vas.mpr rfl)
  refine⟨ns,hs,j,?_,⟨h,⟨[],by simp⟩,⟨[],by simp⟩,l,o,by omega⟩⟩
  show (ms (mk w)).map _=_
  rw[e]
  rfl
 | .nb t b,ns,hs,h,_,_,_,l=>by
  obtain⟨ns',hs',j,e,p,_⟩:=zih (v:=.number t b) h trivial (by show (1:Int)≤16; decide) (by have:(Tr.nb t b).cn=1:=rfl; omega)
  exact⟨ns',hs',j,e,p⟩
 | .pw t k,ns,hs,h,hn,g,w,l=>by
  have ls:(Tr.pw t k).cn=t.cn+1:=rfl
  have lw:(Tr.pw t k).wf wf=k*t.wf wf:=rfl
  have tp:=zfE wp t g.1
  have tk:t.wf wf≤k*t.wf wf:=by
   have:=Int.mul_le_mul_of_nonneg_right (show 1≤k by have:=g.2.1; omega) (show 0≤t.wf wf by omega)
   omega
  obtain⟨n1,h1,i,e1,p1⟩:=zkL wp t h hn g.1 (by omega) (by omega)
  have hl:=p1.ok.len
  have pl:=p1.le
  have pt:=p1.lt
  have ii:inL h1 (i:Int):=⟨by omega,by omega⟩
  have wv:(Nd.power (i:Int) k).w h1=k*t.wf wf:=by
   show k*h1.getD (i:Int).toNat 0=_
   rw[VaS,p1.wt]
  obtain⟨n2,h2,j,e2,p2,_⟩:=zih (v:=.power (i:Int) k) p1.ok ⟨ii,g.2⟩ (by rw[wv]; omega) (by omega)
  refine⟨n2,h2,j,?_,?_⟩
  ·show (match zaz ms t (ns,hs) with | some (N1,i)=>zaQ N1 (.power i k) | none=>none)=_
   rw[e1]
   exact e2
  ·obtain⟨r1,q1⟩:=p1.ext
   obtain⟨r2,q2⟩:=p2.ext
   obtain⟨s1,u1⟩:=p1.exh
   obtain⟨s2,u2⟩:=p2.exh
   have l2:=p2.le
   exact⟨p2.ok,⟨r1++r2,by rw[q2,q1,Vaw]⟩,⟨s1++s2,by rw[u2,u1,Vaw]⟩,p2.lt,by rw[p2.wt,wv]; rfl,by omega⟩
 | .bi d tl tr,ns,hs,h,hn,g,w,l=>by
  have lw:(Tr.bi d tl tr).wf wf=tl.wf wf+tr.wf wf:=rfl
  have pl:=zfE wp tl g.1
  have pr:=zfE wp tr g.2.1
  have cb:tl.cn+1≤(Tr.bi d tl tr).cn:=by
   rw[zga]
   split <;> omega
  obtain⟨n1,h1,i,e1,p1⟩:=zkL wp tl h (λw hw=>hn w (VaA _ hw)) g.1 (by omega) (by omega)
  obtain⟨r1,q1⟩:=p1.ext
  obtain⟨s1,u1⟩:=p1.exh
  have hl:=h.len
  have l1:=p1.le
  have two:∃n2 h2 j,zaz ms tr (n1,h1)=some ((n2,h2),j)∧NOk n2 h2∧(∃r,n2=n1++r)∧(∃r,h2=h1++r)∧j<n2.length∧h2.getD j 0=tr.wf wf∧n2.length+1≤ns.length+(Tr.bi d tl tr).cn:=by
   by_cases c:tl=tr
   ·subst c
    have z:=(zh6 (λw j e=>e) tl e1).2.2 [] []
    rw[Vav,Vav] at z
    rw[zga,if_pos rfl]
    exact⟨n1,h1,i,z,p1.ok,⟨[],by simp⟩,⟨[],by simp⟩,p1.lt,p1.wt,by omega⟩
   ·have cc:(Tr.bi d tl tr).cn=tl.cn+tr.cn+1:=by rw[zga,if_neg c]
    obtain⟨n2,h2,j,e2,p2⟩:=zkL wp tr p1.ok (λw hw=>by
     obtain⟨x,a,b,c⟩:=hn w (Var _ hw)
     exact⟨x,a,by rw[q1,Vad]; omega,by rw[u1,zg1 (by omega)]; exact c⟩) g.2.1 (by omega) (by omega)
    have l2:=p2.le
    exact⟨n2,h2,j,e2,p2.ok,p2.ext,p2.exh,p2.lt,p2.wt,by omega⟩
  obtain⟨n2,h2,j,e2,o2,⟨r2,q2⟩,⟨s2,u2⟩,k2,w2,l2⟩:=two
  have hl1:=p1.ok.len
  have hl2:=o2.len
  have k1:=p1.lt
  have e12:n1.length≤n2.length:=by rw[q2,Vad]; omega
  have wi:h2.getD i 0=tl.wf wf:=by rw[u2,zg1 (by omega)]; exact p1.wt
  have wv:(Nd.two (kdS d) (i:Int) (j:Int)).w h2=tl.wf wf+tr.wf wf:=by
   show h2.getD (i:Int).toNat 0+h2.getD (j:Int).toNat 0=_
   rw[VaS,VaS,wi,w2]
  obtain⟨n3,h3,x,e3,p3,_⟩:=zih (v:=.two (kdS d) (i:Int) (j:Int)) o2 ⟨zia g.2.2,⟨by omega,by omega⟩,⟨by omega,by omega⟩⟩ (by rw[wv]; omega) (by omega)
  obtain⟨r3,q3⟩:=p3.ext
  obtain⟨s3,u3⟩:=p3.exh
  have l3:=p3.le
  refine⟨n3,h3,x,?_,⟨p3.ok,⟨r1++r2++r3,by rw[q3,q2,q1]; simp⟩,⟨s1++s2++s3,by rw[u3,u2,u1]; simp⟩,p3.lt,by rw[p3.wt,wv]; rfl,by omega⟩⟩
  show (match zaz ms tl (ns,hs) with | some (N1,i)=>(match zaz ms tr N1 with | some (N2,j)=>zaQ N2 (.two (kdS d) i j) | none=>none) | none=>none)=_
  rw[e1]
  dsimp only
  rw[e2]
  exact e3
def AtT:Tr→Prop
 | .nm w=>w=cs "x"∨w=cs "yy"
 | .nb t b=>zbi (za5 t b) t b∧(za5 t b).length≤12
 | _=>False
inductive LT:Nat→Tr→Prop
 | atm {t:Tr} {n:Nat}:AtT t→LT n t
 | lf {n:Nat} {t s:Tr} {d:Nat}:LT n t→AtT s→d≤2→LT (n+1) (.bi d t s)
 | rg {n:Nat} {t s:Tr} {d:Nat}:LT n t→AtT s→d≤2→LT (n+1) (.bi d s t)
 | pw {n:Nat} {t:Tr} {k:Int}:LT n t→2≤k→k≤6→LT (n+1) (.pw t k)
 | sq {n:Nat} {t:Tr}:LT n t→LT (n+1) (.bi 2 t t)
def Tr.wl:Tr→Nat
 | .nm _=>3
 | .nb _ _=>3
 | .pw t _=>t.wl+4
 | .bi _ l r=>l.wl+r.wl+3
def Tr.ats:Tr→Prop
 | .nm w=>AtT (.nm w)
 | .nb t b=>AtT (.nb t b)
 | .pw t _=>t.ats
 | .bi _ l r=>l.ats∧r.ats
theorem zmz {t:Tr}(h:AtT t):t.good∧t.cn≤1∧t.wl=3∧t.dp=0∧t.ats∧∀w∈t.nms,w="x"∨w="yy":=by
 match t,h with
 | .nm w,h=>
  refine⟨trivial,Vaz _,rfl,rfl,h,λx hx=>?_⟩
  have e:x=mk w:=Vas.mp hx
  rcases h with rfl | rfl
  ·left; rw[e,zb1]
  ·right; rw[e,zb1]
 | .nb t b,h=>exact⟨trivial,Vaa _,rfl,rfl,h,λx hx=>by cases hx⟩
theorem zk9 {n:Nat}{t:Tr}(h:LT n t):t.good∧t.cn≤1+2*n∧t.wl+3≤6*2^n∧t.dp≤n∧t.ats∧∀w∈t.nms,w="x"∨w="yy":=by
 induction h with
 | @atm t n h=>
  obtain⟨a,b,c,d,e,f⟩:=zmz h
  have:1≤2^n:=Nat.one_le_two_pow
  exact⟨a,by omega,by omega,by omega,e,f⟩
 | @lf n t s d h hs hd ih=>
  obtain⟨a,b,c,e,f,g⟩:=ih
  obtain⟨a',b',c',e',f',g'⟩:=zmz hs
  have p:2^(n+1)=2*2^n:=by rw[VaB,Nat.mul_comm]
  have q:1≤2^n:=Nat.one_le_two_pow
  refine⟨⟨a,a',hd⟩,?_,?_,?_,⟨f,f'⟩,λw hw=>?_⟩
  ·rw[zga]; split <;> omega
  ·show t.wl+s.wl+3+3≤_; omega
  ·show max t.dp s.dp+1≤_; omega
  ·rcases Vae.1 hw with hw | hw
   ·exact g w hw
   ·exact g' w hw
 | @rg n t s d h hs hd ih=>
  obtain⟨a,b,c,e,f,g⟩:=ih
  obtain⟨a',b',c',e',f',g'⟩:=zmz hs
  have p:2^(n+1)=2*2^n:=by rw[VaB,Nat.mul_comm]
  have q:1≤2^n:=Nat.one_le_two_pow
  refine⟨⟨a',a,hd⟩,?_,?_,?_,⟨f',f⟩,λw hw=>?_⟩
  ·rw[zga]; split <;> omega
  ·show s.wl+t.wl+3+3≤_; omega
  ·show max s.dp t.dp+1≤_; omega
  ·rcases Vae.1 hw with hw | hw
   ·exact g' w hw
   ·exact g w hw
 | @pw n t k h h2 h6 ih=>
  obtain⟨a,b,c,e,f,g⟩:=ih
  have p:2^(n+1)=2*2^n:=by rw[VaB,Nat.mul_comm]
  have q:1≤2^n:=Nat.one_le_two_pow
  exact⟨⟨a,h2,h6⟩,by show t.cn+1≤_; omega,by show t.wl+4+3≤_; omega,by show t.dp+1≤_; omega,f,g⟩
 | @sq n t h ih=>
  obtain⟨a,b,c,e,f,g⟩:=ih
  have p:2^(n+1)=2*2^n:=by rw[VaB,Nat.mul_comm]
  refine⟨⟨a,a,Vaa _⟩,?_,?_,?_,⟨f,f⟩,λw hw=>?_⟩
  ·rw[zga,if_pos rfl]; omega
  ·show t.wl+t.wl+3+3≤_; omega
  ·show max t.dp t.dp+1≤_; omega
  ·rcases Vae.1 hw with hw | hw
   ·exact g w hw
   ·exact g w hw
theorem zrM {n:Nat}{t:Tr}(h:LT n t)(hn:n≤3):(∃k a,t=.pw a k∧LT 3 a)∨(∃d a b,t=.bi d a b∧LT 3 a)∨AtT t:=by
 have up:∀ {n m:Nat} {t:Tr},LT n t→n≤m→LT m t:=by
  intro n m t h
  induction h generalizing m with
  | atm h=>exact λ_=>.atm h
  | lf _ hs hd ih=>intro hm; obtain⟨m',rfl⟩:∃m',m=m'+1:=⟨m-1,by omega⟩; exact .lf (ih (by omega)) hs hd
  | rg _ hs hd ih=>intro hm; obtain⟨m',rfl⟩:∃m',m=m'+1:=⟨m-1,by omega⟩; exact .rg (ih (by omega)) hs hd
  | pw _ h2 h6 ih=>intro hm; obtain⟨m',rfl⟩:∃m',m=m'+1:=⟨m-1,by omega⟩; exact .pw (ih (by omega)) h2 h6
  | sq _ ih=>intro hm; obtain⟨m',rfl⟩:∃m',m=m'+1:=⟨m-1,by omega⟩; exact .sq (ih (by omega))
 cases h with
 | atm h=>exact .inr (.inr h)
 | lf h hs hd=>exact .inr (.inl ⟨_,_,_,rfl,up h (by omega)⟩)
 | rg h hs hd=>exact .inr (.inl ⟨_,_,_,rfl,.atm hs⟩)
 | pw h h2 h6=>exact .inl ⟨_,_,rfl,up h (by omega)⟩
 | sq h=>exact .inr (.inl ⟨_,_,_,rfl,up h (by omega)⟩)
theorem zls {f:Str→Int}:∀t:Tr,(∀w∈t.nms,f w=1)→t.wf f=t.wt
 | .nm w,h=>h _ (Vas.mpr rfl)
 | .nb _ _,_=>rfl
 | .pw t k,h=>by show k*t.wf f=k*t.wt; rw[zls t h]
 | .bi _ l r,h=>by show l.wf f+r.wf f=l.wt+r.wt; rw[zls l λw hw=>h w (VaA _ hw),zls r λw hw=>h w (Var _ hw)]
def jn:List (List Nat)→List Nat
 | []=>[]
 | [a]=>a
 | a::b::r=>a++32::jn (b::r)
theorem zm3:∀ {X A Y B:List Nat},32 ∉ X→32 ∉ A→X++32::Y=A++32::B→X=A∧Y=B
 | [],[],_,_,_,_,e=>⟨rfl,(List.cons.inj e).2⟩
 | [],a::A,_,_,_,hA,e=>absurd (List.cons.inj e).1 (λz=>hA (by rw[← z]; exact Vau ..))
 | x::X,[],_,_,hX,_,e=>absurd (List.cons.inj e).1 (λz=>hX (by rw[z]; exact Vau ..))
 | x::X,a::A,_,_,hX,hA,e=>by
  obtain⟨e1,e2⟩:=List.cons.inj e
  obtain⟨i1,i2⟩:=zm3 (λz=>hX (Vam _ z)) (λz=>hA (Vam _ z)) e2
  exact⟨by rw[e1,i1],i2⟩
theorem znO:∀(A B:List (List Nat)),A≠[]→B≠[]→(∀a∈A,32 ∉ a)→(∀b∈B,32 ∉ b)→jn A=jn B→A=B
 | [],_,h,_,_,_,_=>absurd rfl h
 | _,[],_,h,_,_,_=>absurd rfl h
 | [a],[b],_,_,_,_,e=>by rw[show a=b from e]
 | [a],b::b'::s,_,_,hA,_,e=>by
  have e':a=b++32::jn (b'::s):=e
  exact absurd (by rw[e']; simp) (hA a (Vas.mpr rfl))
 | a::a'::r,[b],_,_,_,hB,e=>by
  have e':a++32::jn (a'::r)=b:=e
  exact absurd (by rw[← e']; simp) (hB b (Vas.mpr rfl))
 | a::a'::r,b::b'::s,_,_,hA,hB,e=>by
  obtain⟨e1,e2⟩:=zm3 (hA a (Vau ..)) (hB b (Vau ..)) (show a++32::jn (a'::r)=b++32::jn (b'::s) from e)
  rw[e1,znO (a'::r) (b'::s) (by simp) (by simp) (λx hx=>hA x (Vam _ hx)) (λx hx=>hB x (Vam _ hx)) e2]
theorem zhQ:∀ws:List Str,cs (Str.join " " ws)=jn (ws.map cs)
 | []=>rfl
 | [a]=>rfl
 | a::b::r=>by
  show cs (a++" "++Str.join " " (b::r))=cs a++32::jn ((b::r).map cs)
  rw[ziL,ziL,zhQ (b::r),Vaw]
  rfl
theorem zpI (ws:List Str):Txt.join " " ws=Str.join " " ws:=StrLaws.glued_eq_join " " ws
theorem zwZ {x:Str}{ws:List Str}(hx:x=Str.join " " ws)(hn:ws≠[])(h0:x.length≠0)(hb:∀w∈ws,32 ∉ cs w):Txt.split x " "=ws:=by
 have e:Str.join " " (Txt.split x " ")=x:=StrLaws.join_split x " "
 have f:∀p∈Txt.split x " ",32 ∉ cs p:=StrLaws.split_free x 32
 have ne:Txt.split x " "≠[]:=λz=>by
  rw[z] at e
  rw[← e] at h0
  exact h0 rfl
 have z:(Txt.split x " ").map cs=ws.map cs:=by
  refine znO _ _ (λy=>ne (List.map_eq_nil_iff.mp y)) (λy=>hn (List.map_eq_nil_iff.mp y)) (λa ha=>?_) (λa ha=>?_) ?_
  ·obtain⟨p,hp,rfl⟩:=List.mem_map.mp ha
   exact f p hp
  ·obtain⟨p,hp,rfl⟩:=List.mem_map.mp ha
   exact hb p hp
  ·rw[← zhQ,← zhQ,e,hx]
 have inj:∀ {A B:List Str},A.map cs=B.map cs→A=B:=by
  intro A
  induction A with
  | nil=>intro B h; cases B with
   | nil=>rfl
   | cons b B=>cases h
  | cons a A ih=>intro B h; cases B with
   | nil=>cases h
   | cons b B=>
    obtain⟨h1,h2⟩:=List.cons.inj h
    rw[zc3 h1,ih h2]
 exact inj z
theorem zwz (a b:Str)(r:List Str):Str.join " " (a::b::r)=a++" "++Str.join " " (b::r):=rfl
theorem zok:∀(ws:List Str) (B:Nat),(∀w∈ws,w.length≤B)→(Str.join " " ws).length≤ws.length*(B+1)
 | [],_,_=>Vaz _
 | [a],B,h=>by
  show a.length≤1*(B+1)
  have:=h a (Vas.mpr rfl)
  omega
 | a::b::r,B,h=>by
  have i:=zok (b::r) B λw hw=>h w (Vam _ hw)
  have j:=h a (Vau ..)
  rw[zwz,zdK,zdK]
  have e:(a::b::r).length*(B+1)=(b::r).length*(B+1)+(B+1):=by rw[Vaq,Nat.add_mul,Nat.one_mul]
  rw[e,show (" ":Str).length=1 from rfl]
  omega
def Tr.lv:Tr→Nat
 | .nm _=>3
 | .nb _ _=>3
 | .pw _ _=>2
 | .bi 0 _ _=>0
 | .bi 1 _ _=>0
 | .bi _ _ _=>1
theorem zmq {n m:Nat}{S:Sto}{Q:DK}{xs ys:List D}{b:Bool}(h1:S[n]?=some (.lst xs))(h2:S[m]?=some (.lst ys))(e:eqL (eqN 1) xs ys=some b)(hq:Q (.bl (!b)) S):zbP (zev 1) (.ref n) (.ref m) S Q:=by
 rw[zb8]
 unfold zev
 simp only[zek,zbr h1 rfl,zbr h2 rfl,zax,e]
 exact hq
theorem LT.up {n m:Nat}{t:Tr}(h:LT n t):n≤m→LT m t:=by
 induction h generalizing m with
 | atm h=>exact λ_=>.atm h
 | lf _ hs hd ih=>intro hm; obtain⟨m',rfl⟩:∃m',m=m'+1:=⟨m-1,by omega⟩; exact .lf (ih (by omega)) hs hd
 | rg _ hs hd ih=>intro hm; obtain⟨m',rfl⟩:∃m',m=m'+1:=⟨m-1,by omega⟩; exact .rg (ih (by omega)) hs hd
 | pw _ h2 h6 ih=>intro hm; obtain⟨m',rfl⟩:∃m',m=m'+1:=⟨m-1,by omega⟩; exact .pw (ih (by omega)) h2 h6
 | sq _ ih=>intro hm; obtain⟨m',rfl⟩:∃m',m=m'+1:=⟨m-1,by omega⟩; exact .sq (ih (by omega))
theorem pow8 {i:Int}(h:0≤i∧i<8):∃p:Int,2≤p∧p≤6∧atI [D.int 2,.int 3,.int 2,.int 3,.int 4,.int 2,.int 5,.int 6] i=some (.int p):=by
 have c:i=0∨i=1∨i=2∨i=3∨i=4∨i=5∨i=6∨i=7:=by omega
 rcases c with rfl | rfl | rfl | rfl | rfl | rfl | rfl | rfl <;> exact⟨_,by decide,by decide,rfl⟩
theorem cutE {s1 s2 s3 t2:TDS}{E:zbN}{dl:Ev}{S:Sto}{α:Type}(G:α→Ev)(T:α→Sto)(P:α→Prop)(h:(∀a,P a→t2 E (G a) (T a))→zaW s1 (zaW s2 (zaW s3 t2)) E dl S)(main:∀a,P a→t2 E (G a) (T a)):zaW s1 (zaW s2 (zaW s3 t2)) E dl S:=h main
def Tr.w1:Tr→Nat
 | .nm _=>1
 | .nb _ _=>1
 | .pw t _=>t.w1+4
 | .bi _ l r=>l.w1+r.w1+3
theorem zeF:∀t:Tr,t.w1≤t.wl
 | .nm _=>by show 1≤3; decide
 | .nb _ _=>by show 1≤3; decide
 | .pw t _=>by have:=zeF t; show t.w1+4≤t.wl+4; omega
 | .bi _ l r=>by have:=zeF l; have:=zeF r; show l.w1+r.w1+3≤l.wl+r.wl+3; omega
structure zcg (w:Str):Prop where
 le:w.length≤12
 ne:w.length≠0
 bl:32 ∉ cs w
theorem zbp {w:Str}(h:w∈[("(":Str),")","+","-","*","^","x","yy","2","3","4","5","6"]):zcg w:=by
 have z:∀w∈[("(":Str),")","+","-","*","^","x","yy","2","3","4","5","6"],w.length≤12∧w.length≠0∧32 ∉ cs w:=by decide
 obtain⟨a,b,c⟩:=z w h
 exact⟨a,b,c⟩
theorem zqC {t b:Int}(h:(za5 t b).length≤12):zcg (mk (za5 t b)):=by
 refine⟨by rw[zbL]; exact h,λz=>?_,λz=>?_⟩
 ·rw[zbL] at z
  have e:=List.eq_nil_of_length_eq_zero z
  unfold za5 at e
  exact zmW t (List.append_eq_nil_iff.mp e).1
 ·rw[zbv] at z
  unfold za5 at z
  rcases Vae.1 z with z | z
  ·have:=zfy z
   omega
  ·split at z
   ·cases z
   ·rcases Vab.mp z with z | z
    ·omega
    ·have:=zfy z
     omega
theorem zpM {v:Int}(h:2≤v∧v≤6):zcg (mk (num v)):=by
 have c:v=2∨v=3∨v=4∨v=5∨v=6:=by omega
 rcases c with rfl | rfl | rfl | rfl | rfl <;> exact zbp (by decide +kernel)
theorem AtT.name {w:List Nat}(h:AtT (.nm w)):zaL (mk w)=true∧zcg (mk w)∧cs (mk w)=w:=by
 refine⟨?_,?_,zbv w⟩
 ·rcases h with rfl | rfl <;> rw[zb1] <;> decide
 ·rcases h with rfl | rfl <;> rw[zb1] <;> exact zbp (by decide)
structure WsAt (T:Sto)(m:Nat)(ws:List Str):Prop where
 at_:T[m]?=some (.lst (ws.map D.str))
 ok:∀w∈ws,zcg w
theorem zwJ {l k:Nat}{c:List Str}{t:Tr}(h:exP l k c t):∀w∈c,zaL w=true→w∈t.nms:=by
 have g:∀ {l k:Nat} {c:List Str} {t:Tr},Ex kS avS pvS l k c t→∀w∈c,zaL w=true→w∈t.nms:=by
  intro l k c t h
  have ka:∀ {w:Str},zaL w=true→kS w=.at:=λhn=>zda _ _ (zgW hn)
  induction h with
  | @atom w t hw ha=>
   intro x hx hn
   rw[Vas.mp hx] at hn ⊢
   rw[zgW hn] at ha
   cases ha
   show w∈[mk (cs w)]
   rw[zb1]
   exact Vas.mpr rfl
  | @shut a b l k c t ha hb _ ih=>
   intro x hx hn
   simp only[VaD,Vab,Vae,Vag,or_false] at hx
   rcases hx with rfl | hx | rfl
   ·rw[ka hn] at ha; cases ha
   ·exact ih x hx hn
   ·rw[ka hn] at hb; cases hb
  | @pow a p k c t n ha hp hn' _ ih=>
   intro x hx hn
   simp only[Vae,Vab,Vag,or_false] at hx
   rcases hx with hx | rfl | rfl
   ·exact ih x hx hn
   ·rw[ka hn] at ha; cases ha
   ·exfalso
    unfold pvS at hn'
    (repeat' split at hn') <;> first | (rename_i e; rw[e] at hn; revert hn; decide) | cases hn'
  | @tim a l m k j c d t s ha _ _ _ _ i1 i2=>
   intro x hx hn
   simp only[Vae,Vab] at hx
   rcases hx with hx | rfl | hx
   ·exact VaA _ (i1 x hx hn)
   ·rw[ka hn] at ha; cases ha
   ·exact Var _ (i2 x hx hn)
  | @sum a l m k j n c d t s ha _ _ _ i1 i2=>
   intro x hx hn
   simp only[Vae,Vab] at hx
   rcases hx with hx | rfl | hx
   ·exact VaA _ (i1 x hx hn)
   ·rw[ka hn] at ha; cases ha
   ·exact Var _ (i2 x hx hn)
 exact g h
structure KG (k:Tk)(c:Nat):Prop where
 x:k.ml.lookup ("x":Str)=some 0
 y:k.ml.lookup ("yy":Str)=some 1
 x1:k.hs.getD 0 0=1
 y1:k.hs.getD 1 0=1
 l2:2≤k.ns.length
 c:k.ns.length≤c
 nok:NOk k.ns k.hs
 rw:k.rw=[]
theorem KG.fit {k:Tk}{c:Nat}(h:KG k c){t:Tr}(lt:LT 3 t)(w7:t.wt≤7)(hc:c+7≤60):∃(ns:List Nd) (hs:List Int) (j:Nat),zaz k.ms t (k.ns,k.hs)=some ((ns,hs),j)∧Put k.ns k.hs ns hs j t.wt 7:=by
 obtain⟨gd,cn,_,_,_,nm⟩:=zk9 lt
 have e:t.wf (λ_=>1)=t.wt:=zls t λ_ _=>rfl
 have:=h.c
 obtain⟨ns,hs,j,e1,p⟩:=zkL (ms:=k.ms) (wf:=λ_=>1) (λ_=>VaT _) t h.nok (λw hw=>by
  have l2:=h.l2
  rcases nm w hw with rfl | rfl
  ·exact⟨0,h.x,by omega,h.x1⟩
  ·exact⟨1,h.y,by omega,h.y1⟩) gd (by rw[e]; omega) (by omega)
 rw[e] at p
 exact⟨ns,hs,j,e1,⟨p.ok,p.ext,p.exh,p.lt,p.wt,by have:=p.le; omega⟩⟩
theorem zed {ml:List (Str×Nat)}{w v:Str}{i j:Nat}(h:ml.lookup w=some j):(ml++[(v,i)]).lookup w=some j:=by
 rw[zjf,h]
theorem zgi {ml:List (Str×Nat)}{w:Str}{i:Nat}(h:ml.lookup w=none):(ml++[(w,i)]).lookup w=some i:=by
 rw[zjf,h]
 show (if w=w then some i else none)=_
 rw[if_pos rfl]
theorem zg8 {ml:List (Str×Nat)}{w v:Str}{i:Nat}(h:ml.lookup w=none)(ne:w≠v):(ml++[(v,i)]).lookup w=none:=by
 rw[zjf,h]
 show (if w=v then some i else none)=_
 rw[if_neg ne]
theorem KG.next {k:Tk}{c:Nat}(h:KG k c){ns:List Nd}{hs:List Int}{j d:Nat}{wt:Int}{nm:Str}(p:Put k.ns k.hs ns hs j wt d):KG { k with ns:=ns,hs:=hs,ml:=k.ml++[(nm,j)] } (c+d):=by
 obtain⟨r,e⟩:=p.ext
 obtain⟨s,f⟩:=p.exh
 have l2:=h.l2
 have hl:=h.nok.len
 have:=h.c
 have:=p.le
 exact⟨zed h.x,zed h.y,by show hs.getD 0 0=1; rw[f,zg1 (by omega)]; exact h.x1,by show hs.getD 1 0=1; rw[f,zg1 (by omega)]; exact h.y1,by show 2≤ns.length; rw[e,Vad]; omega,by show ns.length≤_; omega,p.ok,h.rw⟩
theorem KG.knows {k:Tk}{c l b:Nat}(h:KG k c){t:Tr}{ws:List Str}(lt:LT 3 t)(x:exP l b ws t)(wo:∀w∈ws,zcg w):zlz k ws:=λw hw=>⟨by have:=(wo w hw).le; omega,λhn=>by
 rcases (zk9 lt).2.2.2.2.2 w (zwJ x w hw hn) with rfl | rfl
 ·exact⟨0,h.x⟩
 ·exact⟨1,h.y⟩⟩
theorem zqT {pre nm:Str}{ws:List Str}(hp:cs pre=[108,101,116,32]++cs nm++[32,61,32])(hw:ws≠[])(hm:zcg nm)(ok:∀w∈ws,zcg w)(l:ws.length≤60):Txt.split (pre++Txt.join " " ws) " "=("let":Str)::nm::("=":Str)::ws∧(pre++Txt.join " " ws).length≤1000∧("":Str) ∉ ("let":Str)::nm::("=":Str)::ws∧(Txt.join " " ws).length≤800∧pre.length≤30:=by
 have all:∀w∈("let":Str)::nm::("=":Str)::ws,zcg w:=λw hw=>by
  rcases Vab.mp hw with rfl | hw
  ·exact⟨by decide,by decide,by decide⟩
  rcases Vab.mp hw with rfl | hw
  ·exact hm
  rcases Vab.mp hw with rfl | hw
  ·exact⟨by decide,by decide,by decide⟩
  ·exact ok w hw
 have e:pre++Txt.join " " ws=Str.join " " (("let":Str)::nm::("=":Str)::ws):=by
  refine zc3 ?_
  rw[zpI,ziL,hp,zhQ,zhQ]
  cases ws with
  | nil=>exact absurd rfl hw
  | cons w r=>
   show [108,101,116,32]++cs nm++[32,61,32]++jn ((w::r).map cs)=cs "let"++32::(cs nm++32::(cs "="++32::jn ((w::r).map cs)))
   rw[show cs ("let":Str)=[108,101,116] by decide,show cs ("=":Str)=[61] by decide]
   simp
 have lp:pre.length≤30:=by
  have:=congrArg List.length hp
  rw[← zeM] at this
  have:=hm.le
  rw[zeM] at this
  simp at *
  omega
 have lj:(Txt.join " " ws).length≤800:=by
  rw[zpI]
  have:=zok ws 12 λw hw=>(ok w hw).le
  have:ws.length*(12+1)≤60*13:=Nat.mul_le_mul l (Vaa _)
  omega
 have ll:(pre++Txt.join " " ws).length≤1000:=by rw[zdK]; omega
 have l0:(pre++Txt.join " " ws).length≠0:=by
  rw[zdK]
  have:=congrArg List.length hp
  rw[← zeM] at this
  simp at this
  omega
 exact⟨zwZ e (by simp) l0 λw hw=>(all w hw).bl,ll,λz=>(all _ z).ne rfl,lj,lp⟩
theorem KG.par {k:Tk}{c l b:Nat}(h:KG k c){t:Tr}{ws:List Str}{nm:Str}{ns:List Nd}{hs:List Int}{j:Nat}(lt:LT 3 t)(x:exP l b ws t)(wo:∀w∈ws,zcg w)(b16:b≤16)(wl:ws.length≤120)(n0:zaL nm=true)(nn:k.ml.lookup nm=none)(lm:k.ml.length<900)(e:zaz k.ms t (k.ns,k.hs)=some ((ns,hs),j)):ParC k (("let":Str)::nm::("=":Str)::ws) { k with ns:=ns,hs:=hs,ml:=k.ml++[(nm,j)] }:=⟨⟨nm,ws,t,(ns,hs),j,rfl,n0,zhH x b16 wl,nn,lm,h.knows lt x wo,e,rfl⟩⟩
def k2S:Tk:=⟨[.unknown 0,.unknown 1],[1,1],[("x",0),("yy",1)],["x","yy"],[enD 0 1 1 1,enD (-1) 2 3 1],[]⟩
theorem zjS {w:Str}{t b:Int}(h:cs w=za5 t b)(hb:1≤b)(hg:Int.gcd t b=1)(ht:t.natAbs<10^9)(hb9:b<10^9):zbi (cs w) t b:=by rw[h]; exact⟨hb,hg,ht,hb9,rfl⟩
theorem unk_x:zlh ⟨[],[],[],[],[],[]⟩ ["x","in","0","1"] ⟨[.unknown 0],[1],[("x",0)],["x"],[enD 0 1 1 1],[]⟩:=⟨⟨"x","0","1",0,1,1,1,([.unknown 0],[1]),0,rfl,by decide,by decide,by decide,zjS (by decide +kernel) (by decide) (by decide) (by decide) (by decide),zjS (by decide +kernel) (by decide) (by decide) (by decide) (by decide),by decide,rfl,by decide,by decide,by decide,rfl,rfl⟩⟩
theorem unk_y:zlh ⟨[.unknown 0],[1],[("x",0)],["x"],[enD 0 1 1 1],[]⟩ ["yy","in","-1/2","3"] k2S:=⟨⟨"yy","-1/2","3",-1,2,3,1,([.unknown 0,.unknown 1],[1,1]),1,rfl,by decide,by decide,by decide,zjS (by decide +kernel) (by decide) (by decide) (by decide) (by decide),zjS (by decide +kernel) (by decide) (by decide) (by decide) (by decide),by decide,by decide,by decide,by decide,by decide,by rfl,rfl⟩⟩
theorem zoY:Txt.split "x in 0 1" " "=[("x":Str),"in","0","1"]:=by decide +kernel
theorem zpv:Txt.split "yy in -1/2 3" " "=[("yy":Str),"in","-1/2","3"]:=by decide +kernel
theorem zm5:Txt.split "let again = ( ( lean ) )" " "=[("let":Str),"again","=","(","(","lean",")",")"]:=by decide +kernel
theorem zps:Txt.split "lean - lean = x" " "=[("lean":Str),"-","lean","=","x"]:=by decide +kernel
theorem zus (a b sg:Str)(ha:a∈[("lean":Str),"full","again"])(hb:b∈[("lean":Str),"full","again"])(hs:sg∈[("=":Str),">="]):Txt.split (a++(" "++sg++" ")++b) " "=[a,sg,b]∧(a++(" "++sg++" ")++b).length≤100:=by
 have z:∀a∈[("lean":Str),"full","again"],∀b∈[("lean":Str),"full","again"],∀sg∈[("=":Str),">="],Txt.split (a++(" "++sg++" ")++b) " "=[a,sg,b]∧(a++(" "++sg++" ")++b).length≤100:=by decide +kernel
 exact z a ha b hb sg hs
theorem kg2:KG k2S 2:=⟨by decide,by decide,by decide,by decide,by decide,by decide,.snoc (ns:=[.unknown 0]) (hs:=[1]) (v:=.unknown 1) (.snoc (ns:=[]) (hs:=[]) (v:=.unknown 0) .nil trivial rfl (by decide) (by decide)) trivial (by rfl) (by decide) (by decide),rfl⟩
structure LS (CT CN:Addr)(ns:List Int)(S:Sto)(ow:List Nat)(k:Tk):Prop where
 s0:S[0]?=some (.frz (ns.map D.int))
 n0:0 ∉ ow
 tk:zby CT CN S 1 ow k
theorem LS.up {CT CN:Addr}{ns:List Int}{S T:Sto}{ow:List Nat}{k:Tk}(h:LS CT CN ns S ow k)(g:Ng [] S T):LS CT CN ns T ow k:=⟨g.2 _ _ (by simp) h.s0,h.n0,h.tk.up g⟩
theorem zmr {S:Sto}{ow ow':List Nat}{p:Nat}{o:Ob}(hp:S[p]?=some o)(n:p ∉ ow)(f:Fr ow ow' S.length):p ∉ ow':=λz=>by
 have:=zbf hp
 rcases f p z with y | y
 ·exact n y
 ·omega
theorem LS.tell {CT CN:Addr}{ns:List Int}{S T:Sto}{ow ow':List Nat}{k k':Tk}(h:LS CT CN ns S ow k)(g:Ng ow S T)(f:Fr ow ow' S.length)(t:zby CT CN T 1 ow' k'):LS CT CN ns T ow' k':=⟨g.2 _ _ h.n0 h.s0,zmr h.s0 h.n0 f,t⟩
theorem zwp {n:Nat}{S:Sto}{Q:DK}{xs:List D}(h:S[n]?=some (.frz xs))(hq:Q (.int (xs.length:Nat)) S):irr zeB [.ref n] S Q:=by
 rw[zew]
 unfold zeB
 simp only[zbr h rfl,zax]
 exact hq
theorem zjz:∀ws:List Str,zcw (ws.map D.str)=some ws
 | []=>rfl
 | w::ws=>by
  show (zcw (ws.map D.str)).map (w::·)=_
  rw[zjz ws]
  rfl
theorem zmi {to:TDE}{t:TDA}{dl:Ev}{S:Sto}{Q:DK}(h:to dl S λd S1=>match d with
 | .str sep=>t dl S1 λds S2=>match ds with
  | [.ref n]=>match lAt S2 n with
   | some o=>∃zs,zcw (zax o)=some zs∧sep.length≤16∧(∀z∈zs,z.length≤1000)∧zs.length≤1000∧Q (.str (Txt.join sep zs)) S2
   | none=>False
  | _=>False
 | _=>False):zkZ to t dl S Q:=by
 unfold zkZ
 exact h
def PN:List Str:=["pa","pb","pc","pd","pe"]
theorem pn_at (k:Nat)(h:k<5):∃(c:Nat) (nm:Str),("abcde":Str).cps[k]?=some c∧cs (("let p":Str)++⟨#[c]⟩++" = ")=[108,101,116,32]++cs nm++[32,61,32]∧zaL nm=true∧zcg nm∧nm ∉ [("x":Str),"yy"]++PN.take k∧[("x":Str),"yy"]++PN.take k++[nm]=[("x":Str),"yy"]++PN.take (k+1):=by
 match k,h with
 | 0,_=>exact⟨97,"pa",by decide,by decide,by decide,⟨by decide,by decide,by decide⟩,by decide,by decide⟩
 | 1,_=>exact⟨98,"pb",by decide,by decide,by decide,⟨by decide,by decide,by decide⟩,by decide,by decide⟩
 | 2,_=>exact⟨99,"pc",by decide,by decide,by decide,⟨by decide,by decide,by decide⟩,by decide,by decide⟩
 | 3,_=>exact⟨100,"pd",by decide,by decide,by decide,⟨by decide,by decide,by decide⟩,by decide,by decide⟩
 | 4,_=>exact⟨101,"pe",by decide,by decide,by decide,⟨by decide,by decide,by decide⟩,by decide,by decide⟩
theorem zmA:∀ {ml:List (Str×Nat)} {w:Str},w ∉ ml.map (·.1)→ml.lookup w=none
 | [],_,_=>rfl
 | (k,v)::ml,w,h=>by
  rw[Vaj,Vab,not_or] at h
  rw[Vah,show (w==k)=false by simpa using h.1]
  exact zmA h.2
structure zcU (x nm:Str)(ws:List Str)(t:Tr):Prop where
 sp:Txt.split x " "=("let":Str)::nm::("=":Str)::ws
 le:x.length≤1000
 no:("":Str) ∉ ("let":Str)::nm::("=":Str)::ws
 ex:∃l b,exP l b ws t∧b≤16
 wl:ws.length≤120
 ok:∀w∈ws,zcg w
theorem zcU.of {pre nm:Str}{ws:List Str}{t:Tr}{l b:Nat}(hp:cs pre=[108,101,116,32]++cs nm++[32,61,32])(hm:zcg nm)(x:exP l b ws t)(b16:b≤16)(ok:∀w∈ws,zcg w)(lw:ws.length≤60):zcU (pre++Txt.join " " ws) nm ws t∧(Txt.join " " ws).length≤800∧pre.length≤30:=by
 obtain⟨a,b,c,d,e⟩:=zqT hp (znY x) hm ok lw
 exact⟨⟨a,b,c,⟨_,_,x,b16⟩,by omega,ok⟩,d,e⟩
theorem zcU.par {x nm:Str}{ws:List Str}{t:Tr}(h:zcU x nm ws t){k:Tk}{c:Nat}(kg:KG k c)(lt:LT 3 t)(n0:zaL nm=true)(nn:k.ml.lookup nm=none)(lm:k.ml.length<900){ns:List Nd}{hs:List Int}{j:Nat}(e:zaz k.ms t (k.ns,k.hs)=some ((ns,hs),j)):zd0 k (Txt.split x " ") { k with ns:=ns,hs:=hs,ml:=k.ml++[(nm,j)] } "part":=by
 obtain⟨l,b,ex,b16⟩:=h.ex
 rw[h.sp]
 exact .par (kg.par lt ex h.ok b16 h.wl n0 nn lm e)
theorem wl45 {t:Tr}(lt:LT 3 t):t.wl≤45∧t.w1≤45∧t.dp≤3∧t.good∧t.ats:=by
 obtain⟨a,_,c,d,e,_⟩:=zk9 lt
 have:=zeF t
 exact⟨by omega,by omega,d,a,e⟩
theorem zrN {k:Tk}{a b sg:Str}{i j:Nat}{ns:List Nd}{hs:List Int}{q:Nat}(ha:zaL a=true)(hb:zaL b=true)(hs':sg="="∨sg=">=")(ea:k.ml.lookup a=some i)(eb:k.ml.lookup b=some j)(lr:k.rw.length<12)(e:zaQ (k.ns,k.hs) (.two "minus" (i:Int) (j:Int))=some ((ns,hs),q)):RowC k [a,sg,b] { k with ns:=ns,hs:=hs,rw:=k.rw++[(sgS sg,q)] }:=by
 have ne:∀ {w:Str},zaL w=true→w≠"="∧w≠">=":=λh=>by constructor <;> intro z <;> rw[z] at h <;> revert h <;> decide
 have t1:∀ {w:Str},zaL w=true→trS [w]=some (.nm (cs w)):=λh=>zhH (zg0 h) (by decide) (show 1≤120 by decide)
 refine⟨⟨[a],[b],sg,.nm (cs a),.nm (cs b),(ns,hs),q,rfl,λw hw=>by rw[Vas.mp hw]; exact ne ha,hs',t1 ha,t1 hb,λw hw=>?_,lr,?_,rfl⟩⟩
 ·simp only[Vae,Vab,Vag,or_false] at hw
  rcases hw with rfl | rfl | rfl
  ·exact⟨by have:=zlt ha; omega,λ_=>⟨i,ea⟩⟩
  ·refine⟨by rcases hs' with rfl | rfl <;> decide,λz=>?_⟩
   rcases hs' with rfl | rfl
   ·exact absurd z (by decide)
   ·exact absurd z (by decide)
  ·exact⟨by have:=zlt hb; omega,λ_=>⟨j,eb⟩⟩
 ·have x1:zaz k.ms (.nm (cs a)) (k.ns,k.hs)=some ((k.ns,k.hs),i):=by
   show (k.ml.lookup (mk (cs a))).map _=_
   rw[zb1,ea]; rfl
  have x2:zaz k.ms (.nm (cs b)) (k.ns,k.hs)=some ((k.ns,k.hs),j):=by
   show (k.ml.lookup (mk (cs b))).map _=_
   rw[zb1,eb]; rfl
  show (match zaz k.ms (.nm (cs a)) (k.ns,k.hs) with | some (N1,i)=>(match zaz k.ms (.nm (cs b)) N1 with | some (N2,j)=>zaQ N2 (.two (kdS 1) i j) | none=>none) | none=>none)=_
  rw[x1]
  dsimp only
  rw[x2]
  exact e
theorem zrW {k:Tk}{j:Nat}(e:k.ml.lookup ("lean":Str)=some j)(nn:k.ml.lookup ("again":Str)=none)(lm:k.ml.length<900):zd0 k (Txt.split "let again = ( ( lean ) )" " ") { k with ns:=k.ns,hs:=k.hs,ml:=k.ml++[(("again":Str),j)] } "part":=by
 rw[zm5]
 have x0:exP 3 0 [("lean":Str)] (.nm (cs "lean")):=zg0 (by decide)
 have x2:exP 3 2 [("(":Str),"(","lean",")",")"] (.nm (cs "lean")):=Ex.shut (a:=("(":Str)) (b:=(")":Str)) (c:=[("(":Str),"lean",")"]) (by decide) (by decide) (Ex.shut (a:=("(":Str)) (b:=(")":Str)) (c:=[("lean":Str)]) (by decide) (by decide) x0)
 refine .par ⟨⟨"again",["(","(","lean",")",")"],.nm (cs "lean"),(k.ns,k.hs),j,rfl,by decide,zhH x2 (by decide) (by decide),nn,lm,λw hw=>?_,?_,rfl⟩⟩
 ·refine⟨?_,λhn=>?_⟩
  ·revert w; decide
  ·have z:∀w∈[("(":Str),"(","lean",")",")"],zaL w=true→w="lean":=by decide
   rw[z w hw hn]
   exact⟨j,e⟩
 ·show (k.ml.lookup (mk (cs "lean"))).map _=_
  rw[zb1,e]
  rfl
theorem zvM {k:Tk}{j q q2:Nat}{ns:List Nd}{hs:List Int}(e:k.ml.lookup ("lean":Str)=some j)(ex:k.ml.lookup ("x":Str)=some 0)(lr:k.rw.length<12)(e1:zaQ (k.ns,k.hs) (.two "minus" (j:Int) (j:Int))=some ((k.ns,k.hs),q))(e2:zaQ (k.ns,k.hs) (.two "minus" (q:Int) 0)=some ((ns,hs),q2)):zd0 k (Txt.split "lean - lean = x" " ") { k with ns:=ns,hs:=hs,rw:=k.rw++[(("zero":Str),q2)] } "row":=by
 rw[zps]
 have x0:exP 3 0 [("lean":Str)] (.nm (cs "lean")):=zg0 (by decide)
 have x1:exP 0 0 [("lean":Str),"-","lean"] (.bi 1 (.nm (cs "lean")) (.nm (cs "lean"))):=Ex.sum (a:=("-":Str)) (n:=1) (m:=3) (c:=[("lean":Str)]) (d:=[("lean":Str)]) (by decide) (by decide) x0 x0
 have xx:exP 3 0 [("x":Str)] (.nm (cs "x")):=zg0 (by decide)
 refine .row ⟨⟨["lean","-","lean"],["x"],"=",.bi 1 (.nm (cs "lean")) (.nm (cs "lean")),.nm (cs "x"),(ns,hs),q2,rfl,by decide,.inl rfl,zhH x1 (by decide) (by decide),zhH xx (by decide) (by decide),λw hw=>?_,lr,?_,rfl⟩⟩
 ·refine⟨by revert w; decide,λhn=>?_⟩
  have z:∀w∈[("lean":Str),"-","lean","=","x"],zaL w=true→w="lean"∨w="x":=by decide
  rcases z w hw hn with rfl | rfl
  ·exact⟨j,e⟩
  ·exact⟨0,ex⟩
 ·have y1:zaz k.ms (.nm (cs "lean")) (k.ns,k.hs)=some ((k.ns,k.hs),j):=by
   show (k.ml.lookup (mk (cs "lean"))).map _=_
   rw[zb1,e]; rfl
  have y2:zaz k.ms (.nm (cs "x")) (k.ns,k.hs)=some ((k.ns,k.hs),0):=by
   show (k.ml.lookup (mk (cs "x"))).map _=_
   rw[zb1,ex]; rfl
  have y3:zaz k.ms (.bi 1 (.nm (cs "lean")) (.nm (cs "lean"))) (k.ns,k.hs)=some ((k.ns,k.hs),q):=by
   show (match zaz k.ms (.nm (cs "lean")) (k.ns,k.hs) with | some (N1,i)=>(match zaz k.ms (.nm (cs "lean")) N1 with | some (N2,j)=>zaQ N2 (.two (kdS 1) i j) | none=>none) | none=>none)=_
   rw[y1]
   dsimp only
   rw[y1]
   exact e1
  show (match zaz k.ms (.bi 1 (.nm (cs "lean")) (.nm (cs "lean"))) (k.ns,k.hs) with | some (N1,i)=>(match zaz k.ms (.nm (cs "x")) N1 with | some (N2,j)=>zaQ N2 (.two (kdS 1) i j) | none=>none) | none=>none)=_
  rw[y3]
  dsimp only
  rw[y2]
  exact e2
theorem zw0 {a b:Int}{S:Sto}{K:DK}(h:∀v:Int,v≤a→v≤b→(v=a∨v=b)→K (.int v) S):wMin [.int a,.int b] S K:=by
 show K (.int (if b<a then b else a)) S
 split
 ·exact h b (by omega) (by omega) (.inr rfl)
 ·exact h a (by omega) (by omega) (.inl rfl)
theorem zws {a b sg:Str}(ha:a∈[("lean":Str),"full","again"])(hs:sg∈[("=":Str),">="])(hb:b∈[("lean":Str),"full","again"]):("":Str) ∉ [a,sg,b]:=by
 have z:∀a∈[("lean":Str),"full","again"],∀sg∈[("=":Str),">="],∀b∈[("lean":Str),"full","again"],("":Str) ∉ [a,sg,b]:=by decide
 exact z a ha sg hs b hb
theorem ifNS {a b:Str}{A B:Prop}(h1:a≠b→A)(h2:a=b→B):if (!decide (a=b))=true then A else B:=by
 by_cases c:a=b
 ·rw[decide_eq_true c]; exact zcn (h2 c)
 ·rw[decide_eq_false c]; exact zbZ (h1 c)
theorem seqW2 {a b d:TDS}{E:zbN}{dl:Ev}{S:Sto}(W:Ev→Sto→Prop)(ha:∀nx:Ev→Sto→Prop,(∀dl' S',W dl' S'→nx dl' S')→zaW a b { nx:=nx,rt:=E.rt,bk:=E.bk,ct:=E.ct } dl S)(hb:∀dl' S',W dl' S'→d E dl' S'):zaW a (zaW b d) E dl S:=ha _ hb
structure zcf (K:PySem.W.Frag)(mg:Str→Option Value) where
 C:Addr
 m:mg "Net"=some (.ref C)
 cl:Cls K C
 n_numbers:zbq K C "numbers"
 n_weights:zbq K C "weights"
 n_kept:zbq K C "kept"
 makes:PySem.W.makesIn K C=true
 kp:PySem.W.keepIn K (.ref C)=true
structure zcS (K:PySem.W.Frag)(mg:Str→Option Value) where
 C:Addr
 m:mg "Task"=some (.ref C)
 cl:Cls K C
 n_told_rows:zbq K C "told_rows"
 n_unknown_ends:zbq K C "unknown_ends"
 n_unknown_names:zbq K C "unknown_names"
 n_meanings:zbq K C "meanings"
 n_net:zbq K C "net"
 makes:PySem.W.makesIn K C=true
 kp:PySem.W.keepIn K (.ref C)=true
structure zcl (K:PySem.W.Frag)(mg:Str→Option Value) where
 C:Addr
 m:mg "Reader"=some (.ref C)
 cl:Cls K C
 n_depth:zbq K C "depth"
 n_place:zbq K C "place"
 n_words:zbq K C "words"
 makes:PySem.W.makesIn K C=true
 kp:PySem.W.keepIn K (.ref C)=true
def zfK (cNet:Addr):Sd:=λds S Q ex=>match ds with
 | [.ref n]=>∃T:Sto,S=T++[.ins cNet []]∧n=T.length∧Q .non (T++[.ins cNet (zbD (T.length+1) (T.length+2) (T.length+3)),.lst [],.lst [],.dct []])
 | _=>False
theorem zsK (cNet:Addr):Ln (zfK cNet) 1:=λds S Q ex h=>by unfold zfK at h; split at h <;> first | rfl | exact h.elim
def zik (cNet:Addr)(cTask:Addr):Sd:=λds S Q ex=>match ds with
 | [.ref n]=>∃T:Sto,S=T++[.ins cTask []]∧n=T.length∧∀(U:Sto) (ow:List Nat),Ng [] T U→(∀x∈ow,T.length≤x)→zby cTask cNet U n ow ⟨[],[],[],[],[],[]⟩→Q .non U
 | _=>False
theorem zwn (cNet:Addr)(cTask:Addr):Ln (zik cNet cTask) 1:=λds S Q ex h=>by unfold zik at h; split at h <;> first | rfl | exact h.elim
def zht:Sd:=λds S Q ex=>match ds with
 | [.str x]=>(x.length≤1000∧("":Str) ∉ Txt.split x " ")∧Q (.ref S.length) (S++[.lst ((Txt.split x " ").map D.str)])
 | _=>False
theorem zvj:Ln (zht) 1:=λds S Q ex h=>by unfold zht at h; split at h <;> first | rfl | exact h.elim
def zgq:Sd:=λds S Q ex=>match ds with
 | [.ref wm]=>∃(L R:List Str) (sg:Str),S[wm]?=some (.lst ((L++sg::R).map D.str))∧(∀w∈L,w≠"="∧w≠">=")∧(sg="="∨sg=">=")∧Q (.int (L.length:Int)) S
 | _=>False
theorem ztT:Ln (zgq) 1:=λds S Q ex h=>by unfold zgq at h; split at h <;> first | rfl | exact h.elim
def zgP (cReader:Addr):Sd:=λds S Q ex=>match ds with
 | [.ref n,.ref wm]=>∃T:Sto,S=T++[.ins cReader []]∧n=T.length∧Q .non (T++[.ins cReader (rdF wm 0 0)])
 | _=>False
theorem zvP (cReader:Addr):Ln (zgP cReader) 2:=λds S Q ex h=>by unfold zgP at h; split at h <;> first | rfl | exact h.elim
def zeP (cReader:Addr):Sd:=λds S Q ex=>match ds with
 | [.ref n]=>∃(wm:Nat) (ws:List Str) (p d:Nat),za9 cReader S n wm ws p d∧Q (.bl (decide (p=ws.length))) S
 | _=>False
theorem zqU (cReader:Addr):Ln (zeP cReader) 1:=λds S Q ex h=>by unfold zeP at h; split at h <;> first | rfl | exact h.elim
def zdh (cReader:Addr)(cNoRow:Addr):Sd:=λds S Q ex=>match ds with
 | [.ref n]=>∃(wm:Nat) (ws:List Str) (p d:Nat),za9 cReader S n wm ws p d∧match ws.drop p with | []=>ex cNoRow S | w::_=>Q (.str w) (S.set n (.ins cReader (rdF wm ((p:Int)+1) (d:Int))))
 | _=>False
theorem zv7 (cReader:Addr)(cNoRow:Addr):Ln (zdh cReader cNoRow) 1:=λds S Q ex h=>by unfold zdh at h; split at h <;> first | rfl | exact h.elim
def zfF:Sd:=λds S Q ex=>match ds with
 | [.str w,.str sg,.int m]=>w.length≤1000∧Q (.bl ((decide (1≤(w.length:Int))&&decide ((w.length:Int)≤m))&&w.cps.toList.all (λc=>decide (c∈sg.cps.toList)))) S
 | _=>False
theorem zwF:Ln (zfF) 3:=λds S Q ex h=>by unfold zfF at h; split at h <;> first | rfl | exact h.elim
def zdF:Sd:=λds S Q ex=>match ds with
 | [.str w]=>w.length≤1000∧Q (.bl (zaL w)) S
 | _=>False
theorem zu7:Ln (zdF) 1:=λds S Q ex h=>by unfold zdF at h; split at h <;> first | rfl | exact h.elim
def zg4:Sd:=λds S Q ex=>match ds with
 | [.int a,.int b]=>(0≤a∧0≤b)∧Q (.int ((Int.gcd a b:Nat):Int)) S
 | _=>False
theorem zsN:Ln (zg4) 2:=λds S Q ex h=>by unfold zg4 at h; split at h <;> first | rfl | exact h.elim
def zhS:Sd:=λds S Q ex=>match ds with
 | [.int _]=>Q (.bl true) S
 | _=>False
theorem zub:Ln (zhS) 1:=λds S Q ex h=>by unfold zhS at h; split at h <;> first | rfl | exact h.elim
def zg2 (cNoNumber:Addr):Sd:=λds S Q ex=>match ds with
 | [.int T,.int B]=>(B=0∧ex cNoNumber S)∨((B≠0∧Sz 4000 B)∧∀t b:Int,1≤b→t*B=T*b→Int.gcd t b=1→t.natAbs≤T.natAbs→b.natAbs≤B.natAbs→Q (.tup [.int t,.int b]) S)
 | _=>False
theorem zqA (cNoNumber:Addr):Ln (zg2 cNoNumber) 2:=λds S Q ex h=>by unfold zg2 at h; split at h <;> first | rfl | exact h.elim
def zfl:Sd:=λds S Q ex=>match ds with
 | [.int n]=>(0≤n∧n.natAbs<10^200)∧Q (.str (mk (dec n.natAbs))) S
 | _=>False
theorem zvu:Ln (zfl) 1:=λds S Q ex h=>by unfold zfl at h; split at h <;> first | rfl | exact h.elim
def zgO:Sd:=λds S Q ex=>match ds with
 | [.tup [.int t,.int b]]=>(t.natAbs<10^200∧1≤b∧b.natAbs<10^200)∧Q (.str (mk (za5 t b))) S
 | _=>False
theorem zqX:Ln (zgO) 1:=λds S Q ex h=>by unfold zgO at h; split at h <;> first | rfl | exact h.elim
def zer (cNoRow:Addr)(cNoNumber:Addr):Sd:=λds S Q ex=>match ds with
 | [.str w]=>w.length≤900∧(∀t b:Int,zbi (cs w) t b→Q (.tup [.int t,.int b]) S)∧(Bad (cs w)→ex cNoRow S)
 | _=>False
theorem zqL (cNoRow:Addr)(cNoNumber:Addr):Ln (zer cNoRow cNoNumber) 1:=λds S Q ex h=>by unfold zer at h; split at h <;> first | rfl | exact h.elim
def zgC (n:Nat)(cReader:Addr)(cNoRow:Addr)(cNoNumber:Addr):Sd:=λds S Q ex=>match ds with
 | [.ref n0]=>∃(wm:Nat) (ws:List Str) (p d:Nat),za9 cReader S n0 wm ws p d∧d≤16∧17≤d+n∧match brS (16-d) (ws.drop p) with | none=>∀T:Sto,zaT n0 S T→ex cNoRow T | some (t,r)=>∀T:Sto,zaT n0 S T→za9 cReader T n0 wm ws (ws.length-r.length) d→Q (trD t) T
 | _=>False
theorem zsm (n:Nat)(cReader:Addr)(cNoRow:Addr)(cNoNumber:Addr):Ln (zgC n cReader cNoRow cNoNumber) 1:=λds S Q ex h=>by unfold zgC at h; split at h <;> first | rfl | exact h.elim
def zhZ (n:Nat)(cReader:Addr)(cNoRow:Addr)(cNoNumber:Addr):Sd:=λds S Q ex=>match ds with
 | [.ref n0]=>∃(wm:Nat) (ws:List Str) (p d:Nat),za9 cReader S n0 wm ws p d∧d≤16∧17≤d+n∧match zbG kS avS (inS (16-d)) (ws.drop p) with | none=>∀T:Sto,zaT n0 S T→ex cNoRow T | some (t,r)=>∀T:Sto,zaT n0 S T→za9 cReader T n0 wm ws (ws.length-r.length) d→Q (trD t) T
 | _=>False
theorem ztQ (n:Nat)(cReader:Addr)(cNoRow:Addr)(cNoNumber:Addr):Ln (zhZ n cReader cNoRow cNoNumber) 1:=λds S Q ex h=>by unfold zhZ at h; split at h <;> first | rfl | exact h.elim
def zdT (cReader:Addr):Sd:=λds S Q ex=>match ds with
 | [.ref n,.tup es]=>∃cs:List Str,es=cs.map D.str∧∃(wm:Nat) (ws:List Str) (p d:Nat),za9 cReader S n wm ws p d∧Q (.bl (match ws.drop p with | []=>false | w::_=>cs.any (·==w))) S
 | [.ref n,.ref m]=>∃cs:List Str,S[m]?=some (.tpl cs)∧∃(wm:Nat) (ws:List Str) (p d:Nat),za9 cReader S n wm ws p d∧Q (.bl (match ws.drop p with | []=>false | w::_=>cs.any (·==w))) S
 | _=>False
theorem ztv (cReader:Addr):Ln (zdT cReader) 2:=λds S Q ex h=>by unfold zdT at h; split at h <;> first | rfl | exact h.elim
def zii (n:Nat)(cReader:Addr)(cNoRow:Addr)(cNoNumber:Addr):Sd:=λds S Q ex=>match ds with
 | [.ref n0]=>∃(wm:Nat) (ws:List Str) (p d:Nat),za9 cReader S n0 wm ws p d∧d≤16∧17≤d+n∧match za4 kS avS pvS (inS (16-d)) (ws.drop p) with | none=>∀T:Sto,zaT n0 S T→ex cNoRow T | some (t,r)=>∀T:Sto,zaT n0 S T→za9 cReader T n0 wm ws (ws.length-r.length) d→Q (trD t) T
 | _=>False
theorem zr4 (n:Nat)(cReader:Addr)(cNoRow:Addr)(cNoNumber:Addr):Ln (zii n cReader cNoRow cNoNumber) 1:=λds S Q ex h=>by unfold zii at h; split at h <;> first | rfl | exact h.elim
def zgM (n:Nat)(cReader:Addr)(cNoRow:Addr)(cNoNumber:Addr):Sd:=λds S Q ex=>match ds with
 | [.ref n0]=>∃(wm:Nat) (ws:List Str) (p d:Nat),za9 cReader S n0 wm ws p d∧d≤16∧17≤d+n∧match zbl kS avS pvS (inS (16-d)) (ws.drop p) with | none=>∀T:Sto,zaT n0 S T→ex cNoRow T | some (t,r)=>∀T:Sto,zaT n0 S T→za9 cReader T n0 wm ws (ws.length-r.length) d→Q (trD t) T
 | _=>False
theorem zrg (n:Nat)(cReader:Addr)(cNoRow:Addr)(cNoNumber:Addr):Ln (zgM n cReader cNoRow cNoNumber) 1:=λds S Q ex h=>by unfold zgM at h; split at h <;> first | rfl | exact h.elim
def zdY (n:Nat)(cReader:Addr)(cNoRow:Addr)(cNoNumber:Addr):Sd:=λds S Q ex=>match ds with
 | [.ref n0]=>∃(wm:Nat) (ws:List Str) (p d:Nat),za9 cReader S n0 wm ws p d∧d≤16∧17≤d+n∧match exS (16-d) (ws.drop p) with | none=>∀T:Sto,zaT n0 S T→ex cNoRow T | some (t,r)=>∀T:Sto,zaT n0 S T→za9 cReader T n0 wm ws (ws.length-r.length) d→Q (trD t) T
 | _=>False
theorem zt7 (n:Nat)(cReader:Addr)(cNoRow:Addr)(cNoNumber:Addr):Ln (zdY n cReader cNoRow cNoNumber) 1:=λds S Q ex h=>by unfold zdY at h; split at h <;> first | rfl | exact h.elim
def zfD (cReader:Addr)(cNoRow:Addr)(cNoNumber:Addr):Sd:=λds S Q ex=>match ds with
 | [.ref wm]=>∃ws:List Str,S[wm]?=some (.lst (ws.map D.str))∧ws.length≤900∧(∀w∈ws,w.length≤900)∧match trS ws with | none=>∀T:Sto,Pre S T→ex cNoRow T | some t=>∀T:Sto,Pre S T→Q (trD t) T
 | _=>False
theorem zsT (cReader:Addr)(cNoRow:Addr)(cNoNumber:Addr):Ln (zfD cReader cNoRow cNoNumber) 1:=λds S Q ex h=>by unfold zfD at h; split at h <;> first | rfl | exact h.elim
def zf7 (cTask:Addr):Sd:=λds S Q ex=>match ds with
 | [.ref n,.ref wm]=>∃(ws:List Str) (N m u e r:Nat) (ml:List (Str×Nat)),S[n]?=some (.ins cTask (zcq N m u e r))∧S[m]?=some (.dck (mlK ml))∧S[wm]?=some (.lst (ws.map D.str))∧(∀w∈ws,w.length≤900∧(zaL w=true→∃j,ml.lookup w=some j))∧Q .non S
 | _=>False
theorem zq8 (cTask:Addr):Ln (zf7 cTask) 2:=λds S Q ex h=>by unfold zf7 at h; split at h <;> first | rfl | exact h.elim
def zfG (cNet:Addr):Sd:=λds S Q ex=>match ds with
 | [.ref n]=>∃a b c xs,S[n]?=some (.ins cNet (zbD a b c))∧S[a]?=some (Ob.lst xs)∧Q (.ref S.length) (S++[Ob.lst xs])
 | _=>False
theorem zsZ (cNet:Addr):Ln (zfG cNet) 1:=λds S Q ex h=>by unfold zfG at h; split at h <;> first | rfl | exact h.elim
def zgo:Sd:=λds S Q ex=>match ds with
 | [d,.ref n]=>∃(v:Nd) (hs:List Int),d=v.d∧S[n]?=some (Ob.lst (hs.map D.int))∧v.ok hs∧small hs∧Q (.int (v.w hs)) S
 | _=>False
theorem ztx:Ln (zgo) 2:=λds S Q ex h=>by unfold zgo at h; split at h <;> first | rfl | exact h.elim
def zdD (cNet:Addr)(cTooMuch:Addr):Sd:=λds S Q ex=>match ds with
 | [.ref n,d]=>∃(v:Nd) (ns:List Nd) (hs:List Int) (a b c:Nat),d=v.d∧zba cNet S n a b c ns hs∧v.ok hs∧small hs∧ns.length≤60∧((∃j,idx v ns=some j∧Q (.int (j:Int)) S)∨(idx v ns=none∧(16<v.w hs∨ns.length=60)∧ex cTooMuch S)∨(idx v ns=none∧v.w hs≤16∧ns.length≠60∧Q (.int (ns.length:Int)) (zgx S a b c ns hs v)))
 | _=>False
theorem zt5 (cNet:Addr)(cTooMuch:Addr):Ln (zdD cNet cTooMuch) 2:=λds S Q ex h=>by unfold zdD at h; split at h <;> first | rfl | exact h.elim
def zf5 (cNet:Addr):Sd:=λds S Q ex=>match ds with
 | [.ref nn]=>∃(ns:List Nd) (hs:List Int) (a b c:Nat),zba cNet S nn a b c ns hs∧NOk ns hs∧∀(T:Sto) (n2 a2 b2 c2:Nat),Ng [] S T→S.length≤n2→S.length≤a2→S.length≤b2→S.length≤c2→zba cNet T n2 a2 b2 c2 ns hs→Q (.ref n2) T
 | _=>False
theorem zw7 (cNet:Addr):Ln (zf5 cNet) 1:=λds S Q ex h=>by unfold zf5 at h; split at h <;> first | rfl | exact h.elim
def zcX (n:Nat)(cNet:Addr)(cTooMuch:Addr):Sd:=λds S Q ex=>match ds with
 | [.ref nn,d,.ref m]=>∃(t:Tr) (ns:List Nd) (hs:List Int) (a b c:Nat) (ml:List (Str×Nat)),d=trD t∧t.dp<n∧zba cNet S nn a b c ns hs∧NOk ns hs∧(∀w j,ml.lookup w=some j→j<ns.length)∧S[m]?=some (.dck (mlK ml))∧t.good∧(∀w∈t.nms,∃j,ml.lookup w=some j)∧match zaz (λw=>ml.lookup w) t (ns,hs) with | none=>∀T:Sto,Ng [a,b,c] S T→ex cTooMuch T | some (N,j)=>∀T:Sto,Ng [a,b,c] S T→zba cNet T nn a b c N.1 N.2→Q (.int (j:Int)) T
 | _=>False
theorem zuY (n:Nat)(cNet:Addr)(cTooMuch:Addr):Ln (zcX n cNet cTooMuch) 3:=λds S Q ex h=>by unfold zcX at h; split at h <;> first | rfl | exact h.elim
def zgs (cNet:Addr)(cTask:Addr):Sd:=λds S Q ex=>match ds with
 | [.ref n,.ref wm]=>∃(ow:List Nat) (k k':Tk) (ws:List Str),zby cTask cNet S n ow k∧S[wm]?=some (.lst (ws.map D.str))∧wm ∉ ow∧RowC k ws k'∧∀(T:Sto) (ow':List Nat),Ng ow S T→Fr ow ow' S.length→zby cTask cNet T n ow' k'→Q (.str "row") T
 | _=>False
theorem zs1 (cNet:Addr)(cTask:Addr):Ln (zgs cNet cTask) 2:=λds S Q ex h=>by unfold zgs at h; split at h <;> first | rfl | exact h.elim
def zhy:Sd:=λds S Q ex=>match ds with
 | [.tup [.int a,.int b],.tup [.int c,.int d]]=>(IntMulOk a d∧IntMulOk c b)∧Q (.bl (decide (a*d<c*b))) S
 | _=>False
theorem zxd:Ln (zhy) 2:=λds S Q ex h=>by unfold zhy at h; split at h <;> first | rfl | exact h.elim
def zhf:Sd:=λds S Q ex=>match ds with
 | [.ref wm]=>∃(w0 lo hi:Str) (t1 b1 t2 b2:Int),S[wm]?=some (.lst ([w0,"in",lo,hi].map D.str))∧zaL w0=true∧lo.length≤900∧hi.length≤900∧zbi (cs lo) t1 b1∧zbi (cs hi) t2 b2∧¬ (t2*b1<t1*b2)∧Q (enD t1 b1 t2 b2) S
 | _=>False
theorem zvH:Ln (zhf) 1:=λds S Q ex h=>by unfold zhf at h; split at h <;> first | rfl | exact h.elim
def zfS (cTask:Addr):Sd:=λds S Q ex=>match ds with
 | [.ref n,.str w]=>∃(N m u e r:Nat) (ml:List (Str×Nat)),S[n]?=some (.ins cTask (zcq N m u e r))∧S[m]?=some (.dck (mlK ml))∧ml.lookup w=none∧Q .non S
 | _=>False
theorem zqF (cTask:Addr):Ln (zfS cTask) 2:=λds S Q ex h=>by unfold zfS at h; split at h <;> first | rfl | exact h.elim
def zhM (cNet:Addr)(cTask:Addr):Sd:=λds S Q ex=>match ds with
 | [.ref n,.ref wm]=>∃(ow:List Nat) (k k':Tk) (ws:List Str),zby cTask cNet S n ow k∧S[wm]?=some (.lst (ws.map D.str))∧wm ∉ ow∧zlh k ws k'∧∀(T:Sto) (ow':List Nat),Ng ow S T→Fr ow ow' S.length→zby cTask cNet T n ow' k'→Q (.str "unknown") T
 | _=>False
theorem zt2 (cNet:Addr)(cTask:Addr):Ln (zhM cNet cTask) 2:=λds S Q ex h=>by unfold zhM at h; split at h <;> first | rfl | exact h.elim
def zhz (cNet:Addr)(cTask:Addr):Sd:=λds S Q ex=>match ds with
 | [.ref n,.ref wm]=>∃(ow:List Nat) (k k':Tk) (ws:List Str),zby cTask cNet S n ow k∧S[wm]?=some (.lst (ws.map D.str))∧wm ∉ ow∧ParC k ws k'∧∀(T:Sto) (ow':List Nat),Ng ow S T→Fr ow ow' S.length→zby cTask cNet T n ow' k'→Q (.str "part") T
 | _=>False
theorem zwy (cNet:Addr)(cTask:Addr):Ln (zhz cNet cTask) 2:=λds S Q ex h=>by unfold zhz at h; split at h <;> first | rfl | exact h.elim
def zhN (cNet:Addr)(cTask:Addr):Sd:=λds S Q ex=>match ds with
 | [.ref n,.str x]=>(x.length≤1000∧("":Str) ∉ Txt.split x " ")∧∃(ow:List Nat) (k k':Tk) (an:Str),zby cTask cNet S n ow k∧zd0 k (Txt.split x " ") k' an∧∀(T:Sto) (ow':List Nat),Ng ow S T→Fr ow ow' S.length→zby cTask cNet T n ow' k'→Q (.str an) T
 | _=>False
theorem zwQ (cNet:Addr)(cTask:Addr):Ln (zhN cNet cTask) 2:=λds S Q ex h=>by unfold zhN at h; split at h <;> first | rfl | exact h.elim
def zgd:Sd:=λds S Q ex=>match ds with
 | [.int v,.ref nl]=>S[nl]?=some (.lst ([("x":Str),("yy":Str)].map D.str))∧0≤v∧∀(T:Sto) (t:Tr),Pre S T→AtT t→Q (trD t) T
 | _=>False
theorem zuu:Ln (zgd) 2:=λds S Q ex h=>by unfold zgd at h; split at h <;> first | rfl | exact h.elim
def zh1:Sd:=λds S Q ex=>match ds with
 | [.int c,.int k]=>(0≤k∧k≤20)∧∀v:Int,0≤v→v<2147483647→Q (.int v) S
 | _=>False
theorem zqw:Ln (zh1) 2:=λds S Q ex h=>by unfold zh1 at h; split at h <;> first | rfl | exact h.elim
def zgV:Sd:=λds S Q ex=>match ds with
 | [.int c,.ref nl]=>S[nl]?=some (.lst ([("x":Str),("yy":Str)].map D.str))∧∀(T:Sto) (t:Tr),Pre S T→LT 3 t→Q (trD t) T
 | _=>False
theorem zsI:Ln (zgV) 2:=λds S Q ex h=>by unfold zgV at h; split at h <;> first | rfl | exact h.elim
def zdQ (n:Nat):Sd:=λds S Q ex=>match ds with
 | [d]=>∃t:Tr,d=trD t∧t.dp<n∧t.good∧Q (.int t.wt) S
 | _=>False
theorem zrl (n:Nat):Ln (zdQ n) 1:=λds S Q ex h=>by unfold zdQ at h; split at h <;> first | rfl | exact h.elim
def zhw:Sd:=λds S Q ex=>match ds with
 | [.int c]=>∀(T:Sto) (t:Tr),Pre S T→LT 3 t→t.wt≤7→Q (trD t) T
 | _=>False
theorem zut:Ln (zhw) 1:=λds S Q ex h=>by unfold zhw at h; split at h <;> first | rfl | exact h.elim
def zhb:Sd:=λds S Q ex=>match ds with
 | [.ref n,.int k]=>∃ns:List Int,S[n]?=some (.frz (ns.map D.int))∧0≤k∧Q (.int (ns.getD k.toNat 0)) S
 | _=>False
theorem zvG:Ln (zhb) 2:=λds S Q ex h=>by unfold zhb at h; split at h <;> first | rfl | exact h.elim
def zhV (cNet:Addr)(cTask:Addr):Sd:=λds S Q ex=>match ds with
 | [.ref n]=>∃(ow:List Nat) (k:Tk),zby cTask cNet S n ow k∧Q (.ref S.length) (S++[.lst (k.ns.map Nd.d)])
 | _=>False
theorem zsw (cNet:Addr)(cTask:Addr):Ln (zhV cNet cTask) 1:=λds S Q ex h=>by unfold zhV at h; split at h <;> first | rfl | exact h.elim
def zgc (cTask:Addr):Sd:=λds S Q ex=>match ds with
 | [.ref n]=>∃(N m u e r:Nat) (rs:List (Str×Nat)),S[n]?=some (.ins cTask (zcq N m u e r))∧S[r]?=some (.lst (rs.map rwT))∧Q (.ref S.length) (S++[.lst (rs.map rwT)])
 | _=>False
theorem zw8 (cTask:Addr):Ln (zgc cTask) 1:=λds S Q ex h=>by unfold zgc at h; split at h <;> first | rfl | exact h.elim
def zge:Sd:=λds S Q ex=>match ds with
 | [.int _]=>Q (.bl true) S
 | _=>False
theorem zwN:Ln (zge) 1:=λds S Q ex h=>by unfold zge at h; split at h <;> first | rfl | exact h.elim
def zgF:Sd:=λds S Q ex=>match ds with
 | [.ref p]=>∃(ns:List Nd) (hs:List Int),S[p]?=some (.lst (ns.map Nd.d))∧NOk ns hs∧∀T:Sto,Pre S T→Q (.bl true) T
 | _=>False
theorem zth:Ln (zgF) 1:=λds S Q ex h=>by unfold zgF at h; split at h <;> first | rfl | exact h.elim
def zf4:Sd:=λds S Q ex=>match ds with
 | [d]=>∃t:Tr,d=trD t∧Q (.int (t.lv:Int)) S
 | _=>False
theorem zue:Ln (zf4) 1:=λds S Q ex h=>by unfold zf4 at h; split at h <;> first | rfl | exact h.elim
def zfw:Sd:=λds S Q ex=>match ds with
 | [.int t,.int b]=>(t.natAbs<10^9∧1≤b∧b<10^9)∧Q (.str (mk (za5 t b))) S
 | _=>False
theorem zxa:Ln (zfw) 2:=λds S Q ex h=>by unfold zfw at h; split at h <;> first | rfl | exact h.elim
def zdl (n:Nat):Sd:=λds S Q ex=>match ds with
 | [d,.int lv]=>∃(t:Tr) (v:Nat),d=trD t∧lv=(v:Int)∧v≤3∧t.dp<n∧t.good∧t.ats∧t.wl≤200∧∀(T:Sto) (m:Nat) (ws:List Str) (l k:Nat),Pre S T→WsAt T m ws→exP l k ws t→v≤l→k≤t.dp→ws.length≤t.w1→Q (.ref m) T
 | _=>False
theorem ztZ (n:Nat):Ln (zdl n) 2:=λds S Q ex h=>by unfold zdl at h; split at h <;> first | rfl | exact h.elim
def zej (n:Nat):Sd:=λds S Q ex=>match ds with
 | [d,.int wy]=>∃t:Tr,d=trD t∧t.dp<n∧t.good∧t.ats∧t.wl≤200∧∀(T:Sto) (m:Nat) (ws:List Str) (k:Nat),Pre S T→WsAt T m ws→exP 3 k ws t→k≤t.dp+1→ws.length≤t.wl→Q (.ref m) T
 | _=>False
theorem zt3 (n:Nat):Ln (zej n) 2:=λds S Q ex h=>by unfold zej at h; split at h <;> first | rfl | exact h.elim
section
variable {P:Program}{w:World}{K:PySem.W.Frag}{mg:Str→Option Value}{base:Heap}
def zw9  (zaf:zcf K mg)(zkz:Dm K zaf.C "__init__" "Net.__init__" zjU zf3):Fm P w K mg base 1 zaf.C "__init__" zf3 (zfK zaf.C):=
 zkz.mk' (zaO (k:=0) zkz.F zvk (zsK zaf.C) λcdv A outer s H E hr=>⟨_,(zah (zcv zaf.cl zaf.n_kept (dv 0) (zaX zae)) (zah (zcv zaf.cl zaf.n_weights (dv 0) (zaX zae)) (zag (zcv zaf.cl zaf.n_numbers (dv 0) zrh)))),λds S Q ex h=>by
  unfold zfK at h
  split at h
  ·rename_i n
   obtain⟨T,rfl,rfl,h⟩:=h
   refine zcL (v:=.ref (T.length+1)) (S1:=T++[Ob.ins zaf.C [],.lst []]) (S2:=T++[Ob.ins zaf.C [],.lst []]) (n:=T.length) (fs:=[]) (λK hK=>by exact zin (by simp) (by simp) hK) (λK hK=>by exact hK) (zec ..) (by simp) ?_
   rw[zd5]
   refine zcL (v:=.ref (T.length+2)) (S1:=T++[Ob.ins zaf.C [("kept",.ref (T.length+1))],.lst [],.lst []]) (S2:=T++[Ob.ins zaf.C [("kept",.ref (T.length+1))],.lst [],.lst []]) (n:=T.length) (fs:=[("kept",.ref (T.length+1))]) (λK hK=>by exact zin (by simp[zaP]) (by simp) hK) (λK hK=>by exact hK) (zec ..) (by simp) ?_
   rw[zd5]
   refine zcL (v:=.ref (T.length+3)) (S1:=T++[Ob.ins zaf.C [("kept",.ref (T.length+1)),("weights",.ref (T.length+2))],.lst [],.lst [],.dct []]) (S2:=T++[Ob.ins zaf.C [("kept",.ref (T.length+1)),("weights",.ref (T.length+2))],.lst [],.lst [],.dct []]) (n:=T.length) (fs:=[("kept",.ref (T.length+1)),("weights",.ref (T.length+2))]) (λK hK=>by exact zsl (by simp; rfl) (by simp) hK) (λK hK=>by exact hK) (zec ..) (by simp) ?_
   rw[zd5]
   exact h
  ·exact h.elim⟩)
def zqB  (zad:zcS K mg)(zaf:zcf K mg)(zk0:Dm K zad.C "__init__" "Task.__init__" zjH zhB)(zcK:Fm P w K mg base 1 zaf.C "__init__" zf3 (zfK zaf.C)):Fm P w K mg base 3 zad.C "__init__" zhB (zik zaf.C zad.C):=
 zk0.mk' (zaO (k:=2) zk0.F zuW (zwn zaf.C zad.C) λcdv A outer s H E hr=>⟨_,(zah (zcv zad.cl zad.n_net (dv 0) (zlF ⟨zaf.makes,zcK.m.at_,zcK.m.fn,zaf.kp⟩ zcK.ok (hr.mono (by decide)) rfl zaf.m zcK.b zlC)) (zah (zcv zad.cl zad.n_meanings (dv 0) zrv) (zah (zcv zad.cl zad.n_unknown_names (dv 0) (zaX zae)) (zah (zcv zad.cl zad.n_unknown_ends (dv 0) (zaX zae)) (zag (zcv zad.cl zad.n_told_rows (dv 0) (zaX zae))))))),λds S Q ex h=>by
  unfold zik at h
  split at h
  ·rename_i n
   obtain⟨T,rfl,rfl,h⟩:=h
   refine zuy ?_
   refine⟨T++[.ins zad.C []],rfl,rfl,rfl,?_⟩
   rw[show (T++[Ob.ins zad.C []]).length=T.length+1 by simp,Vaw]
   refine zqy (n:=T.length) (S2:=T++([Ob.ins zad.C []]++[Ob.ins zaf.C (zbD (T.length+1+1) (T.length+1+2) (T.length+1+3)),.lst [],.lst [],.dct []])) (fs:=[]) (v:=.ref (T.length+1)) (λK hK=>by exact hK) (zec ..) (by decide) ?_
   rw[List.singleton_append,zd5]
   refine zcL (v:=.ref (T.length+5)) (S1:=T++Ob.ins zad.C (zaP "net" (.ref (T.length+1)) [])::[Ob.ins zaf.C (zbD (T.length+1+1) (T.length+1+2) (T.length+1+3)),.lst [],.lst [],.dct [],.dck []]) (n:=T.length) (fs:=zaP "net" (.ref (T.length+1)) []) (λK hK=>by exact ztg (by simp) (by simp) hK) (λK hK=>by exact hK) (zec ..) (show 1<1000 by decide) ?_
   rw[zd5]
   refine zcL (v:=.ref (T.length+6)) (S1:=T++Ob.ins zad.C (zaP "meanings" (.ref (T.length+5)) (zaP "net" (.ref (T.length+1)) []))::[Ob.ins zaf.C (zbD (T.length+1+1) (T.length+1+2) (T.length+1+3)),.lst [],.lst [],.dct [],.dck [],.lst []]) (n:=T.length) (fs:=zaP "meanings" (.ref (T.length+5)) (zaP "net" (.ref (T.length+1)) [])) (λK hK=>by exact zin (by simp) (by simp) hK) (λK hK=>by exact hK) (zec ..) (show 2<1000 by decide) ?_
   rw[zd5]
   refine zcL (v:=.ref (T.length+7)) (S1:=T++Ob.ins zad.C (zaP "unknown_names" (.ref (T.length+6)) (zaP "meanings" (.ref (T.length+5)) (zaP "net" (.ref (T.length+1)) [])))::[Ob.ins zaf.C (zbD (T.length+1+1) (T.length+1+2) (T.length+1+3)),.lst [],.lst [],.dct [],.dck [],.lst [],.lst []]) (n:=T.length) (fs:=zaP "unknown_names" (.ref (T.length+6)) (zaP "meanings" (.ref (T.length+5)) (zaP "net" (.ref (T.length+1)) []))) (λK hK=>by exact zin (by simp) (by simp) hK) (λK hK=>by exact hK) (zec ..) (show 3<1000 by decide) ?_
   rw[zd5]
   refine zcL (v:=.ref (T.length+8)) (S1:=T++Ob.ins zad.C (zaP "unknown_ends" (.ref (T.length+7)) (zaP "unknown_names" (.ref (T.length+6)) (zaP "meanings" (.ref (T.length+5)) (zaP "net" (.ref (T.length+1)) []))))::[Ob.ins zaf.C (zbD (T.length+1+1) (T.length+1+2) (T.length+1+3)),.lst [],.lst [],.dct [],.dck [],.lst [],.lst [],.lst []]) (n:=T.length) (fs:=zaP "unknown_ends" (.ref (T.length+7)) (zaP "unknown_names" (.ref (T.length+6)) (zaP "meanings" (.ref (T.length+5)) (zaP "net" (.ref (T.length+1)) [])))) (λK hK=>by exact zin (by simp) (by simp) hK) (λK hK=>by exact hK) (zec ..) (show 4<1000 by decide) ?_
   rw[zd5]
   exact h _ _ (Ng.app (zkU zad.C zaf.C T.length)) (λx hx=>by simp only[zbg,Vab,Vag,or_false] at hx; omega) (zsB T)
  ·exact h.elim⟩)
def ztD  (ziV:Df K mg "words_of" zki zg9)(zbt:mg "isinstance"=none)(za8:mg "str"=none)(zfN:Kit K "str"):Fk P w K mg base 1 "words_of" zg9 zht:=
 ziV.mk' (zaO (k:=0) ziV.F znR (zvj) λcdv A outer s H E hr=>⟨_,(zah (zat (zck (zbx (zfI zfN rfl zbt rfl za8 Boot.«str» (dv 0)))) (zag zdb) zay) (zah (zap (i:=1) znR.nd rfl (Or.inl rfl) (zu4 (dv 0) (zaa zai zae))) (zah (zat (zar (zr3 hr) zai (dv 1) rfl) (zag zdb) zay) (zag (zao (dv 1)))))),λds S Q ex h=>by
  unfold zht at h
  split at h
  ·rename_i x
   obtain⟨⟨hx,hn⟩,h⟩:=h
   refine ztw (x:=x) (y:=" ") (S1:=S) (λK hK=>by exact hK) (λK hK=>by exact hK) (by decide) hx ?_
   refine zq5 (o:=.lst ((Txt.split x " ").map D.str)) (zaj _ _) rfl ?_
   rw[zq3 hn]
   exact h
  ·exact h.elim⟩)
def zv1  (zjG:Df K mg "place_of_sign" ziQ zgB)(g_ROW_WORDS:GD P w K mg "ROW_WORDS" [("=","zero"),(">=","least")])(zc1:mg "enumerate"=none):Fk P w K mg base 1 "place_of_sign" zgB zgq:=
 zjG.mk' (zaO (k:=0) zjG.F znd (ztT) λcdv A outer s H E hr=>⟨_,(zah (zpp (is:=[1,2]) PassesOwn.never rfl znd.nd (Nms.cons (i:=1) rfl (Or.inl rfl) (by first | exact .inl rfl | exact .inr rfl) (Nms.cons (i:=2) rfl (Or.inl rfl) (by first | exact .inl rfl | exact .inr rfl) Nms.nil)) rfl rfl zc1 Boot.«enumerate» (zaa (dv 0) zae) (zag (zat (zu9 g_ROW_WORDS rfl (dv 2)) (zag (zao (dv 1))) zay))) (zag zdb)),λds S Q ex h=>by
  unfold zgq at h
  split at h
  ·rename_i wm
   obtain⟨L,R,sg,hw,hL,hs,h⟩:=h
   refine znU (n:=wm) (xs:=(L++sg::R).map D.str) (S1:=S) (λk dl' S'=>S'=S∧k≤L.length∧∃o1 o2:Option D,dl'=[some (.ref wm),o1,o2]) (λK hK=>by exact hK) (λk dl' S' w=>by rw[w.1]; exact hw) ⟨rfl,Vaz _,none,none,rfl⟩ ?_ ?_
   ·rintro k x dl' S' nx ct hx ⟨rfl,hk,o1,o2,rfl⟩ hnx
    by_cases c:k<L.length
    ·have ex':x=.str L[k]:=by
      rw[Vao,Van c,VaL c] at hx
      exact(Option.some.inj hx).symm
     subst ex'
     have z:=hL _ (VaU c)
     refine zoh (k:=L[k]) (S1:=S') (λK hK=>by exact hK) ?_
     rw[show ([(("=":Str),("zero":Str)),(">=","least")].lookup L[k])=none from ztl z.1 z.2]
     exact hnx _ _ ⟨rfl,c,_,_,rfl⟩
    ·have ek:k=L.length:=by omega
     subst ek
     have ex':x=.str sg:=by
      rw[Vao,VaG (Vaa _),Nat.sub_self] at hx
      exact(Option.some.inj hx).symm
     subst ex'
     refine zoh (k:=sg) (S1:=S') (λK hK=>by exact hK) ?_
     rw[show ([(("=":Str),("zero":Str)),(">=","least")].lookup sg).isSome=true by rcases hs with rfl | rfl <;> decide]
     exact h
   ·rintro dl' S' ⟨_,hk,_⟩
    simp at hk
    omega
  ·exact h.elim⟩)
def ztN  (zab:zcl K mg)(zlb:Dm K zab.C "__init__" "Reader.__init__" zjj zgJ):Fm P w K mg base 1 zab.C "__init__" zgJ (zgP zab.C):=
 zlb.mk' (zaO (k:=0) zlb.F zqZ (zvP zab.C) λcdv A outer s H E hr=>⟨_,(zah (zcv zab.cl zab.n_words (dv 0) (dv 1)) (zah (zcv zab.cl zab.n_place (dv 0) zac) (zag (zcv zab.cl zab.n_depth (dv 0) zac)))),λds S Q ex h=>by
  unfold zgP at h
  split at h
  ·rename_i n wm
   obtain⟨T,rfl,rfl,h⟩:=h
   refine zcL (v:=.ref wm) (n:=T.length) (fs:=[]) (λK hK=>by exact hK) (λK hK=>by exact hK) (zaj _ _) (by decide) ?_
   rw[zml]
   refine zcL (v:=.int 0) (n:=T.length) (fs:=zaP "words" (.ref wm) []) (λK hK=>by exact hK) (λK hK=>by exact hK) (zaj _ _) (show 1<1000 by decide) ?_
   rw[zml]
   refine zcL (v:=.int 0) (n:=T.length) (fs:=zaP "place" (.int 0) (zaP "words" (.ref wm) [])) (λK hK=>by exact hK) (λK hK=>by exact hK) (zaj _ _) (show 2<1000 by decide) ?_
   rw[zml]
   exact h
  ·exact h.elim⟩)
def zuQ  (zab:zcl K mg)(zjY:Dm K zab.C "at_end" "Reader.at_end" zit zey)(zaN:mg "len"=none):Fm P w K mg base 1 zab.C "at_end" zey (zeP zab.C):=
 zjY.mk' (zaO (k:=0) zjY.F ztA (zqU zab.C) λcdv A outer s H E hr=>⟨_,(zag (zao (zg3 (zaH hr) (za0 zab.cl zab.n_place (dv 0)) (zbU (zbo zcO) rfl zaN Boot.«len» (zaa (za0 zab.cl zab.n_words (dv 0)) zae)) (zaq _)))),λds S Q ex h=>by
  unfold zeP at h
  split at h
  ·rename_i n
   obtain⟨wm,ws,p,d,rd,h⟩:=h
   refine zaY (S1:=S) (λK hK=>by exact hK) rd.rd rfl ?_
   refine zaY (S1:=S) (λK hK=>by exact hK) rd.rd rfl ?_
   refine zdE rd.wd ?_
   rw[Vac]
   have e:decide ((p:Int)=((ws.length:Nat):Int))=decide (p=ws.length):=decide_eq_decide.mpr (by omega)
   show Q (.bl (decide ((p:Int)=((ws.length:Nat):Int)))) S
   rw[e]
   exact h
  ·exact h.elim⟩)
def zvq  (zab:zcl K mg)(ziU:Dm K zab.C "take" "Reader.take" zkt zdo)(zav:Ec K mg "NoRow")(zb3:Fm P w K mg base 1 zab.C "at_end" zey (zeP zab.C)):Fm P w K mg base 2 zab.C "take" zdo (zdh zab.C zav.c):=
 ziU.mk' (zcN (k:=1) ziU.F znF (zv7 zab.C zav.c) λcdv A outer s H E ex hr hpx hrx=>⟨_,(zah (zat (zbx (zbh (C:=zab.C) (dv 0) zab.cl zb3.m zb3.ok (hr.mono (by decide)) zb3.b hpx)) (zag (zcC zav.xc PySem.F.excBase_ValueError hrx hr.hd rfl (zaa zai zae))) zay) (zah (zap (i:=1) znF.nd rfl (Or.inl rfl) (zaU (za0 zab.cl zab.n_words (dv 0)) (za0 zab.cl zab.n_place (dv 0)) (λ_ _=>rfl))) (zah (znT zab.cl zab.n_place (dv 0) zac) (zag (zao (dv 1)))))),λds S Q h=>by
  unfold zdh at h
  split at h
  ·rename_i n
   obtain⟨wm,ws,p,d,rd,h⟩:=h
   refine zaE (S1:=S) (n:=n) (λK hK=>by exact hK) rd.rd rfl ?_
   refine⟨wm,ws,p,d,rd,?_⟩
   by_cases c:p=ws.length
   ·rw[decide_eq_true c]
    rw[VaV (by omega)] at h
    refine zbZ ?_
    exact h
   ·rw[decide_eq_false c]
    have lp:p<ws.length:=by have:=rd.pl; omega
    rw[List.drop_eq_getElem_cons lp] at h
    refine zaY (S1:=S) (λK hK=>by exact hK) rd.rd rfl ?_
    refine zaY (S1:=S) (λK hK=>by exact hK) rd.rd rfl ?_
    refine zaM (o:=.lst (ws.map D.str)) rd.wd (zdj lp) ?_
    refine zl0 (S1:=S) (S2:=S) (n:=n) (λK hK=>by exact hK) rd.rd rfl (λK hK=>by exact hK) rd.rd (show 3<1000 by decide) ?_
    exact h
  ·exact h.elim⟩)
def zvx  (zjT:Df K mg "made_of" zhn ze9)(zee:mg "all"=none)(zaN:mg "len"=none):Fk P w K mg base 1 "made_of" ze9 zfF:=
 zjT.mk' (znm (zaO (k:=0) zjT.F zuD (zn0 (zwF)) λcdv A outer s H E hr=>⟨_,(zag (zao (zgp (zr5 zoM zoM zac (zbU zrP rfl zaN Boot.«len» (zaa (dv 0) zae)) (dv 2)) (zgu (zbU (zbo (zqN rfl)) rfl zee Boot.«all» (zaa (zsh (x:="sign") (N:=["signs"]) (caps:=[1]) (ar:=zau zhn) rfl rfl csc rfl (by decide) (dv 0) (λ_ _ _ _ _ _=>zwm) (λ_ _ _ _ _ _=>(zg3 zss (dv 0) (dv 1) rfl))) zae)))))),λds S Q ex h=>by
  obtain⟨Q0,ex0,rfl,rfl,h⟩:=h
  unfold zfF at h
  split at h
  ·rename_i w sg m
   obtain⟨hl,h⟩:=h
   refine⟨hl,ifD (λe1=>?_) (λe1=>?_)⟩
   ·refine ifD (λe2=>?_) (λe2=>?_)
    ·refine zvv (z:=w) (λc=>.bl (decide (c∈sg.cps.toList))) (λK hK=>hK) hl (λc hc S2 K _ hK=>⟨c,rfl,hK⟩) ?_
     apply zqn
     ·exact zaj _ _
     ·exact zoo _ _
     rw[decide_eq_true e1,decide_eq_true e2,Bool.true_and,Bool.true_and] at h
     refine⟨Pre.refl.push,.bl _,?_⟩
     rw[all_map]
     exact h
    ·rw[decide_eq_false e2,Bool.and_false,VaQ] at h
     exact⟨Pre.refl,.bl _,h⟩
   ·rw[decide_eq_false e1,VaQ,VaQ] at h
    exact⟨Pre.refl,.bl _,h⟩
  ·exact h.elim⟩))
def zqP  {t_MOST_LETTERS:Tok}{t_LETTERS:Tok}(ziw:Df K mg "is_name" zkx zdA)(zez:Fk P w K mg base 1 "made_of" ze9 zfF)(g_KEPT_WORDS:GT K mg "KEPT_WORDS" ["let","in","grid","fine","looks","solve","boxes","point","right","islands"])(g_MOST_LETTERS:mg "MOST_LETTERS"=some (.int 8 t_MOST_LETTERS))(g_LETTERS:mg "LETTERS"=some (.str "abcdefghijklmnopqrstuvwxyz" t_LETTERS)):Fk P w K mg base 2 "is_name" zdA zdF:=
 ziw.mk' (zaO (k:=1) ziw.F zvw (zu7) λcdv A outer s H E hr=>⟨_,(zag (zao (zgp (zaR zez hr (zaa (dv 0) (zaa (zmP g_LETTERS rfl) (zaa (zdu g_MOST_LETTERS rfl) zae)))) (zgu (zs6 g_KEPT_WORDS rfl (dv 0)))))),λds S Q ex h=>by
  unfold zdF at h
  split at h
  ·rename_i w
   obtain⟨hl,h⟩:=h
   unfold zaL at h
   refine⟨hl,ifB (λe=>?_) (λe=>?_)⟩
   ·rw[e,Bool.true_and] at h
    exact h
   ·rw[e,VaQ] at h
    exact h
  ·exact h.elim⟩)
def zt0  (zjL:Df K mg "greatest_divisor" zkl zhg):Fk P w K mg base 1 "greatest_divisor" zhg zg4:=
 zjL.mk' (zaO (k:=0) zjL.F zi1 (zsN) λcdv A outer s H E hr=>⟨_,(zah (zil PassesOwn.never (zar (zcc hr) (dv 1) zac (zaq _)) (zah (zap (i:=2) zi1.nd rfl (Or.inl rfl) (zak zgQ (dv 0) (dv 1))) (zah (zap (i:=0) zi1.nd rfl (Or.inl rfl) (dv 1)) (zag (zap (i:=1) zi1.nd rfl (Or.inl rfl) (dv 2)))))) (zag (zao (dv 0)))),λds S Q ex h=>by
  unfold zg4 at h
  split at h
  ·rename_i a b
   obtain⟨⟨ha,hb⟩,h⟩:=h
   refine⟨λm dl' S'=>S'=S∧∃(x y:Int) (o:Option D),dl'=[some (.int x),some (.int y),o]∧0≤x∧0≤y∧Int.gcd x y=Int.gcd a b∧m=y.toNat,⟨b.toNat,rfl,a,b,none,rfl,ha,hb,rfl,rfl⟩,?_⟩
   rintro m dl' S' ⟨rfl,x,y,o,rfl,hx,hy,hg,rfl⟩
   refine ifN (λc=>?_) (λc=>?_)
   ·have c':0<y:=by omega
    exact⟨c',⟨(x%y).toNat,by have:=zhE (a:=x) c'; omega,rfl,y,x%y,_,rfl,hy,(zhE (a:=x) c').1,(ztf x y).trans hg,rfl⟩⟩
   ·subst c
    have e:((Int.gcd a b:Nat):Int)=x:=by rw[← hg,Int.gcd_zero_right]; omega
    rw[e] at h
    exact h
  ·exact h.elim⟩)
def zqM  (zkd:Df K mg "is_whole" zkM zgj)(zbt:mg "isinstance"=none)(zcZ:mg "bool"=none)(zbw:mg "int"=none)(zdI:Kit K "bool")(zdJ:Kit K "int"):Fk P w K mg base 1 "is_whole" zgj zhS:=
 zkd.mk' (zaO (k:=0) zkd.F zr8 (zub) λcdv A outer s H E hr=>⟨_,(zag (zao (zgp (zfI zdJ rfl zbt rfl zbw Boot.«int» (dv 0)) (zgu (zlN (zfI zdI rfl zbt rfl zcZ Boot.«bool» (dv 0))))))),λds S Q ex h=>by
  unfold zhS at h
  split at h
  ·exact h
  ·exact h.elim⟩)
def zqz  (zkH:Df K mg "fraction" zk7 zh4)(zaD:Ec K mg "NoNumber")(zmp:Fk P w K mg base 1 "greatest_divisor" zhg zg4)(zk8:Fk P w K mg base 1 "is_whole" zgj zhS)(zcI:mg "abs"=none):Fk P w K mg base 2 "fraction" zh4 (zg2 zaD.c):=
 zkH.mk' (zcN (k:=1) zkH.F zmh (zqA zaD.c) λcdv A outer s H E ex hr hpx hrx=>⟨_,(zah (zat (PDW.pt (zbI (zck (zbx (za6 zk8 (hr.mono (by decide)) hpx rfl (zaa (dv 0) zae)))) (zbI (zck (zbx (za6 zk8 (hr.mono (by decide)) hpx rfl (zaa (dv 1) zae)))) (zcp (zar (zaH hr) (dv 1) zac (zaq _)))))) (zag (zcC zaD.xc PySem.F.excBase_ValueError hrx hr.hd rfl (zaa zai zae))) zay) (zah (zap (i:=2) zmh.nd rfl (Or.inl rfl) (za6 zmp (hr.mono (by decide)) hpx rfl (zaa (zbU zmF rfl zcI Boot.«abs» (zaa (dv 0) zae)) (zaa (zbU zmF rfl zcI Boot.«abs» (zaa (dv 1) zae)) zae)))) (zah (zat (zar zei (dv 1) zac (zaq _)) (zag (zap (i:=2) zmh.nd rfl (Or.inl rfl) (pd_un zra (dv 2)))) zay) (zag (zao (zbd (zaa (zak zox (dv 0) (dv 2)) (zaa (zak zox (dv 1) (dv 2)) zae)))))))),λds S Q h=>by
  unfold zg2 at h
  split at h
  ·rename_i T B
   rcases h with ⟨hB,h⟩ | ⟨⟨hB,sB⟩,h⟩
   ·exact ifT (decide_eq_true hB) h
   ·have e:((Int.gcd (zbX T) (zbX B):Nat):Int)=((Int.gcd T B:Nat):Int):=by rw[zwW]
    have sg:Sz 4000 ((Int.gcd T B:Nat):Int):=by
     have gle:Int.gcd T B≤B.natAbs:=Nat.le_of_dvd (by omega) (Int.gcd_dvd_natAbs_right T B)
     unfold Sz at sB ⊢
     omega
    refine ifD (λc=>absurd c hB) (λc=>?_)
    refine⟨⟨zmO T,zmO B⟩,?_⟩
    refine ifD (λc2=>?_) (λc2=>?_)
    ·have f:=zpS (T:=T) (B:=B) (d:=-((Int.gcd (zbX T) (zbX B):Nat):Int)) hB (by rw[if_pos c2,e])
     obtain⟨f1,f2,f3,f4,f5,f6⟩:=f
     have s2:Sz 4000 (-((Int.gcd (zbX T) (zbX B):Nat):Int)):=by rw[e]; exact sg.neg
     exact⟨⟨f1,s2.log f1⟩,⟨f1,s2.log f1⟩,h _ _ f4 f6 f5 (zjC f1 f2) (zjC f1 f3)⟩
    ·have f:=zpS (T:=T) (B:=B) (d:=((Int.gcd (zbX T) (zbX B):Nat):Int)) hB (by rw[if_neg c2,e])
     obtain⟨f1,f2,f3,f4,f5,f6⟩:=f
     have s2:Sz 4000 ((Int.gcd (zbX T) (zbX B):Nat):Int):=by rw[e]; exact sg
     exact⟨⟨f1,s2.log f1⟩,⟨f1,s2.log f1⟩,h _ _ f4 f6 f5 (zjC f1 f2) (zjC f1 f3)⟩
  ·exact h.elim⟩)
def zun  (zkI:Df K mg "figures_of" zjs zhG)(zdL:mg "reversed"=none)(za8:mg "str"=none):Fk P w K mg base 1 "figures_of" zhG zfl:=
 zkI.mk' (znm (zaO (k:=0) zkI.F ziv (zn0 (zvu)) λcdv A outer s H E hr=>⟨_,(zah (zap (i:=1) ziv.nd rfl (Or.inl rfl) (zak zxh zac zac)) (zah (zap (i:=2) ziv.nd rfl (Or.inl rfl) (zaX zae)) (zah (zil PassesOwn.never (zar zng (dv 0) (dv 1) (zaq _)) (zah (zbQ (zeX (dv 2) (zsJ (zcx (zbo ze0) rfl za8 Boot.«str» (zaa (zak zgQ (dv 0) (dv 1)) zae)) (zaa zac zae)))) (zag (zap (i:=0) ziv.nd rfl (Or.inl rfl) (zak zm7 (dv 0) (dv 1)))))) (zah (zbQ (zeX (dv 2) (zcx (zbo ze0) rfl za8 Boot.«str» (zaa (dv 0) zae)))) (zag (zao (zuk rfl rfl zdL Boot.«reversed» zai (dv 2)))))))),λds S Q ex h=>by
  obtain⟨Q0,ex0,rfl,rfl,h⟩:=h
  unfold zfl at h
  split at h
  ·rename_i n
   obtain⟨⟨n0,nb⟩,h⟩:=h
   have eP:(10:Int)^Int.toNat 64=10^64:=rfl
   have sP:Sz 220 ((10:Int)^Int.toNat 64):=by unfold Sz; decide
   refine⟨λm dl' S'=>∃(k:Int) (ls:List (List Nat)),0≤k∧S'=S++[.lst (ls.map λl=>D.str (mk l))]∧dl'=[some (.int k),some (.int (10^Int.toNat 64)),some (.ref S.length)]∧dec n.natAbs=dec k.natAbs++ls.reverse.flatten∧(∀l∈ls,l.length=64)∧ls.length≤3∧k.natAbs*(10^64)^ls.length<10^200∧m=k.toNat,⟨n.toNat,n,[],n0,rfl,rfl,by simp,by simp,by simp,by simpa using nb,rfl⟩,?_⟩
   rintro m dl' S' ⟨k,ls,k0,rfl,rfl,ed,el,l3,kb,rfl⟩
   refine ifD (λc=>?_) (λc=>?_)
   ·have c':(10:Int)^64≤k:=c
    have kn:10^64≤k.natAbs:=by omega
    have l2:ls.length≤2:=by
     by_cases z:ls.length=3
     ·rw[z] at kb
      have:=Nat.mul_le_mul_right ((10^64)^3) kn
      have e:(10:Nat)^64*(10^64)^3=10^256:=by decide
      have e2:(10:Nat)^200≤10^256:=by decide
      omega
     ·omega
    have rr:=zhE (a:=k) (b:=10^Int.toNat 64) (by decide)
    have er:k%10^Int.toNat 64=((k.natAbs%10^64:Nat):Int):=by rw[eP]; omega
    have eq':(k/10^Int.toNat 64).natAbs=k.natAbs/10^64:=by rw[eP]; omega
    have lr:(dec (k.natAbs%10^64)).length≤64:=zeQ (by decide) (Nat.mod_lt _ (by decide))
    refine zpm (S:=S) (xs:=ls.map λl=>D.str (mk l)) (y:=.str (mk (pad 64 (k.natAbs%10^64)))) (λK hK=>by exact hK) (λK hK=>?_) (by rw[Vac]; omega) ?_
    ·refine zji (S1:=S++[.lst (ls.map λl=>D.str (mk l))]) (S2:=S++[.lst (ls.map λl=>D.str (mk l))]) (x:=mk (dec (k.natAbs%10^64))) (y:=.int 64) (λK hK=>?_) (λK hK=>by exact hK) ⟨⟨by decide,by decide⟩,?_⟩
     ·refine⟨show (0:Int)<10^Int.toNat 64 by decide,?_⟩
      refine zeV (zgr (k:=64) (by show (k%10^Int.toNat 64).natAbs<_; rw[er,Int.natAbs_natCast]; exact Nat.mod_lt _ (by decide)) (by decide)) ?_
      show K (.str (Str.ofString (toString (k%10^Int.toNat 64)))) _
      rw[zeK,zes (by omega),er,Int.natAbs_natCast]
      exact hK
     ·show K (.str (Txt.zfill (mk (dec (k.natAbs%10^64))) 64)) _
      rw[zrY lr]
      exact hK
    ·refine⟨sP.fd (by decide),?_⟩
     refine⟨(k/10^Int.toNat 64).toNat,?_,k/10^Int.toNat 64,ls++[pad 64 (k.natAbs%10^64)],?_,by rw[VaF]; rfl,rfl,?_,?_,by simp; omega,?_,rfl⟩
     ·rw[eP]; omega
     ·rw[eP]; omega
     ·rw[ed,eq',List.reverse_append,List.reverse_singleton,List.singleton_append,List.flatten_cons,← Vaw]
      congr 1
      have z:=zna (q:=k.natAbs/10^64) (by omega) 64 (k.natAbs%10^64) (by decide) (Nat.mod_lt _ (by decide))
      rw[Nat.div_add_mod' k.natAbs (10^64)] at z
      exact z
     ·intro l hl
      rcases Vae.mp hl with z | z
      ·exact el l z
      ·have e:l=pad 64 (k.natAbs%10^64):=by simpa using z
       rw[e]
       unfold pad
       rw[Vad,List.length_replicate]
       omega
     ·rw[eq',Vad,List.length_singleton]
      exact zrV kb
   ·have c':¬ (10:Int)^64≤k:=c
    have lk:(dec k.natAbs).length≤64:=zeQ (by decide) (by omega)
    refine zpm (S:=S) (xs:=ls.map λl=>D.str (mk l)) (y:=.str (mk (dec k.natAbs))) (λK hK=>by exact hK) (λK hK=>?_) (by rw[Vac]; omega) ?_
    ·refine zeV (zgr (k:=64) (by omega) (by decide)) ?_
     rw[zeK,zes k0]
     exact hK
    ·have em:(ls.map λl=>D.str (mk l))++[D.str (mk (dec k.natAbs))]=(ls++[dec k.natAbs]).map λl=>D.str (mk l):=by rw[VaF]; rfl
     rw[em]
     refine zst (sep:="") (n:=S.length) (S1:=S++[.lst ((ls++[dec k.natAbs]).map λl=>D.str (mk l))]) (S2:=S++[.lst ((ls++[dec k.natAbs]).map λl=>D.str (mk l))]) (ds:=(ls++[dec k.natAbs]).map λl=>D.str (mk l)) (zs:=(ls++[dec k.natAbs]).map mk) (λK hK=>by exact hK) (λK hK=>by exact hK) (zaj _ _) (zpe _) (by decide) (λz hz=>?_) (by simp; omega) ?_
     ·obtain⟨l,hl,rfl⟩:=List.mem_map.mp hz
      rw[zbL]
      rcases Vae.mp hl with z | z
      ·rw[el l z]; decide
      ·have e:l=dec k.natAbs:=by simpa using z
       rw[e]; omega
     ·rw[← List.map_reverse,zvs,List.reverse_append,List.reverse_singleton,List.singleton_append,List.flatten_cons,← ed]
      exact⟨Pre.refl.push,.str _,h⟩
  ·exact h.elim⟩))
def zqq  (zkq:Df K mg "written" ziW zhX)(zkG:Fk P w K mg base 1 "figures_of" zhG zfl)(zcI:mg "abs"=none):Fk P w K mg base 2 "written" zhX zgO:=
 zkq.mk' (zaO (k:=1) zkq.F zjQ (zqX) λcdv A outer s H E hr=>⟨_,(zah (zap (i:=1) zjQ.nd rfl (Or.inl rfl) (zaR zkG hr (zaa (zbU zmF rfl zcI Boot.«abs» (zaa (zan (dv 0) zac (λ_ _=>rfl)) zae)) zae))) (zah (zat (zar zei (zan (dv 0) zac (λ_ _=>rfl)) zac (zaq _)) (zag (zap (i:=1) zjQ.nd rfl (Or.inl rfl) (zak zcM zai (dv 1)))) zay) (zah (zat (zar (zcc hr) (zan (dv 0) zac (λ_ _=>rfl)) zac (zaq _)) (zag (zap (i:=1) zjQ.nd rfl (Or.inl rfl) (zak zcM (zak zcM (dv 1) zai) (zaR zkG hr (zaa (zan (dv 0) zac (λ_ _=>rfl)) zae))))) zay) (zag (zao (dv 1)))))),λds S Q ex h=>by
  unfold zgO at h
  split at h
  ·rename_i t b
   obtain⟨⟨ht,b1,hb⟩,h⟩:=h
   have l1:=zgb (k:=200) (by decide) ht
   have d1:=zeQ (k:=200) (by decide) ht
   have d2:=zeQ (k:=200) (by decide) hb
   have eabs:(if t<0 then -t else t).natAbs=t.natAbs:=by split <;> omega
   refine⟨⟨zmO t,by show (if t<0 then -t else t).natAbs<_; rw[eabs]; exact ht⟩,?_⟩
   have fin:∀x:Str,x=mk (num t)→dIf (zcG (dOp (wNe eq2) (dOp wIx (zbB 0) (dC (D.int 1))) (dC (D.int 1)))) (zfe 1 (dOp zmv (dOp zmv (zbB 1) (dC (D.str "/"))) (zgk (λ_ _ _=>False) zfl (zb0 (dOp wIx (zbB 0) (dC (D.int 1))) zbY)))) zj5 { nx:=λdl' S'=>zhK (zbB 1) { nx:=λ_ S'=>Q .non S',rt:=Q } dl' S',rt:=Q } [some (.tup [.int t,.int b]),some (.str x)] S:=λx ex'=>by
    subst ex'
    refine ifN (λe=>?_) (λe=>?_)
    ·have s1:mk (num t)++("/":Str)=mk (num t++[47]):=by rw[zjv]; exact zhe (num t) [47]
     refine⟨by rw[zbL]; show _+1≤1000; omega,?_⟩
     refine⟨⟨by omega,hb⟩,?_⟩
     refine⟨by rw[s1,zbL,zbL]; simp; omega,?_⟩
     have s2:mk (num t)++("/":Str)++mk (dec b.natAbs)=mk (za5 t b):=by
      rw[s1,zhe,Vaw]
      unfold za5
      rw[if_neg e,zes (show 0≤b by omega)]
      rfl
     show Q (.str (mk (num t)++("/":Str)++mk (dec b.natAbs))) S
     rw[s2]
     exact h
    ·have s2:mk (num t)=mk (za5 t b):=by
      unfold za5
      rw[if_pos e,Vav]
     show Q (.str (mk (num t))) S
     rw[s2]
     exact h
   refine ifD (λe=>?_) (λe=>?_)
   ·refine⟨by show 1+(mk (dec _)).length≤1000; rw[zbL,eabs]; omega,?_⟩
    refine fin _ ?_
    show ("-":Str)++mk (dec (if t<0 then -t else t).natAbs)=mk (num t)
    rw[eabs,zpl,zlG e]
    exact zhe [45] _
   ·refine fin _ ?_
    show mk (dec (if t<0 then -t else t).natAbs)=mk (num t)
    rw[eabs,zes (by omega)]
  ·exact h.elim⟩)
def zwo  {t_MOST_FIGURES:Tok}{t_FIGURES:Tok}(zkX:Df K mg "number_of" zkD zeI)(zav:Ec K mg "NoRow")(zaD:Ec K mg "NoNumber")(zmm:Fk P w K mg base 2 "written" zhX zgO)(zmy:Fk P w K mg base 2 "fraction" zh4 (zg2 zaD.c))(zez:Fk P w K mg base 1 "made_of" ze9 zfF)(g_MOST_FIGURES:mg "MOST_FIGURES"=some (.int 9 t_MOST_FIGURES))(g_FIGURES:mg "FIGURES"=some (.str "0123456789" t_FIGURES))(zbw:mg "int"=none):Fk P w K mg base 3 "number_of" zeI (zer zav.c zaD.c):=
 zkX.mk' (zcN (k:=2) zkX.F ze7 (zqL zav.c zaD.c) λcdv A outer s H E ex hr hpx hrx=>⟨_,(zah (zap (i:=1) ze7.nd rfl (Or.inl rfl) (zs0 (dv 0) (zaa zai zae))) (zah (zap (i:=2) ze7.nd rfl (Or.inl rfl) (zan (dv 1) zac (λ_ _=>rfl))) (zah (zap (i:=3) ze7.nd rfl (Or.inl rfl) (znj (zar (zaH hr) (zan (dv 1) zac (λ_ _=>rfl)) zai (zaq _)) (zan (dv 1) zac (λ_ _=>rfl)) zai)) (zah (zap (i:=4) ze7.nd rfl (Or.inl rfl) (znj (zbx (zw2 (dv 2) (zaa zai zae))) (zrs (dv 2) (zdP zac) zfu) (dv 2))) (zah (zat (PDW.pt (zbI (zck (zbx (za6 zez (hr.mono (by decide)) hpx rfl (zaa (dv 4) (zaa (zmP g_FIGURES rfl) (zaa (zdu g_MOST_FIGURES rfl) zae)))))) (zcp (zck (zbx (za6 zez (hr.mono (by decide)) hpx rfl (zaa (dv 3) (zaa (zmP g_FIGURES rfl) (zaa (zdu g_MOST_FIGURES rfl) zae))))))))) (zag (zcC zav.xc PySem.F.excBase_ValueError hrx hr.hd rfl (zaa zai zae))) zay) (zah (zat (zar (zaH hr) (zcx (zbo zlk) rfl zbw Boot.«int» (zaa (dv 3) zae)) zac (zaq _)) (zag (zcC zav.xc PySem.F.excBase_ValueError hrx hr.hd rfl (zaa zai zae))) zay) (zah (zap (i:=5) ze7.nd rfl (Or.inl rfl) (za6 zmy (hr.mono (by decide)) hpx rfl (zaa (zcx (zbo zlk) rfl zbw Boot.«int» (zaa (dv 2) zae)) (zaa (zcx (zbo zlk) rfl zbw Boot.«int» (zaa (dv 3) zae)) zae)))) (zah (zat (zar (zcc hr) (za6 zmm (hr.mono (by decide)) hpx rfl (zaa (dv 5) zae)) (dv 0) (zaq _)) (zag (zcC zav.xc PySem.F.excBase_ValueError hrx hr.hd rfl (zaa zai zae))) zay) (zag (zao (dv 5))))))))))),λds S Q h=>by
  unfold zer at h
  split at h
  ·rename_i w
   obtain⟨hl,h1,h2⟩:=h
   have lw:=zeM w
   refine cut4 (α:=D×List Nat×List Nat×List Nat) (λa=>match a with | ⟨d,T,B,F⟩=>[some (.str w),some d,some (.str (mk T)),some (.str (mk B)),some (.str (mk F)),none]) (λa=>match a with | ⟨_,T,B,F⟩=>zla (cs w) T B∧Sig T F) (λmain=>?_) ?_
   ·have sig:∀(d:D) (T B:List Nat) (nx:Ev→Sto→Prop),zla (cs w) T B→T.length≤900→(∀F,Sig T F→nx [some (.str w),some d,some (.str (mk T)),some (.str (mk B)),some (.str (mk F)),none] S)→zfe 4 (dIfE (zcG (zcA zmL (zbB 2) (zb0 (dC (D.str "-")) zbY))) (dSlS (zbB 2) (zoN (dC (D.int 1))) znG) (zbB 2)) { nx:=nx,rt:=Q } [some (.str w),some d,some (.str (mk T)),some (.str (mk B)),none,none] S:=λd T B nx sh lT go=>by
     refine zji (S1:=S) (S2:=S) (x:=mk T) (y:=.str "-") (λK hK=>by exact hK) (λK hK=>by exact hK) ?_
     show if Txt.startswith (mk T) "-"=true then _ else _
     rw[zw5,zbv]
     refine ifD (λc=>?_) (λc=>?_)
     ·cases T with
      | nil=>cases c
      | cons x r=>
       have ex':x=45:=by simpa using c
       subst ex'
       refine⟨by rw[zbL]; omega,?_⟩
       have et:=zwV (x:=mk (45::r)) (r:=r) (zbv _)
       show nx (List.set _ 4 (some (.str (StrLaws.sliceText (mk (45::r)) (some 1) none)))) S
       rw[et]
       exact go r (.inl rfl)
     ·exact go T (.inr ⟨rfl,c⟩)
    by_cases h47:47∈cs w
    ·obtain⟨A',B,e,nA⟩:=zol _ h47
     refine zji (S1:=S) (S2:=S) (x:=w) (y:=.str "/") (λK hK=>by exact hK) (λK hK=>by exact hK) ⟨⟨by decide,by omega⟩,?_⟩
     rw[zqs e nA]
     have lA:A'.length≤900:=by
      have:(cs w).length=A'.length+(B.length+1):=by rw[e]; simp
      omega
     exact sig _ A' B _ ⟨.inr e,nA⟩ lA (λF sg=>main (_,A',B,F) ⟨⟨.inr e,nA⟩,sg⟩)
    ·refine zji (S1:=S) (S2:=S) (x:=w) (y:=.str "/") (λK hK=>by exact hK) (λK hK=>by exact hK) ⟨⟨by decide,by omega⟩,?_⟩
     rw[zuC h47]
     have sh:zla (cs w) (cs w) [49]:=⟨.inl ⟨rfl,rfl⟩,h47⟩
     have z:=sig (.tup [.str w,.str Str.empty,.str Str.empty]) (cs w) [49] _ sh (by omega) (λF sg=>main (_,cs w,[49],F) ⟨sh,sg⟩)
     rw[zb1] at z
     exact z
   ·rintro⟨d,T,B,F⟩ ⟨sh,sg⟩
    have lens:T.length≤900∧B.length≤900∧F.length≤900:=by
     have lT:T.length≤900∧B.length≤900:=by
      rcases sh.1 with ⟨e,rfl⟩ | e
      ·rw[← e]; exact⟨by omega,by decide⟩
      ·have:(cs w).length=T.length+(B.length+1):=by rw[e]; simp
       omega
     refine⟨lT.1,lT.2,?_⟩
     rcases sg with e | ⟨e,_⟩
     ·rw[e] at lT
      simp at lT
      omega
     ·rw[← e]; exact lT.1
    refine⟨by rw[zbL]; omega,?_⟩
    by_cases fF:zdH (mk F)=true
    ·refine ifF (c:=!zdH (mk F)) (by rw[fF]; rfl) ?_
     refine⟨by rw[zbL]; omega,?_⟩
     by_cases fB:zdH (mk B)=true
     ·refine ifF (c:=!zdH (mk B)) (by rw[fB]; rfl) ?_
      have gF:=(zmC _).mp fF
      have gB:=(zmC _).mp fB
      rw[zbv] at gF gB
      obtain⟨rB,_⟩:=zpc gB.2.2 gB.1 (by omega)
      obtain⟨rF1,rF2⟩:=zpc gF.2.2 gF.1 (by omega)
      have vF:PySem.NumText.digitsVal F<10^9:=Vai (zoz F gF.2.2) (Nat.pow_le_pow_right (by decide) gF.2.1)
      have vB:PySem.NumText.digitsVal B<10^9:=Vai (zoz B gB.2.2) (Nat.pow_le_pow_right (by decide) gB.2.1)
      refine zkP rB (by rw[zbL]; omega) ?_
      refine ifD (λe0=>?_) (λe0=>?_)
      ·refine h2 λt b n=>?_
       obtain⟨_,_,eB⟩:=zfs n sh sg
       rw[eB,zfq] at e0
       have:=n.pos
       omega
      ·obtain⟨tv,rT,av,own⟩:∃tv:Int,PySem.intText? (mk T)=some tv∧tv.natAbs<10^9∧∀t b,zbi (cs w) t b→tv=t:=by
        rcases id sg with e | ⟨e,z⟩
        ·refine⟨_,by rw[e]; exact rF2,by omega,λt b n=>?_⟩
         obtain⟨eT,eF,_⟩:=zfs n sh sg
         rw[eF,zfq]
         rw[e] at eT
         unfold num at eT
         split at eT
         ·omega
         ·have:=zdB eT.symm
          omega
        ·refine⟨_,by rw[e]; exact rF1,by omega,λt b n=>?_⟩
         obtain⟨eT,eF,_⟩:=zfs n sh sg
         rw[eF,zfq]
         unfold num at eT
         split at eT
         ·rw[eT] at z
          exact absurd rfl z
         ·omega
       have lT:T.length≤10:=by
        have:=gF.2.1
        rcases sg with e | ⟨e,_⟩
        ·rw[e,Vaq]; omega
        ·rw[e]; omega
       refine zkP rT (by rw[zbL]; omega) ?_
       refine zkP rB (by rw[zbL]; omega) ?_
       refine .inr ⟨⟨e0,(Sz.of (n:=40) (10^9) (by omega)).mono (by decide)⟩,λt b b1 ecr g st sb=>?_⟩
       have big:(10:Nat)^9≤10^200:=Nat.pow_le_pow_right (by decide) (by decide)
       refine⟨⟨by omega,b1,by omega⟩,?_⟩
       refine ifN (λc=>?_) (λc=>?_)
       ·refine h2 λt' b' n=>c ?_
        obtain⟨_,_,eB⟩:=zfs n sh sg
        have et:=own t' b' n
        have eb:((PySem.NumText.digitsVal B:Nat):Int)=b':=by
         rw[eB,zfq]
         have:=n.pos
         omega
        rw[et,eb] at ecr
        obtain⟨rfl,rfl⟩:=zq0 b1 n.pos g n.low ecr
        refine zc3 ?_
        rw[zbv]
        exact n.eq.symm
       ·refine h1 t b ⟨b1,g,by omega,by omega,?_⟩
        rw[← c,zbv]
     ·refine ifT (c:=!zdH (mk B)) (by simp[fB]) ?_
      refine h2 λt b n=>fB ?_
      obtain⟨_,_,eB⟩:=zfs n sh sg
      rw[eB]
      exact zns (by have:=n.bot; have:=n.pos; omega)
    ·refine ifT (c:=!zdH (mk F)) (by simp[fF]) ?_
     refine h2 λt b n=>fF ?_
     obtain⟨_,eF,_⟩:=zfs n sh sg
     rw[eF]
     exact zns n.top
  ·exact h.elim⟩)
def zxl  (zab:zcl K mg)(zjN:Dm K zab.C "sees" "Reader.sees" zkW zdW)(zb3:Fm P w K mg base 1 zab.C "at_end" zey (zeP zab.C)):Fm P w K mg base 2 zab.C "sees" zdW (zdT zab.C):=
 zjN.mk' (zaO (k:=1) zjN.F zsR (ztv zab.C) λcdv A outer s H E hr=>⟨_,(zag (zao (zgp (zlN (zbh (C:=zab.C) (dv 0) zab.cl zb3.m zb3.ok (hr.mono (by decide)) zb3.b zaG)) (zgu (zg3 (ztu hr) (zaU (za0 zab.cl zab.n_words (dv 0)) (za0 zab.cl zab.n_place (dv 0)) (λ_ _=>rfl)) (dv 1) rfl))))),λds S Q ex h=>by
  unfold zdT at h
  split at h
  ·rename_i n es
   obtain⟨cs,rfl,wm,ws,p,d,rd,h⟩:=h
   refine zaE (S1:=S) (n:=n) (λK hK=>by exact hK) rd.rd rfl ?_
   refine⟨wm,ws,p,d,rd,?_⟩
   by_cases c:p=ws.length
   ·rw[decide_eq_true c]
    rw[VaV (by omega)] at h
    exact h
   ·rw[decide_eq_false c]
    have lp:p<ws.length:=by have:=rd.pl; omega
    rw[List.drop_eq_getElem_cons lp] at h
    refine zaY (S1:=S) (λK hK=>by exact hK) rd.rd rfl ?_
    refine zaY (S1:=S) (λK hK=>by exact hK) rd.rd rfl ?_
    refine zaM (o:=.lst (ws.map D.str)) rd.wd (zdj lp) ?_
    exact ztI h
  ·rename_i n m
   obtain⟨cs,hm,wm,ws,p,d,rd,h⟩:=h
   refine zaE (S1:=S) (n:=n) (λK hK=>by exact hK) rd.rd rfl ?_
   refine⟨wm,ws,p,d,rd,?_⟩
   by_cases c:p=ws.length
   ·rw[decide_eq_true c]
    rw[VaV (by omega)] at h
    exact h
   ·rw[decide_eq_false c]
    have lp:p<ws.length:=by have:=rd.pl; omega
    rw[List.drop_eq_getElem_cons lp] at h
    refine zaY (S1:=S) (λK hK=>by exact hK) rd.rd rfl ?_
    refine zaY (S1:=S) (λK hK=>by exact hK) rd.rd rfl ?_
    refine zaM (o:=.lst (ws.map D.str)) rd.wd (zdj lp) ?_
    exact zvN hm h
  ·exact h.elim⟩)
def zwf  {t_MOST_BRACKETS:Tok}(n:Nat)(zab:zcl K mg)(zeW:Dm K zab.C "bracket" "Reader.bracket" zgE zfk)(zav:Ec K mg "NoRow")(zaD:Ec K mg "NoNumber")(za1:Fm P w K mg base 2 zab.C "take" zdo (zdh zab.C zav.c))(zcQ:Fm P w K mg base (3+5*n) zab.C "expression" zea (zdY n zab.C zav.c zaD.c))(g_MOST_BRACKETS:mg "MOST_BRACKETS"=some (.int 16 t_MOST_BRACKETS)):Fm P w K mg base (3+5*n+1) zab.C "bracket" zfk (zgC (n+1) zab.C zav.c zaD.c):=
 zeW.mk' (zcN (k:=(3+5*n+0)) zeW.F zo0 (zsm (n+1) zab.C zav.c zaD.c) λcdv A outer s H E ex hr hpx hrx=>⟨_,(zah (znT zab.cl zab.n_depth (dv 0) zac) (zah (zat (zar zhv (za0 zab.cl zab.n_depth (dv 0)) (zdu g_MOST_BRACKETS rfl) (zaq _)) (zag (zcC zav.xc PySem.F.excBase_ValueError hrx hr.hd rfl (zaa zai zae))) zay) (zah (zap (i:=1) zo0.nd rfl (Or.inl rfl) (zbh (C:=zab.C) (dv 0) zab.cl zcQ.m zcQ.ok (hr.mono (by omega)) zcQ.b hpx)) (zah (zat (zar (zcc hr) (zbh (C:=zab.C) (dv 0) zab.cl za1.m za1.ok (hr.mono (by omega)) za1.b hpx) zai (zaq _)) (zag (zcC zav.xc PySem.F.excBase_ValueError hrx hr.hd rfl (zaa zai zae))) zay) (zah (zvS zab.cl zab.n_depth (dv 0) zac) (zag (zao (dv 1)))))))),λds S Q h=>by
  unfold zgC at h
  split at h
  ·rename_i n0
   obtain⟨wm,ws,p,d,rd,d16,lv,h⟩:=h
   unfold brS at h
   refine zl0 (S1:=S) (S2:=S) (n:=n0) (λK hK=>by exact hK) rd.rd rfl (λK hK=>by exact hK) rd.rd (show 3<1000 by decide) ?_
   obtain⟨rd1,x1⟩:=rd.put (p':=p) (d':=d+1) (p:Int) ((d:Int)+1) rfl (by omega) rd.pl
   rw[show zaP "depth" (.int ((d:Int)+1)) (rdF wm (p:Int) (d:Int))=rdF wm (p:Int) ((d:Int)+1) from rfl]
   generalize S.set n0 (.ins zab.C (rdF wm (p:Int) ((d:Int)+1)))=S1 at rd1 x1 ⊢
   refine zaY (S1:=S1) (n:=n0) (λK hK=>by exact hK) rd1.rd rfl ?_
   refine ifD (λc=>?_) (λc=>?_)
   ·have e:d=16:=by omega
    subst e
    exact h _ x1
   ·have e:16-d=(16-(d+1))+1:=by omega
    have ei:inS (16-d) (ws.drop p)=exS (16-(d+1)) (ws.drop p):=by rw[e]; rfl
    rw[ei] at h
    refine zaE (S1:=S1) (n:=n0) (λK hK=>by exact hK) rd1.rd rfl ?_
    refine⟨wm,ws,p,d+1,rd1,by omega,by omega,?_⟩
    cases ee:exS (16-(d+1)) (ws.drop p) with
    | none=>
     rw[ee] at h
     exact λT xT=>h T (x1.trans xT)
    | some tr=>
     obtain⟨t,r⟩:=tr
     obtain⟨er,lr⟩:=zeo (zlD _) ee
     rw[ee] at h
     intro T xT rdT
     refine zaE (S1:=T) (n:=n0) (λK hK=>by exact hK) rdT.rd rfl ?_
     refine⟨wm,ws,ws.length-r.length,d+1,rdT,?_⟩
     rw[er]
     cases r with
     | nil=>exact h T (x1.trans xT)
     | cons w2 r2=>
      rw[Vaq] at lr rdT ⊢
      obtain⟨rd2,x2⟩:=rdT.put (p':=ws.length-r2.length) (d':=d+1) (((ws.length-(r2.length+1):Nat):Int)+1) (((d+1:Nat)):Int) (by omega) rfl (by omega)
      dsimp only[dC]
      refine txNe ?_
      by_cases c2:w2=")"
      ·rw[decide_eq_true c2]
       dsimp only at h
       rw[if_pos ((zpf w2).mpr c2)] at h
       generalize T.set n0 (.ins zab.C (rdF wm (((ws.length-(r2.length+1):Nat):Int)+1) (((d+1:Nat)):Int)))=T2 at rd2 x2 ⊢
       refine zl0 (S1:=T2) (S2:=T2) (n:=n0) (λK hK=>by exact hK) rd2.rd rfl (λK hK=>by exact hK) rd2.rd (show 3<1000 by decide) ?_
       obtain⟨rd3,x3⟩:=rd2.put (p':=ws.length-r2.length) (d':=d) ((ws.length-r2.length:Nat):Int) (((d+1:Nat):Int)-1) rfl (by omega) rd2.pl
       exact h _ (x1.trans (xT.trans (x2.trans x3))) rd3
      ·rw[decide_eq_false c2]
       dsimp only at h
       rw[if_neg λz=>c2 ((zpf w2).mp z)] at h
       exact h _ (x1.trans (xT.trans x2))
  ·exact h.elim⟩)
def zqI  (n:Nat)(zab:zcl K mg)(zeC:Dm K zab.C "atom" "Reader.atom" zha zfp)(zav:Ec K mg "NoRow")(zaD:Ec K mg "NoNumber")(zc8:Fk P w K mg base 3 "number_of" zeI (zer zav.c zaD.c))(zcb:Fk P w K mg base 2 "is_name" zdA zdF)(zgZ:Fm P w K mg base (3+5*n+1) zab.C "bracket" zfk (zgC (n+1) zab.C zav.c zaD.c))(za1:Fm P w K mg base 2 zab.C "take" zdo (zdh zab.C zav.c)):Fm P w K mg base (3+5*n+2) zab.C "atom" zfp (zhZ (n+1) zab.C zav.c zaD.c):=
 zeC.mk' (zcN (k:=(3+5*n+1)) zeC.F zlJ (ztQ (n+1) zab.C zav.c zaD.c) λcdv A outer s H E ex hr hpx hrx=>⟨_,(zah (zap (i:=1) zlJ.nd rfl (Or.inl rfl) (zbh (C:=zab.C) (dv 0) zab.cl za1.m za1.ok (hr.mono (by omega)) za1.b hpx)) (zah (zat (zar (zaH hr) (dv 1) zai (zaq _)) (zag (zao (zbh (C:=zab.C) (dv 0) zab.cl zgZ.m zgZ.ok (hr.mono (by omega)) zgZ.b hpx))) zay) (zah (zat (zbx (za6 zcb (hr.mono (by omega)) hpx rfl (zaa (dv 1) zae))) (zag (zao (zbd (zaa zai (zaa (dv 1) zae))))) zay) (zah (zap (i:=2) zlJ.nd rfl (Or.inl rfl) (za6 zc8 (hr.mono (by omega)) hpx rfl (zaa (dv 1) zae))) (zag (zao (zbd (zaa zai (zaa (zan (dv 2) zac (λ_ _=>rfl)) (zaa (zan (dv 2) zac (λ_ _=>rfl)) zae)))))))))),λds S Q h=>by
  unfold zhZ at h
  split at h
  ·rename_i n0
   obtain⟨wm,ws,p,d,rd,d16,lv,h⟩:=h
   refine zaE (S1:=S) (n:=n0) (λK hK=>by exact hK) rd.rd rfl ?_
   refine⟨wm,ws,p,d,rd,?_⟩
   by_cases c:p=ws.length
   ·rw[VaV (by omega)] at h ⊢
    exact h S (zaT.refl rd.lt)
   have lp:p<ws.length:=by have:=rd.pl; omega
   have wl:=rd.wl ws[p] (VaU lp)
   obtain⟨rd1,x1⟩:=rd.put (p':=p+1) (d':=d) ((p:Int)+1) (d:Int) (by omega) rfl lp
   have ll:(ws.drop (p+1)).length=ws.length-(p+1):=List.length_drop ..
   rw[List.drop_eq_getElem_cons lp] at h ⊢
   generalize ws[p]=w at h wl ⊢
   dsimp only
   generalize S.set n0 (.ins zab.C (rdF wm ((p:Int)+1) (d:Int)))=S1 at rd1 x1 ⊢
   refine zwh (i:=1) (a:=w) rfl (λc1=>?_) (λc1=>?_)
   ·rw[zwl c1] at h
    refine zaE (S1:=S1) (n:=n0) (λK hK=>by exact hK) rd1.rd rfl ?_
    refine⟨wm,ws,p+1,d,rd1,d16,lv,?_⟩
    cases eb:brS (16-d) (ws.drop (p+1)) with
    | none=>
     rw[eb] at h
     exact λT xT=>h T (x1.trans xT)
    | some tr=>
     rw[eb] at h
     exact λT xT rdT=>h T (x1.trans xT) rdT
   ·rw[zuG c1] at h
    refine⟨by omega,?_⟩
    cases cn:zaL w with
    | true=>
     rw[zgW cn] at h
     have z:=h S1 x1 (by rw[ll,show ws.length-(ws.length-(p+1))=p+1 by omega]; exact rd1)
     have e:trD (.nm (cs w))=.tup [.str "name",.str w]:=by
      show D.tup [.str "name",.str (mk (cs w))]=_
      rw[zb1]
     rw[e] at z
     exact z
    | false=>
     refine⟨by omega,λt b hn=>?_,λhb=>?_⟩
     ·rw[zm8 cn hn] at h
      exact h S1 x1 (by rw[ll,show ws.length-(ws.length-(p+1))=p+1 by omega]; exact rd1)
     ·rw[zpB cn hb] at h
      exact h S1 x1
  ·exact h.elim⟩)
def zqK  (n:Nat)(zab:zcl K mg)(zeY:Dm K zab.C "factor" "Reader.factor" zim zf9)(zav:Ec K mg "NoRow")(zaD:Ec K mg "NoNumber")(za1:Fm P w K mg base 2 zab.C "take" zdo (zdh zab.C zav.c))(zbz:Fm P w K mg base 2 zab.C "sees" zdW (zdT zab.C))(zir:Fm P w K mg base (3+5*n+2) zab.C "atom" zfp (zhZ (n+1) zab.C zav.c zaD.c))(g_POWERS:GT K mg "POWERS" ["2","3","4","5","6"])(zbw:mg "int"=none):Fm P w K mg base (3+5*n+3) zab.C "factor" zf9 (zii (n+1) zab.C zav.c zaD.c):=
 zeY.mk' (zcN (k:=(3+5*n+2)) zeY.F zpO (zr4 (n+1) zab.C zav.c zaD.c) λcdv A outer s H E ex hr hpx hrx=>⟨_,(zah (zap (i:=1) zpO.nd rfl (Or.inl rfl) (zbh (C:=zab.C) (dv 0) zab.cl zir.m zir.ok (hr.mono (by omega)) zir.b hpx)) (zah (zat (zck (zbx (zbn (C:=zab.C) (dv 0) zab.cl zbz.m zbz.ok (hr.mono (by omega)) zbz.b hpx (zaa (zbd (zaa zai zae)) zae)))) (zag (zao (dv 1))) zay) (zah (zbQ (zbh (C:=zab.C) (dv 0) zab.cl za1.m za1.ok (hr.mono (by omega)) za1.b hpx)) (zah (zat (zck (zbx (zbn (C:=zab.C) (dv 0) zab.cl zbz.m zbz.ok (hr.mono (by omega)) zbz.b hpx (zaa (zu3 g_POWERS rfl) zae)))) (zag (zcC zav.xc PySem.F.excBase_ValueError hrx hr.hd rfl (zaa zai zae))) zay) (zag (zao (zbd (zaa zai (zaa (dv 1) (zaa (zcx (zbo zlk) rfl zbw Boot.«int» (zaa (zbh (C:=zab.C) (dv 0) zab.cl za1.m za1.ok (hr.mono (by omega)) za1.b hpx) zae)) zae)))))))))),λds S Q h=>by
  unfold zii at h
  split at h
  ·rename_i n0
   obtain⟨wm,ws,p,d,rd,d16,lv,h⟩:=h
   refine zaE (S1:=S) (n:=n0) (λK hK=>by exact hK) rd.rd rfl ?_
   refine⟨wm,ws,p,d,rd,d16,lv,?_⟩
   cases ea:zbG kS avS (inS (16-d)) (ws.drop p) with
   | none=>
    rw[zrC ea] at h
    exact h
   | some tr=>
    obtain⟨t,r⟩:=tr
    obtain⟨er,lr⟩:=zeo (zmV zda (zff _)) ea
    intro T xT rdT
    refine zaE (S1:=T) (n:=n0) (λK hK=>by exact hK) rdT.rd rfl ?_
    refine⟨["^"],rfl,wm,ws,ws.length-r.length,d,rdT,?_⟩
    rw[er]
    cases r with
    | nil=>
     rw[zq6 ea] at h
     exact h T xT rdT
    | cons w r2=>
     rw[Vaq] at lr rdT er
     dsimp only
     by_cases cw:w="^"
     ·rw[show (List.any (["^"]:List Str) λx=>x==w)=true by rw[cw]; decide]
      refine zaE (S1:=T) (n:=n0) (λK hK=>by exact hK) rdT.rd rfl ?_
      refine⟨wm,ws,ws.length-(r2.length+1),d,rdT,?_⟩
      rw[er]
      have er2:=zl6 er lr
      obtain⟨rd2,x2⟩:=rdT.put (p':=ws.length-r2.length) (d':=d) (((ws.length-(r2.length+1):Nat):Int)+1) (d:Int) (by omega) rfl (by omega)
      dsimp only
      generalize T.set n0 (.ins zab.C (rdF wm (((ws.length-(r2.length+1):Nat):Int)+1) (d:Int)))=T2 at rd2 x2 ⊢
      refine zaE (S1:=T2) (n:=n0) (λK hK=>by exact hK) rd2.rd rfl ?_
      obtain⟨rd3,x3⟩:=rd2.app [.tpl POW]
      refine⟨POW,zaj _ _,wm,ws,ws.length-r2.length,d,rd3,?_⟩
      rw[er2]
      cases r2 with
      | nil=>
       rw[zt1 ea cw] at h
       exact h _ (xT.trans (x2.trans x3))
      | cons q r3=>
       rw[Vaq] at lr rd3 er2
       rw[zrj ea cw] at h
       dsimp only
       rw[zqv]
       cases ep:pvS q with
       | none=>
        rw[ep] at h
        exact h _ (xT.trans (x2.trans x3))
       | some k=>
        rw[ep] at h
        obtain⟨i1,i2⟩:=ztb ep
        rw[show (!(some k:Option Int).isSome)=false from rfl]
        refine zcn ?_
        refine zaE (S1:=T2++[Ob.tpl POW]) (n:=n0) (λK hK=>by exact hK) rd3.rd rfl ?_
        refine⟨wm,ws,ws.length-(r3.length+1),d,rd3,?_⟩
        rw[er2]
        obtain⟨rd4,x4⟩:=rd3.put (p':=ws.length-r3.length) (d':=d) (((ws.length-(r3.length+1):Nat):Int)+1) (d:Int) (by omega) rfl (by omega)
        refine zkP i1 i2 ?_
        exact h _ (xT.trans (x2.trans (x3.trans x4))) rd4
     ·rw[show (List.any (["^"]:List Str) λx=>x==w)=false by simpa using Ne.symm cw]
      rw[zsX ea cw] at h
      exact h T xT rdT
  ·exact h.elim⟩)
def zr6  (n:Nat)(zab:zcl K mg)(zeR:Dm K zab.C "term" "Reader.term" zh0 zfh)(zav:Ec K mg "NoRow")(zaD:Ec K mg "NoNumber")(zbz:Fm P w K mg base 2 zab.C "sees" zdW (zdT zab.C))(zd3:Fm P w K mg base (3+5*n+3) zab.C "factor" zf9 (zii (n+1) zab.C zav.c zaD.c))(za1:Fm P w K mg base 2 zab.C "take" zdo (zdh zab.C zav.c)):Fm P w K mg base (3+5*n+4) zab.C "term" zfh (zgM (n+1) zab.C zav.c zaD.c):=
 zeR.mk' (zcN (k:=(3+5*n+3)) zeR.F zmS (zrg (n+1) zab.C zav.c zaD.c) λcdv A outer s H E ex hr hpx hrx=>⟨_,(zah (zap (i:=1) zmS.nd rfl (Or.inl rfl) (zbh (C:=zab.C) (dv 0) zab.cl zd3.m zd3.ok (hr.mono (by omega)) zd3.b hpx)) (zah (zil PassesOwn.leaving (zbx (zbn (C:=zab.C) (dv 0) zab.cl zbz.m zbz.ok (hr.mono (by omega)) zbz.b hpx (zaa (zbd (zaa zai zae)) zae))) (zah (zbQ (zbh (C:=zab.C) (dv 0) zab.cl za1.m za1.ok (hr.mono (by omega)) za1.b hpx)) (zag (zap (i:=1) zmS.nd rfl (Or.inl rfl) (zbd (zaa zai (zaa (dv 1) (zaa (zbh (C:=zab.C) (dv 0) zab.cl zd3.m zd3.ok (hr.mono (by omega)) zd3.b hpx) zae)))))))) (zag (zao (dv 1))))),λds S Q h=>by
  unfold zgM at h
  split at h
  ·rename_i n0
   obtain⟨wm,ws,p,d,rd,d16,lv,h⟩:=h
   refine zaE (S1:=S) (n:=n0) (λK hK=>by exact hK) rd.rd rfl ?_
   refine⟨wm,ws,p,d,rd,d16,lv,?_⟩
   cases ea:za4 kS avS pvS (inS (16-d)) (ws.drop p) with
   | none=>
    rw[ztr ea] at h
    exact h
   | some tr=>
    obtain⟨t,r⟩:=tr
    obtain⟨er,lr⟩:=zeo (zj8 zda zdN (zff _)) ea
    have el:=VaC (ziX (λ_ _ _ e=>zig e) ea)
    rw[zw4 ea] at h
    generalize (ws.drop p).length=N at h el
    intro T xT rdT
    refine⟨λm dl' S'=>∃(t:Tr) (r:List Str) (N:Nat),m=r.length∧r.length≤N∧ws.drop (ws.length-r.length)=r∧r.length≤ws.length∧zaT n0 S S'∧za9 zab.C S' n0 wm ws (ws.length-r.length) d∧dl'=[some (.ref n0),some (trD t)]∧match zbK kS avS pvS (inS (16-d)) N t r with | none=>∀T:Sto,zaT n0 S T→ex zav.c T | some (t,r)=>∀T:Sto,zaT n0 S T→za9 zab.C T n0 wm ws (ws.length-r.length) d→Q (trD t) T,⟨r.length,t,r,N,rfl,el,er,lr,xT,rdT,rfl,h⟩,?_⟩
    clear h el er lr xT rdT ea
    rintro m dl' S' ⟨t,r,N,rfl,el,er,lr,xS,rdS,rfl,h⟩
    refine zaE (S1:=S') (n:=n0) (λK hK=>by exact hK) rdS.rd rfl ?_
    refine⟨["*"],rfl,wm,ws,ws.length-r.length,d,rdS,?_⟩
    rw[er]
    cases r with
    | nil=>
     rw[zi0 Nst.nil] at h
     exact h S' xS rdS
    | cons w r2=>
     rw[Vaq] at lr rdS er el
     dsimp only
     by_cases cw:w="*"
     ·rw[show (List.any (["*"]:List Str) λx=>x==w)=true by rw[cw]; decide]
      obtain⟨N',rfl⟩:∃N',N=N'+1:=⟨N-1,by omega⟩
      refine zbZ ?_
      refine zaE (S1:=S') (n:=n0) (λK hK=>by exact hK) rdS.rd rfl ?_
      refine⟨wm,ws,ws.length-(r2.length+1),d,rdS,?_⟩
      rw[er]
      have er2:=zl6 er lr
      obtain⟨rd2,x2⟩:=rdS.put (p':=ws.length-r2.length) (d':=d) (((ws.length-(r2.length+1):Nat):Int)+1) (d:Int) (by omega) rfl (by omega)
      dsimp only
      generalize S'.set n0 (.ins zab.C (rdF wm (((ws.length-(r2.length+1):Nat):Int)+1) (d:Int)))=S2 at rd2 x2 ⊢
      refine zaE (S1:=S2) (n:=n0) (λK hK=>by exact hK) rd2.rd rfl ?_
      refine⟨wm,ws,ws.length-r2.length,d,rd2,d16,lv,?_⟩
      rw[er2]
      cases ef:za4 kS avS pvS (inS (16-d)) r2 with
      | none=>
       rw[zwv cw ef] at h
       exact λT xT=>h T (xS.trans (x2.trans xT))
      | some tr=>
       obtain⟨t2,r3⟩:=tr
       rw[zsP cw ef] at h
       have e2:za4 kS avS pvS (inS (16-d)) (ws.drop (ws.length-r2.length))=some (t2,r3):=by rw[er2]; exact ef
       obtain⟨er3,lr3⟩:=zeo (zj8 zda zdN (zff _)) e2
       have l3:=ziX (λ_ _ _ e=>zig e) ef
       intro T3 x3 rd3
       exact⟨r3.length,by rw[Vaq]; omega,.bi 2 t t2,r3,N',rfl,by omega,er3,lr3,xS.trans (x2.trans x3),rd3,rfl,h⟩
     ·rw[show (List.any (["*"]:List Str) λx=>x==w)=false by simpa using Ne.symm cw]
      rw[zi0 (Nst.cons λz=>cw ((zl8 w).mp z))] at h
      exact h S' xS rdS
  ·exact h.elim⟩)
def ztq  (n:Nat)(zab:zcl K mg)(zdV:Dm K zab.C "expression" "Reader.expression" zgh zea)(zav:Ec K mg "NoRow")(zaD:Ec K mg "NoNumber")(zbz:Fm P w K mg base 2 zab.C "sees" zdW (zdT zab.C))(zdS:Fm P w K mg base (3+5*n+4) zab.C "term" zfh (zgM (n+1) zab.C zav.c zaD.c))(za1:Fm P w K mg base 2 zab.C "take" zdo (zdh zab.C zav.c))(g_SUMS:GD P w K mg "SUMS" [("+","plus"),("-","minus")]):Fm P w K mg base (3+5*n+5) zab.C "expression" zea (zdY (n+1) zab.C zav.c zaD.c):=
 zdV.mk' (zcN (k:=(3+5*n+4)) zdV.F ziT (zt7 (n+1) zab.C zav.c zaD.c) λcdv A outer s H E ex hr hpx hrx=>⟨_,(zah (zap (i:=1) ziT.nd rfl (Or.inl rfl) (zbh (C:=zab.C) (dv 0) zab.cl zdS.m zdS.ok (hr.mono (by omega)) zdS.b hpx)) (zah (zil PassesOwn.leaving (zbx (zbn (C:=zab.C) (dv 0) zab.cl zbz.m zbz.ok (hr.mono (by omega)) zbz.b hpx (zaa (zbd (zaa zai (zaa zai zae))) zae))) (zah (zap (i:=2) ziT.nd rfl (Or.inl rfl) (zoT g_SUMS rfl (zbh (C:=zab.C) (dv 0) zab.cl za1.m za1.ok (hr.mono (by omega)) za1.b hpx) (λ_ _=>rfl))) (zag (zap (i:=1) ziT.nd rfl (Or.inl rfl) (zbd (zaa (dv 2) (zaa (dv 1) (zaa (zbh (C:=zab.C) (dv 0) zab.cl zdS.m zdS.ok (hr.mono (by omega)) zdS.b hpx) zae)))))))) (zag (zao (dv 1))))),λds S Q h=>by
  unfold zdY at h
  split at h
  ·rename_i n0
   obtain⟨wm,ws,p,d,rd,d16,lv,h⟩:=h
   rw[show exS (16-d) (ws.drop p)=zb6 kS avS pvS (inS (16-d)) (ws.drop p) from congrFun (zmE kS avS pvS (16-d)) _] at h
   refine zaE (S1:=S) (n:=n0) (λK hK=>by exact hK) rd.rd rfl ?_
   refine⟨wm,ws,p,d,rd,d16,lv,?_⟩
   cases ea:zbl kS avS pvS (inS (16-d)) (ws.drop p) with
   | none=>
    rw[zuj ea] at h
    exact h
   | some tr=>
    obtain⟨t,r⟩:=tr
    obtain⟨er,lr⟩:=zeo (zhR zda zdN (zff _)) ea
    have el:=VaC (zhi (λ_ _ _ e=>zig e) ea)
    rw[ztY ea] at h
    generalize (ws.drop p).length=N at h el
    intro T xT rdT
    refine⟨λm dl' S'=>∃(t:Tr) (r:List Str) (N:Nat),m=r.length∧r.length≤N∧ws.drop (ws.length-r.length)=r∧r.length≤ws.length∧zaT n0 S S'∧za9 zab.C S' n0 wm ws (ws.length-r.length) d∧(∃u2:Option D,dl'=[some (.ref n0),some (trD t),u2])∧match zbW kS avS pvS (inS (16-d)) N t r with | none=>∀T:Sto,zaT n0 S T→ex zav.c T | some (t,r)=>∀T:Sto,zaT n0 S T→za9 zab.C T n0 wm ws (ws.length-r.length) d→Q (trD t) T,⟨r.length,t,r,N,rfl,el,er,lr,xT,rdT,⟨_,rfl⟩,h⟩,?_⟩
    clear h el er lr xT rdT ea
    rintro m dl' S' ⟨t,r,N,rfl,el,er,lr,xS,rdS,⟨u2,rfl⟩,h⟩
    refine zaE (S1:=S') (n:=n0) (λK hK=>by exact hK) rdS.rd rfl ?_
    refine⟨["+","-"],rfl,wm,ws,ws.length-r.length,d,rdS,?_⟩
    rw[er]
    cases r with
    | nil=>
     rw[zke (λ_ _ e=>by cases e)] at h
     exact h S' xS rdS
    | cons w r2=>
     rw[Vaq] at lr rdS er el
     dsimp only
     have er2:=zl6 er lr
     obtain⟨rd2,x2⟩:=rdS.put (p':=ws.length-r2.length) (d':=d) (((ws.length-(r2.length+1):Nat):Int)+1) (d:Int) (by omega) rfl (by omega)
     obtain⟨N',rfl⟩:∃N',N=N'+1:=⟨N-1,by omega⟩
     by_cases c1:w="+"
     ·rw[show (List.any (["+","-"]:List Str) λx=>x==w)=true by rw[c1]; decide]
      refine zbZ ?_
      refine zl1 ?_
      refine zaE (S1:=S') (n:=n0) (λK hK=>by exact hK) rdS.rd rfl ?_
      refine⟨wm,ws,ws.length-(r2.length+1),d,rdS,?_⟩
      rw[er]
      dsimp only
      rw[show List.lookup w ([("+","plus"),("-","minus")]:List (Str×Str))=some "plus" by rw[c1]; decide]
      generalize S'.set n0 (.ins zab.C (rdF wm (((ws.length-(r2.length+1):Nat):Int)+1) (d:Int)))=S2 at rd2 x2 ⊢
      refine zaE (S1:=S2) (n:=n0) (λK hK=>by exact hK) rd2.rd rfl ?_
      refine⟨wm,ws,ws.length-r2.length,d,rd2,d16,lv,?_⟩
      rw[er2]
      have ck:zdg (kS w)=some 0:=by rw[(zoB w).mpr c1]; rfl
      cases ef:zbl kS avS pvS (inS (16-d)) r2 with
      | none=>
       rw[zoa ck ef] at h
       exact λT xT=>h T (xS.trans (x2.trans xT))
      | some tr=>
       obtain⟨t2,r3⟩:=tr
       rw[znC ck ef] at h
       have e2:zbl kS avS pvS (inS (16-d)) (ws.drop (ws.length-r2.length))=some (t2,r3):=by rw[er2]; exact ef
       obtain⟨er3,lr3⟩:=zeo (zhR zda zdN (zff _)) e2
       have l3:=zhi (λ_ _ _ e=>zig e) ef
       intro T3 x3 rd3
       exact⟨r3.length,by rw[Vaq]; omega,.bi 0 t t2,r3,N',rfl,by omega,er3,lr3,xS.trans (x2.trans x3),rd3,⟨_,rfl⟩,h⟩
     by_cases c2:w="-"
     ·rw[show (List.any (["+","-"]:List Str) λx=>x==w)=true by rw[c2]; decide]
      refine zbZ ?_
      refine zl1 ?_
      refine zaE (S1:=S') (n:=n0) (λK hK=>by exact hK) rdS.rd rfl ?_
      refine⟨wm,ws,ws.length-(r2.length+1),d,rdS,?_⟩
      rw[er]
      dsimp only
      rw[show List.lookup w ([("+","plus"),("-","minus")]:List (Str×Str))=some "minus" by rw[c2]; decide]
      generalize S'.set n0 (.ins zab.C (rdF wm (((ws.length-(r2.length+1):Nat):Int)+1) (d:Int)))=S2 at rd2 x2 ⊢
      refine zaE (S1:=S2) (n:=n0) (λK hK=>by exact hK) rd2.rd rfl ?_
      refine⟨wm,ws,ws.length-r2.length,d,rd2,d16,lv,?_⟩
      rw[er2]
      have ck:zdg (kS w)=some 1:=by rw[(znu w).mpr c2]; rfl
      cases ef:zbl kS avS pvS (inS (16-d)) r2 with
      | none=>
       rw[zoa ck ef] at h
       exact λT xT=>h T (xS.trans (x2.trans xT))
      | some tr=>
       obtain⟨t2,r3⟩:=tr
       rw[znC ck ef] at h
       have e2:zbl kS avS pvS (inS (16-d)) (ws.drop (ws.length-r2.length))=some (t2,r3):=by rw[er2]; exact ef
       obtain⟨er3,lr3⟩:=zeo (zhR zda zdN (zff _)) e2
       have l3:=zhi (λ_ _ _ e=>zig e) ef
       intro T3 x3 rd3
       exact⟨r3.length,by rw[Vaq]; omega,.bi 1 t t2,r3,N',rfl,by omega,er3,lr3,xS.trans (x2.trans x3),rd3,⟨_,rfl⟩,h⟩
     ·rw[show (List.any (["+","-"]:List Str) λx=>x==w)=false by simp[Ne.symm c1,Ne.symm c2]]
      rw[zke (λ_ _ e=>by cases e; exact zwj c1 c2)] at h
      exact h S' xS rdS
  ·exact h.elim⟩)
def zpb {t_MOST_BRACKETS:Tok}(zab:zcl K mg)(zav:Ec K mg "NoRow")(zaD:Ec K mg "NoNumber")(zeW:Dm K zab.C "bracket" "Reader.bracket" zgE zfk)(za1:Fm P w K mg base 2 zab.C "take" zdo (zdh zab.C zav.c))(g_MOST_BRACKETS:mg "MOST_BRACKETS"=some (.int 16 t_MOST_BRACKETS))(zeC:Dm K zab.C "atom" "Reader.atom" zha zfp)(zc8:Fk P w K mg base 3 "number_of" zeI (zer zav.c zaD.c))(zcb:Fk P w K mg base 2 "is_name" zdA zdF)(zeY:Dm K zab.C "factor" "Reader.factor" zim zf9)(zbz:Fm P w K mg base 2 zab.C "sees" zdW (zdT zab.C))(g_POWERS:GT K mg "POWERS" ["2","3","4","5","6"])(zbw:mg "int"=none)(zeR:Dm K zab.C "term" "Reader.term" zh0 zfh)(zdV:Dm K zab.C "expression" "Reader.expression" zgh zea)(g_SUMS:GD P w K mg "SUMS" [("+","plus"),("-","minus")]):(n:Nat)→Fm P w K mg base (3+5*n) zab.C "expression" zea (zdY n zab.C zav.c zaD.c)
 | 0=>zdV.vac _ λds S Q ex h=>by
  unfold zdY at h
  split at h
  ·obtain⟨wm,ws,p,d,_,h1,h2,_⟩:=h
   omega
  ·exact h.elim
 | n+1=>
  let zcQ:=zpb zab zav zaD zeW za1 g_MOST_BRACKETS zeC zc8 zcb zeY zbz g_POWERS zbw zeR zdV g_SUMS n
  let zgZ:=zwf n zab zeW zav zaD za1 zcQ g_MOST_BRACKETS
  let zir:=zqI n zab zeC zav zaD zc8 zcb zgZ za1
  let zd3:=zqK n zab zeY zav zaD za1 zbz zir g_POWERS zbw
  let zdS:=zr6 n zab zeR zav zaD zbz zd3 za1
  ztq n zab zdV zav zaD zbz zdS za1 g_SUMS
def zts  {t_MOST_WORDS:Tok}(zab:zcl K mg)(zkA:Df K mg "tree_of" zi8 zfY)(zav:Ec K mg "NoRow")(zaD:Ec K mg "NoNumber")(zb3:Fm P w K mg base 1 zab.C "at_end" zey (zeP zab.C))(zcQ:Fm P w K mg base 88 zab.C "expression" zea (zdY 17 zab.C zav.c zaD.c))(zfB:Fm P w K mg base 1 zab.C "__init__" zgJ (zgP zab.C))(g_MOST_WORDS:mg "MOST_WORDS"=some (.int 120 t_MOST_WORDS))(zaN:mg "len"=none):Fk P w K mg base 89 "tree_of" zfY (zfD zab.C zav.c zaD.c):=
 zkA.mk' (zcN (k:=88) zkA.F zmf (zsT zab.C zav.c zaD.c) λcdv A outer s H E ex hr hpx hrx=>⟨_,(zah (zat (zar zhv (zbU (zbo zcO) rfl zaN Boot.«len» (zaa (dv 0) zae)) (zdu g_MOST_WORDS rfl) (zaq _)) (zag (zcC zav.xc PySem.F.excBase_ValueError hrx hr.hd rfl (zaa zai zae))) zay) (zah (zap (i:=1) zmf.nd rfl (Or.inl rfl) (zt8 ⟨zab.makes,zfB.m.at_,zfB.m.fn,zab.kp⟩ zfB.ok (hr.mono (by decide)) rfl zab.m zfB.b hpx (zaa (dv 0) zae))) (zah (zap (i:=2) zmf.nd rfl (Or.inl rfl) (zbh (C:=zab.C) (dv 1) zab.cl zcQ.m zcQ.ok (hr.mono (by decide)) zcQ.b hpx)) (zah (zat (zck (zbx (zbh (C:=zab.C) (dv 1) zab.cl zb3.m zb3.ok (hr.mono (by decide)) zb3.b hpx))) (zag (zcC zav.xc PySem.F.excBase_ValueError hrx hr.hd rfl (zaa zai zae))) zay) (zag (zao (dv 2))))))),λds S Q h=>by
  unfold zfD at h
  split at h
  ·rename_i wm
   obtain⟨ws,hw,l9,wl,h⟩:=h
   refine zdE hw ?_
   rw[Vac]
   refine ifD (λc=>?_) (λc=>?_)
   ·rw[show trS ws=none by unfold trS; rw[if_pos (by omega)]] at h
    exact h S Pre.refl
   ·have lw:=zbf hw
    refine⟨S,rfl,rfl,rfl,?_⟩
    have rd:za9 zab.C (S++[.ins zab.C (rdF wm 0 0)]) S.length wm ws 0 0:=⟨zaj _ _,zaw hw,Vaz _,l9,wl⟩
    have x0:∀T:Sto,zaT S.length (S++[.ins zab.C (rdF wm 0 0)]) T→Pre S T:=λT x y o e=>x.2 y o (λz=>by have:=zbf e; omega) (zaw e)
    generalize S++[Ob.ins zab.C (rdF wm 0 0)]=S1 at rd x0 ⊢
    refine zaE (S1:=S1) (n:=S.length) (λK hK=>by exact hK) rd.rd rfl ?_
    refine⟨wm,ws,0,0,rd,by omega,by omega,?_⟩
    have l12:¬ 120<ws.length:=by omega
    rw[List.drop_zero]
    cases ee:exS (16-0) ws with
    | none=>
     rw[zse l12 ee] at h
     exact λT xT=>h T (x0 T xT)
    | some tr=>
     obtain⟨t,r⟩:=tr
     intro T xT rdT
     refine zaE (S1:=T) (n:=S.length) (λK hK=>by exact hK) rdT.rd rfl ?_
     refine⟨wm,ws,ws.length-r.length,0,rdT,?_⟩
     have lr:=zme 16 (show exS 16 ws=some (t,r) from ee)
     cases r with
     | nil=>
      rw[zpk l12 ee] at h
      rw[decide_eq_true (show ws.length-([]:List Str).length=ws.length from rfl)]
      exact h T (x0 T xT)
     | cons w r2=>
      rw[zvD l12 ee] at h
      rw[decide_eq_false (by rw[Vaq] at lr ⊢; omega)]
      exact h T (x0 T xT)
  ·exact h.elim⟩)
def zwt  (zad:zcS K mg)(zko:Dm K zad.C "check_known" "Task.check_known" zku zf8)(zcb:Fk P w K mg base 2 "is_name" zdA zdF):Fm P w K mg base 3 zad.C "check_known" zf8 (zf7 zad.C):=
 zko.mk' (zaO (k:=2) zko.F zpu (zq8 zad.C) λcdv A outer s H E hr=>⟨_,(zag (zlP (i:=2) PassesOwn.never rfl zpu.nd rfl (Or.inl rfl) (dv 1) (zag (zat (PDW.pt (zoQ (zbx (zaR zcb hr (zaa (dv 2) zae))) (zo9 (zs4 hr (dv 2) (za0 zad.cl zad.n_meanings (dv 0)))))) (zag zdb) zay)))),λds S Q ex h=>by
  unfold zf7 at h
  split at h
  ·rename_i n wm
   obtain⟨ws,N,m,u,e,r,ml,h1,h2,hw,hk,h⟩:=h
   refine zeO (n:=wm) (o:=.lst (ws.map D.str)) (λx=>∃w∈ws,x=.str w) hw (show 2<3 by decide) (λx hx=>?_) ?_ ?_
   ·obtain⟨w,hw',rfl⟩:=List.mem_map.mp hx
    exact⟨w,hw',rfl⟩
   ·rintro x nx ct ⟨w,hw',rfl⟩ hnx
    obtain⟨l9,kn⟩:=hk w hw'
    refine⟨by omega,?_⟩
    cases c:zaL w with
    | false=>exact hnx
    | true=>
     obtain⟨j,ej⟩:=kn c
     refine zsA (n:=m) (S2:=S) (y:=.str w) (k:=.inr w) (λK hK=>by exact hK) (λK hK=>zaY (S1:=S) (n:=n) (λK hK=>by exact hK) h1 rfl hK) h2 rfl ?_
     rw[zhp,ej]
     exact hnx
   ·intro v
    exact h
  ·exact h.elim⟩)
def zwI  (zaf:zcf K mg)(zle:Dm K zaf.C "nodes" "Net.nodes" zkp ze6)(zco:mg "list"=none):Fm P w K mg base 1 zaf.C "nodes" ze6 (zfG zaf.C):=
 zle.mk' (zaO (k:=0) zle.F zuq (zsZ zaf.C) λcdv A outer s H E hr=>⟨_,(zag (zao (zcx (zbo zpP) rfl zco Boot.«list» (zaa (za0 zaf.cl zaf.n_kept (dv 0)) zae)))),λds S Q ex h=>by
  unfold zfG at h
  split at h
  ·rename_i n
   obtain⟨a,b,c,xs,h1,h2,h⟩:=h
   refine zaY (to:=zbB 0) (n:=n) (λK hK=>by exact hK) h1 (zmJ a b c) ?_
   exact zoj (o:=.lst xs) (zbr h2 rfl) h
  ·exact h.elim⟩)
def zro  (ziA:Df K mg "weight_of" zk1 zgv):Fk P w K mg base 1 "weight_of" zgv zgo:=
 ziA.mk' (zaO (k:=0) ziA.F zre (ztx) λcdv A outer s H E hr=>⟨_,(zah (zat (zar (znX (k:=0) hr (by decide)) (zan (dv 0) zac (λ_ _=>rfl)) (zbd (zaa zai (zaa zai zae))) rfl) (zag (zao zac)) zay) (zah (zat (zar (zaH hr) (zan (dv 0) zac (λ_ _=>rfl)) zai (zaq _)) (zag (zao (zak zdm (zan (dv 0) zac (λ_ _=>rfl)) (zaU (dv 1) (zan (dv 0) zac (λ_ _=>rfl)) (λ_ _=>rfl))))) zay) (zag (zao (zak zdR (zaU (dv 1) (zan (dv 0) zac (λ_ _=>rfl)) (λ_ _=>rfl)) (zaU (dv 1) (zan (dv 0) zac (λ_ _=>rfl)) (λ_ _=>rfl))))))),λds S Q ex h=>by
  unfold zgo at h
  split at h
  ·rename_i d r
   obtain⟨v,hs,rfl,hl,ok,sm,h⟩:=h
   cases v with
   | number t b=>exact h
   | unknown k=>exact h
   | power i n=>
    obtain⟨hi,n2,n6⟩:=ok
    have b:=zkg sm hi
    refine zaM (o:=.lst (hs.map D.int)) hl (zlW hi) ?_
    exact⟨zjh (m:=400) (n:=400) (Sz.of (10^20) (by omega)) (Sz.of (10^20) (by omega)),h⟩
   | two x i j=>
    obtain⟨hx,hi,hj⟩:=ok
    rcases hx with rfl | rfl | rfl
    all_goals
     refine zaM (o:=.lst (hs.map D.int)) hl (zlW hi) ?_
     refine zaM (o:=.lst (hs.map D.int)) hl (zlW hj) ?_
     exact h
  ·exact h.elim⟩)
def zwX  {t_MOST_NODES:Tok}{t_MOST_WEIGHT:Tok}(zaf:zcf K mg)(zkS:Dm K zaf.C "put" "Net.put" zkk zdZ)(zaK:Ec K mg "TooMuch")(zlM:Fk P w K mg base 1 "weight_of" zgv zgo)(g_MOST_NODES:mg "MOST_NODES"=some (.int 60 t_MOST_NODES))(g_MOST_WEIGHT:mg "MOST_WEIGHT"=some (.int 16 t_MOST_WEIGHT))(zaN:mg "len"=none):Fm P w K mg base 2 zaf.C "put" zdZ (zdD zaf.C zaK.c):=
 zkS.mk' (zcN (k:=1) zkS.F zma (zt5 zaf.C zaK.c) λcdv A outer s H E ex hr hpx hrx=>⟨_,(zah (zat (zul hr (dv 1) (za0 zaf.cl zaf.n_numbers (dv 0))) (zag (zao (zv3 hr (za0 zaf.cl zaf.n_numbers (dv 0)) (dv 1) (λ_ _=>rfl)))) zay) (zah (zap (i:=2) zma.nd rfl (Or.inl rfl) (za6 zlM (hr.mono (by decide)) hpx rfl (zaa (dv 1) (zaa (za0 zaf.cl zaf.n_weights (dv 0)) zae)))) (zah (zat (zar zhv (dv 2) (zdu g_MOST_WEIGHT rfl) (zaq _)) (zag (zcC zaK.xc PySem.F.excBase_ValueError hrx hr.hd rfl (zaa zai zae))) zay) (zah (zap (i:=3) zma.nd rfl (Or.inl rfl) (zbU (zbo zcO) rfl zaN Boot.«len» (zaa (za0 zaf.cl zaf.n_kept (dv 0)) zae))) (zah (zat (zar (zaH hr) (dv 3) (zdu g_MOST_NODES rfl) (zaq _)) (zag (zcC zaK.xc PySem.F.excBase_ValueError hrx hr.hd rfl (zaa zai zae))) zay) (zah (zbQ (zeX (za0 zaf.cl zaf.n_kept (dv 0)) (dv 1))) (zah (zbQ (zeX (za0 zaf.cl zaf.n_weights (dv 0)) (dv 2))) (zah (zuF hr (za0 zaf.cl zaf.n_numbers (dv 0)) (dv 1) (dv 3)) (zag (zao (dv 3))))))))))),λds S Q h=>by
  unfold zdD at h
  split at h
  ·rename_i n d
   obtain⟨v,ns,hs,a,b,c,rfl,N,ok,sm,hl,h⟩:=h
   have nk:∀K:DK,K (.ref c) S→zhx zaf.C "numbers" (zbB 0) (zc7 ["self","node","own_weight","number"] [.ref n,v.d]) S K:=λK hK=>zaY (n:=n) (λK hK=>by exact hK) N.net (zm9 a b c) hK
   refine zrr (n:=c) (k:=v.k) (λK hK=>by exact hK) nk N.numbers v.key ?_
   rw[ziM]
   cases e:idx v ns with
   | some j=>
    refine zbZ ?_
    rcases h with ⟨j',h1,h⟩ | ⟨h1,_⟩ | ⟨h1,_⟩
    ·rw[e] at h1
     cases h1
     exact zuV (n:=c) (k:=v.k) (v:=.int (j:Int)) nk (λK hK=>by exact hK) N.numbers v.key (by rw[ziM,e]; simp) h
    ·rw[e] at h1; cases h1
    ·rw[e] at h1; cases h1
   | none=>
    refine zcn ?_
    refine zaY (n:=n) (λK hK=>by exact hK) N.net (zqf a b c) ?_
    refine⟨v,hs,rfl,N.weights,ok,sm,?_⟩
    refine ifD (λhw=>?_) (λhw=>?_)
    ·rcases h with ⟨j',h1,h⟩ | ⟨h1,_,h⟩ | ⟨h1,h2,_⟩
     ·rw[e] at h1; cases h1
     ·exact h
     ·omega
    ·refine zaY (n:=n) (λK hK=>by exact hK) N.net (zmJ a b c) ?_
     refine zdE N.kept ?_
     rw[Vac]
     refine ifD (λhw2=>?_) (λhw2=>?_)
     ·rcases h with ⟨j',h1,h⟩ | ⟨h1,_,h⟩ | ⟨h1,h2,h3,_⟩
      ·rw[e] at h1; cases h1
      ·exact h
      ·omega
     ·rcases h with ⟨j',h1,h⟩ | ⟨h1,h2,h⟩ | ⟨h1,h2,h3,h⟩
      ·rw[e] at h1; cases h1
      ·omega
      ·have nna:a≠n:=λz=>by have:=N.net; rw[← z,N.kept] at this; cases this
       have nnb:b≠n:=λz=>by have:=N.net; rw[← z,N.weights] at this; cases this
       have nac:a≠c:=λz=>by have:=N.numbers; rw[← z,N.kept] at this; cases this
       have nbc:b≠c:=λz=>by have:=N.numbers; rw[← z,N.weights] at this; cases this
       refine zfb (n:=a) (S1:=S) (xs:=ns.map Nd.d) (y:=v.d) (λK hK=>by exact zaY (n:=n) (λK hK=>by exact hK) N.net (zmJ a b c) hK) N.kept (λK hK=>by exact hK) (by rw[Vac]; omega) ?_
       have n1:=zgA (u:=.lst (ns.map Nd.d++[v.d])) N.net nna
       have w1:=zgA (u:=.lst (ns.map Nd.d++[v.d])) N.weights N.ne
       have d1:=zgA (u:=.lst (ns.map Nd.d++[v.d])) N.numbers nac
       refine zfb (n:=b) (S1:=S.set a (.lst (ns.map Nd.d++[v.d]))) (xs:=hs.map D.int) (y:=.int (v.w hs)) (λK hK=>by exact zaY (n:=n) (λK hK=>by exact hK) n1 (zqf a b c) hK) w1 (λK hK=>by exact hK) (by rw[Vac,← N.len]; omega) ?_
       have n2:=zgA (u:=.lst (hs.map D.int++[.int (v.w hs)])) n1 nnb
       have d2:=zgA (u:=.lst (hs.map D.int++[.int (v.w hs)])) d1 nbc
       refine zs2 (n:=c) (k:=v.k) (y:=v.d) (v:=.int (ns.length:Nat)) (λK hK=>by exact hK) (λK hK=>by exact zaY (n:=n) (λK hK=>by exact hK) n2 (zm9 a b c) hK) (λK hK=>by exact hK) d2 v.key (by rw[zrd]; omega) ?_
       have ek:zcd (zct 0 ns) v.k (.int (ns.length:Nat))=zct 0 (ns++[v]):=by
        rw[← zpU v 0 ns,Nat.zero_add]
        unfold zcd
        rw[zsr (by rw[ziM,e]; rfl)]
        rfl
       rw[ek]
       exact h
  ·exact h.elim⟩)
def zqr  (zaf:zcf K mg)(zjl:Df K mg "copy_of" ziF zfd)(zaK:Ec K mg "TooMuch")(zdp:Fm P w K mg base 1 zaf.C "nodes" ze6 (zfG zaf.C))(zbm:Fm P w K mg base 2 zaf.C "put" zdZ (zdD zaf.C zaK.c))(zcK:Fm P w K mg base 1 zaf.C "__init__" zf3 (zfK zaf.C)):Fk P w K mg base 3 "copy_of" zfd (zf5 zaf.C):=
 zjl.mk' (zaO (k:=2) zjl.F zmM (zw7 zaf.C) λcdv A outer s H E hr=>⟨_,(zah (zap (i:=1) zmM.nd rfl (Or.inl rfl) (zlF ⟨zaf.makes,zcK.m.at_,zcK.m.fn,zaf.kp⟩ zcK.ok (hr.mono (by decide)) rfl zaf.m zcK.b zlC)) (zah (zlP (i:=2) PassesOwn.never rfl zmM.nd rfl (Or.inl rfl) (zbh (C:=zaf.C) (dv 0) zaf.cl zdp.m zdp.ok (hr.mono (by decide)) zdp.b zaG) (zag (zbQ (zbn (C:=zaf.C) (dv 1) zaf.cl zbm.m zbm.ok (hr.mono (by decide)) zbm.b zaG (zaa (dv 2) zae))))) (zag (zao (dv 1))))),λds S Q ex h=>by
  unfold zf5 at h
  split at h
  ·rename_i nn
   obtain⟨ns,hs,a,b,c,N,nok,h⟩:=h
   refine⟨S,rfl,rfl,rfl,?_⟩
   have N1:zba zaf.C (S++[Ob.ins zaf.C (zbD (S.length+1) (S.length+2) (S.length+3)),.lst [],.lst [],.dct []]) S.length (S.length+1) (S.length+2) (S.length+3) [] []:=ztt
   have g1:Ng [] S (S++[Ob.ins zaf.C (zbD (S.length+1) (S.length+2) (S.length+3)),.lst [],.lst [],.dct []]):=Ng.app _
   generalize S++[Ob.ins zaf.C (zbD (S.length+1) (S.length+2) (S.length+3)),.lst [],.lst [],.dct []]=S1 at N1 g1 ⊢
   refine zaE (S1:=S1) (n:=nn) (λK hK=>by exact hK) (g1.2 _ _ (by simp) N.net) rfl ?_
   refine⟨a,b,c,ns.map Nd.d,g1.2 _ _ (by simp) N.net,g1.2 _ _ (by simp) N.kept,?_⟩
   have hl:=nok.len
   refine zrO (o:=.lst (ns.map Nd.d)) (λk dl' S'=>(∃ox:Option D,dl'=[some (.ref nn),some (.ref S.length),ox])∧zba zaf.C S' S.length (S.length+1) (S.length+2) (S.length+3) (ns.take k) (hs.take k)∧Ng [S.length+1,S.length+2,S.length+3] (S1++[Ob.lst (ns.map Nd.d)]) S') ⟨⟨none,rfl⟩,by rw[List.take_zero,List.take_zero]; exact N1.app _,Ng.refl⟩ (λk dl2 S2 w=>w.2.2.2 _ _ (by have:=zbf N1.numbers; simp; omega) (zaj _ _)) ?_ ?_
   ·rintro k x dl2 S2 nx2 ct2 hx ⟨⟨ox,rfl⟩,N2,g2⟩ hnx
    have hk:k<ns.length:=by have:=(Vaf.mp hx).1; simpa [zax] using this
    obtain⟨v,f1,f2,f3,f4,f5,f6,f7⟩:=nok.front k hk
    have ex':x=v.d:=by
     have z:(ns.map Nd.d)[k]?=some x:=hx
     rw[Vao,f1] at z
     exact(Option.some.inj z).symm
    subst ex'
    refine zaE (S1:=S2) (n:=S.length) (λK hK=>by exact hK) N2.net rfl ?_
    obtain⟨N3,g3⟩:=N2.put v
    have l6:=nok.sixty
    refine⟨v,ns.take k,hs.take k,_,_,_,rfl,N2,f3,f2.small,f2.sixty,.inr (.inr ⟨f4,f5,by rw[VaR]; omega,?_⟩)⟩
    exact hnx _ _ ⟨⟨_,rfl⟩,by rw[f6,f7]; exact N3,g2.same g3⟩
   ·rintro dl2 S2 ⟨⟨ox,rfl⟩,N2,g2⟩
    have ei:(zax (.lst (ns.map Nd.d))).length=ns.length:=by show (ns.map Nd.d).length=_; rw[Vac]
    rw[ei,List.take_length,hl,List.take_length] at N2
    have lN:=zbf N1.numbers
    refine h S2 S.length _ _ _ ?_ (Vaa _) (by omega) (by omega) (by omega) N2
    exact(g1.trans (ow':=[]) (Ng.app _) (by simp)).trans g2 (by simp)
  ·exact h.elim⟩)
def zvn  (n:Nat)(zaf:zcf K mg)(zel:Df K mg "put_tree" zhU zdG)(zaK:Ec K mg "TooMuch")(zbm:Fm P w K mg base 2 zaf.C "put" zdZ (zdD zaf.C zaK.c))(zc4:Fk P w K mg base (2+1*n) "put_tree" zdG (zcX n zaf.C zaK.c)):Fk P w K mg base (2+1*n+1) "put_tree" zdG (zcX (n+1) zaf.C zaK.c):=
 zel.mk' (zcN (k:=(2+1*n+0)) zel.F zmX (zuY (n+1) zaf.C zaK.c) λcdv A outer s H E ex hr hpx hrx=>⟨_,(zah (zat (zar (zaH hr) (zan (dv 1) zac (λ_ _=>rfl)) zai (zaq _)) (zag (zao (zq4 hr (dv 2) (zan (dv 1) zac (λ_ _=>rfl)) (λ_ _=>rfl)))) zay) (zah (zat (zar (zaH hr) (zan (dv 1) zac (λ_ _=>rfl)) zai (zaq _)) (zag (zao (zbn (C:=zaf.C) (dv 0) zaf.cl zbm.m zbm.ok (hr.mono (by omega)) zbm.b hpx (zaa (dv 1) zae)))) zay) (zah (zap (i:=3) zmX.nd rfl (Or.inl rfl) (za6 zc4 (hr.mono (by omega)) hpx rfl (zaa (dv 0) (zaa (zan (dv 1) zac (λ_ _=>rfl)) (zaa (dv 2) zae))))) (zah (zat (zar (zaH hr) (zan (dv 1) zac (λ_ _=>rfl)) zai (zaq _)) (zag (zao (zbn (C:=zaf.C) (dv 0) zaf.cl zbm.m zbm.ok (hr.mono (by omega)) zbm.b hpx (zaa (zbd (zaa zai (zaa (dv 3) (zaa (zan (dv 1) zac (λ_ _=>rfl)) zae)))) zae)))) zay) (zah (zap (i:=4) zmX.nd rfl (Or.inl rfl) (za6 zc4 (hr.mono (by omega)) hpx rfl (zaa (dv 0) (zaa (zan (dv 1) zac (λ_ _=>rfl)) (zaa (dv 2) zae))))) (zag (zao (zbn (C:=zaf.C) (dv 0) zaf.cl zbm.m zbm.ok (hr.mono (by omega)) zbm.b hpx (zaa (zbd (zaa (zan (dv 1) zac (λ_ _=>rfl)) (zaa (dv 3) (zaa (dv 4) zae)))) zae))))))))),λds S Q h=>by
  unfold zcX at h
  split at h
  ·rename_i nn d m
   obtain⟨t,ns,hs,a,b,c,ml,rfl,hd,N,nok,mok,hm,gd,nms,h⟩:=h
   have own:∀ {T:Sto},Ng [a,b,c] S T→T[m]?=some (.dck (mlK ml)):=λg=>g.2 m _ (λz=>by
    simp only[Vab,Vag,or_false] at z
    rcases z with z | z | z
    ·exact zbb hm N.kept (by intro z; cases z) z
    ·exact zbb hm N.weights (by intro z; cases z) z
    ·exact zbb hm N.numbers (by intro z; cases z) z) hm
   cases t with
   | nm w=>
    obtain⟨j,ej⟩:=nms (mk w) (Vas.mpr rfl)
    refine zvy (n:=m) (kvs:=mlK ml) (y:=.str (mk w)) (k:=.inr (mk w)) (v:=.int (j:Int)) (λK hK=>by exact hK) (λK hK=>by exact hK) hm rfl (by rw[zhp,ej]; rfl) ?_
    have e:zaz (λw=>ml.lookup w) (.nm w) (ns,hs)=some ((ns,hs),j):=by
     show (ml.lookup (mk w)).map _=_
     rw[ej]
     rfl
    rw[e] at h
    exact h S Ng.refl N
   | nb t b=>
    refine zaE (S1:=S) (n:=nn) (λK hK=>by exact hK) N.net rfl ?_
    exact⟨.number t b,ns,hs,a,_,c,rfl,N,trivial,nok.small,nok.sixty,zfr (ex:=λT=>ex zaK.c T) N h⟩
   | pw t k=>
    have hd':t.dp+1<n+1:=hd
    refine⟨t,ns,hs,a,b,c,ml,rfl,by omega,N,nok,mok,hm,gd.1,nms,?_⟩
    have e:zaz (λw=>ml.lookup w) (.pw t k) (ns,hs)=(match zaz (λw=>ml.lookup w) t (ns,hs) with | some (N1,i)=>zaQ N1 (.power i k) | none=>none):=rfl
    rw[e] at h
    cases e1:zaz (λw=>ml.lookup w) t (ns,hs) with
    | none=>rw[e1] at h; exact h
    | some x=>
     obtain⟨⟨n1,h1⟩,i⟩:=x
     rw[e1] at h
     obtain⟨o1,l1,_,_⟩:=zcJ t nok mok gd.1 e1
     have hl:=o1.len
     intro T gT NT
     refine zaE (S1:=T) (n:=nn) (λK hK=>by exact hK) NT.net rfl ?_
     exact⟨.power (i:Int) k,n1,h1,a,b,c,rfl,NT,⟨⟨by omega,by omega⟩,gd.2⟩,o1.small,o1.sixty,zfr (ex:=λT=>ex zaK.c T) NT (ziu gT h)⟩
   | bi d tl tr=>
    have hd':max tl.dp tr.dp+1<n+1:=hd
    have e:zaz (λw=>ml.lookup w) (.bi d tl tr) (ns,hs)=(match zaz (λw=>ml.lookup w) tl (ns,hs) with | some (N1,i)=>(match zaz (λw=>ml.lookup w) tr N1 with | some (N2,j)=>zaQ N2 (.two (kdS d) i j) | none=>none) | none=>none):=rfl
    rw[e] at h
    match d,gd with
    | 0,gd=>
     refine⟨tl,ns,hs,a,b,c,ml,rfl,by omega,N,nok,mok,hm,gd.1,λw hw=>nms w (VaA _ hw),?_⟩
     cases e1:zaz (λw=>ml.lookup w) tl (ns,hs) with
     | none=>rw[e1] at h; exact h
     | some x=>
      obtain⟨⟨n1,h1⟩,i⟩:=x
      rw[e1] at h
      obtain⟨o1,l1,⟨r1,rfl⟩,⟨s1,rfl⟩⟩:=zcJ tl nok mok gd.1 e1
      intro T gT NT
      refine⟨tr,ns++r1,hs++s1,a,b,c,ml,rfl,by omega,NT,o1,λw j q=>by have:=mok w j q; rw[Vad]; omega,own gT,gd.2.1,λw hw=>nms w (Var _ hw),?_⟩
      dsimp only at h
      cases e2:zaz (λw=>ml.lookup w) tr (ns++r1,hs++s1) with
      | none=>rw[e2] at h; exact λU u=>h U (gT.same u)
      | some y=>
       obtain⟨⟨n2,h2⟩,i2⟩:=y
       rw[e2] at h
       obtain⟨o2,l2,⟨r2,rfl⟩,⟨s2,rfl⟩⟩:=zcJ tr o1 (λw j q=>by have:=mok w j q; rw[Vad]; omega) gd.2.1 e2
       have hl:=o2.len
       have l1':i<(ns++r1++r2).length:=by rw[Vad]; omega
       have li:inL (hs++s1++s2) (i:Int):=⟨by omega,by rw[← hl]; exact VaW.mpr l1'⟩
       have lj:inL (hs++s1++s2) (i2:Int):=⟨by omega,by rw[← hl]; exact VaW.mpr l2⟩
       intro U gU NU
       refine zaE (S1:=U) (n:=nn) (λK hK=>by exact hK) NU.net rfl ?_
       exact⟨.two (kdS 0) (i:Int) (i2:Int),_,_,a,b,c,rfl,NU,⟨zia gd.2.2,li,lj⟩,o2.small,o2.sixty,zfr (ex:=λT=>ex zaK.c T) NU (ziu (gT.same gU) h)⟩
    | 1,gd=>
     refine⟨tl,ns,hs,a,b,c,ml,rfl,by omega,N,nok,mok,hm,gd.1,λw hw=>nms w (VaA _ hw),?_⟩
     cases e1:zaz (λw=>ml.lookup w) tl (ns,hs) with
     | none=>rw[e1] at h; exact h
     | some x=>
      obtain⟨⟨n1,h1⟩,i⟩:=x
      rw[e1] at h
      obtain⟨o1,l1,⟨r1,rfl⟩,⟨s1,rfl⟩⟩:=zcJ tl nok mok gd.1 e1
      intro T gT NT
      refine⟨tr,ns++r1,hs++s1,a,b,c,ml,rfl,by omega,NT,o1,λw j q=>by have:=mok w j q; rw[Vad]; omega,own gT,gd.2.1,λw hw=>nms w (Var _ hw),?_⟩
      dsimp only at h
      cases e2:zaz (λw=>ml.lookup w) tr (ns++r1,hs++s1) with
      | none=>rw[e2] at h; exact λU u=>h U (gT.same u)
      | some y=>
       obtain⟨⟨n2,h2⟩,i2⟩:=y
       rw[e2] at h
       obtain⟨o2,l2,⟨r2,rfl⟩,⟨s2,rfl⟩⟩:=zcJ tr o1 (λw j q=>by have:=mok w j q; rw[Vad]; omega) gd.2.1 e2
       have hl:=o2.len
       have l1':i<(ns++r1++r2).length:=by rw[Vad]; omega
       have li:inL (hs++s1++s2) (i:Int):=⟨by omega,by rw[← hl]; exact VaW.mpr l1'⟩
       have lj:inL (hs++s1++s2) (i2:Int):=⟨by omega,by rw[← hl]; exact VaW.mpr l2⟩
       intro U gU NU
       refine zaE (S1:=U) (n:=nn) (λK hK=>by exact hK) NU.net rfl ?_
       exact⟨.two (kdS 1) (i:Int) (i2:Int),_,_,a,b,c,rfl,NU,⟨zia gd.2.2,li,lj⟩,o2.small,o2.sixty,zfr (ex:=λT=>ex zaK.c T) NU (ziu (gT.same gU) h)⟩
    | 2,gd=>
     refine⟨tl,ns,hs,a,b,c,ml,rfl,by omega,N,nok,mok,hm,gd.1,λw hw=>nms w (VaA _ hw),?_⟩
     cases e1:zaz (λw=>ml.lookup w) tl (ns,hs) with
     | none=>rw[e1] at h; exact h
     | some x=>
      obtain⟨⟨n1,h1⟩,i⟩:=x
      rw[e1] at h
      obtain⟨o1,l1,⟨r1,rfl⟩,⟨s1,rfl⟩⟩:=zcJ tl nok mok gd.1 e1
      intro T gT NT
      refine⟨tr,ns++r1,hs++s1,a,b,c,ml,rfl,by omega,NT,o1,λw j q=>by have:=mok w j q; rw[Vad]; omega,own gT,gd.2.1,λw hw=>nms w (Var _ hw),?_⟩
      dsimp only at h
      cases e2:zaz (λw=>ml.lookup w) tr (ns++r1,hs++s1) with
      | none=>rw[e2] at h; exact λU u=>h U (gT.same u)
      | some y=>
       obtain⟨⟨n2,h2⟩,i2⟩:=y
       rw[e2] at h
       obtain⟨o2,l2,⟨r2,rfl⟩,⟨s2,rfl⟩⟩:=zcJ tr o1 (λw j q=>by have:=mok w j q; rw[Vad]; omega) gd.2.1 e2
       have hl:=o2.len
       have l1':i<(ns++r1++r2).length:=by rw[Vad]; omega
       have li:inL (hs++s1++s2) (i:Int):=⟨by omega,by rw[← hl]; exact VaW.mpr l1'⟩
       have lj:inL (hs++s1++s2) (i2:Int):=⟨by omega,by rw[← hl]; exact VaW.mpr l2⟩
       intro U gU NU
       refine zaE (S1:=U) (n:=nn) (λK hK=>by exact hK) NU.net rfl ?_
       exact⟨.two (kdS 2) (i:Int) (i2:Int),_,_,a,b,c,rfl,NU,⟨zia gd.2.2,li,lj⟩,o2.small,o2.sixty,zfr (ex:=λT=>ex zaK.c T) NU (ziu (gT.same gU) h)⟩
    | d+3,gd=>exact absurd gd.2.2 (by omega)
  ·exact h.elim⟩)
def zo5 (zaf:zcf K mg)(zaK:Ec K mg "TooMuch")(zel:Df K mg "put_tree" zhU zdG)(zbm:Fm P w K mg base 2 zaf.C "put" zdZ (zdD zaf.C zaK.c)):(n:Nat)→Fk P w K mg base (2+1*n) "put_tree" zdG (zcX n zaf.C zaK.c)
 | 0=>zel.vac _ λds S Q ex h=>by
  unfold zcX at h
  split at h
  ·obtain⟨t,_,_,_,_,_,_,_,h1,_⟩:=h
   omega
  ·exact h.elim
 | n+1=>
  let zc4:=zo5 zaf zaK zel zbm n
  zvn n zaf zel zaK zbm zc4
def zrn  {t_MOST_ROWS:Tok}(zad:zcS K mg)(zaf:zcf K mg)(zab:zcl K mg)(zja:Dm K zad.C "tell_row" "Task.tell_row" zj6 zhk)(zaK:Ec K mg "TooMuch")(zav:Ec K mg "NoRow")(zaD:Ec K mg "NoNumber")(zc4:Fk P w K mg base 132 "put_tree" zdG (zcX 130 zaf.C zaK.c))(ze8:Fk P w K mg base 3 "copy_of" zfd (zf5 zaf.C))(zdc:Fm P w K mg base 3 zad.C "check_known" zf8 (zf7 zad.C))(zeG:Fk P w K mg base 89 "tree_of" zfY (zfD zab.C zav.c zaD.c))(zlY:Fk P w K mg base 1 "place_of_sign" zgB zgq)(g_ROW_WORDS:GD P w K mg "ROW_WORDS" [("=","zero"),(">=","least")])(g_MOST_ROWS:mg "MOST_ROWS"=some (.int 12 t_MOST_ROWS))(zaN:mg "len"=none):Fm P w K mg base 133 zad.C "tell_row" zhk (zgs zaf.C zad.C):=
 zja.mk' (zaO (k:=132) zja.F zfj (zs1 zaf.C zad.C) λcdv A outer s H E hr=>⟨_,(zah (zap (i:=2) zfj.nd rfl (Or.inl rfl) (zaR zlY hr (zaa (dv 1) zae))) (zah (zap (i:=3) zfj.nd rfl (Or.inl rfl) (zaR zeG hr (zaa (zfH (dv 1) zfu (zdP (dv 2))) zae))) (zah (zap (i:=4) zfj.nd rfl (Or.inl rfl) (zaR zeG hr (zaa (zfH (dv 1) (zdP (zak zdR (dv 2) zac)) zfu) zae))) (zah (zbQ (zbn (C:=zad.C) (dv 0) zad.cl zdc.m zdc.ok (hr.mono (by decide)) zdc.b zaG (zaa (dv 1) zae))) (zah (zat (zar (zaH hr) (zbU (zbo zcO) rfl zaN Boot.«len» (zaa (za0 zad.cl zad.n_told_rows (dv 0)) zae)) (zdu g_MOST_ROWS rfl) (zaq _)) (zag zdb) zay) (zah (zap (i:=5) zfj.nd rfl (Or.inl rfl) (zaR ze8 hr (zaa (za0 zad.cl zad.n_net (dv 0)) zae))) (zah (zap (i:=6) zfj.nd rfl (Or.inl rfl) (zaR zc4 hr (zaa (dv 5) (zaa (zbd (zaa zai (zaa (dv 3) (zaa (dv 4) zae)))) (zaa (za0 zad.cl zad.n_meanings (dv 0)) zae))))) (zah (zcv zad.cl zad.n_net (dv 0) (dv 5)) (zah (zbQ (zeX (za0 zad.cl zad.n_told_rows (dv 0)) (zbd (zaa (zoT g_ROW_WORDS rfl (zaU (dv 1) (dv 2) (λ_ _=>rfl)) (λ_ _=>rfl)) (zaa (dv 6) zae))))) (zag (zao zai))))))))))),λds S Q ex h=>by
  unfold zgs at h
  split at h
  ·rename_i n wm
   obtain⟨ow,k,k',ws,⟨N,a,b,c,m,u,e,r,rfl,tp⟩,hw,nw,⟨L,R,sg,t,s1,M,j,rfl,hL,hs,et,es,kn,lr,ep,rfl⟩,h⟩:=h
   have io:zax (.lst ((L++sg::R).map D.str))=(L++sg::R).map D.str:=rfl
   obtain⟨le,xl,xk,xe⟩:=zjd et
   obtain⟨gd,nms⟩:=zmj xe
   have dp:=zj4 xe
   obtain⟨le',xl',xk',xe'⟩:=zjd es
   obtain⟨gd',nms'⟩:=zmj xe'
   have dp':=zj4 xe'
   refine⟨L,R,sg,hw,hL,hs,?_⟩
   refine zf0 (n:=wm) (o:=.lst ((L++sg::R).map D.str)) (S3:=S) (lo:=none) (hi:=some (L.length:Int)) (λK hK=>by exact hK) (λK hK=>by exact hK) (λK hK=>by exact hK) hw ?_
   rw[io,cw_to,List.take_left]
   refine⟨L,zaj _ _,by omega,λw hw=>(kn w (VaA _ hw)).1,?_⟩
   rw[et]
   intro T pT
   have g1:Ng [] S T:=(Ng.app _).same (Ng.of pT)
   have hw1:=g1.2 _ _ (by simp) hw
   refine zf0 (n:=wm) (o:=.lst ((L++sg::R).map D.str)) (S3:=T) (lo:=some ((L.length:Int)+1)) (hi:=none) (λK hK=>by exact hK) (λK hK=>by exact hK) (λK hK=>by exact hK) hw1 ?_
   rw[io,zuA,zwk]
   refine⟨R,zaj _ _,by omega,λw hw=>(kn w (Var _ (Vam _ hw))).1,?_⟩
   rw[es]
   intro T2 pT2
   have g2:Ng [] S T2:=(g1.same (Ng.app _)).same (Ng.of pT2)
   have tp2:=tp.up g2
   have hw2:=g2.2 _ _ (by simp) hw
   refine zaE (S1:=T2) (n:=n) (λK hK=>by exact hK) tp2.tsk rfl ?_
   refine⟨L++sg::R,N,m,u,e,r,k.ml,tp2.tsk,tp2.mea,hw2,kn,?_⟩
   refine zaY (S1:=T2) (n:=n) (λK hK=>by exact hK) tp2.tsk rfl ?_
   refine zdE tp2.rows ?_
   rw[Vac]
   refine ifD (λc1=>absurd c1 (by omega)) (λc1=>?_)
   refine zaY (S1:=T2) (n:=n) (λK hK=>by exact hK) tp2.tsk rfl ?_
   refine⟨k.ns,k.hs,a,b,c,tp2.net,tp2.nok,λT3 n2 a2 b2 c2 g3 q1 q2 q3 q4 N3=>?_⟩
   have tp3:=tp2.up g3
   refine zaY (S1:=T3) (n:=n) (λK hK=>by exact hK) tp3.tsk rfl ?_
   refine zrG ?_
   have np:∀(Q:DK) (ex:Addr→Sto→Prop),(match zaz (λw=>k.ml.lookup w) (.bi 1 t s1) (k.ns,k.hs) with | none=>∀T:Sto,Ng [a2,b2,c2] T3 T→ex zaK.c T | some (N,j)=>∀T:Sto,Ng [a2,b2,c2] T3 T→zba zaf.C T n2 a2 b2 c2 N.1 N.2→Q (.int (j:Int)) T)→zcX 130 zaf.C zaK.c [.ref n2,trD (.bi 1 t s1),.ref m] T3 Q ex:=λQ ex h=>⟨.bi 1 t s1,k.ns,k.hs,a2,b2,c2,k.ml,rfl,by show max t.dp s1.dp+1<130; omega,N3,tp.nok,tp.mok,tp3.mea,⟨gd,gd',by decide⟩,λw hw=>by
    rcases Vae.1 hw with hw | hw
    ·obtain⟨z1,z2⟩:=nms w hw
     exact(kn w (VaA _ z1)).2 z2
    ·obtain⟨z1,z2⟩:=nms' w hw
     exact(kn w (Var _ (Vam _ z1))).2 z2,h⟩
   refine np _ _ ?_
   have ep':zaz (λw=>k.ml.lookup w) (.bi 1 t s1) (k.ns,k.hs)=some (M,j):=ep
   rw[ep']
   intro T4 g4 N4
   obtain⟨o1,lj,⟨x1,y1⟩,_⟩:=zcJ (.bi 1 t s1) tp.nok tp.mok ⟨gd,gd',by decide⟩ ep
   have nw2:zde zaf.C T2 T4 n2 a2 b2 c2 M.1 M.2:=zde.of g3 q1 q2 q3 q4 g4 N4
   obtain⟨tp5,g5,f5⟩:=tp2.row (sg:=sgS sg) (j:=j) nw2 o1 (by rw[y1,Vad]; omega)
   refine zcL (v:=.ref n2) (S1:=T4) (S2:=T4) (n:=n) (fs:=zcq N m u e r) (λK hK=>by exact hK) (λK hK=>by exact hK) (nw2.old tp2.tsk) (show 5<1000 by decide) ?_
   have ap:=tp.apart
   simp only[zbg,Vab,Vag,or_false,not_or] at nw
   refine zfb (S1:=T4.set n (.ins zad.C (zcq n2 m u e r))) (n:=r) (xs:=k.rw.map rwT) (y:=rwT (sgS sg,j)) (λK hK=>zaY (n:=n) (λK hK=>by exact hK) (zc2 (nw2.old tp2.tsk)) rfl hK) (zas (nw2.old tp2.rows) (Ne.symm ap.nr)) (λK hK=>?_) (by rw[Vac]; omega) ?_
   ·refine zl1 ?_
    refine zaM (o:=.lst ((L++sg::R).map D.str)) (zas (nw2.old hw2) nw.1) (d:=.str sg) (zsu L R sg) ?_
    dsimp only
    rw[zsY hs]
    exact hK
   ·exact h _ _ ((g2.nil).same g5) (λx hx=>by
     rcases f5 x hx with z | z
     ·exact .inl z
     ·exact .inr (Vat g2.1 z)) ⟨n2,a2,b2,c2,m,u,e,r,rfl,tp5⟩
  ·exact h.elim⟩)
def zru  (ziR:Df K mg "less" zjP zhP):Fk P w K mg base 1 "less" zhP zhy:=
 ziR.mk' (zaO (k:=0) ziR.F zsF (zxd) λcdv A outer s H E hr=>⟨_,(zag (zao (zg3 zei (zak zdm (zan (dv 0) zac (λ_ _=>rfl)) (zan (dv 1) zac (λ_ _=>rfl))) (zak zdm (zan (dv 1) zac (λ_ _=>rfl)) (zan (dv 0) zac (λ_ _=>rfl))) (zaq _)))),λds S Q ex h=>by
  unfold zhy at h
  split at h
  ·obtain⟨⟨h1,h2⟩,h⟩:=h
   exact⟨h1,h2,h⟩
  ·exact h.elim⟩)
def zuX  (zkC:Df K mg "ends_of" zjW zhm)(zav:Ec K mg "NoRow")(zaD:Ec K mg "NoNumber")(zmZ:Fk P w K mg base 1 "less" zhP zhy)(zc8:Fk P w K mg base 3 "number_of" zeI (zer zav.c zaD.c))(zcb:Fk P w K mg base 2 "is_name" zdA zdF)(zaN:mg "len"=none):Fk P w K mg base 4 "ends_of" zhm zhf:=
 zkC.mk' (zaO (k:=3) zkC.F zmI (zvH) λcdv A outer s H E hr=>⟨_,(zah (zat (PDW.pt (zbI (zar (zcc hr) (zbU (zbo zcO) rfl zaN Boot.«len» (zaa (dv 0) zae)) zac (zaq _)) (zcp (zck (zbx (zaR zcb hr (zaa (zaU (dv 0) zac (λ_ _=>rfl)) zae))))))) (zag zdb) zay) (zah (zap (i:=1) zmI.nd rfl (Or.inl rfl) (zaR zc8 hr (zaa (zaU (dv 0) zac (λ_ _=>rfl)) zae))) (zah (zap (i:=2) zmI.nd rfl (Or.inl rfl) (zaR zc8 hr (zaa (zaU (dv 0) zac (λ_ _=>rfl)) zae))) (zah (zat (zbx (zaR zmZ hr (zaa (dv 2) (zaa (dv 1) zae)))) (zag zdb) zay) (zag (zao (zbd (zaa (dv 1) (zaa (dv 2) zae))))))))),λds S Q ex h=>by
  unfold zhf at h
  split at h
  ·rename_i wm
   obtain⟨w0,lo,hi,t1,b1,t2,b2,hw,n0,l1,l2,i1,i2,nl,h⟩:=h
   refine zdE hw ?_
   refine zaM (o:=.lst ([w0,"in",lo,hi].map D.str)) hw (d:=.str w0) rfl ?_
   refine⟨by have:=zlt n0; omega,?_⟩
   rw[n0]
   refine zaM (o:=.lst ([w0,"in",lo,hi].map D.str)) hw (d:=.str lo) rfl ?_
   refine⟨l1,λt b n=>?_,λbad=>(bad _ _ i1).elim⟩
   obtain⟨rfl,rfl⟩:=n.one i1
   refine zaM (o:=.lst ([w0,"in",lo,hi].map D.str)) hw (d:=.str hi) rfl ?_
   refine⟨l2,λt' b' n'=>?_,λbad=>(bad _ _ i2).elim⟩
   obtain⟨rfl,rfl⟩:=n'.one i2
   have q1:=i1.top
   have q2:=i1.bot
   have q3:=i1.pos
   have q4:=i2.top
   have q5:=i2.bot
   have q6:=i2.pos
   refine⟨⟨zjh (m:=40) (n:=40) (Sz.of (10^9) (by omega)) (Sz.of (10^9) (by omega)),zjh (m:=40) (n:=40) (Sz.of (10^9) (by omega)) (Sz.of (10^9) (by omega))⟩,?_⟩
   refine ifD (λc=>absurd c nl) (λc=>?_)
   exact h
  ·exact h.elim⟩)
def zrQ  (zad:zcS K mg)(zks:Dm K zad.C "check_new" "Task.check_new" ziC zfZ):Fm P w K mg base 1 zad.C "check_new" zfZ (zfS zad.C):=
 zks.mk' (zaO (k:=0) zks.F zso (zqF zad.C) λcdv A outer s H E hr=>⟨_,(zag (zat (zxq hr (dv 1) (za0 zad.cl zad.n_meanings (dv 0))) (zag zdb) zay)),λds S Q ex h=>by
  unfold zfS at h
  split at h
  ·rename_i n w
   obtain⟨N,m,u,e,r,ml,h1,h2,h3,h⟩:=h
   refine zwe (n:=m) (S2:=S) (y:=.str w) (k:=.inr w) (λK hK=>by exact hK) (λK hK=>zaY (S1:=S) (n:=n) (λK hK=>by exact hK) h1 rfl hK) h2 rfl ?_
   rw[zhp,h3]
   exact h
  ·exact h.elim⟩)
def zvF  {t_MOST_UNKNOWNS:Tok}(zad:zcS K mg)(zaf:zcf K mg)(zi4:Dm K zad.C "tell_unknown" "Task.tell_unknown" zjp zgt)(zaK:Ec K mg "TooMuch")(zbm:Fm P w K mg base 2 zaf.C "put" zdZ (zdD zaf.C zaK.c))(zc9:Fm P w K mg base 1 zad.C "check_new" zfZ (zfS zad.C))(zmG:Fk P w K mg base 4 "ends_of" zhm zhf)(g_MOST_UNKNOWNS:mg "MOST_UNKNOWNS"=some (.int 4 t_MOST_UNKNOWNS))(zaN:mg "len"=none):Fm P w K mg base 5 zad.C "tell_unknown" zgt (zhM zaf.C zad.C):=
 zi4.mk' (zaO (k:=4) zi4.F zmt (zt2 zaf.C zad.C) λcdv A outer s H E hr=>⟨_,(zah (zap (i:=2) zmt.nd rfl (Or.inl rfl) (zaR zmG hr (zaa (dv 1) zae))) (zah (zbQ (zbn (C:=zad.C) (dv 0) zad.cl zc9.m zc9.ok (hr.mono (by decide)) zc9.b zaG (zaa (zaU (dv 1) zac (λ_ _=>rfl)) zae))) (zah (zap (i:=3) zmt.nd rfl (Or.inl rfl) (zbU (zbo zcO) rfl zaN Boot.«len» (zaa (za0 zad.cl zad.n_unknown_names (dv 0)) zae))) (zah (zat (zar (zaH hr) (dv 3) (zdu g_MOST_UNKNOWNS rfl) (zaq _)) (zag zdb) zay) (zah (zqb hr (za0 zad.cl zad.n_meanings (dv 0)) (zaU (dv 1) zac (λ_ _=>rfl)) (zbn (C:=zaf.C) (za0 zad.cl zad.n_net (dv 0)) zaf.cl zbm.m zbm.ok (hr.mono (by decide)) zbm.b zaG (zaa (zbd (zaa zai (zaa (dv 3) zae))) zae))) (zah (zbQ (zeX (za0 zad.cl zad.n_unknown_names (dv 0)) (zaU (dv 1) zac (λ_ _=>rfl)))) (zah (zbQ (zeX (za0 zad.cl zad.n_unknown_ends (dv 0)) (dv 2))) (zag (zao zai))))))))),λds S Q ex h=>by
  unfold zhM at h
  split at h
  ·rename_i n wm
   obtain⟨ow,k,k',ws,⟨N,a,b,c,m,u,e,r,rfl,tp⟩,hw,nw,⟨w0,lo,hi,t1,b1,t2,b2,M,j,rfl,n0,l1,l2,i1,i2,nl,lk,lm,lu,le,ep,rfl⟩,h⟩:=h
   have ap:=tp.apart
   refine⟨w0,lo,hi,t1,b1,t2,b2,hw,n0,l1,l2,i1,i2,nl,?_⟩
   refine zaE (S1:=S) (n:=n) (λK hK=>by exact hK) tp.tsk rfl ?_
   refine zaM (o:=.lst ([w0,"in",lo,hi].map D.str)) hw (d:=.str w0) rfl ?_
   refine⟨N,m,u,e,r,k.ml,tp.tsk,tp.mea,lk,?_⟩
   refine zaY (S1:=S) (n:=n) (λK hK=>by exact hK) tp.tsk rfl ?_
   refine zdE tp.nam ?_
   rw[Vac]
   refine ifD (λc1=>absurd c1 (by omega)) (λc1=>?_)
   obtain⟨o1,lj,⟨x1,y1⟩,_⟩:=zkv tp.nok (v:=.unknown (k.un.length:Int)) trivial ep
   refine zoC ?_
   refine zaE (S1:=S) (n:=N) (λK hK=>zaY (S1:=S) (n:=n) (λK hK=>by exact hK) tp.tsk rfl hK) tp.net.net rfl ?_
   have np:∀(Q:DK) (ex:Addr→Sto→Prop),(match zaQ (k.ns,k.hs) (.unknown (k.un.length:Int)) with | none=>∀T:Sto,Ng [a,b,c] S T→ex zaK.c T | some (M,j)=>∀T:Sto,Ng [a,b,c] S T→zba zaf.C T N a b c M.1 M.2→Q (.int (j:Int)) T)→zdD zaf.C zaK.c [.ref N,.tup [.str "unknown",.int (k.un.length:Int)]] S Q ex:=λQ ex h=>⟨.unknown (k.un.length:Int),k.ns,k.hs,a,b,c,rfl,tp.net,trivial,tp.nok.small,tp.nok.sixty,zfr (ex:=λT=>ex zaK.c T) tp.net h⟩
   refine zm1 (d:=.tup [.str "unknown",.int (k.un.length:Int)]) (S1:=S) (λK hK=>by exact hK) ?_
   refine np _ _ ?_
   rw[ep]
   intro T gT NT
   obtain⟨tp2,g2⟩:=tp.unk (w0:=w0) (d:=enD t1 b1 t2 b2) gT NT o1 lj (by rw[y1,Vad]; omega)
   have mv:∀ {x:Nat} {o:Ob},S[x]?=some o→x≠a→x≠b→x≠c→T[x]?=some o:=λhx n1 n2 n3=>gT.2 _ _ (by simp[n1,n2,n3]) hx
   simp only[zbg,Vab,Vag,or_false,not_or] at nw
   obtain⟨w1,w2,w3,w4,w5,w6,w7,w8,w9⟩:=nw
   have tw:=mv hw w3 w4 w5
   have tt:=mv tp.tsk ap.na ap.nb ap.nc
   have tm:=mv tp.mea (Ne.symm ap.am) (Ne.symm ap.bm) (Ne.symm ap.cm)
   have tu:=mv tp.nam (Ne.symm ap.au) (Ne.symm ap.bu) (Ne.symm ap.cu)
   have te:=mv tp.ends (Ne.symm ap.ae) (Ne.symm ap.be) (Ne.symm ap.ce)
   refine zoI (n:=m) (S2:=T) (y:=.str w0) (k:=.inr w0) (λK hK=>zaY (S1:=T) (n:=n) (λK hK=>by exact hK) tt rfl hK) (λK hK=>zaM (o:=.lst ([w0,"in",lo,hi].map D.str)) tw (d:=.str w0) rfl hK) tm rfl (by rw[zou]; omega) ?_
   rw[zoH j lk]
   refine zfb (S1:=T.set m (.dck (mlK (k.ml++[(w0,j)])))) (n:=u) (xs:=k.un.map D.str) (y:=.str w0) (λK hK=>zaY (n:=n) (λK hK=>by exact hK) (zas tt ap.nm) rfl hK) (zas tu (Ne.symm ap.mu)) (λK hK=>zaM (o:=.lst ([w0,"in",lo,hi].map D.str)) (zas tw w6) (d:=.str w0) rfl hK) (by rw[Vac]; omega) ?_
   refine zfb (n:=e) (xs:=k.en) (y:=enD t1 b1 t2 b2) (λK hK=>zaY (n:=n) (λK hK=>by exact hK) (zas (zas tt ap.nm) ap.nu) rfl hK) (zas (zas te (Ne.symm ap.me)) (Ne.symm ap.ue)) (λK hK=>by exact hK) (by omega) ?_
   exact h _ _ g2 (λx hx=>.inl hx) ⟨N,a,b,c,m,u,e,r,rfl,tp2⟩
  ·exact h.elim⟩)
def zsa  (zad:zcS K mg)(zaf:zcf K mg)(zab:zcl K mg)(zlx:Dm K zad.C "tell_part" "Task.tell_part" zk6 zhq)(zaK:Ec K mg "TooMuch")(zav:Ec K mg "NoRow")(zaD:Ec K mg "NoNumber")(zc4:Fk P w K mg base 132 "put_tree" zdG (zcX 130 zaf.C zaK.c))(ze8:Fk P w K mg base 3 "copy_of" zfd (zf5 zaf.C))(zdc:Fm P w K mg base 3 zad.C "check_known" zf8 (zf7 zad.C))(zc9:Fm P w K mg base 1 zad.C "check_new" zfZ (zfS zad.C))(zeG:Fk P w K mg base 89 "tree_of" zfY (zfD zab.C zav.c zaD.c))(zcb:Fk P w K mg base 2 "is_name" zdA zdF)(zaN:mg "len"=none):Fm P w K mg base 133 zad.C "tell_part" zhq (zhz zaf.C zad.C):=
 zlx.mk' (zaO (k:=132) zlx.F zlI (zwy zaf.C zad.C) λcdv A outer s H E hr=>⟨_,(zah (zat (PDW.pt (zbI (zar zei (zbU (zbo zcO) rfl zaN Boot.«len» (zaa (dv 1) zae)) zac (zaq _)) (zbI (zck (zbx (zaR zcb hr (zaa (zaU (dv 1) zac (λ_ _=>rfl)) zae)))) (zcp (zar (zcc hr) (zaU (dv 1) zac (λ_ _=>rfl)) zai (zaq _)))))) (zag zdb) zay) (zah (zap (i:=2) zlI.nd rfl (Or.inl rfl) (zaR zeG hr (zaa (zfH (dv 1) (zdP zac) zfu) zae))) (zah (zbQ (zbn (C:=zad.C) (dv 0) zad.cl zc9.m zc9.ok (hr.mono (by decide)) zc9.b zaG (zaa (zaU (dv 1) zac (λ_ _=>rfl)) zae))) (zah (zbQ (zbn (C:=zad.C) (dv 0) zad.cl zdc.m zdc.ok (hr.mono (by decide)) zdc.b zaG (zaa (zfH (dv 1) (zdP zac) zfu) zae))) (zah (zap (i:=3) zlI.nd rfl (Or.inl rfl) (zaR ze8 hr (zaa (za0 zad.cl zad.n_net (dv 0)) zae))) (zah (zqb hr (za0 zad.cl zad.n_meanings (dv 0)) (zaU (dv 1) zac (λ_ _=>rfl)) (zaR zc4 hr (zaa (dv 3) (zaa (dv 2) (zaa (za0 zad.cl zad.n_meanings (dv 0)) zae))))) (zah (zcv zad.cl zad.n_net (dv 0) (dv 3)) (zag (zao zai))))))))),λds S Q ex h=>by
  unfold zhz at h
  split at h
  ·rename_i n wm
   obtain⟨ow,k,k',ws,⟨N,a,b,c,m,u,e,r,rfl,tp⟩,hw,nw,⟨nm,es,t,M,j,rfl,n0,et,lk,lm,kn,ep,rfl⟩,h⟩:=h
   have io:zax (.lst ((("let":Str)::nm::("=":Str)::es).map D.str))=(("let":Str)::nm::("=":Str)::es).map D.str:=rfl
   obtain⟨le,xl,xk,xe⟩:=zjd et
   obtain⟨gd,nms⟩:=zmj xe
   have dp:=zj4 xe
   refine zdE hw ?_
   rw[Vac]
   rw[show ((("let":Str)::nm::("=":Str)::es).length)=es.length+3 from rfl]
   refine zaM (o:=.lst ((("let":Str)::nm::("=":Str)::es).map D.str)) hw (d:=.str nm) (zdj (ws:=("let":Str)::nm::("=":Str)::es) (p:=1) (by simp)) ?_
   refine⟨by have:=zlt n0; omega,?_⟩
   rw[n0]
   refine zaM (o:=.lst ((("let":Str)::nm::("=":Str)::es).map D.str)) hw (d:=.str "=") (zdj (ws:=("let":Str)::nm::("=":Str)::es) (p:=2) (by simp)) ?_
   refine zf0 (n:=wm) (o:=.lst ((("let":Str)::nm::("=":Str)::es).map D.str)) (S3:=S) (lo:=some 3) (hi:=none) (λK hK=>by exact hK) (λK hK=>by exact hK) (λK hK=>by exact hK) hw ?_
   rw[io,show (some (3:Int))=some ((3:Nat):Int) from rfl,zl3]
   refine⟨es,zaj _ _,by omega,λw hw=>(kn w hw).1,?_⟩
   rw[et]
   intro T pT
   have g1:Ng [] S T:=(Ng.app _).same (Ng.of pT)
   have tp1:=tp.up g1
   have hw1:=g1.2 _ _ (by simp) hw
   refine zaE (S1:=T) (n:=n) (λK hK=>by exact hK) tp1.tsk rfl ?_
   refine zaM (o:=.lst ((("let":Str)::nm::("=":Str)::es).map D.str)) hw1 (d:=.str nm) (zdj (ws:=("let":Str)::nm::("=":Str)::es) (p:=1) (by simp)) ?_
   refine⟨N,m,u,e,r,k.ml,tp1.tsk,tp1.mea,lk,?_⟩
   refine zaE (S1:=T) (n:=n) (λK hK=>by exact hK) tp1.tsk rfl ?_
   refine zf0 (n:=wm) (o:=.lst ((("let":Str)::nm::("=":Str)::es).map D.str)) (S3:=T) (lo:=some 3) (hi:=none) (λK hK=>by exact hK) (λK hK=>by exact hK) (λK hK=>by exact hK) hw1 ?_
   rw[io,show (some (3:Int))=some ((3:Nat):Int) from rfl,zl3]
   have g2:Ng [] S (T++[Ob.lst ((((("let":Str)::nm::("=":Str)::es).drop 3)).map D.str)]):=g1.same (Ng.app _)
   have la:(T++[Ob.lst ((((("let":Str)::nm::("=":Str)::es).drop 3)).map D.str)])[T.length]?=some (.lst (es.map D.str)):=zaj _ _
   generalize T++[Ob.lst ((((("let":Str)::nm::("=":Str)::es).drop 3)).map D.str)]=T2 at g2 la ⊢
   have tp2:=tp.up g2
   have hw2:=g2.2 _ _ (by simp) hw
   refine⟨es,N,m,u,e,r,k.ml,tp2.tsk,tp2.mea,la,kn,?_⟩
   refine zaY (S1:=T2) (n:=n) (λK hK=>by exact hK) tp2.tsk rfl ?_
   refine⟨k.ns,k.hs,a,b,c,tp2.net,tp2.nok,λT3 n2 a2 b2 c2 g3 q1 q2 q3 q4 N3=>?_⟩
   have tp3:=tp2.up g3
   refine zoC ?_
   refine args3 (d1:=.ref n2) (d2:=trD t) (d3:=.ref m) (S1:=T3) (S2:=T3) (S3:=T3) (λK hK=>by exact hK) (λK hK=>by exact hK) (λK hK=>zaY (S1:=T3) (n:=n) (λK hK=>by exact hK) tp3.tsk rfl hK) ?_
   have np:∀(Q:DK) (ex:Addr→Sto→Prop),(match zaz (λw=>k.ml.lookup w) t (k.ns,k.hs) with | none=>∀T:Sto,Ng [a2,b2,c2] T3 T→ex zaK.c T | some (N,j)=>∀T:Sto,Ng [a2,b2,c2] T3 T→zba zaf.C T n2 a2 b2 c2 N.1 N.2→Q (.int (j:Int)) T)→zcX 130 zaf.C zaK.c [.ref n2,trD t,.ref m] T3 Q ex:=λQ ex h=>⟨t,k.ns,k.hs,a2,b2,c2,k.ml,rfl,by omega,N3,tp.nok,tp.mok,tp3.mea,gd,λw hw=>by
    obtain⟨z1,z2⟩:=nms w hw
    exact(kn w z1).2 z2,h⟩
   refine np _ _ ?_
   have ep':zaz (λw=>k.ml.lookup w) t (k.ns,k.hs)=some (M,j):=ep
   rw[ep']
   intro T4 g4 N4
   obtain⟨o1,lj,⟨x1,y1⟩,_⟩:=zcJ t tp.nok tp.mok gd ep
   have nw2:zde zaf.C T2 T4 n2 a2 b2 c2 M.1 M.2:=zde.of g3 q1 q2 q3 q4 g4 N4
   obtain⟨tp5,g5,f5⟩:=tp2.par (nm:=nm) nw2 o1 lj (by rw[y1,Vad]; omega)
   refine zoI (n:=m) (S2:=T4) (y:=.str nm) (k:=.inr nm) (λK hK=>zaY (S1:=T4) (n:=n) (λK hK=>by exact hK) (nw2.old tp2.tsk) rfl hK) (λK hK=>zaM (o:=.lst ((("let":Str)::nm::("=":Str)::es).map D.str)) (nw2.old hw2) (d:=.str nm) (zdj (ws:=("let":Str)::nm::("=":Str)::es) (p:=1) (by simp)) hK) (nw2.old tp2.mea) rfl (by rw[zou]; omega) ?_
   rw[zoH j lk]
   refine zcL (v:=.ref n2) (S1:=T4.set m (.dck (mlK (k.ml++[(nm,j)])))) (S2:=T4.set m (.dck (mlK (k.ml++[(nm,j)])))) (n:=n) (fs:=zcq N m u e r) (λK hK=>by exact hK) (λK hK=>by exact hK) (zas (nw2.old tp2.tsk) tp.apart.nm) (show 5<1000 by decide) ?_
   exact h _ _ ((g2.nil).same g5) (λx hx=>by
    rcases f5 x hx with z | z
    ·exact .inl z
    ·exact .inr (Vat g2.1 z)) ⟨n2,a2,b2,c2,m,u,e,r,rfl,tp5⟩
  ·exact h.elim⟩)
def zxn  (zad:zcS K mg)(zaf:zcf K mg)(zjK:Dm K zad.C "tell" "Task.tell" zll zhu)(zgR:Fm P w K mg base 133 zad.C "tell_row" zhk (zgs zaf.C zad.C))(zgm:Fm P w K mg base 133 zad.C "tell_part" zhq (zhz zaf.C zad.C))(zgL:Fm P w K mg base 5 zad.C "tell_unknown" zgt (zhM zaf.C zad.C))(zmK:Fk P w K mg base 1 "words_of" zg9 zht):Fm P w K mg base 134 zad.C "tell" zhu (zhN zaf.C zad.C):=
 zjK.mk' (zaO (k:=133) zjK.F znK (zwQ zaf.C zad.C) λcdv A outer s H E hr=>⟨_,(zah (zap (i:=2) znK.nd rfl (Or.inl rfl) (zaR zmK hr (zaa (dv 1) zae))) (zah (zat (zar (zqE hr) (zfH (dv 2) (zdP zac) (zdP zac)) (zaX (zaa zai zae)) (zaq _)) (zag (zao (zbn (C:=zad.C) (dv 0) zad.cl zgL.m zgL.ok (hr.mono (by decide)) zgL.b zaG (zaa (dv 2) zae)))) zay) (zah (zat (zar (zaH hr) (zaU (dv 2) zac (λ_ _=>rfl)) zai (zaq _)) (zag (zao (zbn (C:=zad.C) (dv 0) zad.cl zgm.m zgm.ok (hr.mono (by decide)) zgm.b zaG (zaa (dv 2) zae)))) zay) (zag (zao (zbn (C:=zad.C) (dv 0) zad.cl zgR.m zgR.ok (hr.mono (by decide)) zgR.b zaG (zaa (dv 2) zae))))))),λds S Q ex h=>by
  unfold zhN at h
  split at h
  ·rename_i n x
   obtain⟨⟨lx,nx⟩,ow,k,k',an,tk,tc,h⟩:=h
   refine⟨⟨lx,nx⟩,?_⟩
   generalize hx:Txt.split x " "=ws at tc nx ⊢
   refine zf0 (n:=S.length) (o:=.lst (ws.map D.str)) (S3:=S++[.lst (ws.map D.str)]) (lo:=some 1) (hi:=some 2) (λK hK=>by exact hK) (λK hK=>by exact hK) (λK hK=>by exact hK) (zaj _ _) ?_
   rw[show zax (Ob.lst (ws.map D.str))=ws.map D.str from rfl]
   refine zu5 (xs:=zbH (ws.map D.str) (some 1) (some 2)) (ys:=[.str "in"]) (zaw (zaj _ _)) (zaj _ _) (in_eq ws) ?_
   have g1:Ng [] S (S++[Ob.lst (ws.map D.str)]++[Ob.lst (zbH (ws.map D.str) (some 1) (some 2))]++[Ob.lst [.str "in"]]):=((Ng.app _).same (Ng.app _)).same (Ng.app _)
   have hw:(S++[Ob.lst (ws.map D.str)]++[Ob.lst (zbH (ws.map D.str) (some 1) (some 2))]++[Ob.lst [.str "in"]])[S.length]?=some (.lst (ws.map D.str)):=zaw (zaw (zaj _ _))
   have ll:S.length≤(S++[Ob.lst (ws.map D.str)]++[Ob.lst (zbH (ws.map D.str) (some 1) (some 2))]++[Ob.lst [.str "in"]]).length:=g1.1
   generalize S++[Ob.lst (ws.map D.str)]++[Ob.lst (zbH (ws.map D.str) (some 1) (some 2))]++[Ob.lst [.str "in"]]=S3 at g1 hw ll ⊢
   have tk3:=tk.up g1
   have nw:S.length ∉ ow:=λz=>Vax _ (tk.lt _ z)
   obtain⟨N,m,u,e,r,ht⟩:=tk3.tsk
   have fin:∀(T:Sto) (ow':List Nat),Ng ow S3 T→Fr ow ow' S3.length→zby zad.C zaf.C T n ow' k'→Q (.str an) T:=λT ow' g f t=>h T ow' ((g1.nil).same g) (f.le ll) t
   cases tc with
   | unk h0=>
    have e1:ws[1]?=some ("in":Str):=by
     obtain⟨w0,lo,hi,_,_,_,_,_,_,rfl,_⟩:=h0.ex
     rfl
    rw[decide_eq_true e1]
    refine zaE (S1:=S3) (n:=n) (λK hK=>by exact hK) ht rfl ?_
    exact⟨ow,k,k',ws,tk3,hw,nw,h0,fin⟩
   | par h0=>
    have e1:¬ ws[1]?=some ("in":Str)∧∃r,ws=("let":Str)::r:=by
     obtain⟨nm,es,_,_,_,rfl,n0,_⟩:=h0.ex
     exact⟨λz=>(zxi n0).1 (Option.some.inj z),_,rfl⟩
    rw[decide_eq_false e1.1]
    obtain⟨r0,er⟩:=e1.2
    refine zaM (o:=.lst (ws.map D.str)) hw (d:=.str "let") (by rw[er]; exact zdj (ws:=("let":Str)::r0) (p:=0) (by simp)) ?_
    refine zaE (S1:=S3) (n:=n) (λK hK=>by exact hK) ht rfl ?_
    exact⟨ow,k,k',ws,tk3,hw,nw,h0,fin⟩
   | row h0=>
    have e1:¬ ws[1]?=some ("in":Str)∧∃w0 r,ws=w0::r∧w0≠"let":=by
     obtain⟨L,R,sg,t,s1,M,j,rfl,hL,hs,et,_⟩:=h0.ex
     obtain⟨_,xl,xk,xe⟩:=zjd et
     have ne:=znY xe
     cases L with
     | nil=>exact absurd rfl ne
     | cons w0 L=>
      refine⟨λz=>?_,w0,L++sg::R,rfl,(zoW xe (Vau ..)).2⟩
      cases L with
      | nil=>
       have z':sg="in":=Option.some.inj z
       rcases hs with rfl | rfl <;> revert z' <;> decide
      | cons w1 L=>exact(zoW xe (Vam _ (Vau ..))).1 (Option.some.inj z)
    rw[decide_eq_false e1.1]
    obtain⟨w0,r0,er,nl⟩:=e1.2
    refine zaM (o:=.lst (ws.map D.str)) hw (d:=.str w0) (by rw[er]; exact zdj (ws:=w0::r0) (p:=0) (by simp)) ?_
    refine ifD (λc=>absurd c nl) (λc=>?_)
    refine zaE (S1:=S3) (n:=n) (λK hK=>by exact hK) ht rfl ?_
    exact⟨ow,k,k',ws,tk3,hw,nw,h0,fin⟩
  ·exact h.elim⟩)
def zuw  (zln:Df K mg "_law_atom" ziJ zhL)(zaN:mg "len"=none):Fk P w K mg base 1 "_law_atom" zhL zgd:=
 zln.mk' (zaO (k:=0) zln.F znS (zuu) λcdv A outer s H E hr=>⟨_,(zah (zat (PDW.pt (zoQ (zar (zlS hr) (dv 1) (zaX zae) (zaq _)) (zo9 (zar zhv (zak zbM (dv 0) zac) zac (zaq _))))) (zag (zao (zbd (zaa zai (zaa (zaU (dv 1) (zak zgQ (zak zdd (dv 0) zac) (zbU (zbo zcO) rfl zaN Boot.«len» (zaa (dv 1) zae))) (λ_ _=>rfl)) zae))))) zay) (zah (zat (zar (zaH hr) (zak zbM (zak zdd (dv 0) zac) zac) zac (zaq _)) (zag (zao (zbd (zaa zai (zaa (zak zkV (zak zbM (zak zdd (dv 0) zac) zac) zac) (zaa zac zae)))))) zay) (zah (zap (i:=2) znS.nd rfl (Or.inl rfl) (zak zdR zac (zak zbM (zak zdd (dv 0) zac) zac))) (zag (zao (zbd (zaa zai (zaa (zak zdR (zak zdm (dv 2) (zak zkV (zak zbM (zak zdd (dv 0) zac) zac) zac)) zac) (zaa (dv 2) zae))))))))),λds S Q ex h=>by
  unfold zgd at h
  split at h
  ·rename_i v nl
   obtain⟨hn,v0,h⟩:=h
   have hn':=zaw (T:=[.lst []]) hn
   refine zmq (xs:=[(("x":Str)),"yy"].map D.str) (ys:=[]) hn' (zaj _ _) (b:=false) rfl ?_
   have zbc:∀(T:Sto),Pre S T→zaW (dIf (zcG (dOp (wEq eq2) (dOp zhj (dOp zid (zbB 0) (dC (.int 3))) (dC (.int 2))) (dC (.int 0)))) (zhK (zkm (zb0 (dC (.str "number")) (zb0 (dOp wSub (dOp zhj (dOp zid (zbB 0) (dC (.int 6))) (dC (.int 41))) (dC (.int 20))) (zb0 (dC (.int 1)) zbY))))) zj5) (zaW (zfe 2 (dOp wAdd (dC (.int 2)) (dOp zhj (dOp zid (zbB 0) (dC (.int 6))) (dC (.int 30))))) (zhK (zkm (zb0 (dC (.str "number")) (zb0 (dOp wAdd (dOp wMul (zbB 2) (dOp wSub (dOp zhj (dOp zid (zbB 0) (dC (.int 180))) (dC (.int 21))) (dC (.int 10)))) (dC (.int 1))) (zb0 (zbB 2) zbY)))))) { nx:=λ_ S'=>Q .non S',rt:=Q } [some (.int v),some (.ref nl),none] T:=λT pT=>by
    refine ifD (λc1=>?_) (λc1=>?_)
    ·have z:=zqg (t:=v/6%41-20) (by omega)
     refine h T (.nb (v/6%41-20) 1) pT ⟨z,?_⟩
     unfold za5
     rw[if_pos rfl,Vav]
     have:=zgb (i:=v/6%41-20) (k:=3) (by decide) (by omega)
     omega
    ·refine⟨zjh (m:=20) (n:=20) (Sz.of 1000 (by omega)) (Sz.of 1000 (by omega)),?_⟩
     have hb:2≤2+v/6%30∧2+v/6%30≤31:=by omega
     have hq:-10≤v/180%21-10∧v/180%21-10≤10:=by omega
     show Q (trD (.nb ((2+v/6%30)*(v/180%21-10)+1) (2+v/6%30))) T
     generalize 2+v/6%30=b at hb ⊢
     generalize v/180%21-10=q at hq ⊢
     refine h T _ pT ⟨zv2 hb.1 (by omega) (by omega),?_⟩
     have b1:=Int.mul_le_mul_of_nonneg_left hq.2 (show 0≤b by omega)
     have b2:=Int.mul_le_mul_of_nonneg_left hq.1 (show 0≤b by omega)
     have l1:=zgb (i:=b*q+1) (k:=4) (by decide) (by omega)
     have l2:=zgb (i:=b) (k:=2) (by decide) (by omega)
     unfold za5
     rw[Vad]
     split
     ·show _+0≤12; omega
     ·rw[Vaq]; omega
   refine ifD (λc1=>?_) (λc1=>?_)
   ·refine zdE hn' ?_
    refine⟨show (0:Int)<2 by decide,?_⟩
    have r2:v/3%2=0∨v/3%2=1:=by omega
    rcases r2 with e | e
    ·refine zaM (o:=.lst ([(("x":Str)),"yy"].map D.str)) hn' (d:=.str "x") (by show atI _ (v/3%2)=_; rw[e]; rfl) ?_
     have z:=h (S++[.lst []]) (.nm (cs "x")) (zaA Pre.refl _) (.inl rfl)
     rw[show trD (.nm (cs "x"))=.tup [.str "name",.str "x"] by show D.tup [.str "name",.str (mk (cs "x"))]=_; rw[zb1]] at z
     exact z
    ·refine zaM (o:=.lst ([(("x":Str)),"yy"].map D.str)) hn' (d:=.str "yy") (by show atI _ (v/3%2)=_; rw[e]; rfl) ?_
     have z:=h (S++[.lst []]) (.nm (cs "yy")) (zaA Pre.refl _) (.inr rfl)
     rw[show trD (.nm (cs "yy"))=.tup [.str "name",.str "yy"] by show D.tup [.str "name",.str (mk (cs "yy"))]=_; rw[zb1]] at z
     exact z
   ·exact zbc _ (zaA Pre.refl _)
  ·exact h.elim⟩)
def zxc  (ziO:Df K mg "_law_mix" zlm zgU):Fk P w K mg base 1 "_law_mix" zgU zh1:=
 ziO.mk' (zaO (k:=0) ziO.F zqu (zqw) λcdv A outer s H E hr=>⟨_,(zag (zao (zak zgQ (zak zdR (zak zdm (zak zdm (dv 0) (zak zdR (zak zdm zac (dv 1)) zac)) zac) (zak zdm (zak zdm (dv 1) (dv 1)) zac)) zac))),λds S Q ex h=>by
  unfold zh1 at h
  split at h
  ·rename_i c k
   obtain⟨⟨k0,k2⟩,h⟩:=h
   have rr:=zhE (a:=c*(2*k+3)*48271+k*k*7919) (b:=2147483647) (by decide)
   exact⟨IntMulOk.of_left (by decide),IntMulOk.of_right (intBits_le_64 (by omega) (by omega)),IntMulOk.of_right (by decide),IntMulOk.of_right (intBits_le_64 (by omega) (by omega)),IntMulOk.of_right (by decide),show (0:Int)<2147483647 by decide,h _ rr.1 rr.2⟩
  ·exact h.elim⟩)
def zt9  (zk4:Df K mg "_law_tree" zj2 zgG)(zho:Fk P w K mg base 1 "_law_mix" zgU zh1)(zlq:Fk P w K mg base 1 "_law_atom" zhL zgd)(zcP:mg "range"=none):Fk P w K mg base 2 "_law_tree" zgG zgV:=
 zk4.mk' (zaO (k:=1) zk4.F zcH (zsI) λcdv A outer s H E hr=>⟨_,(zah (zap (i:=2) zcH.nd rfl (Or.inl rfl) (zaR zlq hr (zaa (zaR zho hr (zaa (dv 0) (zaa zac zae))) (zaa (dv 1) zae)))) (zah (zor (i:=3) PassesOwn.never rfl zcH.nd rfl (Or.inl rfl) rfl zcP (zaa zac (zaa (zak zdR zac (zak zbM (zaR zho hr (zaa (dv 0) (zaa zac zae))) zac)) zae)) (zah (zap (i:=4) zcH.nd rfl (Or.inl rfl) (zaR zho hr (zaa (dv 0) (zaa (dv 3) zae)))) (zah (zap (i:=5) zcH.nd rfl (Or.inl rfl) (zaR zlq hr (zaa (zak zdd (dv 4) zac) (zaa (dv 1) zae)))) (zag (zat (zar zei (zak zbM (dv 4) zac) zac (zaq _)) (zag (zap (i:=2) zcH.nd rfl (Or.inl rfl) (zbd (zaa zai (zaa (dv 2) (zaa (dv 5) zae)))))) (zag (zat (zar (zaH hr) (zak zbM (dv 4) zac) zac (zaq _)) (zag (zap (i:=2) zcH.nd rfl (Or.inl rfl) (zbd (zaa zai (zaa (dv 2) (zaa (dv 5) zae)))))) (zag (zat (zar (zaH hr) (zak zbM (dv 4) zac) zac (zaq _)) (zag (zap (i:=2) zcH.nd rfl (Or.inl rfl) (zbd (zaa zai (zaa (dv 5) (zaa (dv 2) zae)))))) (zag (zat (zar (zaH hr) (zak zbM (dv 4) zac) zac (zaq _)) (zag (zap (i:=2) zcH.nd rfl (Or.inl rfl) (zbd (zaa zai (zaa (dv 2) (zaa (dv 5) zae)))))) (zag (zat (zar (zaH hr) (zak zbM (dv 4) zac) zac (zaq _)) (zag (zap (i:=2) zcH.nd rfl (Or.inl rfl) (zbd (zaa zai (zaa (dv 5) (zaa (dv 2) zae)))))) (zag (zat (zar (zaH hr) (zak zbM (dv 4) zac) zac (zaq _)) (zag (zap (i:=2) zcH.nd rfl (Or.inl rfl) (zbd (zaa zai (zaa (dv 2) (zaa (zaU (zaX (zaa zac (zaa zac (zaa zac (zaa zac (zaa zac (zaa zac (zaa zac (zaa zac zae))))))))) (zak zbM (zak zdd (dv 4) zac) zac) (λ_ _=>rfl)) zae)))))) (zag (zap (i:=2) zcH.nd rfl (Or.inl rfl) (zbd (zaa zai (zaa (dv 2) (zaa (dv 2) zae))))))))))))))))))))) (zag (zao (dv 2))))),λds S Q ex h=>by
  unfold zgV at h
  split at h
  ·rename_i c nl
   obtain⟨hn,h⟩:=h
   refine⟨⟨by decide,by decide⟩,λv v0 _=>?_⟩
   refine⟨hn,v0,λT t pT ht=>?_⟩
   refine⟨⟨by decide,by decide⟩,λv9 v90 _=>?_⟩
   refine⟨⟨by decide,by decide,by omega,by omega⟩,λk dl' S'=>Pre S S'∧∃(t:Tr) (o2 o3 o4:Option D),k≤3∧LT k t∧dl'=[some (.int c),some (.ref nl),some (trD t),o2,o3,o4],⟨pT,t,none,none,none,by decide,.atm ht,rfl⟩,?_⟩
   rintro k dl' S' ⟨pS,t,o2,o3,o4,k3,lt,rfl⟩
   refine ite2 (λc1=>?_) (λc1=>?_)
   ·have k2:k≤2:=by omega
    refine⟨⟨by omega,by omega⟩,λv v0 _=>?_⟩
    refine⟨pS _ _ hn,by omega,λT s pT hs=>?_⟩
    have pp:Pre S T:=λx o e=>pT x o (pS x o e)
    refine ifD (λc2=>?_) (λc2=>?_)
    ·exact⟨pp,.bi 0 t s,_,_,_,by omega,.lf lt hs (by decide),rfl⟩
    refine ifD (λc3=>?_) (λc3=>?_)
    ·exact⟨pp,.bi 1 t s,_,_,_,by omega,.lf lt hs (by decide),rfl⟩
    refine ifD (λc4=>?_) (λc4=>?_)
    ·exact⟨pp,.bi 1 s t,_,_,_,by omega,.rg lt hs (by decide),rfl⟩
    refine ifD (λc5=>?_) (λc5=>?_)
    ·exact⟨pp,.bi 2 t s,_,_,_,by omega,.lf lt hs (by decide),rfl⟩
    refine ifD (λc6=>?_) (λc6=>?_)
    ·exact⟨pp,.bi 2 s t,_,_,_,by omega,.rg lt hs (by decide),rfl⟩
    refine ifD (λc7=>?_) (λc7=>?_)
    ·obtain⟨p,p2,p6,ea⟩:=pow8 (i:=v/8%8) (by omega)
     refine zaM (o:=.lst [D.int 2,.int 3,.int 2,.int 3,.int 4,.int 2,.int 5,.int 6]) (zaj _ _) (d:=.int p) ea ?_
     exact⟨λx o e=>zaw (pp x o e),.pw t p,_,_,_,by omega,.pw lt p2 p6,rfl⟩
    ·exact⟨pp,.bi 2 t t,_,_,_,by omega,.sq lt,rfl⟩
   ·exact h S' t pS (lt.up k3)
  ·exact h.elim⟩)
def zq9  (n:Nat)(zd9:Df K mg "_law_weight" zg6 zd4)(zdw:Fk P w K mg base (0+1*n) "_law_weight" zd4 (zdQ n)):Fk P w K mg base (0+1*n+1) "_law_weight" zd4 (zdQ (n+1)):=
 zd9.mk' (zaO (k:=(0+1*n+0)) zd9.F zud (zrl (n+1)) λcdv A outer s H E hr=>⟨_,(zah (zat (PDW.pt (zbI (zar (zaH hr) (zan (dv 0) zac (λ_ _=>rfl)) zai (zaq _)) (zcp (zar (zaH hr) (zan (dv 0) zac (λ_ _=>rfl)) zai (zaq _))))) (zag (zao zac)) zay) (zah (zat (zar (zaH hr) (zan (dv 0) zac (λ_ _=>rfl)) zai (zaq _)) (zag (zao (zak zdm (zan (dv 0) zac (λ_ _=>rfl)) (za6 zdw (hr.mono (by omega)) zaG rfl (zaa (zan (dv 0) zac (λ_ _=>rfl)) zae))))) zay) (zag (zao (zak zdR (za6 zdw (hr.mono (by omega)) zaG rfl (zaa (zan (dv 0) zac (λ_ _=>rfl)) zae)) (za6 zdw (hr.mono (by omega)) zaG rfl (zaa (zan (dv 0) zac (λ_ _=>rfl)) zae))))))),λds S Q ex h=>by
  unfold zdQ at h
  split at h
  ·obtain⟨t,rfl,hd,gd,h⟩:=h
   cases t with
   | nm w=>exact h
   | nb t b=>exact h
   | pw t k=>
    have hd':t.dp+1<n+1:=hd
    have g2:=gd.2
    exact⟨t,rfl,by omega,gd.1,IntMulOk.of_left (intBits_le_64 (by omega) (by omega)),h⟩
   | bi d l r=>
    have hd':max l.dp r.dp+1<n+1:=hd
    match d with
    | 0=>exact⟨l,rfl,by omega,gd.1,⟨r,rfl,by omega,gd.2.1,h⟩⟩
    | 1=>exact⟨l,rfl,by omega,gd.1,⟨r,rfl,by omega,gd.2.1,h⟩⟩
    | d+2=>exact⟨l,rfl,by omega,gd.1,⟨r,rfl,by omega,gd.2.1,h⟩⟩
  ·exact h.elim⟩)
def zpA (zd9:Df K mg "_law_weight" zg6 zd4):(n:Nat)→Fk P w K mg base (0+1*n) "_law_weight" zd4 (zdQ n)
 | 0=>zd9.vac _ λds S Q ex h=>by
  unfold zdQ at h
  split at h
  ·obtain⟨t,_,h1,_⟩:=h
   omega
  ·exact h.elim
 | n+1=>
  let zdw:=zpA zd9 n
  zq9 n zd9 zdw
def zsb  (ziG:Df K mg "_law_light" zj1 zhF)(zdw:Fk P w K mg base 12 "_law_weight" zd4 (zdQ 12))(zmc:Fk P w K mg base 2 "_law_tree" zgG zgV):Fk P w K mg base 13 "_law_light" zhF zhw:=
 ziG.mk' (zaO (k:=12) ziG.F zl4 (zut) λcdv A outer s H E hr=>⟨_,(zah (zap (i:=1) zl4.nd rfl (Or.inl rfl) (zaR zmc hr (zaa (dv 0) (zaa (zaX (zaa zai (zaa zai zae))) zae)))) (zah (zil PassesOwn.never (zar zhv (zaR zdw hr (zaa (dv 1) zae)) zac (zaq _)) (zag (zap (i:=1) zl4.nd rfl (Or.inl rfl) (zan (dv 1) zac (λ_ _=>rfl))))) (zag (zao (dv 1))))),λds S Q ex h=>by
  unfold zhw at h
  split at h
  ·rename_i c
   refine⟨zaj _ _,λT t pT lt=>?_⟩
   refine⟨λm dl' S'=>Pre S S'∧∃t:Tr,LT 3 t∧m=t.dp∧dl'=[some (.int c),some (trD t)],⟨t.dp,λx o e=>pT x o (zaw e),t,lt,rfl,rfl⟩,?_⟩
   rintro m dl' S' ⟨pS,t,lt,rfl,rfl⟩
   obtain⟨gd,_,_,dp,_,_⟩:=zk9 lt
   refine⟨t,rfl,by omega,gd,?_⟩
   refine ifD (λc1=>?_) (λc1=>?_)
   ·rcases zrM lt (by decide) with ⟨k,a,rfl,la⟩ | ⟨d,a,b,rfl,la⟩ | at_
    ·exact⟨a.dp,by show a.dp<a.dp+1; omega,pS,a,la,rfl,rfl⟩
    ·have da:a.dp<(Tr.bi d a b).dp:=by show a.dp<max a.dp b.dp+1; omega
     match d with
     | 0=>exact⟨a.dp,da,pS,a,la,rfl,rfl⟩
     | 1=>exact⟨a.dp,da,pS,a,la,rfl,rfl⟩
     | d+2=>exact⟨a.dp,da,pS,a,la,rfl,rfl⟩
    ·exfalso
     match t,at_ with
     | .nm w,_=>exact absurd c1 (by show ¬ (1:Int) > 7; decide)
     | .nb x y,_=>exact absurd c1 (by show ¬ (1:Int) > 7; decide)
   ·exact h S' t pS lt (by omega)
  ·exact h.elim⟩)
def zwa  (ziZ:Df K mg "_law_cell_at" zjx zic)(zaN:mg "len"=none):Fk P w K mg base 1 "_law_cell_at" zic zhb:=
 ziZ.mk' (zaO (k:=0) ziZ.F zuB (zvG) λcdv A outer s H E hr=>⟨_,(zah (zat (zar zei (dv 1) (zbU zcO rfl zaN Boot.«len» (zaa (dv 0) zae)) (zaq _)) (zag (zao (zan (dv 0) (dv 1) (λ_ _=>rfl)))) zay) (zag (zao zac))),λds S Q ex h=>by
  unfold zhb at h
  split at h
  ·rename_i n k
   obtain⟨ns,h1,h2,h3⟩:=h
   simp only[zj5,zaW,zpz,zhK,dRetN,dIf,zfe,zbB,dC,dOp,dUn,wI,wI0,wIf,zcG,dNot,dAnd,dOr,zp9,dOrV,znn,dIfE,zlB,zbY,zb0,zkm,zj9,wIx,zkK,zgk,znB,wAbs,zlV,zeB,wEq,wNe,wIsN,wNotN,wNeg,zc7,Vaj,List.map_nil,Vaq,List.length_nil,VaD,List.nil_append,Nat.reduceAdd,Nat.reduceSub,List.replicate,List.getElem?_cons_zero,List.getElem?_cons_succ,List.set_cons_zero,List.set_cons_succ,ite_true,ite_false,if_true,if_false,Nat.reduceLeDiff,eq_self,p40,p41,p20,zhc,powB,Int.reduceLT,Int.reduceLE,Int.reduceNeg,decide_true,Bool.and_self,Bool.and_true,Bool.true_and,L3.eq1,L3.eq2,L3.eqT,L3.eqF,L3.eqL]
   have hA:lAt S n=some (.frz (ns.map D.int)):=zbr h1 rfl
   simp only[hA,zax,Vac]
   refine ite2 (λc=>?_) (λc=>?_)
   ·have c':k<(ns.length:Int):=of_decide_eq_true c
    have hk:k.toNat<ns.length:=(by omega)
    have e:atI (ns.map D.int) k=some (.int ns[k.toNat]):=by
     have z:=zex (xs:=ns.map D.int) (j:=k.toNat) (v:=.int ns[k.toNat]) (by simp[hk])
     rw[show ((k.toNat:Nat):Int)=k by omega] at z
     exact z
    simp only[e]
    rw[VaK,VaL hk] at h3
    exact h3
   ·have c':¬ k<(ns.length:Int):=λz=>c (decide_eq_true z)
    rw[VaK,List.getElem?_eq_none (by omega)] at h3
    exact h3
  ·exact h.elim⟩)
def ztO  (zaf:zcf K mg)(zad:zcS K mg)(ziP:Dm K zad.C "nodes" "Task.nodes" zi7 zhh)(zdp:Fm P w K mg base 1 zaf.C "nodes" ze6 (zfG zaf.C)):Fm P w K mg base 2 zad.C "nodes" zhh (zhV zaf.C zad.C):=
 ziP.mk' (zaO (k:=1) ziP.F zqW (zsw zaf.C zad.C) λcdv A outer s H E hr=>⟨_,(zag (zao (zbh (C:=zaf.C) (za0 zad.cl zad.n_net (dv 0)) zaf.cl zdp.m zdp.ok (hr.mono (by decide)) zdp.b zaG))),λds S Q ex h=>by
  unfold zhV at h
  split at h
  ·rename_i n
   obtain⟨ow,k,⟨N,a,b,c,m,u,e,r,rfl,tp⟩,h⟩:=h
   refine zaE (S1:=S) (n:=N) (λK hK=>zaY (S1:=S) (n:=n) (λK hK=>by exact hK) tp.tsk rfl hK) tp.net.net rfl ?_
   exact⟨a,b,c,k.ns.map Nd.d,tp.net.net,tp.net.kept,h⟩
  ·exact h.elim⟩)
def ztB  (zad:zcS K mg)(zjM:Dm K zad.C "rows" "Task.rows" zkb zgY)(zco:mg "list"=none):Fm P w K mg base 1 zad.C "rows" zgY (zgc zad.C):=
 zjM.mk' (zaO (k:=0) zjM.F zvt (zw8 zad.C) λcdv A outer s H E hr=>⟨_,(zag (zao (zcx (zbo zpP) rfl zco Boot.«list» (zaa (za0 zad.cl zad.n_told_rows (dv 0)) zae)))),λds S Q ex h=>by
  unfold zgc at h
  split at h
  ·rename_i n
   obtain⟨N,m,u,e,r,rs,h1,h2,h⟩:=h
   refine zaY (S1:=S) (n:=n) (λK hK=>by exact hK) h1 rfl ?_
   exact zoj (o:=.lst (rs.map rwT)) (zbr h2 rfl) h
  ·exact h.elim⟩)
def zrB  (ziD:Df K mg "_law_whole" zk5 zhO)(zbt:mg "isinstance"=none)(zcZ:mg "bool"=none)(zbw:mg "int"=none)(zdI:Kit K "bool")(zdJ:Kit K "int"):Fk P w K mg base 1 "_law_whole" zhO zge:=
 ziD.mk' (zaO (k:=0) ziD.F zwR (zwN) λcdv A outer s H E hr=>⟨_,(zag (zao (zgp (zfI zdJ rfl zbt rfl zbw Boot.«int» (dv 0)) (zgu (zlN (zfI zdI rfl zbt rfl zcZ Boot.«bool» (dv 0))))))),λds S Q ex h=>by
  unfold zge at h
  split at h
  ·exact h
  ·exact h.elim⟩)
def zrm  (zj7:Df K mg "_law_in_order" zjk zhY)(zmg:Fk P w K mg base 1 "_law_whole" zhO zge)(zc1:mg "enumerate"=none)(zbt:mg "isinstance"=none)(zef:mg "tuple"=none)(zf1:Kit K "tuple"):Fk P w K mg base 2 "_law_in_order" zhY zgF:=
 zj7.mk' (zaO (k:=1) zj7.F zfU (zth) λcdv A outer s H E hr=>⟨_,(zah (zpp (is:=[1,2]) PassesOwn.never rfl zfU.nd (Nms.cons (i:=1) rfl (Or.inl rfl) (by first | exact .inl rfl | exact .inr rfl) (Nms.cons (i:=2) rfl (Or.inl rfl) (by first | exact .inl rfl | exact .inr rfl) Nms.nil)) rfl rfl zc1 Boot.«enumerate» (zaa (dv 0) zae) (zah (zat (PDW.pt (zbI (zar (zsE hr) (dv 2) (zfH (dv 0) zfu (zdP (dv 1))) rfl) (zcp (zck (zbx (zfI zf1 rfl zbt rfl zef Boot.«tuple» (dv 2))))))) (zag (zao zdt)) zay) (zah (zap (i:=3) zfU.nd rfl (Or.inl rfl) (zaX zae)) (zah (zat (zar (zaH hr) (zan (dv 2) zac (λ_ _=>rfl)) zai (zaq _)) (zag (zap (i:=3) zfU.nd rfl (Or.inl rfl) (zaX (zaa (zan (dv 2) zac (λ_ _=>rfl)) zae)))) zay) (zah (zat (PDW.pt (zbI (zar (zaH hr) (zan (dv 2) zac (λ_ _=>rfl)) zai (zaq _)) (zbI (zar (zaH hr) (zan (dv 2) zac (λ_ _=>rfl)) zai (zaq _)) (zcp (zar (zaH hr) (zan (dv 2) zac (λ_ _=>rfl)) zai (zaq _)))))) (zag (zap (i:=3) zfU.nd rfl (Or.inl rfl) (zaX (zaa (zan (dv 2) zac (λ_ _=>rfl)) (zaa (zan (dv 2) zac (λ_ _=>rfl)) zae))))) zay) (zag (zlP (i:=4) PassesOwn.never rfl zfU.nd rfl (Or.inl rfl) (dv 3) (zag (zat (PDW.pt (zbI (zck (zbx (zaR zmg hr (zaa (dv 4) zae)))) (zbI (zar zei (dv 4) zac (zaq _)) (zcp (zar zng (dv 4) (dv 1) (zaq _)))))) (zag (zao zdt)) zay))))))))) (zag (zao zdt))),λds S Q ex h=>by
  unfold zgF at h
  split at h
  ·rename_i p
   obtain⟨ns,hs,hp,nok,h⟩:=h
   refine znU (n:=p) (xs:=ns.map Nd.d) (S1:=S) (λk dl' S'=>Pre S S'∧∃o1 o2 o3 o4:Option D,dl'=[some (.ref p),o1,o2,o3,o4]) (λK hK=>by exact hK) (λk dl' S' w=>w.1 _ _ hp) ⟨Pre.refl,none,none,none,none,rfl⟩ ?_ ?_
   ·rintro k x dl' S' nx ct hx ⟨pS,o1,o2,o3,o4,rfl⟩ hnx
    have hk:k<ns.length:=by have:=(Vaf.mp hx).1; simpa using this
    obtain⟨v,f1,f2,f3,f4,f5,f6,f7⟩:=nok.front k hk
    have ex':x=v.d:=by
     rw[Vao,f1] at hx
     exact(Option.some.inj hx).symm
    subst ex'
    have hl:(hs.take k).length=k:=by rw[VaR]; have:=nok.len; omega
    refine zf0 (n:=p) (o:=.lst (ns.map Nd.d)) (S3:=S') (lo:=none) (hi:=some (k:Int)) (λK hK=>by exact hK) (λK hK=>by exact hK) (λK hK=>by exact hK) (pS _ _ hp) ?_
    rw[show zax (.lst (ns.map Nd.d))=ns.map Nd.d from rfl,zpd,← List.map_take]
    refine zrq (v:=v) (ns:=ns.take k) (zaj _ _) ?_
    rw[f4]
    have pS1:Pre S (S'++[Ob.lst ((ns.take k).map Nd.d)]):=zaA pS _
    generalize S'++[Ob.lst ((ns.take k).map Nd.d)]=S1 at pS1 ⊢
    cases v with
    | number t b=>
     refine zeO (n:=S1.length) (o:=.lst []) (λx=>∃i:Int,x=.int i∧0≤i∧i<(k:Int)) (zaj _ _) (show 4<5 by decide) (λx hx=>?_) ?_ (λv=>?_)
     ·cases hx
     ·rintro x nx2 ct2 ⟨i,rfl,i0,ik⟩ hn2
      refine ifD (λc1=>absurd c1 (by omega)) (λc1=>?_)
      refine ifD (λc2=>absurd c2 (by omega)) (λc2=>?_)
      exact hn2
     ·exact hnx _ _ ⟨zaA pS1 _,_,_,_,_,rfl⟩
    | unknown u=>
     refine zeO (n:=S1.length) (o:=.lst []) (λx=>∃i:Int,x=.int i∧0≤i∧i<(k:Int)) (zaj _ _) (show 4<5 by decide) (λx hx=>?_) ?_ (λv=>?_)
     ·cases hx
     ·rintro x nx2 ct2 ⟨i,rfl,i0,ik⟩ hn2
      refine ifD (λc1=>absurd c1 (by omega)) (λc1=>?_)
      refine ifD (λc2=>absurd c2 (by omega)) (λc2=>?_)
      exact hn2
     ·exact hnx _ _ ⟨zaA pS1 _,_,_,_,_,rfl⟩
    | power i n=>
     have hi:=f3.1
     unfold inL at hi
     rw[hl] at hi
     refine zeO (n:=(S1++[Ob.lst []]).length) (o:=.lst [.int i]) (λx=>∃i:Int,x=.int i∧0≤i∧i<(k:Int)) (zaj _ _) (show 4<5 by decide) (λx hx=>?_) ?_ (λv=>?_)
     ·exact⟨i,Vas.mp hx,hi.1,hi.2⟩
     ·rintro x nx2 ct2 ⟨i,rfl,i0,ik⟩ hn2
      refine ifD (λc1=>absurd c1 (by omega)) (λc1=>?_)
      refine ifD (λc2=>absurd c2 (by omega)) (λc2=>?_)
      exact hn2
     ·exact hnx _ _ ⟨zaA (zaA pS1 _) _,_,_,_,_,rfl⟩
    | two x i j=>
     obtain⟨fx,hi,hj⟩:=f3
     unfold inL at hi hj
     rw[hl] at hi hj
     rcases fx with rfl | rfl | rfl
     ·skip
      refine zeO (n:=(S1++[Ob.lst []]).length) (o:=.lst [.int i,.int j]) (λx=>∃i:Int,x=.int i∧0≤i∧i<(k:Int)) (zaj _ _) (show 4<5 by decide) (λx hx=>?_) ?_ (λv=>?_)
      ·rcases Vab.mp hx with hx | hx
       ·exact⟨i,hx,hi.1,hi.2⟩
       ·exact⟨j,Vas.mp hx,hj.1,hj.2⟩
      ·rintro x nx2 ct2 ⟨i,rfl,i0,ik⟩ hn2
       refine ifD (λc1=>absurd c1 (by omega)) (λc1=>?_)
       refine ifD (λc2=>absurd c2 (by omega)) (λc2=>?_)
       exact hn2
      ·exact hnx _ _ ⟨zaA (zaA pS1 _) _,_,_,_,_,rfl⟩
     ·skip
      refine zeO (n:=(S1++[Ob.lst []]).length) (o:=.lst [.int i,.int j]) (λx=>∃i:Int,x=.int i∧0≤i∧i<(k:Int)) (zaj _ _) (show 4<5 by decide) (λx hx=>?_) ?_ (λv=>?_)
      ·rcases Vab.mp hx with hx | hx
       ·exact⟨i,hx,hi.1,hi.2⟩
       ·exact⟨j,Vas.mp hx,hj.1,hj.2⟩
      ·rintro x nx2 ct2 ⟨i,rfl,i0,ik⟩ hn2
       refine ifD (λc1=>absurd c1 (by omega)) (λc1=>?_)
       refine ifD (λc2=>absurd c2 (by omega)) (λc2=>?_)
       exact hn2
      ·exact hnx _ _ ⟨zaA (zaA pS1 _) _,_,_,_,_,rfl⟩
     ·skip
      refine zeO (n:=(S1++[Ob.lst []]).length) (o:=.lst [.int i,.int j]) (λx=>∃i:Int,x=.int i∧0≤i∧i<(k:Int)) (zaj _ _) (show 4<5 by decide) (λx hx=>?_) ?_ (λv=>?_)
      ·rcases Vab.mp hx with hx | hx
       ·exact⟨i,hx,hi.1,hi.2⟩
       ·exact⟨j,Vas.mp hx,hj.1,hj.2⟩
      ·rintro x nx2 ct2 ⟨i,rfl,i0,ik⟩ hn2
       refine ifD (λc1=>absurd c1 (by omega)) (λc1=>?_)
       refine ifD (λc2=>absurd c2 (by omega)) (λc2=>?_)
       exact hn2
      ·exact hnx _ _ ⟨zaA (zaA pS1 _) _,_,_,_,_,rfl⟩
   ·rintro dl' S' ⟨pS,o1,o2,o3,o4,rfl⟩
    exact h S' pS
  ·exact h.elim⟩)
def zxe  (zje:Df K mg "_law_level" zjm zfc):Fk P w K mg base 1 "_law_level" zfc zf4:=
 zje.mk' (zaO (k:=0) zje.F zrI (zue) λcdv A outer s H E hr=>⟨_,(zah (zat (PDW.pt (zbI (zar (zaH hr) (zan (dv 0) zac (λ_ _=>rfl)) zai (zaq _)) (zcp (zar (zaH hr) (zan (dv 0) zac (λ_ _=>rfl)) zai (zaq _))))) (zag (zao zac)) zay) (zah (zat (zar (zaH hr) (zan (dv 0) zac (λ_ _=>rfl)) zai (zaq _)) (zag (zao zac)) zay) (zah (zat (zar (zaH hr) (zan (dv 0) zac (λ_ _=>rfl)) zai (zaq _)) (zag (zao zac)) zay) (zag (zao zac))))),λds S Q ex h=>by
  unfold zf4 at h
  split at h
  ·obtain⟨t,rfl,h⟩:=h
   cases t with
   | nm w=>exact h
   | nb t b=>exact h
   | pw t k=>exact h
   | bi d l r=>
    match d with
    | 0=>exact h
    | 1=>exact h
    | d+2=>exact h
  ·exact h.elim⟩)
def zvY  (ziE:Df K mg "_law_number" zkf zfJ)(za8:mg "str"=none):Fk P w K mg base 1 "_law_number" zfJ zfw:=
 ziE.mk' (zaO (k:=0) ziE.F zrb (zxa) λcdv A outer s H E hr=>⟨_,(zah (zat (zar (zaH hr) (dv 1) zac (zaq _)) (zag (zao (zcx (zbo ze0) rfl za8 Boot.«str» (zaa (dv 0) zae)))) zay) (zag (zao (zak zcM (zak zcM (zcx (zbo ze0) rfl za8 Boot.«str» (zaa (dv 0) zae)) zai) (zcx (zbo ze0) rfl za8 Boot.«str» (zaa (dv 1) zae)))))),λds S Q ex h=>by
  unfold zfw at h
  split at h
  ·rename_i t b
   obtain⟨⟨ht,b1,hb⟩,h⟩:=h
   have lt:=zgb (k:=9) (by decide) ht
   have lb:=zgb (i:=b) (k:=9) (by decide) (by omega)
   refine ifD (λe=>?_) (λe=>?_)
   ·refine zeV (zgr (k:=9) ht (by decide)) ?_
    rw[zeK]
    have et:za5 t b=num t:=by unfold za5; rw[if_pos e,Vav]
    rw[et] at h
    exact h
   ·refine zeV (zgr (k:=9) ht (by decide)) ?_
    rw[zeK]
    refine⟨by rw[zbL]; show _+1≤1000; omega,?_⟩
    refine zeV (zgr (k:=9) (by omega) (by decide)) ?_
    rw[zeK]
    have s1:mk (num t)++("/":Str)=mk (num t++[47]):=by rw[zjv]; exact zhe (num t) [47]
    have et:mk (num t)++("/":Str)++mk (num b)=mk (za5 t b):=by
     rw[s1,zhe,Vaw]
     unfold za5
     rw[if_neg e]
     rfl
    refine⟨by rw[s1,zbL,zbL]; simp; omega,?_⟩
    show Q (.str (mk (num t)++("/":Str)++mk (num b))) S
    rw[et]
    exact h
  ·exact h.elim⟩)
def zv6  (n:Nat)(zd7:Df K mg "_law_words" zh9 zdk)(zfi:Fk P w K mg base 1 "_law_level" zfc zf4)(zbA:Fk P w K mg base (1+1*n) "_law_words" zdk (zdl n))(zfa:Fk P w K mg base 1 "_law_number" zfJ zfw)(za8:mg "str"=none):Fk P w K mg base (1+1*n+1) "_law_words" zdk (zdl (n+1)):=
 zd7.mk' (zaO (k:=(1+1*n+0)) zd7.F zgl (ztZ (n+1)) λcdv A outer s H E hr=>⟨_,(zah (zat (zar (zaH hr) (zan (dv 0) zac (λ_ _=>rfl)) zai (zaq _)) (zag (zao (zaX (zaa (zan (dv 0) zac (λ_ _=>rfl)) zae)))) zay) (zah (zat (zar (zaH hr) (zan (dv 0) zac (λ_ _=>rfl)) zai (zaq _)) (zag (zao (zaX (zaa (za6 zfa (hr.mono (by omega)) zaG rfl (zaa (zan (dv 0) zac (λ_ _=>rfl)) (zaa (zan (dv 0) zac (λ_ _=>rfl)) zae))) zae)))) zay) (zah (zat (zar (zaH hr) (zan (dv 0) zac (λ_ _=>rfl)) zai (zaq _)) (zag (zap (i:=2) zgl.nd rfl (Or.inl rfl) (zak zbV (za6 zbA (hr.mono (by omega)) zaG rfl (zaa (zan (dv 0) zac (λ_ _=>rfl)) (zaa zac zae))) (zaX (zaa zai (zaa (zcx (zbo ze0) rfl za8 Boot.«str» (zaa (zan (dv 0) zac (λ_ _=>rfl)) zae)) zae)))))) (zag (zat (zar (zaH hr) (zan (dv 0) zac (λ_ _=>rfl)) zai (zaq _)) (zag (zap (i:=2) zgl.nd rfl (Or.inl rfl) (zak zbV (zak zbV (za6 zbA (hr.mono (by omega)) zaG rfl (zaa (zan (dv 0) zac (λ_ _=>rfl)) (zaa zac zae))) (zaX (zaa zai zae))) (za6 zbA (hr.mono (by omega)) zaG rfl (zaa (zan (dv 0) zac (λ_ _=>rfl)) (zaa zac zae)))))) (zag (zat (zar (zaH hr) (zan (dv 0) zac (λ_ _=>rfl)) zai (zaq _)) (zag (zap (i:=2) zgl.nd rfl (Or.inl rfl) (zak zbV (zak zbV (za6 zbA (hr.mono (by omega)) zaG rfl (zaa (zan (dv 0) zac (λ_ _=>rfl)) (zaa zac zae))) (zaX (zaa zai zae))) (za6 zbA (hr.mono (by omega)) zaG rfl (zaa (zan (dv 0) zac (λ_ _=>rfl)) (zaa zac zae)))))) (zag (zap (i:=2) zgl.nd rfl (Or.inl rfl) (zak zbV (zak zbV (za6 zbA (hr.mono (by omega)) zaG rfl (zaa (zan (dv 0) zac (λ_ _=>rfl)) (zaa zac zae))) (zaX (zaa zai zae))) (za6 zbA (hr.mono (by omega)) zaG rfl (zaa (zan (dv 0) zac (λ_ _=>rfl)) (zaa zac zae))))))))))) (zah (zat (zar zei (za6 zfi (hr.mono (by omega)) zaG rfl (zaa (dv 0) zae)) (dv 1) (zaq _)) (zag (zao (zak zbV (zak zbV (zaX (zaa zai zae)) (dv 2)) (zaX (zaa zai zae))))) zay) (zag (zao (dv 2))))))),λds S Q ex h=>by
  unfold zdl at h
  split at h
  ·rename_i d lv
   obtain⟨t,v,rfl,rfl,v3,hd,gd,at_,l2,h⟩:=h
   have w1l:=zeF t
   refine cutE (α:=Nat×List Str×Nat×Sto) (λa=>match a with | ⟨m,_,_,_⟩=>[some (trD t),some (.int (v:Int)),some (.ref m)]) (λa=>match a with | ⟨_,_,_,T⟩=>T) (λa=>match a with | ⟨m,ws,k,T⟩=>Pre S T∧WsAt T m ws∧exP t.lv k ws t∧k+1≤t.dp∧ws.length+2≤t.w1) (λmain=>?_) ?_
   ·cases t with
    | nm w=>
     obtain⟨n0,w0,ec⟩:=AtT.name at_
     have x:=zg0 n0
     rw[ec] at x
     exact h _ _ [mk w] 3 0 (zaA Pre.refl _) ⟨zaj _ _,λy hy=>by rw[Vas.mp hy]; exact w0⟩ x v3 (Vaz _) (Vaa _)
    | nb t b=>
     obtain⟨n0,n1⟩:=at_
     refine⟨⟨n0.top,n0.pos,n0.bot⟩,?_⟩
     exact h _ _ [mk (za5 t b)] 3 0 (zaA Pre.refl _) ⟨zaj _ _,λy hy=>by rw[Vas.mp hy]; exact zqC n1⟩ (zqO n0) v3 (Vaz _) (Vaa _)
    | pw t k=>
     have hd':t.dp+1<n+1:=hd
     have lw:t.wl+4≤200:=l2
     have lw1:t.w1+4≤t.wl+4:=w1l
     refine⟨t,3,rfl,rfl,by decide,by omega,gd.1,at_,by omega,λT m1 w1 l1 k1 p1 a1 x1 v1 d1 n1=>?_⟩
     have el:l1=3:=by have:=zf6 x1; omega
     subst el
     obtain⟨pv0,pl0⟩:=zm2 gd.2
     refine zeV (zno gd.2) ?_
     rw[zeK]
     refine zbe (xs:=w1.map D.str) (ys:=[.str "^",.str (mk (num k))]) (zaw a1.at_) (zaj _ _) (by rw[Vac]; show w1.length+2≤1000; omega) ?_
     rw[show w1.map D.str++[.str "^",.str (mk (num k))]=(w1++[("^":Str),mk (num k)]).map D.str by simp]
     refine main (_,w1++[("^":Str),mk (num k)],k1,_) ⟨zaA (zaA p1 _) _,⟨zaj _ _,λw hw=>?_⟩,Ex.pow (a:=("^":Str)) (by decide) (zdN _ _ pv0) pv0 x1,by show k1+1≤t.dp+1; omega,by show (w1++[("^":Str),mk (num k)]).length+2≤t.w1+4; simp; omega⟩
     simp only[Vae,Vab,Vag,or_false] at hw
     rcases hw with hw | rfl | rfl
     ·exact a1.ok w hw
     ·exact zbp (by decide)
     ·exact zpM gd.2
    | bi d l r=>
     have hd':max l.dp r.dp+1<n+1:=hd
     have lw:l.wl+r.wl+3≤200:=l2
     have lw1:=zeF l
     have lw2:=zeF r
     match d,gd with
     | 0,gd=>
     refine⟨l,0,rfl,rfl,by decide,by omega,gd.1,at_.1,by omega,λT m1 w1 l1 k1 p1 a1 x1 v1 d1 n1=>?_⟩
     refine zbe (xs:=w1.map D.str) (ys:=[.str "+"]) (zaw a1.at_) (zaj _ _) (by rw[Vac]; show w1.length+1≤1000; omega) ?_
     have q1:Pre S (T++[Ob.lst [.str "+"]]++[Ob.lst (w1.map D.str++[.str "+"])]):=zaA (zaA p1 _) _
     have b1:(T++[Ob.lst [.str "+"]]++[Ob.lst (w1.map D.str++[.str "+"])])[(T++[Ob.lst [.str "+"]]).length]?=some (.lst (w1.map D.str++[.str "+"])):=zaj _ _
     generalize (T++[Ob.lst [.str "+"]]).length=mm at b1 ⊢
     generalize T++[Ob.lst [.str "+"]]++[Ob.lst (w1.map D.str++[.str "+"])]=T1 at q1 b1 ⊢
     refine⟨r,1,rfl,rfl,by decide,by omega,gd.2.1,at_.2,by omega,λT2 m2 w2 l2 k2 p2 a2 x2 v2 d2 n2=>?_⟩
     refine zbe (xs:=w1.map D.str++[.str "+"]) (ys:=w2.map D.str) (p2 _ _ b1) a2.at_ (by rw[Vad,Vac,Vac]; show w1.length+1+w2.length≤1000; omega) ?_
     rw[show w1.map D.str++[.str "+"]++w2.map D.str=(w1++("+":Str)::w2).map D.str by simp]
     refine main (_,w1++("+":Str)::w2,max k1 k2,_) ⟨zaA (λx o e=>p2 x o (q1 x o e)) _,⟨zaj _ _,λw hw=>?_⟩,Ex.sum (a:=("+":Str)) (n:=0) (by decide) v2 x1 x2,by show max k1 k2+1≤max l.dp r.dp+1; omega,by show (w1++("+":Str)::w2).length+2≤l.w1+r.w1+3; simp; omega⟩
     rcases Vae.1 hw with hw | hw
     ·exact a1.ok w hw
     ·rcases Vab.mp hw with rfl | hw
      ·exact zbp (by decide)
      ·exact a2.ok w hw
     | 1,gd=>
     refine⟨l,0,rfl,rfl,by decide,by omega,gd.1,at_.1,by omega,λT m1 w1 l1 k1 p1 a1 x1 v1 d1 n1=>?_⟩
     refine zbe (xs:=w1.map D.str) (ys:=[.str "-"]) (zaw a1.at_) (zaj _ _) (by rw[Vac]; show w1.length+1≤1000; omega) ?_
     have q1:Pre S (T++[Ob.lst [.str "-"]]++[Ob.lst (w1.map D.str++[.str "-"])]):=zaA (zaA p1 _) _
     have b1:(T++[Ob.lst [.str "-"]]++[Ob.lst (w1.map D.str++[.str "-"])])[(T++[Ob.lst [.str "-"]]).length]?=some (.lst (w1.map D.str++[.str "-"])):=zaj _ _
     generalize (T++[Ob.lst [.str "-"]]).length=mm at b1 ⊢
     generalize T++[Ob.lst [.str "-"]]++[Ob.lst (w1.map D.str++[.str "-"])]=T1 at q1 b1 ⊢
     refine⟨r,1,rfl,rfl,by decide,by omega,gd.2.1,at_.2,by omega,λT2 m2 w2 l2 k2 p2 a2 x2 v2 d2 n2=>?_⟩
     refine zbe (xs:=w1.map D.str++[.str "-"]) (ys:=w2.map D.str) (p2 _ _ b1) a2.at_ (by rw[Vad,Vac,Vac]; show w1.length+1+w2.length≤1000; omega) ?_
     rw[show w1.map D.str++[.str "-"]++w2.map D.str=(w1++("-":Str)::w2).map D.str by simp]
     refine main (_,w1++("-":Str)::w2,max k1 k2,_) ⟨zaA (λx o e=>p2 x o (q1 x o e)) _,⟨zaj _ _,λw hw=>?_⟩,Ex.sum (a:=("-":Str)) (n:=1) (by decide) v2 x1 x2,by show max k1 k2+1≤max l.dp r.dp+1; omega,by show (w1++("-":Str)::w2).length+2≤l.w1+r.w1+3; simp; omega⟩
     rcases Vae.1 hw with hw | hw
     ·exact a1.ok w hw
     ·rcases Vab.mp hw with rfl | hw
      ·exact zbp (by decide)
      ·exact a2.ok w hw
     | 2,gd=>
     refine⟨l,1,rfl,rfl,by decide,by omega,gd.1,at_.1,by omega,λT m1 w1 l1 k1 p1 a1 x1 v1 d1 n1=>?_⟩
     refine zbe (xs:=w1.map D.str) (ys:=[.str "*"]) (zaw a1.at_) (zaj _ _) (by rw[Vac]; show w1.length+1≤1000; omega) ?_
     have q1:Pre S (T++[Ob.lst [.str "*"]]++[Ob.lst (w1.map D.str++[.str "*"])]):=zaA (zaA p1 _) _
     have b1:(T++[Ob.lst [.str "*"]]++[Ob.lst (w1.map D.str++[.str "*"])])[(T++[Ob.lst [.str "*"]]).length]?=some (.lst (w1.map D.str++[.str "*"])):=zaj _ _
     generalize (T++[Ob.lst [.str "*"]]).length=mm at b1 ⊢
     generalize T++[Ob.lst [.str "*"]]++[Ob.lst (w1.map D.str++[.str "*"])]=T1 at q1 b1 ⊢
     refine⟨r,2,rfl,rfl,by decide,by omega,gd.2.1,at_.2,by omega,λT2 m2 w2 l2 k2 p2 a2 x2 v2 d2 n2=>?_⟩
     refine zbe (xs:=w1.map D.str++[.str "*"]) (ys:=w2.map D.str) (p2 _ _ b1) a2.at_ (by rw[Vad,Vac,Vac]; show w1.length+1+w2.length≤1000; omega) ?_
     rw[show w1.map D.str++[.str "*"]++w2.map D.str=(w1++("*":Str)::w2).map D.str by simp]
     refine main (_,w1++("*":Str)::w2,max k1 k2,_) ⟨zaA (λx o e=>p2 x o (q1 x o e)) _,⟨zaj _ _,λw hw=>?_⟩,Ex.tim (a:=("*":Str)) (by decide) v1 v2 x1 x2,by show max k1 k2+1≤max l.dp r.dp+1; omega,by show (w1++("*":Str)::w2).length+2≤l.w1+r.w1+3; simp; omega⟩
     rcases Vae.1 hw with hw | hw
     ·exact a1.ok w hw
     ·rcases Vab.mp hw with rfl | hw
      ·exact zbp (by decide)
      ·exact a2.ok w hw
     | d+3,gd=>exact absurd gd.2.2 (by omega)
   ·rintro⟨m,ws,k,T⟩ ⟨pT,wa,x,kd,wn⟩
    refine⟨t,rfl,?_⟩
    refine ifD (λc1=>?_) (λc1=>?_)
    ·refine zbe (xs:=[.str "("]) (ys:=ws.map D.str) (zaj _ _) (zaw wa.at_) (by rw[Vac]; show 1+ws.length≤1000; omega) ?_
     refine zbe (xs:=[.str "("]++ws.map D.str) (ys:=[.str ")"]) (zaw (zaj _ _)) (zaj _ _) (by rw[Vad,Vac]; show 1+ws.length+1≤1000; omega) ?_
     refine h _ _ (("(":Str)::ws++[(")":Str)]) 3 (k+1) (zaA (zaA (zaA (zaA pT _) _) _) _) ⟨by rw[zaj]; simp,λw hw=>?_⟩ (Ex.shut (by decide) (by decide) x) v3 kd (by simp; omega)
     simp only[VaD,Vab,Vae,Vag,or_false] at hw
     rcases hw with rfl | hw | rfl
     ·exact zbp (by decide)
     ·exact wa.ok w hw
     ·exact zbp (by decide)
    ·exact h T m ws t.lv k pT wa x (by omega) (by omega) (by omega)
  ·exact h.elim⟩)
def zpJ (zd7:Df K mg "_law_words" zh9 zdk)(zfi:Fk P w K mg base 1 "_law_level" zfc zf4)(zfa:Fk P w K mg base 1 "_law_number" zfJ zfw)(za8:mg "str"=none):(n:Nat)→Fk P w K mg base (1+1*n) "_law_words" zdk (zdl n)
 | 0=>zd7.vac _ λds S Q ex h=>by
  unfold zdl at h
  split at h
  ·obtain⟨t,v,_,_,_,h1,_⟩:=h
   omega
  ·exact h.elim
 | n+1=>
  let zbA:=zpJ zd7 zfi zfa za8 n
  zv6 n zd7 zfi zbA zfa za8
def zsH  (n:Nat)(zeb:Df K mg "_law_full" zgK zd6)(zdv:Fk P w K mg base (13+1*n) "_law_full" zd6 (zej n))(zbA:Fk P w K mg base 13 "_law_words" zdk (zdl 12))(za8:mg "str"=none):Fk P w K mg base (13+1*n+1) "_law_full" zd6 (zej (n+1)):=
 zeb.mk' (zaO (k:=(13+1*n+0)) zeb.F zkn (zt3 (n+1)) λcdv A outer s H E hr=>⟨_,(zah (zat (PDW.pt (zbI (zar (zaH hr) (zan (dv 0) zac (λ_ _=>rfl)) zai (zaq _)) (zcp (zar (zaH hr) (zan (dv 0) zac (λ_ _=>rfl)) zai (zaq _))))) (zah (zat (zar (zaH hr) (zak zbM (dv 1) zac) zac (zaq _)) (zag (zao (zak zbV (zak zbV (zaX (zaa zai zae)) (za6 zbA (hr.mono (by omega)) zaG rfl (zaa (dv 0) (zaa zac zae)))) (zaX (zaa zai zae))))) zay) (zag (zao (za6 zbA (hr.mono (by omega)) zaG rfl (zaa (dv 0) (zaa zac zae)))))) zay) (zah (zat (zar (zaH hr) (zan (dv 0) zac (λ_ _=>rfl)) zai (zaq _)) (zag (zao (zak zbV (zak zbV (zaX (zaa zai zae)) (za6 zdv (hr.mono (by omega)) zaG rfl (zaa (zan (dv 0) zac (λ_ _=>rfl)) (zaa (dv 1) zae)))) (zaX (zaa zai (zaa (zcx (zbo ze0) rfl za8 Boot.«str» (zaa (zan (dv 0) zac (λ_ _=>rfl)) zae)) (zaa zai zae))))))) zay) (zah (zap (i:=2) zkn.nd rfl (Or.inl rfl) zai) (zah (zat (zar (zaH hr) (zan (dv 0) zac (λ_ _=>rfl)) zai (zaq _)) (zag (zap (i:=2) zkn.nd rfl (Or.inl rfl) zai)) zay) (zah (zat (zar (zaH hr) (zan (dv 0) zac (λ_ _=>rfl)) zai (zaq _)) (zag (zap (i:=2) zkn.nd rfl (Or.inl rfl) zai)) zay) (zag (zao (zak zbV (zak zbV (zak zbV (zak zbV (zaX (zaa zai zae)) (za6 zdv (hr.mono (by omega)) zaG rfl (zaa (zan (dv 0) zac (λ_ _=>rfl)) (zaa (dv 1) zae)))) (zaX (zaa (dv 2) zae))) (za6 zdv (hr.mono (by omega)) zaG rfl (zaa (zan (dv 0) zac (λ_ _=>rfl)) (zaa (dv 1) zae)))) (zaX (zaa zai zae)))))))))),λds S Q ex h=>by
  unfold zej at h
  split at h
  ·rename_i d wy
   obtain⟨t,rfl,hd,gd,at_,l2,h⟩:=h
   cases t with
   | nm w=>
    refine ifD (λc1=>?_) (λc1=>?_)
    ·refine⟨_,3,rfl,rfl,Vaa _,Nat.zero_lt_succ _,gd,at_,l2,λT m ws l k pT wa x v3 kd wn=>?_⟩
     have el:l=3:=by have:=zf6 x; omega
     subst el
     have k0:k≤0:=kd
     have n1:ws.length≤1:=wn
     have la:(S++[Ob.lst [.str "("]])[S.length]?=some (.lst [.str "("]):=zaj _ _
     refine zbe (xs:=[.str "("]) (ys:=ws.map D.str) (pT _ _ la) wa.at_ (by rw[Vac]; show 1+ws.length≤1000; omega) ?_
     refine zbe (xs:=[.str "("]++ws.map D.str) (ys:=[.str ")"]) (zaw (zaj _ _)) (zaj _ _) (by rw[Vad,Vac]; show 1+ws.length+1≤1000; omega) ?_
     refine h _ _ (("(":Str)::ws++[(")":Str)]) (k+1) (zaA (zaA (zaA (λx o e=>pT x o (zaw e)) _) _) _) ⟨by rw[zaj]; simp,λw hw=>?_⟩ (Ex.shut (by decide) (by decide) x) (by show k+1≤0+1; omega) (by show _≤3; simp; omega)
     simp only[VaD,Vab,Vae,Vag,or_false] at hw
     rcases hw with rfl | hw | rfl
     ·exact zbp (by decide)
     ·exact wa.ok w hw
     ·exact zbp (by decide)
    ·refine⟨_,3,rfl,rfl,Vaa _,Nat.zero_lt_succ _,gd,at_,l2,λT m ws l k pT wa x v3 kd wn=>?_⟩
     have el:l=3:=by have:=zf6 x; omega
     subst el
     have k0:k≤0:=kd
     have n1:ws.length≤1:=wn
     exact h T m ws k pT wa x (by show k≤0+1; omega) (by show _≤3; omega)
   | nb t b=>
    refine ifD (λc1=>?_) (λc1=>?_)
    ·refine⟨_,3,rfl,rfl,Vaa _,Nat.zero_lt_succ _,gd,at_,l2,λT m ws l k pT wa x v3 kd wn=>?_⟩
     have el:l=3:=by have:=zf6 x; omega
     subst el
     have k0:k≤0:=kd
     have n1:ws.length≤1:=wn
     have la:(S++[Ob.lst [.str "("]])[S.length]?=some (.lst [.str "("]):=zaj _ _
     refine zbe (xs:=[.str "("]) (ys:=ws.map D.str) (pT _ _ la) wa.at_ (by rw[Vac]; show 1+ws.length≤1000; omega) ?_
     refine zbe (xs:=[.str "("]++ws.map D.str) (ys:=[.str ")"]) (zaw (zaj _ _)) (zaj _ _) (by rw[Vad,Vac]; show 1+ws.length+1≤1000; omega) ?_
     refine h _ _ (("(":Str)::ws++[(")":Str)]) (k+1) (zaA (zaA (zaA (λx o e=>pT x o (zaw e)) _) _) _) ⟨by rw[zaj]; simp,λw hw=>?_⟩ (Ex.shut (by decide) (by decide) x) (by show k+1≤0+1; omega) (by show _≤3; simp; omega)
     simp only[VaD,Vab,Vae,Vag,or_false] at hw
     rcases hw with rfl | hw | rfl
     ·exact zbp (by decide)
     ·exact wa.ok w hw
     ·exact zbp (by decide)
    ·refine⟨_,3,rfl,rfl,Vaa _,Nat.zero_lt_succ _,gd,at_,l2,λT m ws l k pT wa x v3 kd wn=>?_⟩
     have el:l=3:=by have:=zf6 x; omega
     subst el
     have k0:k≤0:=kd
     have n1:ws.length≤1:=wn
     exact h T m ws k pT wa x (by show k≤0+1; omega) (by show _≤3; omega)
   | pw t p=>
    have hd':t.dp+1<n+1:=hd
    have lw:t.wl+4≤200:=l2
    have la:(S++[Ob.lst [.str "("]])[S.length]?=some (.lst [.str "("]):=zaj _ _
    refine⟨t,rfl,by omega,gd.1,at_,by omega,λT m1 w1 k1 p1 a1 x1 d1 n1=>?_⟩
    refine zbe (xs:=[.str "("]) (ys:=w1.map D.str) (p1 _ _ la) a1.at_ (by rw[Vac]; show 1+w1.length≤1000; omega) ?_
    obtain⟨pv0,pl0⟩:=zm2 gd.2
    refine zeV (zno gd.2) ?_
    rw[zeK]
    refine zbe (xs:=[.str "("]++w1.map D.str) (ys:=[.str "^",.str (mk (num p)),.str ")"]) (zaw (zaj _ _)) (zaj _ _) (by rw[Vad,Vac]; show 1+w1.length+3≤1000; omega) ?_
    refine h _ _ (("(":Str)::(w1++[("^":Str),mk (num p)])++[(")":Str)]) (k1+1) (zaA (zaA (zaA (λx o e=>p1 x o (zaw e)) _) _) _) ⟨by rw[zaj]; simp,λw hw=>?_⟩ (Ex.shut (by decide) (by decide) (Ex.pow (a:=("^":Str)) (by decide) (zdN _ _ pv0) pv0 x1)) (by show k1+1≤t.dp+1+1; omega) (by show _≤t.wl+4; simp; omega)
    simp only[VaD,Vab,Vae,Vag,or_false] at hw
    rcases hw with rfl | (hw | rfl | rfl) | rfl
    ·exact zbp (by decide)
    ·exact a1.ok w hw
    ·exact zbp (by decide)
    ·exact zpM gd.2
    ·exact zbp (by decide)
   | bi d l r=>
    have hd':max l.dp r.dp+1<n+1:=hd
    have lw:l.wl+r.wl+3≤200:=l2
    match d,gd with
    | 0,gd=>
     have la:(S++[Ob.lst [.str "("]])[S.length]?=some (.lst [.str "("]):=zaj _ _
     refine⟨l,rfl,by omega,gd.1,at_.1,by omega,λT m1 w1 k1 p1 a1 x1 d1 n1=>?_⟩
     refine zbe (xs:=[.str "("]) (ys:=w1.map D.str) (p1 _ _ la) a1.at_ (by rw[Vac]; show 1+w1.length≤1000; omega) ?_
     refine zbe (xs:=[.str "("]++w1.map D.str) (ys:=[.str "+"]) (zaw (zaj _ _)) (zaj _ _) (by rw[Vad,Vac]; show 1+w1.length+1≤1000; omega) ?_
     have q1:Pre S (T++[Ob.lst ([.str "("]++w1.map D.str)]++[Ob.lst [.str "+"]]++[Ob.lst ([.str "("]++w1.map D.str++[.str "+"])]):=zaA (zaA (zaA (λx o e=>p1 x o (zaw e)) _) _) _
     have b1:(T++[Ob.lst ([.str "("]++w1.map D.str)]++[Ob.lst [.str "+"]]++[Ob.lst ([.str "("]++w1.map D.str++[.str "+"])])[(T++[Ob.lst ([.str "("]++w1.map D.str)]++[Ob.lst [.str "+"]]).length]?=some (.lst ([.str "("]++w1.map D.str++[.str "+"])):=zaj _ _
     generalize (T++[Ob.lst ([.str "("]++w1.map D.str)]++[Ob.lst [.str "+"]]).length=mm at b1 ⊢
     generalize T++[Ob.lst ([.str "("]++w1.map D.str)]++[Ob.lst [.str "+"]]++[Ob.lst ([.str "("]++w1.map D.str++[.str "+"])]=T1 at q1 b1 ⊢
     refine⟨r,rfl,by omega,gd.2.1,at_.2,by omega,λT2 m2 w2 k2 p2 a2 x2 d2 n2=>?_⟩
     refine zbe (xs:=[.str "("]++w1.map D.str++[.str "+"]) (ys:=w2.map D.str) (p2 _ _ b1) a2.at_ (by simp only[Vad,Vac]; show 1+w1.length+1+w2.length≤1000; omega) ?_
     refine zbe (xs:=[.str "("]++w1.map D.str++[.str "+"]++w2.map D.str) (ys:=[.str ")"]) (zaw (zaj _ _)) (zaj _ _) (by simp only[Vad,Vac]; show 1+w1.length+1+w2.length+1≤1000; omega) ?_
     refine h _ _ (("(":Str)::(w1++("+":Str)::w2)++[(")":Str)]) (max k1 k2+1) (zaA (zaA (zaA (λx o e=>p2 x o (q1 x o e)) _) _) _) ⟨by rw[zaj]; simp,λw hw=>?_⟩ (Ex.shut (by decide) (by decide) (Ex.sum (a:=("+":Str)) (n:=0) (by decide) (by decide) x1 x2)) (by show max k1 k2+1≤max l.dp r.dp+1+1; omega) (by show _≤l.wl+r.wl+3; simp; omega)
     simp only[VaD,Vab,Vae,Vag,or_false] at hw
     rcases hw with rfl | (hw | rfl | hw) | rfl
     ·exact zbp (by decide)
     ·exact a1.ok w hw
     ·exact zbp (by decide)
     ·exact a2.ok w hw
     ·exact zbp (by decide)
    | 1,gd=>
     have la:(S++[Ob.lst [.str "("]])[S.length]?=some (.lst [.str "("]):=zaj _ _
     refine⟨l,rfl,by omega,gd.1,at_.1,by omega,λT m1 w1 k1 p1 a1 x1 d1 n1=>?_⟩
     refine zbe (xs:=[.str "("]) (ys:=w1.map D.str) (p1 _ _ la) a1.at_ (by rw[Vac]; show 1+w1.length≤1000; omega) ?_
     refine zbe (xs:=[.str "("]++w1.map D.str) (ys:=[.str "-"]) (zaw (zaj _ _)) (zaj _ _) (by rw[Vad,Vac]; show 1+w1.length+1≤1000; omega) ?_
     have q1:Pre S (T++[Ob.lst ([.str "("]++w1.map D.str)]++[Ob.lst [.str "-"]]++[Ob.lst ([.str "("]++w1.map D.str++[.str "-"])]):=zaA (zaA (zaA (λx o e=>p1 x o (zaw e)) _) _) _
     have b1:(T++[Ob.lst ([.str "("]++w1.map D.str)]++[Ob.lst [.str "-"]]++[Ob.lst ([.str "("]++w1.map D.str++[.str "-"])])[(T++[Ob.lst ([.str "("]++w1.map D.str)]++[Ob.lst [.str "-"]]).length]?=some (.lst ([.str "("]++w1.map D.str++[.str "-"])):=zaj _ _
     generalize (T++[Ob.lst ([.str "("]++w1.map D.str)]++[Ob.lst [.str "-"]]).length=mm at b1 ⊢
     generalize T++[Ob.lst ([.str "("]++w1.map D.str)]++[Ob.lst [.str "-"]]++[Ob.lst ([.str "("]++w1.map D.str++[.str "-"])]=T1 at q1 b1 ⊢
     refine⟨r,rfl,by omega,gd.2.1,at_.2,by omega,λT2 m2 w2 k2 p2 a2 x2 d2 n2=>?_⟩
     refine zbe (xs:=[.str "("]++w1.map D.str++[.str "-"]) (ys:=w2.map D.str) (p2 _ _ b1) a2.at_ (by simp only[Vad,Vac]; show 1+w1.length+1+w2.length≤1000; omega) ?_
     refine zbe (xs:=[.str "("]++w1.map D.str++[.str "-"]++w2.map D.str) (ys:=[.str ")"]) (zaw (zaj _ _)) (zaj _ _) (by simp only[Vad,Vac]; show 1+w1.length+1+w2.length+1≤1000; omega) ?_
     refine h _ _ (("(":Str)::(w1++("-":Str)::w2)++[(")":Str)]) (max k1 k2+1) (zaA (zaA (zaA (λx o e=>p2 x o (q1 x o e)) _) _) _) ⟨by rw[zaj]; simp,λw hw=>?_⟩ (Ex.shut (by decide) (by decide) (Ex.sum (a:=("-":Str)) (n:=1) (by decide) (by decide) x1 x2)) (by show max k1 k2+1≤max l.dp r.dp+1+1; omega) (by show _≤l.wl+r.wl+3; simp; omega)
     simp only[VaD,Vab,Vae,Vag,or_false] at hw
     rcases hw with rfl | (hw | rfl | hw) | rfl
     ·exact zbp (by decide)
     ·exact a1.ok w hw
     ·exact zbp (by decide)
     ·exact a2.ok w hw
     ·exact zbp (by decide)
    | 2,gd=>
     have la:(S++[Ob.lst [.str "("]])[S.length]?=some (.lst [.str "("]):=zaj _ _
     refine⟨l,rfl,by omega,gd.1,at_.1,by omega,λT m1 w1 k1 p1 a1 x1 d1 n1=>?_⟩
     refine zbe (xs:=[.str "("]) (ys:=w1.map D.str) (p1 _ _ la) a1.at_ (by rw[Vac]; show 1+w1.length≤1000; omega) ?_
     refine zbe (xs:=[.str "("]++w1.map D.str) (ys:=[.str "*"]) (zaw (zaj _ _)) (zaj _ _) (by rw[Vad,Vac]; show 1+w1.length+1≤1000; omega) ?_
     have q1:Pre S (T++[Ob.lst ([.str "("]++w1.map D.str)]++[Ob.lst [.str "*"]]++[Ob.lst ([.str "("]++w1.map D.str++[.str "*"])]):=zaA (zaA (zaA (λx o e=>p1 x o (zaw e)) _) _) _
     have b1:(T++[Ob.lst ([.str "("]++w1.map D.str)]++[Ob.lst [.str "*"]]++[Ob.lst ([.str "("]++w1.map D.str++[.str "*"])])[(T++[Ob.lst ([.str "("]++w1.map D.str)]++[Ob.lst [.str "*"]]).length]?=some (.lst ([.str "("]++w1.map D.str++[.str "*"])):=zaj _ _
     generalize (T++[Ob.lst ([.str "("]++w1.map D.str)]++[Ob.lst [.str "*"]]).length=mm at b1 ⊢
     generalize T++[Ob.lst ([.str "("]++w1.map D.str)]++[Ob.lst [.str "*"]]++[Ob.lst ([.str "("]++w1.map D.str++[.str "*"])]=T1 at q1 b1 ⊢
     refine⟨r,rfl,by omega,gd.2.1,at_.2,by omega,λT2 m2 w2 k2 p2 a2 x2 d2 n2=>?_⟩
     refine zbe (xs:=[.str "("]++w1.map D.str++[.str "*"]) (ys:=w2.map D.str) (p2 _ _ b1) a2.at_ (by simp only[Vad,Vac]; show 1+w1.length+1+w2.length≤1000; omega) ?_
     refine zbe (xs:=[.str "("]++w1.map D.str++[.str "*"]++w2.map D.str) (ys:=[.str ")"]) (zaw (zaj _ _)) (zaj _ _) (by simp only[Vad,Vac]; show 1+w1.length+1+w2.length+1≤1000; omega) ?_
     refine h _ _ (("(":Str)::(w1++("*":Str)::w2)++[(")":Str)]) (max k1 k2+1) (zaA (zaA (zaA (λx o e=>p2 x o (q1 x o e)) _) _) _) ⟨by rw[zaj]; simp,λw hw=>?_⟩ (Ex.shut (by decide) (by decide) (Ex.tim (a:=("*":Str)) (by decide) (by decide) (by decide) x1 x2)) (by show max k1 k2+1≤max l.dp r.dp+1+1; omega) (by show _≤l.wl+r.wl+3; simp; omega)
     simp only[VaD,Vab,Vae,Vag,or_false] at hw
     rcases hw with rfl | (hw | rfl | hw) | rfl
     ·exact zbp (by decide)
     ·exact a1.ok w hw
     ·exact zbp (by decide)
     ·exact a2.ok w hw
     ·exact zbp (by decide)
    | d+3,gd=>exact absurd gd.2.2 (by omega)
  ·exact h.elim⟩)
def zpx (zeb:Df K mg "_law_full" zgK zd6)(zbA:Fk P w K mg base 13 "_law_words" zdk (zdl 12))(za8:mg "str"=none):(n:Nat)→Fk P w K mg base (13+1*n) "_law_full" zd6 (zej n)
 | 0=>zeb.vac _ λds S Q ex h=>by
  unfold zej at h
  split at h
  ·obtain⟨t,_,h1,_⟩:=h
   omega
  ·exact h.elim
 | n+1=>
  let zdv:=zpx zeb zbA za8 n
  zsH n zeb zdv zbA za8
def zvL  (zad:zcS K mg)(zaf:zcf K mg)(zlo:Df K mg "law" zeT ziH)(zbT:Fm P w K mg base 2 zad.C "nodes" zhh (zhV zaf.C zad.C))(zdO:Fm P w K mg base 1 zad.C "rows" zgY (zgc zad.C))(zbk:Fm P w K mg base 134 zad.C "tell" zhu (zhN zaf.C zad.C))(zmD:Fk P w K mg base 2 "_law_in_order" zhY zgF)(zhd:Fk P w K mg base 1 "_law_cell_at" zic zhb)(zdv:Fk P w K mg base 25 "_law_full" zd6 (zej 12))(zbA:Fk P w K mg base 13 "_law_words" zdk (zdl 12))(ziy:Fk P w K mg base 13 "_law_light" zhF zhw)(zfQ:Fm P w K mg base 3 zad.C "__init__" zhB (zik zaf.C zad.C))(zaN:mg "len"=none)(zbt:mg "isinstance"=none)(zco:mg "list"=none)(zcP:mg "range"=none)(zeh:mg "min"=none):Fk P w K mg base 135 "law" ziH zfM:=
 zlo.mk' (zuc (k:=134) zlo.F zcT ztU λcdv A outer s H E hr=>⟨_,(zbJ ⟨(zap (i:=1) zcT.nd rfl (Or.inl rfl) (zlF ⟨zad.makes,zfQ.m.at_,zfQ.m.fn,zad.kp⟩ zfQ.ok (hr.mono (by decide)) rfl zad.m zfQ.b zlC))⟩ (zbJ ⟨(zbQ (zbn (C:=zad.C) (dv 1) zad.cl zbk.m zbk.ok (hr.mono (by decide)) zbk.b zaG (zaa zai zae)))⟩ (zbJ ⟨(zbQ (zbn (C:=zad.C) (dv 1) zad.cl zbk.m zbk.ok (hr.mono (by decide)) zbk.b zaG (zaa zai zae)))⟩ (zbJ ⟨(zor (i:=2) PassesOwn.never rfl zcT.nd rfl (Or.inl rfl) rfl zcP (zaa zac (zaa (zbU (zv5 rfl) rfl zeh Boot.«min» (zaa (zbU (zbo zcO) rfl zaN Boot.«len» (zaa (dv 0) zae)) (zaa zac zae))) zae)) (zag (zbQ (zbn (C:=zad.C) (dv 1) zad.cl zbk.m zbk.ok (hr.mono (by decide)) zbk.b zaG (zaa (zak zcM (zak zcM (zak zcM zai (zwB zai (zak zkV (dv 2) zac) (λ_ _=>rfl))) zai) (zlL zai (zaa (zaR zbA hr (zaa (zaR ziy hr (zaa (zaU (dv 0) (dv 2) (λ_ _=>rfl)) zae)) (zaa zac zae))) zae))) zae)))))⟩ (zbJ ⟨(zap (i:=3) zcT.nd rfl (Or.inl rfl) (zaR ziy hr (zaa (zaR zhd hr (zaa (dv 0) (zaa zac zae))) zae)))⟩ (zbJ ⟨(zap (i:=4) zcT.nd rfl (Or.inl rfl) (zaR zhd hr (zaa (dv 0) (zaa zac zae))))⟩ (zbJ ⟨(zap (i:=5) zcT.nd rfl (Or.inl rfl) (zaX (zaa (zak zcM zai (zlL zai (zaa (zaR zbA hr (zaa (dv 3) (zaa zac zae))) zae))) (zaa (zak zcM zai (zlL zai (zaa (zaR zdv hr (zaa (dv 3) (zaa (zak zdd (dv 4) zac) zae))) zae))) zae))))⟩ (zbJ ⟨(zbQ (zbn (C:=zad.C) (dv 1) zad.cl zbk.m zbk.ok (hr.mono (by decide)) zbk.b zaG (zaa (zaU (dv 5) (zak zbM (dv 4) zac) (λ_ _=>rfl)) zae)))⟩ (zbJ ⟨(zap (i:=6) zcT.nd rfl (Or.inl rfl) (zbh (C:=zad.C) (dv 1) zad.cl zbT.m zbT.ok (hr.mono (by decide)) zbT.b zaG))⟩ (zbJ ⟨(zat (PDW.pt (zbI (zar (zcc hr) (zbn (C:=zad.C) (dv 1) zad.cl zbk.m zbk.ok (hr.mono (by decide)) zbk.b zaG (zaa (zaU (dv 5) (zak zkV zac (zak zbM (dv 4) zac)) (λ_ _=>rfl)) zae)) zai (zaq _)) (zcp (zar (zlS hr) (zbh (C:=zad.C) (dv 1) zad.cl zbT.m zbT.ok (hr.mono (by decide)) zbT.b zaG) (dv 6) (zaq _))))) (zag (zao zdt)) zay)⟩ (zbJ ⟨(zat (PDW.pt (zbI (zar (zcc hr) (zbn (C:=zad.C) (dv 1) zad.cl zbk.m zbk.ok (hr.mono (by decide)) zbk.b zaG (zaa zai zae)) zai (zaq _)) (zcp (zar (zlS hr) (zbh (C:=zad.C) (dv 1) zad.cl zbT.m zbT.ok (hr.mono (by decide)) zbT.b zaG) (dv 6) (zaq _))))) (zag (zao zdt)) zay)⟩ (zbJ (zuP (i:=7) zcT.nd rfl (Or.inl rfl) (ztF (zib (zcD (zib (zcD zeg (zcD zeg zgz))) (zcD (zib (zcD zeg (zcD zeg zgz))) (zcD (zib (zcD zeg (zcD zeg zgz))) (zcD (zib (zcD zeg (zcD zeg zgz))) zgz))))) ⟨(zak zbM (zaR zhd hr (zaa (dv 0) (zaa zac zae))) zac)⟩ (λ_ _=>rfl))) (zbJ ⟨(zat (zar (zcc hr) (zbn (C:=zad.C) (dv 1) zad.cl zbk.m zbk.ok (hr.mono (by decide)) zbk.b zaG (zaa (zak zcM (zak zcM (zaU (dv 7) zac (λ_ _=>rfl)) (zaU (zaX (zaa zai (zaa zai zae))) (zak zbM (zak zdd (dv 4) zac) zac) (λ_ _=>rfl))) (zaU (dv 7) zac (λ_ _=>rfl))) zae)) zai (zaq _)) (zag (zao zdt)) zay)⟩ (zbJ ⟨(zap (i:=8) zcT.nd rfl (Or.inl rfl) (zbh (C:=zad.C) (dv 1) zad.cl zdO.m zdO.ok (hr.mono (by decide)) zdO.b zaG))⟩ (zbJ ⟨(zap (i:=9) zcT.nd rfl (Or.inl rfl) (zbh (C:=zad.C) (dv 1) zad.cl zbT.m zbT.ok (hr.mono (by decide)) zbT.b zaG))⟩ (zbJ ⟨(zat (PDW.pt (zbI (zck (zbx (zvI (ztk _) rfl zbt rfl zco Boot.«list» (dv 8)))) (zbI (zar (zcc hr) (zbU (zbo zcO) rfl zaN Boot.«len» (zaa (dv 8) zae)) zac (zaq _)) (zcp (zck (zbx (zaR zmD hr (zaa (dv 9) zae)))))))) (zag (zao zdt)) zay)⟩ (zbJ ⟨(zap (i:=10) zcT.nd rfl (Or.inl rfl) (zaU (dv 9) (zan (zaU (dv 8) zac (λ_ _=>rfl)) zac (λ_ _=>rfl)) (λ_ _=>rfl)))⟩ (zbJ ⟨(zat (PDW.pt (zbI (zar (zcc hr) (zan (dv 10) zac (λ_ _=>rfl)) zai (zaq _)) (zbI (zar (zcc hr) (zan (dv 10) zac (λ_ _=>rfl)) (zan (dv 10) zac (λ_ _=>rfl)) (zaq _)) (zcp (zar (zcc hr) (zan (zaU (dv 8) zac (λ_ _=>rfl)) zac (λ_ _=>rfl)) (zaU (zaX (zaa zai (zaa zai zae))) (zak zbM (zak zdd (dv 4) zac) zac) (λ_ _=>rfl)) (zaq _)))))) (zag (zao zdt)) zay)⟩ (zbJ ⟨(zat (zar (zcc hr) (zbn (C:=zad.C) (dv 1) zad.cl zbk.m zbk.ok (hr.mono (by decide)) zbk.b zaG (zaa zai zae)) zai (zaq _)) (zag (zao zdt)) zay)⟩ (zqk ⟨(zao (zg3 (zaH hr) (zaU (zbh (C:=zad.C) (dv 1) zad.cl zbT.m zbT.ok (hr.mono (by decide)) zbT.b zaG) (zan (zaU (zbh (C:=zad.C) (dv 1) zad.cl zdO.m zdO.ok (hr.mono (by decide)) zdO.b zaG) zac (λ_ _=>rfl)) zac (λ_ _=>rfl)) (λ_ _=>rfl)) (zbd (zaa zai (zaa (zan (zaU (dv 8) zac (λ_ _=>rfl)) zac (λ_ _=>rfl)) (zaa zac zae)))) (zaq _)))⟩)))))))))))))))))))),λds S Q ex h=>by
  obtain⟨ns,rfl,rfl,hl,h⟩:=h
  refine zc5 (λdl' S'=>∃ow:List Nat,dl'=[some (.ref 0),some (.ref 1),none,none,none,none,none,none,none,none,none]∧LS zad.C zaf.C ns S' ow ⟨[],[],[],[],[],[]⟩) (λnx hn=>?_) ?_
  ·refine⟨[.frz (ns.map D.int)],rfl,rfl,λU ow g fr tk=>⟨rfl,?_⟩⟩
   exact hn _ _ ⟨ow,rfl,g.2 0 _ (by simp) rfl,λz=>absurd (fr 0 z) (by show ¬ 1≤0; decide),tk⟩
  rintro dl' S' ⟨ow,rfl,ls⟩
  refine zc5 (λdl' S'=>∃ow:List Nat,dl'=[some (.ref 0),some (.ref 1),none,none,none,none,none,none,none,none,none]∧LS zad.C zaf.C ns S' ow ⟨[.unknown 0],[1],[("x",0)],["x"],[enD 0 1 1 1],[]⟩) (λnx hn=>?_) ?_
  ·obtain⟨N,m,u,e,r,ht⟩:=ls.tk.tsk
   refine zaE (S1:=S') (n:=1) (λK hK=>by exact hK) ht rfl ?_
   refine⟨⟨by decide,by rw[zoY]; decide⟩,ow,_,_,"unknown",ls.tk,by rw[zoY]; exact .unk unk_x,λT ow' g f t=>?_⟩
   exact hn _ _ ⟨ow',rfl,ls.tell g f t⟩
  clear ls
  rintro dl' S' ⟨ow,rfl,ls⟩
  refine zc5 (λdl' S'=>∃ow:List Nat,dl'=[some (.ref 0),some (.ref 1),none,none,none,none,none,none,none,none,none]∧LS zad.C zaf.C ns S' ow k2S) (λnx hn=>?_) ?_
  ·obtain⟨N,m,u,e,r,ht⟩:=ls.tk.tsk
   refine zaE (S1:=S') (n:=1) (λK hK=>by exact hK) ht rfl ?_
   refine⟨⟨by decide,by rw[zpv]; decide⟩,ow,_,_,"unknown",ls.tk,by rw[zpv]; exact .unk unk_y,λT ow' g f t=>?_⟩
   exact hn _ _ ⟨ow',rfl,ls.tell g f t⟩
  clear ls
  rintro dl' S' ⟨ow,rfl,ls⟩
  refine zc5 (λdl' S'=>∃(ow:List Nat) (k:Tk) (o2:Option D) (c:Nat),c≤5∧dl'=[some (.ref 0),some (.ref 1),o2,none,none,none,none,none,none,none,none]∧LS zad.C zaf.C ns S' ow k∧KG k (2+7*c)∧k.ml.map (·.1)=[("x":Str),"yy"]++PN.take c) (λnx hn=>?_) ?_
  ·refine zwp ls.s0 ?_
   rw[Vac]
   refine zm1 (d:=.int 8) (S1:=S') (λK hK=>by exact hK) ?_
   refine zw0 (λv vl v8 v0=>?_)
   refine⟨⟨by decide,by decide,by omega,by omega⟩,λc dl' S'=>c≤5∧∃(ow:List Nat) (k:Tk) (o2:Option D),dl'=[some (.ref 0),some (.ref 1),o2,none,none,none,none,none,none,none,none]∧LS zad.C zaf.C ns S' ow k∧KG k (2+7*c)∧k.ml.map (·.1)=[("x":Str),"yy"]++PN.take c,⟨by decide,ow,k2S,none,rfl,ls,kg2,rfl⟩,?_⟩
   clear ls
   rintro c dl' S' ⟨c5,ow,k,o2,rfl,ls,kg,nms⟩
   refine ite2 (λc1=>?_) (λc1=>?_)
   ·have c4:c<5:=by omega
    obtain⟨cc,nm,g1,g2,g3,g4,g5,g6⟩:=pn_at c c4
    obtain⟨N,m,u,e,r,ht⟩:=ls.tk.tsk
    refine zaE (S1:=S') (n:=1) (λK hK=>by exact hK) ht rfl ?_
    refine⟨cc,⟨by omega,by omega,by show 3+(c:Int)-3<5; omega⟩,by rw[show (3+(c:Int)-3).toNat=c by omega]; exact g1,?_⟩
    refine⟨show 5+1≤1000 by decide,by rw[zdK]; show 5+1+3≤1000; decide,?_⟩
    refine zmi ?_
    have hk:3+c<ns.length:=by omega
    refine zaM (o:=.frz (ns.map D.int)) ls.s0 (d:=.int ns[3+c]) (by
     have z:=zex (xs:=ns.map D.int) (j:=3+c) (v:=.int ns[3+c]) (by rw[Vao,VaL hk]; rfl)
     rw[show ((3+c:Nat):Int)=3+(c:Int) by omega] at z
     exact z) ?_
    intro T t pT lt w7
    obtain⟨w45,w451,dp3,gd,ats⟩:=wl45 lt
    refine⟨t,0,rfl,rfl,by decide,by omega,gd,ats,by omega,λT2 m2 ws l b pT2 wa x _ kd wn=>?_⟩
    dsimp only[zbY]
    rw[zbr wa.at_ rfl]
    refine⟨ws,zjz ws,by decide,λz hz=>by have:=(wa.ok z hz).le; omega,by omega,?_⟩
    obtain⟨lo,lj,lp⟩:=zcU.of g2 g4 x (by omega) wa.ok (by omega)
    refine⟨by have:=zdK ("let p"++(⟨#[cc]⟩:Str)) " = "; omega,?_⟩
    have g':Ng [] S' T2:=(Ng.of pT).same (Ng.of pT2)
    have ls2:=ls.up g'
    obtain⟨ns',hs',j,ep,pp⟩:=kg.fit lt w7 (by omega)
    have nn:k.ml.lookup nm=none:=zmA (by rw[nms]; exact g5)
    have lm:k.ml.length<900:=by
     have:=congrArg List.length nms
     rw[Vac,Vad,VaR] at this
     have:([("x":Str),"yy"]).length=2:=rfl
     omega
    refine⟨⟨lo.le,by rw[lo.sp]; exact lo.no⟩,ow,k,_,"part",ls2.tk,lo.par kg lt g3 nn lm ep,λT3 ow3 g3' f3 t3=>?_⟩
    refine⟨by omega,ow3,_,_,rfl,ls2.tell g3' f3 t3,kg.next pp,?_⟩
    show (k.ml++[(nm,j)]).map (·.1)=_
    rw[VaF,nms]
    exact g6
   ·exact hn _ _ ⟨ow,k,o2,c,c5,rfl,ls,kg,nms⟩
  clear ls
  rintro dl' S' ⟨ow,k,o2,c,c5,rfl,ls,kg,nms⟩
  have no3:∀w:Str,w ∉ [("x":Str),"yy"]++PN→k.ml.lookup w=none:=λw hw=>zmA (by
   rw[nms]
   intro z
   rcases Vae.1 z with z | z
   ·exact hw (VaA _ z)
   ·exact hw (Var _ (List.mem_of_mem_take z)))
  have lm:k.ml.length≤7:=by
   have:=congrArg List.length nms
   rw[Vac,Vad,VaR] at this
   have:([("x":Str),"yy"]).length=2:=rfl
   have:PN.length=5:=rfl
   omega
  obtain⟨way,hway⟩:∃w,ns.getD (1:Int).toNat 0=w:=⟨_,rfl⟩
  refine zp7 (λdl' S'=>∃(t:Tr) (y1 y2:Str) (ws1 ws2:List Str) (p5:Nat),LT 3 t∧t.wt≤7∧zcU y1 "lean" ws1 t∧zcU y2 "full" ws2 t∧dl'=[some (.ref 0),some (.ref 1),o2,some (trD t),some (.int way),some (.ref p5),none,none,none,none,none]∧LS zad.C zaf.C ns S' ow k∧S'[p5]?=some (.lst [.str y1,.str y2])∧p5 ∉ ow) (λnx hn=>?_) ?_
  ·refine⟨ns,ls.s0,by decide,?_⟩
   intro T t pT lt w7
   have ls1:=ls.up (Ng.of pT)
   refine⟨ns,ls1.s0,by decide,?_⟩
   obtain⟨w45,w451,dp3,gd,ats⟩:=wl45 lt
   refine zmi ?_
   refine⟨t,0,rfl,rfl,by decide,by omega,gd,ats,by omega,λT1 m1 ws1 l1 b1 pT1 wa1 x1 _ kd1 wn1=>?_⟩
   dsimp only[zbY]
   rw[zbr wa1.at_ rfl]
   refine⟨ws1,zjz ws1,by decide,λz hz=>by have:=(wa1.ok z hz).le; omega,by omega,?_⟩
   obtain⟨lo1,lj1,lp1⟩:=zcU.of (pre:="let lean = ") (nm:="lean") (by decide) ⟨by decide,by decide,by decide⟩ x1 (by omega) wa1.ok (by omega)
   refine⟨by omega,?_⟩
   refine zmi ?_
   refine⟨t,rfl,by omega,gd,ats,by omega,λT2 m2 ws2 b2 pT2 wa2 x2 kd2 wn2=>?_⟩
   dsimp only[zbY]
   rw[zbr wa2.at_ rfl]
   refine⟨ws2,zjz ws2,by decide,λz hz=>by have:=(wa2.ok z hz).le; omega,by omega,?_⟩
   obtain⟨lo2,lj2,lp2⟩:=zcU.of (pre:="let full = ") (nm:="full") (by decide) ⟨by decide,by decide,by decide⟩ x2 (by omega) wa2.ok (by omega)
   refine⟨by omega,?_⟩
   have ls2:=ls1.up ((Ng.of pT1).same (Ng.of pT2))
   exact hn _ _ ⟨t,_,_,ws1,ws2,T2.length,lt,w7,lo1,lo2,by rw[← hway]; rfl,ls2.up (Ng.app _),zaj _ _,λz=>Vax _ (ls2.tk.lt _ z)⟩
  clear ls
  rintro dl' S' ⟨t,y1,y2,ws1,ws2,p5,lt,w7,lo1,lo2,rfl,ls,h5,n5⟩
  have pick:∃(xa xb na nb:Str) (wsa wsb:List Str),atI [D.str y1,D.str y2] (way%2)=some (.str xa)∧atI [D.str y1,D.str y2] (1-way%2)=some (.str xb)∧zcU xa na wsa t∧zcU xb nb wsb t∧(na="lean"∧nb="full"∨na="full"∧nb="lean"):=by
   have c2:way%2=0∨way%2=1:=by omega
   rcases c2 with e | e
   ·exact⟨y1,y2,"lean","full",ws1,ws2,by rw[e]; rfl,by rw[e]; rfl,lo1,lo2,.inl ⟨rfl,rfl⟩⟩
   ·exact⟨y2,y1,"full","lean",ws2,ws1,by rw[e]; rfl,by rw[e]; rfl,lo2,lo1,.inr ⟨rfl,rfl⟩⟩
  obtain⟨xa,xb,na,nb,wsa,wsb,ea,eb,la,lb,hab⟩:=pick
  obtain⟨ns1,hs1,j,ep,pp⟩:=kg.fit lt w7 (by omega)
  have kg1:=kg.next (nm:=na) pp
  have nam:zaL na=true∧zaL nb=true∧na ∉ [("x":Str),"yy"]++PN∧nb ∉ [("x":Str),"yy"]++PN∧nb≠na∧("again":Str)≠na∧("again":Str)≠nb:=by
   rcases hab with ⟨rfl,rfl⟩ | ⟨rfl,rfl⟩ <;> decide
  obtain⟨ia,ib,oa,ob,nba,aa,ab⟩:=nam
  have nag:=no3 "again" (by decide)
  have ep2:zaz (λw=>(k.ml++[(na,j)]).lookup w) t (ns1,hs1)=some ((ns1,hs1),j):=by
   have z:=(zh6 (ms':=λw=>(k.ml++[(na,j)]).lookup w) (λw i e=>zed e) t ep).2.2 [] []
   rw[Vav,Vav] at z
   exact z
  have kg2':=KG.next (k:={ k with ns:=ns1,hs:=hs1,ml:=k.ml++[(na,j)] }) kg1 (nm:=nb) (⟨pp.ok,⟨[],by simp⟩,⟨[],by simp⟩,pp.lt,pp.wt,by omega⟩:Put ns1 hs1 ns1 hs1 j t.wt 0)
  have lean2:(k.ml++[(na,j)]++[(nb,j)]).lookup ("lean":Str)=some j∧(k.ml++[(na,j)]++[(nb,j)]).lookup ("full":Str)=some j:=by
   rcases hab with ⟨rfl,rfl⟩ | ⟨rfl,rfl⟩
   ·exact⟨zed (zgi (no3 _ oa)),zgi (zg8 (no3 _ ob) nba)⟩
   ·exact⟨zgi (zg8 (no3 _ ob) nba),zed (zgi (no3 _ oa))⟩
  have again2:(k.ml++[(na,j)]++[(nb,j)]).lookup ("again":Str)=none:=zg8 (zg8 nag aa) ab
  refine zc5 (λdl' S'=>∃ow:List Nat,dl'=[some (.ref 0),some (.ref 1),o2,some (trD t),some (.int way),some (.ref p5),none,none,none,none,none]∧LS zad.C zaf.C ns S' ow { k with ns:=ns1,hs:=hs1,ml:=k.ml++[(na,j)] }∧S'[p5]?=some (.lst [.str y1,.str y2])∧p5 ∉ ow) (λnx hn=>?_) ?_
  ·obtain⟨N,m,u,e,r,ht⟩:=ls.tk.tsk
   refine zaE (S1:=S') (n:=1) (λK hK=>by exact hK) ht rfl ?_
   refine zaM (o:=.lst [.str y1,.str y2]) h5 ea ?_
   refine⟨⟨la.le,by rw[la.sp]; exact la.no⟩,ow,k,_,"part",ls.tk,la.par kg lt ia (no3 _ oa) (by omega) ep,λT4 ow4 g4 f4 t4=>?_⟩
   exact hn _ _ ⟨ow4,rfl,ls.tell g4 f4 t4,g4.2 _ _ n5 h5,zmr h5 n5 f4⟩
  clear ls h5 n5
  rintro dl' S' ⟨ow4,rfl,ls,h5,n5⟩
  refine zc5 (λdl' S'=>∃p6:Nat,dl'=[some (.ref 0),some (.ref 1),o2,some (trD t),some (.int way),some (.ref p5),some (.ref p6),none,none,none,none]∧LS zad.C zaf.C ns S' ow4 { k with ns:=ns1,hs:=hs1,ml:=k.ml++[(na,j)] }∧S'[p5]?=some (.lst [.str y1,.str y2])∧p5 ∉ ow4∧S'[p6]?=some (.lst (ns1.map Nd.d))∧p6 ∉ ow4) (λnx hn=>?_) ?_
  ·obtain⟨N,m,u,e,r,ht⟩:=ls.tk.tsk
   refine zaE (S1:=S') (n:=1) (λK hK=>by exact hK) ht rfl ?_
   refine⟨ow4,_,ls.tk,?_⟩
   exact hn _ _ ⟨S'.length,rfl,ls.up (Ng.app _),zaw h5,n5,zaj _ _,λz=>Vax _ (ls.tk.lt _ z)⟩
  clear ls h5 n5
  rintro dl' S5 ⟨p6,rfl,ls5,h55,n55,h6,n6⟩
  refine zc5 (λdl' S'=>∃ow:List Nat,dl'=[some (.ref 0),some (.ref 1),o2,some (trD t),some (.int way),some (.ref p5),some (.ref p6),none,none,none,none]∧LS zad.C zaf.C ns S' ow { k with ns:=ns1,hs:=hs1,ml:=k.ml++[(na,j)]++[(nb,j)] }∧S'[p6]?=some (.lst (ns1.map Nd.d))∧p6 ∉ ow) (λnx hn=>?_) ?_
  ·obtain⟨N,m,u,e,r,ht⟩:=ls5.tk.tsk
   refine zaE (S1:=S5) (n:=1) (λK hK=>by exact hK) ht rfl ?_
   refine zaM (o:=.lst [.str y1,.str y2]) h55 eb ?_
   refine⟨⟨lb.le,by rw[lb.sp]; exact lb.no⟩,ow4,_,_,"part",ls5.tk,lb.par kg1 lt ib (zg8 (no3 _ ob) nba) (by show (k.ml++[(na,j)]).length<900; rw[Vad]; show _+1<900; omega) ep2,λT6 ow6 g6 f6 t6=>?_⟩
   have ls6:=ls5.tell g6 f6 t6
   obtain⟨N,m,u,e,r,ht⟩:=ls6.tk.tsk
   refine zaE (S1:=T6) (n:=1) (λK hK=>by exact hK) ht rfl ?_
   refine⟨ow6,_,t6,?_⟩
   refine zmq (xs:=ns1.map Nd.d) (ys:=ns1.map Nd.d) (zaj _ _) (zaw (g6.2 _ _ n6 h6)) (b:=true) (zmk _) ?_
   exact hn _ _ ⟨ow6,rfl,ls6.up (Ng.app _),zaw (g6.2 _ _ n6 h6),zmr h6 n6 f6⟩
  clear ls5 h55 n55 h6 n6
  rintro dl' S' ⟨ow,rfl,ls,h6,n6⟩
  refine zc5 (λdl' S'=>∃ow:List Nat,dl'=[some (.ref 0),some (.ref 1),o2,some (trD t),some (.int way),some (.ref p5),some (.ref p6),none,none,none,none]∧LS zad.C zaf.C ns S' ow { k with ns:=ns1,hs:=hs1,ml:=k.ml++[(na,j)]++[(nb,j)]++[(("again":Str),j)] }) (λnx hn=>?_) ?_
  ·obtain⟨N,m,u,e,r,ht⟩:=ls.tk.tsk
   refine zaE (S1:=S') (n:=1) (λK hK=>by exact hK) ht rfl ?_
   refine⟨⟨by decide,by rw[zm5]; decide⟩,ow,_,_,"part",ls.tk,zrW (k:={ k with ns:=ns1,hs:=hs1,ml:=k.ml++[(na,j)]++[(nb,j)] }) lean2.1 again2 (by show (k.ml++[(na,j)]++[(nb,j)]).length<900; rw[Vad,Vad]; show _+1+1<900; omega),λT6 ow6 g6 f6 t6=>?_⟩
   have ls6:=ls.tell g6 f6 t6
   obtain⟨N,m,u,e,r,ht⟩:=ls6.tk.tsk
   refine zaE (S1:=T6) (n:=1) (λK hK=>by exact hK) ht rfl ?_
   refine⟨ow6,_,t6,?_⟩
   refine zmq (xs:=ns1.map Nd.d) (ys:=ns1.map Nd.d) (zaj _ _) (zaw (g6.2 _ _ n6 h6)) (b:=true) (zmk _) ?_
   exact hn _ _ ⟨ow6,rfl,ls6.up (Ng.app _)⟩
  clear ls h6 n6
  rintro dl' S' ⟨ow,rfl,ls⟩
  refine zc5 (λdl' S'=>∃(p7:Nat) (s0 s1:Str),dl'=[some (.ref 0),some (.ref 1),o2,some (trD t),some (.int way),some (.ref p5),some (.ref p6),some (.ref p7),none,none,none]∧LS zad.C zaf.C ns S' ow { k with ns:=ns1,hs:=hs1,ml:=k.ml++[(na,j)]++[(nb,j)]++[(("again":Str),j)] }∧S'[p7]?=some (.lst [.str s0,.str s1])∧s0∈[("lean":Str),"full","again"]∧s1∈[("lean":Str),"full","again"]) (λnx hn=>?_) ?_
  ·refine⟨ns,zaw (zaw (zaw (zaw (zaw ls.s0)))),by decide,?_⟩
   generalize ns.getD (2:Int).toNat 0=v
   have c4:v%4=0∨v%4=1∨v%4=2∨v%4=3:=by omega
   have g5:∀a b c d e:Ob,LS zad.C zaf.C ns (S'++[a]++[b]++[c]++[d]++[e]) ow { k with ns:=ns1,hs:=hs1,ml:=k.ml++[(na,j)]++[(nb,j)]++[(("again":Str),j)] }:=λa b c d e=>((((ls.up (Ng.app _)).up (Ng.app _)).up (Ng.app _)).up (Ng.app _)).up (Ng.app _)
   rcases c4 with e | e | e | e
   ·refine zaM (zaj _ _) (d:=.ref S'.length) (by show atI _ (v%4)=_; rw[e]; rfl) ?_
    exact hn _ _ ⟨_,"lean","full",rfl,g5 _ _ _ _ _,zaw (zaw (zaw (zaw (zaj _ _)))),by decide,by decide⟩
   ·refine zaM (zaj _ _) (d:=.ref (S'++[Ob.lst [.str "lean",.str "full"]]).length) (by show atI _ (v%4)=_; rw[e]; rfl) ?_
    exact hn _ _ ⟨_,"full","lean",rfl,g5 _ _ _ _ _,zaw (zaw (zaw (zaj _ _))),by decide,by decide⟩
   ·refine zaM (zaj _ _) (d:=.ref (S'++[Ob.lst [.str "lean",.str "full"]]++[Ob.lst [.str "full",.str "lean"]]).length) (by show atI _ (v%4)=_; rw[e]; rfl) ?_
    exact hn _ _ ⟨_,"again","full",rfl,g5 _ _ _ _ _,zaw (zaw (zaj _ _)),by decide,by decide⟩
   ·refine zaM (zaj _ _) (d:=.ref (S'++[Ob.lst [.str "lean",.str "full"]]++[Ob.lst [.str "full",.str "lean"]]++[Ob.lst [.str "again",.str "full"]]).length) (by show atI _ (v%4)=_; rw[e]; rfl) ?_
    exact hn _ _ ⟨_,"lean","again",rfl,g5 _ _ _ _ _,zaw (zaj _ _),by decide,by decide⟩
  clear ls
  rintro dl' S' ⟨p7,s0,s1,rfl,ls,h7,m0,m1⟩
  have sgn:∃sg:Str,(sg="="∨sg=">=")∧sg∈[("=":Str),">="]∧atI [D.str " = ",D.str " >= "] (way/4%2)=some (.str (" "++sg++" "))∧atI [D.str "zero",D.str "least"] (way/4%2)=some (.str (sgS sg)):=by
   have c2:way/4%2=0∨way/4%2=1:=by omega
   rcases c2 with e | e
   ·exact⟨"=",.inl rfl,by decide,by rw[e]; rfl,by rw[e]; rfl⟩
   ·exact⟨">=",.inr rfl,by decide,by rw[e]; rfl,by rw[e]; rfl⟩
  obtain⟨sg,hsg,msg,esg,ezl⟩:=sgn
  have again3:∀w∈[("lean":Str),"full","again"],(k.ml++[(na,j)]++[(nb,j)]++[(("again":Str),j)]).lookup w=some j:=λw hw=>by
   simp only[Vab,Vag,or_false] at hw
   rcases hw with rfl | rfl | rfl
   ·exact zed lean2.1
   ·exact zed lean2.2
   ·exact zgi again2
  have nm3:∀w∈[("lean":Str),"full","again"],zaL w=true:=by decide
  have kc:=kg.c
  have pl:=pp.le
  have jl:=pp.lt
  have wj:=pp.wt
  have hl1:=pp.ok.len
  have wv:(Nd.two "minus" (j:Int) (j:Int)).w hs1=t.wt+t.wt:=by
   show hs1.getD (j:Int).toNat 0+hs1.getD (j:Int).toNat 0=_
   rw[VaS,wj]
  have inj1:inL hs1 (j:Int):=⟨by omega,by omega⟩
  obtain⟨ns4,hs4,q,e4,p4,i4⟩:=zih (v:=.two "minus" (j:Int) (j:Int)) pp.ok ⟨.inr (.inl rfl),inj1,inj1⟩ (by rw[wv]; omega) (by omega)
  refine zc5 (λdl' S'=>∃ow:List Nat,dl'=[some (.ref 0),some (.ref 1),o2,some (trD t),some (.int way),some (.ref p5),some (.ref p6),some (.ref p7),none,none,none]∧LS zad.C zaf.C ns S' ow { k with ns:=ns4,hs:=hs4,ml:=k.ml++[(na,j)]++[(nb,j)]++[(("again":Str),j)],rw:=[(sgS sg,q)] }) (λnx hn=>?_) ?_
  ·obtain⟨N,m,u,e,r,ht⟩:=ls.tk.tsk
   obtain⟨sp,ll⟩:=zus s0 s1 sg m0 m1 msg
   have lens:=zdK (s0++(" "++sg++" ")) s1
   have lens2:=zdK s0 (" "++sg++" ")
   refine zaE (S1:=S') (n:=1) (λK hK=>by exact hK) ht rfl ?_
   refine zaM (o:=.lst [.str s0,.str s1]) h7 (d:=.str s0) rfl ?_
   refine zaM (o:=.lst [.str " = ",.str " >= "]) (zaj _ _) esg ?_
   refine⟨by omega,?_⟩
   refine zaM (o:=.lst [.str s0,.str s1]) (zaw h7) (d:=.str s1) rfl ?_
   refine⟨by omega,?_⟩
   have rr:=zrN (k:={ k with ns:=ns1,hs:=hs1,ml:=k.ml++[(na,j)]++[(nb,j)]++[(("again":Str),j)] }) (nm3 _ m0) (nm3 _ m1) hsg (again3 _ m0) (again3 _ m1) (by show k.rw.length<12; rw[kg.rw]; decide) e4
   refine⟨⟨by show (s0++(" "++sg++" ")++s1).length≤1000; omega,by show ("":Str) ∉ Txt.split (s0++(" "++sg++" ")++s1) " "; rw[sp]; exact zws m0 msg m1⟩,ow,_,_,"row",(ls.up (Ng.app _)).tk,by show zd0 _ (Txt.split (s0++(" "++sg++" ")++s1) " ") _ "row"; rw[sp]; exact .row rr,λT ow' g f t'=>?_⟩
   have ls':=(ls.up (T:=S'++[Ob.lst [.str " = ",.str " >= "]]) (Ng.app _)).tell g f t'
   refine hn _ _ ⟨ow',rfl,?_⟩
   have er:k.rw++[(sgS sg,q)]=[(sgS sg,q)]:=by rw[kg.rw]; rfl
   have z:LS zad.C zaf.C ns T ow' { k with ns:=ns4,hs:=hs4,ml:=k.ml++[(na,j)]++[(nb,j)]++[(("again":Str),j)],rw:=k.rw++[(sgS sg,q)] }:=ls'
   rw[er] at z
   exact z
  clear ls h7
  rintro dl' S' ⟨ow,rfl,ls⟩
  obtain⟨v4,f1,f2⟩:=zh5 i4
  have ok4:(Nd.two "minus" (j:Int) (j:Int)).ok hs4:=by
   obtain⟨r4,er4⟩:=p4.exh
   rw[er4]
   exact zi2 ⟨.inr (.inl rfl),inj1,inj1⟩
  have ev4:v4=.two "minus" (j:Int) (j:Int):=zmB (p4.ok.node q v4 f1).1 ok4 f2
  subst ev4
  refine zp7 (λdl' S'=>∃p8 p9:Nat,dl'=[some (.ref 0),some (.ref 1),o2,some (trD t),some (.int way),some (.ref p5),some (.ref p6),some (.ref p7),some (.ref p8),some (.ref p9),none]∧LS zad.C zaf.C ns S' ow { k with ns:=ns4,hs:=hs4,ml:=k.ml++[(na,j)]++[(nb,j)]++[(("again":Str),j)],rw:=[(sgS sg,q)] }∧S'[p8]?=some (.lst [rwT (sgS sg,q)])∧p8 ∉ ow∧S'[p9]?=some (.lst (ns4.map Nd.d))) (λnx hn=>?_) ?_
  ·obtain⟨N,m,u,e,r,ht⟩:=ls.tk.tsk
   refine zaE (S1:=S') (n:=1) (λK hK=>by exact hK) ht rfl ?_
   obtain⟨N,a,b,c,m,u,e,r,eo,tp⟩:=ls.tk
   refine⟨N,m,u,e,r,[(sgS sg,q)],tp.tsk,tp.rows,?_⟩
   have ls1:=ls.up (T:=S'++[Ob.lst ([(sgS sg,q)].map rwT)]) (Ng.app _)
   have l8:(S'++[Ob.lst ([(sgS sg,q)].map rwT)])[S'.length]?=some (.lst [rwT (sgS sg,q)]):=zaj _ _
   have n8:S'.length ∉ ow:=λz=>Vax _ (ls.tk.lt _ z)
   obtain⟨N,m,u,e,r,ht⟩:=ls1.tk.tsk
   refine zaE (S1:=S'++[Ob.lst ([(sgS sg,q)].map rwT)]) (n:=1) (λK hK=>by exact hK) ht rfl ?_
   refine⟨ow,_,ls1.tk,?_⟩
   have ls2:=ls1.up (T:=S'++[Ob.lst ([(sgS sg,q)].map rwT)]++[Ob.lst (ns4.map Nd.d)]) (Ng.app _)
   refine zuJ (n:=S'.length) (λK hK=>by exact hK) (zaw l8) ?_
   refine zdE (zaw l8) ?_
   refine⟨ns4,hs4,zaj _ _,p4.ok,λT pT=>?_⟩
   exact hn _ _ ⟨S'.length,_,rfl,ls2.up (Ng.of pT),pT _ _ (zaw l8),n8,pT _ _ (zaj _ _)⟩
  clear ls
  rintro dl' S' ⟨p8,p9,rfl,ls,h8,n8,h9⟩
  refine seqW2 (λdl' S'=>dl'=[some (.ref 0),some (.ref 1),o2,some (trD t),some (.int way),some (.ref p5),some (.ref p6),some (.ref p7),some (.ref p8),some (.ref p9),some (Nd.two "minus" (j:Int) (j:Int)).d]∧LS zad.C zaf.C ns S' ow { k with ns:=ns4,hs:=hs4,ml:=k.ml++[(na,j)]++[(nb,j)]++[(("again":Str),j)],rw:=[(sgS sg,q)] }∧S'[p8]?=some (.lst [rwT (sgS sg,q)])) (λnx hn=>?_) ?_
  ·refine zaM (o:=.lst [rwT (sgS sg,q)]) h8 (d:=rwT (sgS sg,q)) rfl ?_
   refine zaM (o:=.lst (ns4.map Nd.d)) h9 (d:=(Nd.two "minus" (j:Int) (j:Int)).d) (zex (j:=q) (by show (ns4.map Nd.d)[q]?=_; rw[Vao,f1]; rfl)) ?_
   refine ifN (λe=>absurd rfl e) (λ_=>?_)
   refine zaM (o:=.lst [rwT (sgS sg,q)]) h8 (d:=rwT (sgS sg,q)) rfl ?_
   refine zaM (o:=.lst [.str "zero",.str "least"]) (zaj _ _) ezl ?_
   refine ifNS (λe=>absurd rfl e) (λ_=>?_)
   exact hn _ _ ⟨rfl,ls.up (Ng.app _),zaw h8⟩
  clear ls h8
  rintro dl' S9 ⟨rfl,ls9,h89⟩
  have e1:zaQ (ns4,hs4) (.two "minus" (j:Int) (j:Int))=some ((ns4,hs4),q):=by
   unfold zaQ
   simp only[i4]
  have hl4:=p4.ok.len
  have ql:=p4.lt
  have p4l:=p4.le
  have x1:hs4.getD 0 0=1:=by
   obtain⟨r4,er4⟩:=p4.exh
   have:=kg1.l2
   rw[er4,zg1 (by rw[← hl1]; exact Vai (by decide:0<2) this)]
   exact kg1.x1
  have wq:(Nd.two "minus" (q:Int) 0).w hs4=t.wt+t.wt+1:=by
   show hs4.getD (q:Int).toNat 0+hs4.getD (0:Int).toNat 0=_
   rw[VaS,p4.wt,wv]
   show _+hs4.getD 0 0=_
   rw[x1]
  obtain⟨ns5,hs5,q2,e5,p5',i5⟩:=zih (v:=.two "minus" (q:Int) 0) p4.ok ⟨.inr (.inl rfl),⟨by omega,by omega⟩,⟨by decide,by omega⟩⟩ (by rw[wq]; omega) (by omega)
  refine zc5 (λdl' S'=>∃ow:List Nat,dl'=[some (.ref 0),some (.ref 1),o2,some (trD t),some (.int way),some (.ref p5),some (.ref p6),some (.ref p7),some (.ref p8),some (.ref p9),some (Nd.two "minus" (j:Int) (j:Int)).d]∧LS zad.C zaf.C ns S' ow { k with ns:=ns5,hs:=hs5,ml:=k.ml++[(na,j)]++[(nb,j)]++[(("again":Str),j)],rw:=[(sgS sg,q),("zero",q2)] }∧S'[p8]?=some (.lst [rwT (sgS sg,q)])) (λnx hn=>?_) ?_
  ·obtain⟨N,m,u,e,r,ht⟩:=ls9.tk.tsk
   refine zaE (S1:=S9) (n:=1) (λK hK=>by exact hK) ht rfl ?_
   refine⟨⟨by decide,by rw[zps]; decide⟩,ow,_,_,"row",ls9.tk,zvM (k:={ k with ns:=ns4,hs:=hs4,ml:=k.ml++[(na,j)]++[(nb,j)]++[(("again":Str),j)],rw:=[(sgS sg,q)] }) (again3 _ (by decide)) (zed kg2'.x) (show 1<12 by decide) e1 e5,λT ow' g f t'=>?_⟩
   exact hn _ _ ⟨ow',rfl,ls9.tell g f t',g.2 _ _ n8 h89⟩
  clear ls9 h89 h9
  rintro dl' S' ⟨ow,rfl,ls,h8⟩
  obtain⟨v5,f5,f6⟩:=zh5 i5
  have ok5:(Nd.two "minus" (q:Int) 0).ok hs5:=by
   obtain⟨r5,er5⟩:=p5'.exh
   rw[er5]
   exact zi2 ⟨.inr (.inl rfl),⟨by omega,by omega⟩,⟨by decide,by omega⟩⟩
  have ev5:v5=.two "minus" (q:Int) 0:=zmB (p5'.ok.node q2 v5 f5).1 ok5 f6
  subst ev5
  obtain⟨N,m,u,e,r,ht⟩:=ls.tk.tsk
  refine zaE (S1:=S') (n:=1) (λK hK=>by exact hK) ht rfl ?_
  refine⟨ow,_,ls.tk,?_⟩
  have ls1:=ls.up (T:=S'++[Ob.lst (ns5.map Nd.d)]) (Ng.app _)
  obtain⟨N,m,u,e,r,ht⟩:=ls1.tk.tsk
  refine zaE (S1:=S'++[Ob.lst (ns5.map Nd.d)]) (n:=1) (λK hK=>by exact hK) ht rfl ?_
  obtain⟨N,a,b,c,m,u,e,r,eo,tp⟩:=ls1.tk
  refine⟨N,m,u,e,r,[(sgS sg,q),("zero",q2)],tp.tsk,tp.rows,?_⟩
  refine zaM (o:=.lst ([(sgS sg,q),("zero",q2)].map rwT)) (zaj _ _) (d:=rwT ("zero",q2)) rfl ?_
  refine zaM (o:=.lst (ns5.map Nd.d)) (zaw (zaj _ _)) (d:=(Nd.two "minus" (q:Int) 0).d) (zex (j:=q2) (by show (ns5.map Nd.d)[q2]?=_; rw[Vao,f5]; rfl)) ?_
  refine zaM (o:=.lst [rwT (sgS sg,q)]) (zaw (zaw h8)) (d:=rwT (sgS sg,q)) rfl ?_
  show wEq eq2 (.tup [.str "minus",.int (q:Int),.int 0]) (.tup [.str "minus",.int (q:Int),.int 0]) _ _
  have ee:eq2 (.tup [.str "minus",.int (q:Int),.int 0]) (.tup [.str "minus",.int (q:Int),.int 0])=some true:=by simp[eq2,eqL,eqF,L3.eqT]
  unfold wEq
  rw[ee]
  exact h _⟩)
end
theorem zrX {l:PySem.W.OpenLaw}{w:World}{K:PySem.W.Frag}{h:Heap}{mg:Str→Option Value}{fa:Addr}(X:K.In h)(G:h.Ns mainGlobals mg)(hfa:mg "law"=some (.ref fa))
  {zci:Addr}(zlj:PySem.W.nsIn K mainGlobals "Net"=some (some (.ref zci)))(zjc:PySem.W.plainGet K zci Str.empty=true)(zis:PySem.W.hasDictIn K zci=true)(zj0:PySem.W.plainOver K zci=true)(zkj:PySem.W.findIn K (.ref zci) "__setattr__"=some (some (.builtin "object.__setattr__")))(zlf:PySem.W.makesIn K zci=true)(zkh:PySem.W.keepIn K (.ref zci)=true)
  (zjy:PySem.W.findIn K (.ref zci) "numbers"=some none)
  (zkT:PySem.W.findIn K (.ref zci) "weights"=some none)
  (zkR:PySem.W.findIn K (.ref zci) "kept"=some none)
  {zbu:Addr}(zjo:PySem.W.nsIn K mainGlobals "Task"=some (some (.ref zbu)))(zlu:PySem.W.plainGet K zbu Str.empty=true)(zkE:PySem.W.hasDictIn K zbu=true)(ziI:PySem.W.plainOver K zbu=true)(zk3:PySem.W.findIn K (.ref zbu) "__setattr__"=some (some (.builtin "object.__setattr__")))(zi5:PySem.W.makesIn K zbu=true)(zlp:PySem.W.keepIn K (.ref zbu)=true)
  (ziS:PySem.W.findIn K (.ref zbu) "told_rows"=some none)
  (zjq:PySem.W.findIn K (.ref zbu) "unknown_ends"=some none)
  (zjX:PySem.W.findIn K (.ref zbu) "unknown_names"=some none)
  (zjR:PySem.W.findIn K (.ref zbu) "meanings"=some none)
  (zjb:PySem.W.findIn K (.ref zbu) "net"=some none)
  {zbF:Addr}(ziY:PySem.W.nsIn K mainGlobals "Reader"=some (some (.ref zbF)))(zjA:PySem.W.plainGet K zbF Str.empty=true)(zjO:PySem.W.hasDictIn K zbF=true)(zkc:PySem.W.plainOver K zbF=true)(zjJ:PySem.W.findIn K (.ref zbF) "__setattr__"=some (some (.builtin "object.__setattr__")))(zky:PySem.W.makesIn K zbF=true)(zka:PySem.W.keepIn K (.ref zbF)=true)
  (zlv:PySem.W.findIn K (.ref zbF) "depth"=some none)
  (ziN:PySem.W.findIn K (.ref zbF) "place"=some none)
  (ziK:PySem.W.findIn K (.ref zbF) "words"=some none)
  {f0 h0:Addr}{m0:Value}(a0:fdA K zci "__init__" f0)(l0:lkA K f0 "__init__" "Net.__init__" zjU m0 h0)(c0:cdA K h0 "Net.__init__")
  {f1 h1:Addr}{m1:Value}(a1:fdA K zbu "__init__" f1)(l1:lkA K f1 "__init__" "Task.__init__" zjH m1 h1)(c1:cdA K h1 "Task.__init__")
  {f2 h2:Addr}{m2:Value}(a2:nsA K "words_of" f2)(l2:lkA K f2 "words_of" "words_of" zki m2 h2)(c2:cdA K h2 "words_of")
  {f3 h3:Addr}{m3:Value}(a3:nsA K "place_of_sign" f3)(l3:lkA K f3 "place_of_sign" "place_of_sign" ziQ m3 h3)(c3:cdA K h3 "place_of_sign")
  {f4 h4:Addr}{m4:Value}(a4:fdA K zbF "__init__" f4)(l4:lkA K f4 "__init__" "Reader.__init__" zjj m4 h4)(c4:cdA K h4 "Reader.__init__")
  {f5 h5:Addr}{m5:Value}(a5:fdA K zbF "at_end" f5)(l5:lkA K f5 "at_end" "Reader.at_end" zit m5 h5)(c5:cdA K h5 "Reader.at_end")
  {f6 h6:Addr}{m6:Value}(a6:fdA K zbF "take" f6)(l6:lkA K f6 "take" "Reader.take" zkt m6 h6)(c6:cdA K h6 "Reader.take")
  {f7 h7:Addr}{m7:Value}(a7:nsA K "made_of" f7)(l7:lkA K f7 "made_of" "made_of" zhn m7 h7)(c7:cdA K h7 "made_of")
  {f8 h8:Addr}{m8:Value}(a8:nsA K "is_name" f8)(l8:lkA K f8 "is_name" "is_name" zkx m8 h8)(c8:cdA K h8 "is_name")
  {f9 h9:Addr}{m9:Value}(a9:nsA K "greatest_divisor" f9)(l9:lkA K f9 "greatest_divisor" "greatest_divisor" zkl m9 h9)(c9:cdA K h9 "greatest_divisor")
  {f10 h10:Addr}{m10:Value}(a10:nsA K "is_whole" f10)(l10:lkA K f10 "is_whole" "is_whole" zkM m10 h10)(c10:cdA K h10 "is_whole")
  {f11 h11:Addr}{m11:Value}(a11:nsA K "fraction" f11)(l11:lkA K f11 "fraction" "fraction" zk7 m11 h11)(c11:cdA K h11 "fraction")
  {f12 h12:Addr}{m12:Value}(a12:nsA K "figures_of" f12)(l12:lkA K f12 "figures_of" "figures_of" zjs m12 h12)(c12:cdA K h12 "figures_of")
  {f13 h13:Addr}{m13:Value}(a13:nsA K "written" f13)(l13:lkA K f13 "written" "written" ziW m13 h13)(c13:cdA K h13 "written")
  {f14 h14:Addr}{m14:Value}(a14:nsA K "number_of" f14)(l14:lkA K f14 "number_of" "number_of" zkD m14 h14)(c14:cdA K h14 "number_of")
  {f15 h15:Addr}{m15:Value}(a15:fdA K zbF "bracket" f15)(l15:lkA K f15 "bracket" "Reader.bracket" zgE m15 h15)(c15:cdA K h15 "Reader.bracket")
  {f16 h16:Addr}{m16:Value}(a16:fdA K zbF "atom" f16)(l16:lkA K f16 "atom" "Reader.atom" zha m16 h16)(c16:cdA K h16 "Reader.atom")
  {f17 h17:Addr}{m17:Value}(a17:fdA K zbF "sees" f17)(l17:lkA K f17 "sees" "Reader.sees" zkW m17 h17)(c17:cdA K h17 "Reader.sees")
  {f18 h18:Addr}{m18:Value}(a18:fdA K zbF "factor" f18)(l18:lkA K f18 "factor" "Reader.factor" zim m18 h18)(c18:cdA K h18 "Reader.factor")
  {f19 h19:Addr}{m19:Value}(a19:fdA K zbF "term" f19)(l19:lkA K f19 "term" "Reader.term" zh0 m19 h19)(c19:cdA K h19 "Reader.term")
  {f20 h20:Addr}{m20:Value}(a20:fdA K zbF "expression" f20)(l20:lkA K f20 "expression" "Reader.expression" zgh m20 h20)(c20:cdA K h20 "Reader.expression")
  {f21 h21:Addr}{m21:Value}(a21:nsA K "tree_of" f21)(l21:lkA K f21 "tree_of" "tree_of" zi8 m21 h21)(c21:cdA K h21 "tree_of")
  {f22 h22:Addr}{m22:Value}(a22:fdA K zbu "check_known" f22)(l22:lkA K f22 "check_known" "Task.check_known" zku m22 h22)(c22:cdA K h22 "Task.check_known")
  {f23 h23:Addr}{m23:Value}(a23:fdA K zci "nodes" f23)(l23:lkA K f23 "nodes" "Net.nodes" zkp m23 h23)(c23:cdA K h23 "Net.nodes")
  {f24 h24:Addr}{m24:Value}(a24:nsA K "weight_of" f24)(l24:lkA K f24 "weight_of" "weight_of" zk1 m24 h24)(c24:cdA K h24 "weight_of")
  {f25 h25:Addr}{m25:Value}(a25:fdA K zci "put" f25)(l25:lkA K f25 "put" "Net.put" zkk m25 h25)(c25:cdA K h25 "Net.put")
  {f26 h26:Addr}{m26:Value}(a26:nsA K "copy_of" f26)(l26:lkA K f26 "copy_of" "copy_of" ziF m26 h26)(c26:cdA K h26 "copy_of")
  {f27 h27:Addr}{m27:Value}(a27:nsA K "put_tree" f27)(l27:lkA K f27 "put_tree" "put_tree" zhU m27 h27)(c27:cdA K h27 "put_tree")
  {f28 h28:Addr}{m28:Value}(a28:fdA K zbu "tell_row" f28)(l28:lkA K f28 "tell_row" "Task.tell_row" zj6 m28 h28)(c28:cdA K h28 "Task.tell_row")
  {f29 h29:Addr}{m29:Value}(a29:nsA K "less" f29)(l29:lkA K f29 "less" "less" zjP m29 h29)(c29:cdA K h29 "less")
  {f30 h30:Addr}{m30:Value}(a30:nsA K "ends_of" f30)(l30:lkA K f30 "ends_of" "ends_of" zjW m30 h30)(c30:cdA K h30 "ends_of")
  {f31 h31:Addr}{m31:Value}(a31:fdA K zbu "check_new" f31)(l31:lkA K f31 "check_new" "Task.check_new" ziC m31 h31)(c31:cdA K h31 "Task.check_new")
  {f32 h32:Addr}{m32:Value}(a32:fdA K zbu "tell_unknown" f32)(l32:lkA K f32 "tell_unknown" "Task.tell_unknown" zjp m32 h32)(c32:cdA K h32 "Task.tell_unknown")
  {f33 h33:Addr}{m33:Value}(a33:fdA K zbu "tell_part" f33)(l33:lkA K f33 "tell_part" "Task.tell_part" zk6 m33 h33)(c33:cdA K h33 "Task.tell_part")
  {f34 h34:Addr}{m34:Value}(a34:fdA K zbu "tell" f34)(l34:lkA K f34 "tell" "Task.tell" zll m34 h34)(c34:cdA K h34 "Task.tell")
  {f35 h35:Addr}{m35:Value}(a35:nsA K "_law_atom" f35)(l35:lkA K f35 "_law_atom" "_law_atom" ziJ m35 h35)(c35:cdA K h35 "_law_atom")
  {f36 h36:Addr}{m36:Value}(a36:nsA K "_law_mix" f36)(l36:lkA K f36 "_law_mix" "_law_mix" zlm m36 h36)(c36:cdA K h36 "_law_mix")
  {f37 h37:Addr}{m37:Value}(a37:nsA K "_law_tree" f37)(l37:lkA K f37 "_law_tree" "_law_tree" zj2 m37 h37)(c37:cdA K h37 "_law_tree")
  {f38 h38:Addr}{m38:Value}(a38:nsA K "_law_weight" f38)(l38:lkA K f38 "_law_weight" "_law_weight" zg6 m38 h38)(c38:cdA K h38 "_law_weight")
  {f39 h39:Addr}{m39:Value}(a39:nsA K "_law_light" f39)(l39:lkA K f39 "_law_light" "_law_light" zj1 m39 h39)(c39:cdA K h39 "_law_light")
  {f40 h40:Addr}{m40:Value}(a40:nsA K "_law_cell_at" f40)(l40:lkA K f40 "_law_cell_at" "_law_cell_at" zjx m40 h40)(c40:cdA K h40 "_law_cell_at")
  {f41 h41:Addr}{m41:Value}(a41:fdA K zbu "nodes" f41)(l41:lkA K f41 "nodes" "Task.nodes" zi7 m41 h41)(c41:cdA K h41 "Task.nodes")
  {f42 h42:Addr}{m42:Value}(a42:fdA K zbu "rows" f42)(l42:lkA K f42 "rows" "Task.rows" zkb m42 h42)(c42:cdA K h42 "Task.rows")
  {f43 h43:Addr}{m43:Value}(a43:nsA K "_law_whole" f43)(l43:lkA K f43 "_law_whole" "_law_whole" zk5 m43 h43)(c43:cdA K h43 "_law_whole")
  {f44 h44:Addr}{m44:Value}(a44:nsA K "_law_in_order" f44)(l44:lkA K f44 "_law_in_order" "_law_in_order" zjk m44 h44)(c44:cdA K h44 "_law_in_order")
  {f45 h45:Addr}{m45:Value}(a45:nsA K "_law_level" f45)(l45:lkA K f45 "_law_level" "_law_level" zjm m45 h45)(c45:cdA K h45 "_law_level")
  {f46 h46:Addr}{m46:Value}(a46:nsA K "_law_number" f46)(l46:lkA K f46 "_law_number" "_law_number" zkf m46 h46)(c46:cdA K h46 "_law_number")
  {f47 h47:Addr}{m47:Value}(a47:nsA K "_law_words" f47)(l47:lkA K f47 "_law_words" "_law_words" zh9 m47 h47)(c47:cdA K h47 "_law_words")
  {f48 h48:Addr}{m48:Value}(a48:nsA K "_law_full" f48)(l48:lkA K f48 "_law_full" "_law_full" zgK m48 h48)(c48:cdA K h48 "_law_full")
  {f49 h49:Addr}{m49:Value}(a49:nsA K "law" f49)(l49:lkA K f49 "law" "law" zeT m49 h49)(c49:cdA K h49 "law")
  {ga_ROW_WORDS:Addr}{gn_ROW_WORDS:Nat}{w0_ROW_WORDS v0_ROW_WORDS w1_ROW_WORDS v1_ROW_WORDS:Tok}(g_ROW_WORDS:PySem.W.nsIn K mainGlobals "ROW_WORDS"=some (some (.ref ga_ROW_WORDS)))(gl_ROW_WORDS:K.lookup ga_ROW_WORDS=some ⟨.type "dict",none,.dict #[⟨zeL w (.inr "="),.str "=" w0_ROW_WORDS,.str "zero" v0_ROW_WORDS⟩,⟨zeL w (.inr ">="),.str ">=" w1_ROW_WORDS,.str "least" v1_ROW_WORDS⟩] gn_ROW_WORDS,#[]⟩)(gs_ROW_WORDS:(ga_ROW_WORDS==sysModules)=false)
  {ga_KEPT_WORDS:Addr}{gn_KEPT_WORDS:Nat}{go_KEPT_WORDS:Option Addr}{gs_KEPT_WORDS:Array (Option Value)}{w0_KEPT_WORDS w1_KEPT_WORDS w2_KEPT_WORDS w3_KEPT_WORDS w4_KEPT_WORDS w5_KEPT_WORDS w6_KEPT_WORDS w7_KEPT_WORDS w8_KEPT_WORDS w9_KEPT_WORDS:Tok}(g_KEPT_WORDS:PySem.W.nsIn K mainGlobals "KEPT_WORDS"=some (some (.ref ga_KEPT_WORDS)))(gl_KEPT_WORDS:K.lookup ga_KEPT_WORDS=some ⟨.type "tuple",go_KEPT_WORDS,.seq #[.str "let" w0_KEPT_WORDS,.str "in" w1_KEPT_WORDS,.str "grid" w2_KEPT_WORDS,.str "fine" w3_KEPT_WORDS,.str "looks" w4_KEPT_WORDS,.str "solve" w5_KEPT_WORDS,.str "boxes" w6_KEPT_WORDS,.str "point" w7_KEPT_WORDS,.str "right" w8_KEPT_WORDS,.str "islands" w9_KEPT_WORDS] gn_KEPT_WORDS,gs_KEPT_WORDS⟩)
  {t_MOST_LETTERS:Tok}(g_MOST_LETTERS:PySem.W.nsIn K mainGlobals "MOST_LETTERS"=some (some (.int 8 t_MOST_LETTERS)))
  {t_LETTERS:Tok}(g_LETTERS:PySem.W.nsIn K mainGlobals "LETTERS"=some (some (.str "abcdefghijklmnopqrstuvwxyz" t_LETTERS)))
  {t_MOST_FIGURES:Tok}(g_MOST_FIGURES:PySem.W.nsIn K mainGlobals "MOST_FIGURES"=some (some (.int 9 t_MOST_FIGURES)))
  {t_FIGURES:Tok}(g_FIGURES:PySem.W.nsIn K mainGlobals "FIGURES"=some (some (.str "0123456789" t_FIGURES)))
  {t_MOST_BRACKETS:Tok}(g_MOST_BRACKETS:PySem.W.nsIn K mainGlobals "MOST_BRACKETS"=some (some (.int 16 t_MOST_BRACKETS)))
  {ga_POWERS:Addr}{gn_POWERS:Nat}{go_POWERS:Option Addr}{gs_POWERS:Array (Option Value)}{w0_POWERS w1_POWERS w2_POWERS w3_POWERS w4_POWERS:Tok}(g_POWERS:PySem.W.nsIn K mainGlobals "POWERS"=some (some (.ref ga_POWERS)))(gl_POWERS:K.lookup ga_POWERS=some ⟨.type "tuple",go_POWERS,.seq #[.str "2" w0_POWERS,.str "3" w1_POWERS,.str "4" w2_POWERS,.str "5" w3_POWERS,.str "6" w4_POWERS] gn_POWERS,gs_POWERS⟩)
  {ga_SUMS:Addr}{gn_SUMS:Nat}{w0_SUMS v0_SUMS w1_SUMS v1_SUMS:Tok}(g_SUMS:PySem.W.nsIn K mainGlobals "SUMS"=some (some (.ref ga_SUMS)))(gl_SUMS:K.lookup ga_SUMS=some ⟨.type "dict",none,.dict #[⟨zeL w (.inr "+"),.str "+" w0_SUMS,.str "plus" v0_SUMS⟩,⟨zeL w (.inr "-"),.str "-" w1_SUMS,.str "minus" v1_SUMS⟩] gn_SUMS,#[]⟩)(gs_SUMS:(ga_SUMS==sysModules)=false)
  {t_MOST_WORDS:Tok}(g_MOST_WORDS:PySem.W.nsIn K mainGlobals "MOST_WORDS"=some (some (.int 120 t_MOST_WORDS)))
  {t_MOST_NODES:Tok}(g_MOST_NODES:PySem.W.nsIn K mainGlobals "MOST_NODES"=some (some (.int 60 t_MOST_NODES)))
  {t_MOST_WEIGHT:Tok}(g_MOST_WEIGHT:PySem.W.nsIn K mainGlobals "MOST_WEIGHT"=some (some (.int 16 t_MOST_WEIGHT)))
  {t_MOST_ROWS:Tok}(g_MOST_ROWS:PySem.W.nsIn K mainGlobals "MOST_ROWS"=some (some (.int 12 t_MOST_ROWS)))
  {t_MOST_UNKNOWNS:Tok}(g_MOST_UNKNOWNS:PySem.W.nsIn K mainGlobals "MOST_UNKNOWNS"=some (some (.int 4 t_MOST_UNKNOWNS)))
  (zbt:PySem.W.nsIn K mainGlobals "isinstance"=some none)
  (za8:PySem.W.nsIn K mainGlobals "str"=some none)
  (zc1:PySem.W.nsIn K mainGlobals "enumerate"=some none)
  (zaN:PySem.W.nsIn K mainGlobals "len"=some none)
  (zee:PySem.W.nsIn K mainGlobals "all"=some none)
  (zcZ:PySem.W.nsIn K mainGlobals "bool"=some none)
  (zbw:PySem.W.nsIn K mainGlobals "int"=some none)
  (zcI:PySem.W.nsIn K mainGlobals "abs"=some none)
  (zdL:PySem.W.nsIn K mainGlobals "reversed"=some none)
  (zco:PySem.W.nsIn K mainGlobals "list"=some none)
  (zcP:PySem.W.nsIn K mainGlobals "range"=some none)
  (zef:PySem.W.nsIn K mainGlobals "tuple"=some none)
  (zeh:PySem.W.nsIn K mainGlobals "min"=some none)
  (zfN:Kit K "str")
  (zdI:Kit K "bool")
  (zdJ:Kit K "int")
  (zf1:Kit K "tuple")
  {e_NoRow:Addr}(n_NoRow:PySem.W.nsIn K mainGlobals "NoRow"=some (some (.ref e_NoRow)))(x_NoRow:PySem.W.excIn K e_NoRow VE "ValueError.__new__"=true)
  {e_NoNumber:Addr}(n_NoNumber:PySem.W.nsIn K mainGlobals "NoNumber"=some (some (.ref e_NoNumber)))(x_NoNumber:PySem.W.excIn K e_NoNumber VE "ValueError.__new__"=true)
  {e_TooMuch:Addr}(n_TooMuch:PySem.W.nsIn K mainGlobals "TooMuch"=some (some (.ref e_TooMuch)))(x_TooMuch:PySem.W.excIn K e_TooMuch VE "ValueError.__new__"=true)
  :∃fd:FuncData,(∀(s:Shared) (v:Value),BindsTo s fd ⟨[v],[]⟩ [("_law_script",v)])∧∀base:Heap,K.In base→base.Ns mainGlobals mg→zaV l.prog w K mg base (CXE l.prog w) 135 fa fd ["_law_script"] (upF K zfM):=by
 have e:=hfa.symm.trans (PySem.W.mg_of X G a49)
 cases e
 let zaf:zcf K mg:=⟨zci,PySem.W.mg_of X G zlj,⟨zjc,zis,zj0,zkj⟩,zjy,zkT,zkR,zlf,zkh⟩
 let zad:zcS K mg:=⟨zbu,PySem.W.mg_of X G zjo,⟨zlu,zkE,ziI,zk3⟩,ziS,zjq,zjX,zjR,zjb,zi5,zlp⟩
 let zab:zcl K mg:=⟨zbF,PySem.W.mg_of X G ziY,⟨zjA,zjO,zkc,zjJ⟩,zlv,ziN,ziK,zky,zka⟩
 let zkz:Dm K zaf.C "__init__" "Net.__init__" zjU zf3:=dmo a0 l0 c0 λ_ _ _ _ _ _=>ln1 λ_=>rfl
 let zk0:Dm K zad.C "__init__" "Task.__init__" zjH zhB:=dmo a1 l1 c1 λ_ _ _ _ _ _=>ln1 λ_=>rfl
 let ziV:Df K mg "words_of" zki zg9:=dfo X G a2 l2 c2 λ_ _ _ _ _ _=>ln1 λ_=>rfl
 let zjG:Df K mg "place_of_sign" ziQ zgB:=dfo X G a3 l3 c3 λ_ _ _ _ _ _=>ln1 λ_=>rfl
 let zlb:Dm K zab.C "__init__" "Reader.__init__" zjj zgJ:=dmo a4 l4 c4 λ_ _ _ _ _ _=>ln2 λ_ _=>rfl
 let zjY:Dm K zab.C "at_end" "Reader.at_end" zit zey:=dmo a5 l5 c5 λ_ _ _ _ _ _=>ln1 λ_=>rfl
 let ziU:Dm K zab.C "take" "Reader.take" zkt zdo:=dmo a6 l6 c6 λ_ _ _ _ _ _=>ln1 λ_=>rfl
 let zjT:Df K mg "made_of" zhn ze9:=dfo X G a7 l7 c7 λ_ _ _ _ _ _=>ln3 λ_ _ _=>rfl
 let ziw:Df K mg "is_name" zkx zdA:=dfo X G a8 l8 c8 λ_ _ _ _ _ _=>ln1 λ_=>rfl
 let zjL:Df K mg "greatest_divisor" zkl zhg:=dfo X G a9 l9 c9 λ_ _ _ _ _ _=>ln2 λ_ _=>rfl
 let zkd:Df K mg "is_whole" zkM zgj:=dfo X G a10 l10 c10 λ_ _ _ _ _ _=>ln1 λ_=>rfl
 let zkH:Df K mg "fraction" zk7 zh4:=dfo X G a11 l11 c11 λ_ _ _ _ _ _=>ln2 λ_ _=>rfl
 let zkI:Df K mg "figures_of" zjs zhG:=dfo X G a12 l12 c12 λ_ _ _ _ _ _=>ln1 λ_=>rfl
 let zkq:Df K mg "written" ziW zhX:=dfo X G a13 l13 c13 λ_ _ _ _ _ _=>ln1 λ_=>rfl
 let zkX:Df K mg "number_of" zkD zeI:=dfo X G a14 l14 c14 λ_ _ _ _ _ _=>ln1 λ_=>rfl
 let zeW:Dm K zab.C "bracket" "Reader.bracket" zgE zfk:=dmo a15 l15 c15 λ_ _ _ _ _ _=>ln1 λ_=>rfl
 let zeC:Dm K zab.C "atom" "Reader.atom" zha zfp:=dmo a16 l16 c16 λ_ _ _ _ _ _=>ln1 λ_=>rfl
 let zjN:Dm K zab.C "sees" "Reader.sees" zkW zdW:=dmo a17 l17 c17 λ_ _ _ _ _ _=>ln2 λ_ _=>rfl
 let zeY:Dm K zab.C "factor" "Reader.factor" zim zf9:=dmo a18 l18 c18 λ_ _ _ _ _ _=>ln1 λ_=>rfl
 let zeR:Dm K zab.C "term" "Reader.term" zh0 zfh:=dmo a19 l19 c19 λ_ _ _ _ _ _=>ln1 λ_=>rfl
 let zdV:Dm K zab.C "expression" "Reader.expression" zgh zea:=dmo a20 l20 c20 λ_ _ _ _ _ _=>ln1 λ_=>rfl
 let zkA:Df K mg "tree_of" zi8 zfY:=dfo X G a21 l21 c21 λ_ _ _ _ _ _=>ln1 λ_=>rfl
 let zko:Dm K zad.C "check_known" "Task.check_known" zku zf8:=dmo a22 l22 c22 λ_ _ _ _ _ _=>ln2 λ_ _=>rfl
 let zle:Dm K zaf.C "nodes" "Net.nodes" zkp ze6:=dmo a23 l23 c23 λ_ _ _ _ _ _=>ln1 λ_=>rfl
 let ziA:Df K mg "weight_of" zk1 zgv:=dfo X G a24 l24 c24 λ_ _ _ _ _ _=>ln2 λ_ _=>rfl
 let zkS:Dm K zaf.C "put" "Net.put" zkk zdZ:=dmo a25 l25 c25 λ_ _ _ _ _ _=>ln2 λ_ _=>rfl
 let zjl:Df K mg "copy_of" ziF zfd:=dfo X G a26 l26 c26 λ_ _ _ _ _ _=>ln1 λ_=>rfl
 let zel:Df K mg "put_tree" zhU zdG:=dfo X G a27 l27 c27 λ_ _ _ _ _ _=>ln3 λ_ _ _=>rfl
 let zja:Dm K zad.C "tell_row" "Task.tell_row" zj6 zhk:=dmo a28 l28 c28 λ_ _ _ _ _ _=>ln2 λ_ _=>rfl
 let ziR:Df K mg "less" zjP zhP:=dfo X G a29 l29 c29 λ_ _ _ _ _ _=>ln2 λ_ _=>rfl
 let zkC:Df K mg "ends_of" zjW zhm:=dfo X G a30 l30 c30 λ_ _ _ _ _ _=>ln1 λ_=>rfl
 let zks:Dm K zad.C "check_new" "Task.check_new" ziC zfZ:=dmo a31 l31 c31 λ_ _ _ _ _ _=>ln2 λ_ _=>rfl
 let zi4:Dm K zad.C "tell_unknown" "Task.tell_unknown" zjp zgt:=dmo a32 l32 c32 λ_ _ _ _ _ _=>ln2 λ_ _=>rfl
 let zlx:Dm K zad.C "tell_part" "Task.tell_part" zk6 zhq:=dmo a33 l33 c33 λ_ _ _ _ _ _=>ln2 λ_ _=>rfl
 let zjK:Dm K zad.C "tell" "Task.tell" zll zhu:=dmo a34 l34 c34 λ_ _ _ _ _ _=>ln2 λ_ _=>rfl
 let zln:Df K mg "_law_atom" ziJ zhL:=dfo X G a35 l35 c35 λ_ _ _ _ _ _=>ln2 λ_ _=>rfl
 let ziO:Df K mg "_law_mix" zlm zgU:=dfo X G a36 l36 c36 λ_ _ _ _ _ _=>ln2 λ_ _=>rfl
 let zk4:Df K mg "_law_tree" zj2 zgG:=dfo X G a37 l37 c37 λ_ _ _ _ _ _=>ln2 λ_ _=>rfl
 let zd9:Df K mg "_law_weight" zg6 zd4:=dfo X G a38 l38 c38 λ_ _ _ _ _ _=>ln1 λ_=>rfl
 let ziG:Df K mg "_law_light" zj1 zhF:=dfo X G a39 l39 c39 λ_ _ _ _ _ _=>ln1 λ_=>rfl
 let ziZ:Df K mg "_law_cell_at" zjx zic:=dfo X G a40 l40 c40 λ_ _ _ _ _ _=>ln2 λ_ _=>rfl
 let ziP:Dm K zad.C "nodes" "Task.nodes" zi7 zhh:=dmo a41 l41 c41 λ_ _ _ _ _ _=>ln1 λ_=>rfl
 let zjM:Dm K zad.C "rows" "Task.rows" zkb zgY:=dmo a42 l42 c42 λ_ _ _ _ _ _=>ln1 λ_=>rfl
 let ziD:Df K mg "_law_whole" zk5 zhO:=dfo X G a43 l43 c43 λ_ _ _ _ _ _=>ln1 λ_=>rfl
 let zj7:Df K mg "_law_in_order" zjk zhY:=dfo X G a44 l44 c44 λ_ _ _ _ _ _=>ln1 λ_=>rfl
 let zje:Df K mg "_law_level" zjm zfc:=dfo X G a45 l45 c45 λ_ _ _ _ _ _=>ln1 λ_=>rfl
 let ziE:Df K mg "_law_number" zkf zfJ:=dfo X G a46 l46 c46 λ_ _ _ _ _ _=>ln2 λ_ _=>rfl
 let zd7:Df K mg "_law_words" zh9 zdk:=dfo X G a47 l47 c47 λ_ _ _ _ _ _=>ln2 λ_ _=>rfl
 let zeb:Df K mg "_law_full" zgK zd6:=dfo X G a48 l48 c48 λ_ _ _ _ _ _=>ln2 λ_ _=>rfl
 let zlo:Df K mg "law" zeT ziH:=dfo X G a49 l49 c49 λ_ _ _ _ _ _=>ln1 λ_=>rfl
 have zbt:=PySem.W.mg_none_of X G zbt
 have za8:=PySem.W.mg_none_of X G za8
 have zc1:=PySem.W.mg_none_of X G zc1
 have zaN:=PySem.W.mg_none_of X G zaN
 have zee:=PySem.W.mg_none_of X G zee
 have zcZ:=PySem.W.mg_none_of X G zcZ
 have zbw:=PySem.W.mg_none_of X G zbw
 have zcI:=PySem.W.mg_none_of X G zcI
 have zdL:=PySem.W.mg_none_of X G zdL
 have zco:=PySem.W.mg_none_of X G zco
 have zcP:=PySem.W.mg_none_of X G zcP
 have zef:=PySem.W.mg_none_of X G zef
 have zeh:=PySem.W.mg_none_of X G zeh
 have g_ROW_WORDS:GD l.prog w K mg "ROW_WORDS" _:=zn3 (PySem.W.mg_of X G g_ROW_WORDS) gl_ROW_WORDS ⟨rfl,rfl,rfl⟩ rfl (by decide) gs_ROW_WORDS
 have g_KEPT_WORDS:GT K mg "KEPT_WORDS" ["let","in","grid","fine","looks","solve","boxes","point","right","islands"]:=⟨ga_KEPT_WORDS,_,_,_,PySem.W.mg_of X G g_KEPT_WORDS,gl_KEPT_WORDS,rfl,rfl,(show 10≤sizeLine from zb5 (by decide)),(.cons ⟨_,rfl⟩ (.cons ⟨_,rfl⟩ (.cons ⟨_,rfl⟩ (.cons ⟨_,rfl⟩ (.cons ⟨_,rfl⟩ (.cons ⟨_,rfl⟩ (.cons ⟨_,rfl⟩ (.cons ⟨_,rfl⟩ (.cons ⟨_,rfl⟩ (.cons ⟨_,rfl⟩ .nil))))))))))⟩
 have g_MOST_LETTERS:=PySem.W.mg_of X G g_MOST_LETTERS
 have g_LETTERS:=PySem.W.mg_of X G g_LETTERS
 have g_MOST_FIGURES:=PySem.W.mg_of X G g_MOST_FIGURES
 have g_FIGURES:=PySem.W.mg_of X G g_FIGURES
 have g_MOST_BRACKETS:=PySem.W.mg_of X G g_MOST_BRACKETS
 have g_POWERS:GT K mg "POWERS" ["2","3","4","5","6"]:=⟨ga_POWERS,_,_,_,PySem.W.mg_of X G g_POWERS,gl_POWERS,rfl,rfl,(show 5≤sizeLine from zb5 (by decide)),(.cons ⟨_,rfl⟩ (.cons ⟨_,rfl⟩ (.cons ⟨_,rfl⟩ (.cons ⟨_,rfl⟩ (.cons ⟨_,rfl⟩ .nil)))))⟩
 have g_SUMS:GD l.prog w K mg "SUMS" _:=zn3 (PySem.W.mg_of X G g_SUMS) gl_SUMS ⟨rfl,rfl,rfl⟩ rfl (by decide) gs_SUMS
 have g_MOST_WORDS:=PySem.W.mg_of X G g_MOST_WORDS
 have g_MOST_NODES:=PySem.W.mg_of X G g_MOST_NODES
 have g_MOST_WEIGHT:=PySem.W.mg_of X G g_MOST_WEIGHT
 have g_MOST_ROWS:=PySem.W.mg_of X G g_MOST_ROWS
 have g_MOST_UNKNOWNS:=PySem.W.mg_of X G g_MOST_UNKNOWNS
 let zav:Ec K mg "NoRow":=⟨e_NoRow,PySem.W.mg_of X G n_NoRow,x_NoRow⟩
 let zaD:Ec K mg "NoNumber":=⟨e_NoNumber,PySem.W.mg_of X G n_NoNumber,x_NoNumber⟩
 let zaK:Ec K mg "TooMuch":=⟨e_TooMuch,PySem.W.mg_of X G n_TooMuch,x_TooMuch⟩
 refine⟨PySem.W.fnOf "law" "law" (zeZ zeT) (zcW zeT) (zau zeT) .none .none .none m49 none (.ref h49) .none,λs v=>.of_eq rfl,λbase _ _=>?_⟩
 let zcK:=zw9 (P:=l.prog) (w:=w) (base:=base) zaf zkz
 let zfQ:=zqB (P:=l.prog) (w:=w) (base:=base) zad zaf zk0 zcK
 let zmK:=ztD (P:=l.prog) (w:=w) (base:=base) ziV zbt za8 zfN
 let zlY:=zv1 (P:=l.prog) (w:=w) (base:=base) zjG g_ROW_WORDS zc1
 let zfB:=ztN (P:=l.prog) (w:=w) (base:=base) zab zlb
 let zb3:=zuQ (P:=l.prog) (w:=w) (base:=base) zab zjY zaN
 let za1:=zvq (P:=l.prog) (w:=w) (base:=base) zab ziU zav zb3
 let zez:=zvx (P:=l.prog) (w:=w) (base:=base) zjT zee zaN
 let zcb:=zqP (P:=l.prog) (w:=w) (base:=base) ziw zez g_KEPT_WORDS g_MOST_LETTERS g_LETTERS
 let zmp:=zt0 (P:=l.prog) (w:=w) (base:=base) zjL
 let zk8:=zqM (P:=l.prog) (w:=w) (base:=base) zkd zbt zcZ zbw zdI zdJ
 let zmy:=zqz (P:=l.prog) (w:=w) (base:=base) zkH zaD zmp zk8 zcI
 let zkG:=zun (P:=l.prog) (w:=w) (base:=base) zkI zdL za8
 let zmm:=zqq (P:=l.prog) (w:=w) (base:=base) zkq zkG zcI
 let zc8:=zwo (P:=l.prog) (w:=w) (base:=base) zkX zav zaD zmm zmy zez g_MOST_FIGURES g_FIGURES zbw
 let zbz:=zxl (P:=l.prog) (w:=w) (base:=base) zab zjN zb3
 let zcQ:=zpb (P:=l.prog) (w:=w) (base:=base) zab zav zaD zeW za1 g_MOST_BRACKETS zeC zc8 zcb zeY zbz g_POWERS zbw zeR zdV g_SUMS 17
 let zeG:=zts (P:=l.prog) (w:=w) (base:=base) zab zkA zav zaD zb3 zcQ zfB g_MOST_WORDS zaN
 let zdc:=zwt (P:=l.prog) (w:=w) (base:=base) zad zko zcb
 let zdp:=zwI (P:=l.prog) (w:=w) (base:=base) zaf zle zco
 let zlM:=zro (P:=l.prog) (w:=w) (base:=base) ziA
 let zbm:=zwX (P:=l.prog) (w:=w) (base:=base) zaf zkS zaK zlM g_MOST_NODES g_MOST_WEIGHT zaN
 let ze8:=zqr (P:=l.prog) (w:=w) (base:=base) zaf zjl zaK zdp zbm zcK
 let zc4:=zo5 (P:=l.prog) (w:=w) (base:=base) zaf zaK zel zbm 130
 let zgR:=zrn (P:=l.prog) (w:=w) (base:=base) zad zaf zab zja zaK zav zaD zc4 ze8 zdc zeG zlY g_ROW_WORDS g_MOST_ROWS zaN
 let zmZ:=zru (P:=l.prog) (w:=w) (base:=base) ziR
 let zmG:=zuX (P:=l.prog) (w:=w) (base:=base) zkC zav zaD zmZ zc8 zcb zaN
 let zc9:=zrQ (P:=l.prog) (w:=w) (base:=base) zad zks
 let zgL:=zvF (P:=l.prog) (w:=w) (base:=base) zad zaf zi4 zaK zbm zc9 zmG g_MOST_UNKNOWNS zaN
 let zgm:=zsa (P:=l.prog) (w:=w) (base:=base) zad zaf zab zlx zaK zav zaD zc4 ze8 zdc zc9 zeG zcb zaN
 let zbk:=zxn (P:=l.prog) (w:=w) (base:=base) zad zaf zjK zgR zgm zgL zmK
 let zlq:=zuw (P:=l.prog) (w:=w) (base:=base) zln zaN
 let zho:=zxc (P:=l.prog) (w:=w) (base:=base) ziO
 let zmc:=zt9 (P:=l.prog) (w:=w) (base:=base) zk4 zho zlq zcP
 let zdw:=zpA (P:=l.prog) (w:=w) (base:=base) zd9 12
 let ziy:=zsb (P:=l.prog) (w:=w) (base:=base) ziG zdw zmc
 let zhd:=zwa (P:=l.prog) (w:=w) (base:=base) ziZ zaN
 let zbT:=ztO (P:=l.prog) (w:=w) (base:=base) zaf zad ziP zdp
 let zdO:=ztB (P:=l.prog) (w:=w) (base:=base) zad zjM zco
 let zmg:=zrB (P:=l.prog) (w:=w) (base:=base) ziD zbt zcZ zbw zdI zdJ
 let zmD:=zrm (P:=l.prog) (w:=w) (base:=base) zj7 zmg zc1 zbt zef zf1
 let zfi:=zxe (P:=l.prog) (w:=w) (base:=base) zje
 let zfa:=zvY (P:=l.prog) (w:=w) (base:=base) ziE za8
 let zbA:=zpJ (P:=l.prog) (w:=w) (base:=base) zd7 zfi zfa za8 12
 let zdv:=zpx (P:=l.prog) (w:=w) (base:=base) zeb zbA za8 12
 let G_law:=zvL (P:=l.prog) (w:=w) (base:=base) zad zaf zlo zbT zdO zbk zmD zhd zdv zbA ziy zfQ zaN zbt zco zcP zeh
 exact G_law.ok
end Mine
open PySem PySem.W PyProof.Rows
set_option maxRecDepth 100003 in
set_option maxHeartbeats 0 in
theorem PySem.Challenge.cw_boxnarrow_k15_parts_shared_holds : PySem.Challenge.rw_boxnarrow_k15_parts_shared.Holds := by
 w_on; o_law
 refine PySem.W.holds_open (q:=Mine.vw) (loose:=[PySem.Str.ofString "SUMS",PySem.Str.ofString "ROW_WORDS"]) (Xt:=Mine.xt) (XP:=XL Mine.vw []) (Yf:=Hook.obs (kHook Mine.kp Mine.ks Mine.zfV)) (Ya:=Hook.val (kHook Mine.kp Mine.ks Mine.zfV))
  (YP:=Hook.says (kHook Mine.kp Mine.ks Mine.zfV)) (N:=7354) Mine.left (Hook.of (kHook Mine.kp Mine.ks Mine.zfV)) (Hook.keeps (kHook Mine.kp Mine.ks Mine.zfV)) (λs e=>xl_of s (Bool.and_eq_true_iff.mp e).1) XL.keeps
  (by rfl) (by rfl) (by rfl) (λs e=>recFacts_of (Bool.and_eq_true_iff.mp e).2) (by rfl) (by first | assumption | decide +kernel)
  (by decide +kernel) ⟨rfl,rfl,rfl,rfl,rfl,by decide +kernel⟩ ?hw ?hc
 (case hw=>w_witness2)
 k_fill
 refine L3.zuh (l:=PySem.Challenge.rw_boxnarrow_k15_parts_shared) (x:="_law_script") 135 rfl rfl ⟨rfl,by decide,by decide⟩ (λw h Y=>PySem.W.kIn_of Y) ?F
 case F=>
  intro w mg fa h KX G hmg
  refine' Mine.zrX KX G hmg (zlj:=?zlj) (zjc:=?zjc) (zis:=?zis) (zj0:=?zj0) (zkj:=?zkj) (zlf:=?zlf) (zkh:=?zkh) (zjy:=?zjy) (zkT:=?zkT) (zkR:=?zkR) (zjo:=?zjo) (zlu:=?zlu) (zkE:=?zkE) (ziI:=?ziI) (zk3:=?zk3) (zi5:=?zi5) (zlp:=?zlp) (ziS:=?ziS) (zjq:=?zjq) (zjX:=?zjX) (zjR:=?zjR) (zjb:=?zjb) (ziY:=?ziY) (zjA:=?zjA) (zjO:=?zjO) (zkc:=?zkc) (zjJ:=?zjJ) (zky:=?zky) (zka:=?zka) (zlv:=?zlv) (ziN:=?ziN) (ziK:=?ziK) (a0:=?a0) (l0:=?l0) (c0:=?c0) (a1:=?a1) (l1:=?l1) (c1:=?c1) (a2:=?a2) (l2:=?l2) (c2:=?c2) (a3:=?a3) (l3:=?l3) (c3:=?c3) (a4:=?a4) (l4:=?l4) (c4:=?c4) (a5:=?a5) (l5:=?l5) (c5:=?c5) (a6:=?a6) (l6:=?l6) (c6:=?c6) (a7:=?a7) (l7:=?l7) (c7:=?c7) (a8:=?a8) (l8:=?l8) (c8:=?c8) (a9:=?a9) (l9:=?l9) (c9:=?c9) (a10:=?a10) (l10:=?l10) (c10:=?c10) (a11:=?a11) (l11:=?l11) (c11:=?c11) (a12:=?a12) (l12:=?l12) (c12:=?c12) (a13:=?a13) (l13:=?l13) (c13:=?c13) (a14:=?a14) (l14:=?l14) (c14:=?c14) (a15:=?a15) (l15:=?l15) (c15:=?c15) (a16:=?a16) (l16:=?l16) (c16:=?c16) (a17:=?a17) (l17:=?l17) (c17:=?c17) (a18:=?a18) (l18:=?l18) (c18:=?c18) (a19:=?a19) (l19:=?l19) (c19:=?c19) (a20:=?a20) (l20:=?l20) (c20:=?c20) (a21:=?a21) (l21:=?l21) (c21:=?c21) (a22:=?a22) (l22:=?l22) (c22:=?c22) (a23:=?a23) (l23:=?l23) (c23:=?c23) (a24:=?a24) (l24:=?l24) (c24:=?c24) (a25:=?a25) (l25:=?l25) (c25:=?c25) (a26:=?a26) (l26:=?l26) (c26:=?c26) (a27:=?a27) (l27:=?l27) (c27:=?c27) (a28:=?a28) (l28:=?l28) (c28:=?c28) (a29:=?a29) (l29:=?l29) (c29:=?c29) (a30:=?a30) (l30:=?l30) (c30:=?c30) (a31:=?a31) (l31:=?l31) (c31:=?c31) (a32:=?a32) (l32:=?l32) (c32:=?c32) (a33:=?a33) (l33:=?l33) (c33:=?c33) (a34:=?a34) (l34:=?l34) (c34:=?c34) (a35:=?a35) (l35:=?l35) (c35:=?c35) (a36:=?a36) (l36:=?l36) (c36:=?c36) (a37:=?a37) (l37:=?l37) (c37:=?c37) (a38:=?a38) (l38:=?l38) (c38:=?c38) (a39:=?a39) (l39:=?l39) (c39:=?c39) (a40:=?a40) (l40:=?l40) (c40:=?c40) (a41:=?a41) (l41:=?l41) (c41:=?c41) (a42:=?a42) (l42:=?l42) (c42:=?c42) (a43:=?a43) (l43:=?l43) (c43:=?c43) (a44:=?a44) (l44:=?l44) (c44:=?c44) (a45:=?a45) (l45:=?l45) (c45:=?c45) (a46:=?a46) (l46:=?l46) (c46:=?c46) (a47:=?a47) (l47:=?l47) (c47:=?c47) (a48:=?a48) (l48:=?l48) (c48:=?c48) (a49:=?a49) (l49:=?l49) (c49:=?c49) (g_ROW_WORDS:=?g_ROW_WORDS) (gl_ROW_WORDS:=?gl_ROW_WORDS) (gs_ROW_WORDS:=?gs_ROW_WORDS) (g_KEPT_WORDS:=?g_KEPT_WORDS) (gl_KEPT_WORDS:=?gl_KEPT_WORDS) (g_MOST_LETTERS:=?g_MOST_LETTERS) (g_LETTERS:=?g_LETTERS) (g_MOST_FIGURES:=?g_MOST_FIGURES) (g_FIGURES:=?g_FIGURES) (g_MOST_BRACKETS:=?g_MOST_BRACKETS) (g_POWERS:=?g_POWERS) (gl_POWERS:=?gl_POWERS) (g_SUMS:=?g_SUMS) (gl_SUMS:=?gl_SUMS) (gs_SUMS:=?gs_SUMS) (g_MOST_WORDS:=?g_MOST_WORDS) (g_MOST_NODES:=?g_MOST_NODES) (g_MOST_WEIGHT:=?g_MOST_WEIGHT) (g_MOST_ROWS:=?g_MOST_ROWS) (g_MOST_UNKNOWNS:=?g_MOST_UNKNOWNS) (zbt:=?zbt) (za8:=?za8) (zc1:=?zc1) (zaN:=?zaN) (zee:=?zee) (zcZ:=?zcZ) (zbw:=?zbw) (zcI:=?zcI) (zdL:=?zdL) (zco:=?zco) (zcP:=?zcP) (zef:=?zef) (zeh:=?zeh) (n_NoRow:=?n_NoRow) (x_NoRow:=?x_NoRow) (n_NoNumber:=?n_NoNumber) (x_NoNumber:=?x_NoNumber) (n_TooMuch:=?n_TooMuch) (x_TooMuch:=?x_TooMuch) (zfN:=?zfN) (zdI:=?zdI) (zdJ:=?zdJ) (zf1:=?zf1)
  (case zlj | zjc | zis | zj0 | zkj | zlf | zkh | zjy | zkT | zkR | zjo | zlu | zkE | ziI | zk3 | zi5 | zlp | ziS | zjq | zjX | zjR | zjb | ziY | zjA | zjO | zkc | zjJ | zky | zka | zlv | ziN | ziK | g_ROW_WORDS | gl_ROW_WORDS=>k_is)
  (case gs_ROW_WORDS=>first | rfl | decide)
  (case g_KEPT_WORDS | gl_KEPT_WORDS | g_MOST_LETTERS | g_LETTERS | g_MOST_FIGURES | g_FIGURES | g_MOST_BRACKETS | g_POWERS | gl_POWERS | g_SUMS | gl_SUMS=>k_is)
  (case gs_SUMS=>first | rfl | decide)
  (case g_MOST_WORDS | g_MOST_NODES | g_MOST_WEIGHT | g_MOST_ROWS | g_MOST_UNKNOWNS | zbt | za8 | zc1 | zaN | zee | zcZ | zbw | zcI | zdL | zco | zcP | zef | zeh | n_NoRow=>k_is)
  (case x_NoRow=>k_exc)
  (case n_NoNumber=>k_is)
  (case x_NoNumber=>k_exc)
  (case n_TooMuch=>k_is)
  (case x_TooMuch=>k_exc)
  (case a2 | a3 | a7 | a8 | a9 | a10 | a11 | a12 | a13 | a14 | a21 | a24 | a26 | a27 | a29 | a30 | a35 | a36 | a37 | a38 | a39 | a40 | a43 | a44 | a45 | a46 | a47 | a48 | a49=>delta Mine.nsA; k_is)
  (case a0 | a1 | a4 | a5 | a6 | a15 | a16 | a17 | a18 | a19 | a20 | a22 | a23 | a25 | a28 | a31 | a32 | a33 | a34 | a41 | a42=>delta Mine.fdA; k_is)
  (case l0 | l1 | l2 | l3 | l4 | l5 | l6 | l7 | l8 | l9 | l10 | l11 | l12 | l13 | l14 | l15 | l16 | l17 | l18 | l19 | l20 | l21 | l22 | l23 | l24 | l25 | l26 | l27 | l28 | l29 | l30 | l31 | l32 | l33 | l34 | l35 | l36 | l37 | l38 | l39 | l40 | l41 | l42 | l43 | l44 | l45 | l46 | l47 | l48 | l49=>delta Mine.lkA; k_is)
  (case c0 | c1 | c2 | c3 | c4 | c5 | c6 | c7 | c8 | c9 | c10 | c11 | c12 | c13 | c14 | c15 | c16 | c17 | c18 | c19 | c20 | c21 | c22 | c23 | c24 | c25 | c26 | c27 | c28 | c29 | c30 | c31 | c32 | c33 | c34 | c35 | c36 | c37 | c38 | c39 | c40 | c41 | c42 | c43 | c44 | c45 | c46 | c47 | c48 | c49=>delta Mine.cdA; k_is)
  (case zfN=>exact L3.zkN _ _ (by simp))
  (case zdI=>exact L3.zkN _ _ (by simp))
  (case zdJ=>exact L3.zkN _ _ (by simp))
  (case zf1=>exact L3.zkN _ _ (by simp))
