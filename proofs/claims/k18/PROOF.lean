import PyProof.Rows.All
import Wide.All
import OpenK.AllK
import Wide.FinOn
import Lean
import PyProof.EqAt
import PyProof.EqKinds
import PyProof.TupleCall
import PySem.Challenge.RW_boxnarrow_k18_shown_read_again
theorem Vaa:type_of% @List.mem_cons:=@List.mem_cons
theorem Vab:type_of% @Nat.le_refl:=@Nat.le_refl
theorem Vac:type_of% @List.getElem?_eq_some_iff:=@List.getElem?_eq_some_iff
theorem Vad:type_of% @List.not_mem_nil:=@List.not_mem_nil
theorem Vae:type_of% @List.lookup_cons:=@List.lookup_cons
theorem Vaf:type_of% @List.length_map:=@List.length_map
theorem Vag:type_of% @List.length_append:=@List.length_append
theorem Vah:type_of% @List.getElem?_append_left:=@List.getElem?_append_left
theorem Vai:type_of% @List.getD_eq_getElem?_getD:=@List.getD_eq_getElem?_getD
theorem Vaj:type_of% @List.map_cons:=@List.map_cons
theorem Vak:type_of% @Nat.lt_of_lt_of_le:=@Nat.lt_of_lt_of_le
theorem Val:type_of% @List.mem_append:=@List.mem_append
theorem Vam:type_of% @Nat.ne_of_lt:=@Nat.ne_of_lt
theorem Van:type_of% @Bool.false_ne_true:=@Bool.false_ne_true
theorem Vao:type_of% @List.getElem?_map:=@List.getElem?_map
theorem Vap:type_of% @List.mem_cons_of_mem:=@List.mem_cons_of_mem
theorem Vaq:type_of% @List.length_cons:=@List.length_cons
theorem Var:type_of% @List.size_toArray:=@List.size_toArray
theorem Vas:type_of% @List.mem_of_getElem?:=@List.mem_of_getElem?
theorem Vat:type_of% @List.mem_singleton:=@List.mem_singleton
theorem Vau:type_of% @List.mem_cons_self:=@List.mem_cons_self
theorem Vav:type_of% @List.mem_append_right:=@List.mem_append_right
theorem Vaw:type_of% @List.getElem?_eq_getElem:=@List.getElem?_eq_getElem
theorem Vax:type_of% @Nat.le_trans:=@Nat.le_trans
theorem Vay:type_of% @Bool.and_eq_true:=@Bool.and_eq_true
theorem Vaz:type_of% @List.map_append:=@List.map_append
theorem VaA:type_of% @List.append_assoc:=@List.append_assoc
theorem VaB:type_of% @List.append_nil:=@List.append_nil
theorem VaC:type_of% @Nat.lt_irrefl:=@Nat.lt_irrefl
theorem VaD:type_of% @List.mem_append_left:=@List.mem_append_left
theorem VaE:type_of% @List.getElem?_append_right:=@List.getElem?_append_right
theorem VaF:type_of% @Nat.le_of_lt:=@Nat.le_of_lt
theorem VaG:type_of% @Nat.zero_le:=@Nat.zero_le
theorem VaH:type_of% @List.nodup_cons:=@List.nodup_cons
theorem VaI:type_of% @List.mem_map:=@List.mem_map
theorem VaJ:type_of% @List.getElem?_set_ne:=@List.getElem?_set_ne
theorem VaK:type_of% @List.length_take:=@List.length_take
theorem VaL:type_of% @Int.toNat_natCast:=@Int.toNat_natCast
theorem VaM:type_of% @List.find?_cons:=@List.find?_cons
theorem VaN:type_of% @List.any_cons:=@List.any_cons
theorem VaO:type_of% @Bool.eq_iff_iff:=@Bool.eq_iff_iff
theorem VaP:type_of% @List.nodup_nil:=@List.nodup_nil
theorem VaQ:type_of% @List.getElem_mem:=@List.getElem_mem
theorem VaR:type_of% @Option.map_eq_some_iff:=@Option.map_eq_some_iff
theorem VaS:type_of% @List.cons_append:=@List.cons_append
theorem VaT:type_of% @Nat.pow_succ:=@Nat.pow_succ
theorem VaU:type_of% @List.mem_range:=@List.mem_range
theorem VaV:type_of% @List.getElem?_set_self:=@List.getElem?_set_self
theorem VaW:type_of% @Bool.false_and:=@Bool.false_and
theorem VaX:type_of% @Nat.pow_le_pow_right:=@Nat.pow_le_pow_right
theorem VaY:type_of% @List.drop_of_length_le:=@List.drop_of_length_le
theorem VaZ:type_of% @Int.ofNat_lt:=@Int.ofNat_lt
set_option Elab.async false
set_option linter.all false
set_option maxRecDepth 100000
set_option genSizeOf false
set_option maxHeartbeats 40000000
namespace L2
open PySem PySem.Spec PyProof.Rows
def zaH (s:Stmt)(j:Nat):Stmt:=match s with
 | .ClassDef _ _ _ body _ _ _ _ _ _ _=>body.getD j (.Pass ⟨0,0,0,0⟩)
 | _=>.Pass ⟨0,0,0,0⟩
def zeW (s:Stmt):Arguments:=match s with
 | .FunctionDef _ a _ _ _ _ _ _ _ _=>a
 | _=>{ posonlyargs:=[],args:=[],vararg:=none,kwonlyargs:=[],kw_defaults:=[],kwarg:=none,defaults:=[] }
def zdO (s:Stmt):List Stmt:=match s with
 | .FunctionDef _ _ b _ _ _ _ _ _ _=>b
 | _=>[]
def zau (s:Stmt):Scope:=match s with
 | .FunctionDef _ _ _ _ _ _ sc _ _ _=>sc
 | _=>{ kind:=.function,names:=[],isGenerator:=false,isCoroutine:=false }
end L2
namespace L3
open PySem PySem.W PyProof.Rows PySem.Calls
def goT (tb:String→Option Builtin)(p:Program)(w:World)(n₀:Nat)(ann:Option Value):Nat→SharedT→Thread→Option SharedT
 | 0,_,_=>none
 | k+1,s,t=>bif through t then some s else bif stepOk n₀ ann t then (stepT (denote tb) p w s t).bind (λr=>goT tb p w n₀ ann k r.1 r.2) else none
theorem zn0 {tb:String→Option Builtin}{p:Program}{w:World}{n₀:Nat}{ann:Option Value}:∀ {n:Nat} {s s':SharedT} {t:Thread},goT tb p w n₀ ann n s t=some s'→topRun tb p w n₀ ann n s.abs t=some s'.abs
 | 0,_,_,_,q=>nomatch q
 | n+1,s,s',t,q=>by
  unfold goT at q
  unfold topRun
  cases c1:through t
  ·rw[c1] at q
   cases c2:stepOk n₀ ann t
   ·rw[c2] at q
    exact nomatch q
   ·rw[c2] at q
    obtain⟨⟨s2,t2⟩,c3,q⟩:=Option.bind_eq_some_iff.mp q
    rw[stepT_spec c3]
    exact zn0 q
  ·rw[c1] at q
   cases q
   rfl
def zlN (os:Array Obj):Nat→Nat→Nat→BT
 | 0,_,_=>.nil
 | f+1,a,b=>match os[b]? with
  | some o=>.node o (zlN os f (2*a) (a+b)) (zlN os f (2*a) (2*a+b))
  | none=>.nil
noncomputable def bootT (P:Params):BT:=zlN (boot_heap P).objs 6 1 0
noncomputable abbrev zgv (w:World)(os:OsState):SharedT:=⟨bootT w.params,11,(boot_heap w.params).life,Array.mk [],boot_drawn,boot_toks,os⟩
def zex (s:SharedT)(a:Addr):Option Obj:=if a<s.n then (match s.tree.get a with | some o=>alive o | none=>s.abs.heap.get? a) else none
theorem zwo (s:SharedT)(a:Addr):s.abs.heap.get? a=zex s a:=by
 unfold zex
 split
 ·rename_i h
  cases e:s.tree.get a with
  | none=>rfl
  | some o=>exact abs_get h e
 ·rename_i h
  exact abs_get_none h
theorem zvZ (l:List Addr)(s:SharedT):l.map s.abs.heap.get?=l.map (zex s):=List.map_congr_left λa _=>zwo s a
noncomputable abbrev zgL (p q:Program)(loose:List Str)(Xt:Shared→Bool){α:Type}(YT:SharedT→α)(g0:Bool)(w:World)(s:SharedT):=
 ((staticsOk (importedModules p.main.body) (boot_heap w.params) s.abs.heap&&namesBound p s.abs.heap&&gensDone s.abs&&laidKept (boot_heap w.params) s.abs.heap),openSeen q loose (importedModules p.main.body) Xt g0 s.abs,YT s)
theorem zwz {p q:Program}{loose:List Str}{Xt:Shared→Bool}{α:Type}{Yf:Shared→α}{YT:SharedT→α}{Ya:World→α}{N:Nat}{g0:Bool}{ann:Option Value}(hY:∀s:SharedT,Yf s.abs=YT s)(e:opening p=plainProg p.main.scope.names)(hN:Nat.ble 600 N=true)(f:∀s,fenceModules? p s=some s)
  (size:∀w:World,((boot_heap w.params).isNs mainGlobals&&(Array.mk []:Array GenState).size==0,(boot_heap w.params).objs.size,(boot_heap w.params).nsMap mainGlobals "__annotations__")=(true,11,ann))
  (run:∀w:World,(λos=>(goT treeTable p w 11 ann N (zgv w os) (topStub p)).map λs=>zgL p q loose Xt YT g0 w s)=λ_=>some (true,openGood q loose,Ya w)):LeftO p q loose Xt Yf Ya N g0:=λw=>by
 obtain⟨⟨h,gs,d,k,os⟩,e1,e'⟩:=VaR.mp (boot_open e hN f w)
 obtain⟨rfl,rfl,rfl,rfl⟩:h=boot_heap w.params∧gs=Array.mk []∧d=boot_drawn∧k=boot_toks:=by simpa using e'
 obtain⟨y1,y2,y3⟩:_∧_∧_:=by simpa only [Prod.mk.injEq] using size w
 obtain⟨s',r1,r2⟩:=VaR.mp (congrFun (run w) os)
 obtain⟨l1,l2,l3⟩:_∧_∧_:=by simpa only [Prod.mk.injEq] using r2
 have r:topRun treeTable p w 11 ann N ⟨boot_heap w.params,Array.mk [],boot_drawn,boot_toks,os⟩ (topStub p)=some s'.abs:=by
  have z:=zn0 r1
  exact z
 have t:topFrom treeTable p w N ⟨boot_heap w.params,Array.mk [],boot_drawn,boot_toks,os⟩=some s'.abs:=by
  unfold topFrom
  dsimp only
  rw[y1,y2,y3,r]
  show (match staticsOk (importedModules p.main.body) (boot_heap w.params) s'.abs.heap&&namesBound p s'.abs.heap&&gensDone s'.abs&&laidKept (boot_heap w.params) s'.abs.heap with | true=>_ | false=>_)=_
  rw[l1]
 unfold openEnds
 rw[e1]
 show Option.map _ (topFrom treeTable p w N _)=_
 rw[t]
 exact congrArg some (Prod.ext l2 ((hY s').trans l3))
end L3
namespace Mine
open PySem PySem.Spec PyProof.Rows L2 L3
def top (i:Nat):Stmt:=PySem.Challenge.pw_boxnarrow_k18_shown_read_again.main.body.getD i (.Pass ⟨0,0,0,0⟩)
def vw:Program:={ PySem.Challenge.pw_boxnarrow_k18_shown_read_again with main:={ PySem.Challenge.pw_boxnarrow_k18_shown_read_again.main with body:=[top 0,top 2,top 3,top 4,top 5,top 6,top 8,top 9,top 10,top 11,top 13,top 14,top 15,top 16,top 17,top 18,top 19,top 20,top 21,top 22,top 24,top 25,top 26,top 27,top 28,top 29,top 31,top 32,top 33,top 34,top 35,top 36,top 38,top 39,top 40,top 41,top 42,top 43,top 44,top 45,top 46,top 48,top 49,top 50,top 51,top 52,top 53,top 54,top 55,top 56] } }
noncomputable abbrev de (P:Params)(s:Str)(t:Tok)(v:Value):DictEntry:=⟨PySem.PyData.keyHash P s,.str s t,v⟩
abbrev co (n q:Str)(a b c d:Tok)(i k:Int)(r s:Addr)(y z:Value)(t:Addr)(j:Int):Obj:=⟨.type "code",none,.fields #[.str n a,.str q b,.str "/claim/cut.py" c,.int i 0,.int k 0,.int 0 0,.int 0 0,.int 3 0,.ref r,.bool Bool.true,.int 181 0,.ref s,.none,y,z,.ref t,.int j 0,.int i 0,.str "/claim/cut.py" d],#[]⟩
abbrev fo (n q:Str)(st:Stmt)(m:Value)(c:Addr):Obj:=⟨.type "function",none,.func (PySem.W.fnOf n q (zeW st) (zdO st) (zau st) .none .none .none m none (.ref c) .none),#[]⟩
noncomputable def kp:Params→PySem.W.Frag:=λP=>
 (nat_lit 3,(.mk (.type "dict") none (.dict #[(de P "__name__" 165 (.str "law_boxnarrow_k18_shown_read_again" 780)),(de P "__doc__" 166 .none),(de P "__package__" 167 .none),(de P "__loader__" 168 (.builtin "__main__.__loader__#opaque")),(de P "__spec__" 169 .none),(de P "__annotations__" 170 (.ref 6)),(de P "__builtins__" 171 (.ref 4)),(de P "__file__" 173 (.str "/claim/cut.py" 172)),(de P "__cached__" 174 .none),(de P "_wall" 193 (.ref 21)),(de P "BoxError" 213 (.ref 31)),(de P "NoNumber" 229 (.ref 44)),(de P "NoRow" 245 (.ref 56)),(de P "TooMuch" 261 (.ref 68)),(de P "NoName" 286 (.ref 87)),(de P "is_whole" 295 (.ref 96)),(de P "greatest_divisor" 304 (.ref 103)),(de P "fraction" 313 (.ref 110)),(de P "less" 321 (.ref 117)),(de P "FIGURES" 325 (.str "0123456789" 324)),(de P "LETTERS" 327 (.str "abcdefghijklmnopqrstuvwxyz" 326)),(de P "MOST_FIGURES" 329 (.int 9 328)),(de P "MOST_LETTERS" 331 (.int 8 330)),(de P "KEPT_WORDS" 342 (.ref 118)),(de P "made_of" 348 (.ref 123)),(de P "figures_of" 357 (.ref 130)),(de P "written" 365 (.ref 137)),(de P "number_of" 377 (.ref 144)),(de P "is_name" 384 (.ref 151)),(de P "MOST_NODES" 388 (.int 60 387)),(de P "MOST_WEIGHT" 390 (.int 16 389)),(de P "SIGNS" 400 (.ref 152)),(de P "weight_of" 408 (.ref 159)),(de P "Net" 463 (.ref 197)),(de P "shown" 477 (.ref 208)),(de P "MOST_WORDS" 481 (.int 120 480)),(de P "MOST_BRACKETS" 483 (.int 16 482)),(de P "SUMS" 490 (.ref 209)),(de P "POWERS" 496 (.ref 210)),(de P "Reader" 592 (.ref 283)),(de P "tree_of" 601 (.ref 294)),(de P "MOST_UNKNOWNS" 605 (.int 4 604)),(de P "MOST_ROWS" 607 (.int 12 606)),(de P "ROW_WORDS" 614 (.ref 295)),(de P "words_of" 622 (.ref 302)),(de P "ends_of" 631 (.ref 309)),(de P "place_of_sign" 640 (.ref 316)),(de P "put_tree" 651 (.ref 323)),(de P "copy_of" 660 (.ref 330)),(de P "Task" 779 (.ref 417)),(de P "_law_cell_at" 789 (.ref 428)),(de P "_law_name" 800 (.ref 435)),(de P "_law_node" 811 (.ref 442)),(de P "_law_weight" 819 (.ref 449)),(de P "_law_net" 830 (.ref 456)),(de P "_law_text" 842 (.ref 463)),(de P "_law_same" 854 (.ref 470)),(de P "_law_read" 872 (.ref 477)),(de P "law" 878 (.ref 482))] 59) #[]))::
 (nat_lit 30,(.mk (.type "dict") none (.dict #[(de P "__module__" 203 (.str "boxnarrow.errors" 194)),(de P "__firstlineno__" 207 (.int 5 206)),(de P "__static_attributes__" 208 (.ref 29)),(de P "__weakref__" 210 (.ref 32)),(de P "__doc__" 211 .none)] 3) #[]))::
 (nat_lit 31,(.mk (.type "type") none (.cls (PySem.ClassData.mk "BoxError" [(.type "ValueError")] [(.ref 31),(.type "ValueError"),(.type "Exception"),(.type "BaseException"),(.type "object")] 30 "BoxError" Bool.true [] [(.ref 44),(.ref 56),(.ref 68),(.ref 87)] Bool.false none Bool.false)) #[(some (.ref 22)),none,(some (.str "BoxError" 196)),(some (.str "BoxError" 204)),(some (.builtin "ValueError.__new__")),(some (.bool Bool.true))]))::
 (nat_lit 43,(.mk (.type "dict") none (.dict #[(de P "__module__" 221 (.str "boxnarrow.errors" 194)),(de P "__firstlineno__" 225 (.int 7 224)),(de P "__static_attributes__" 226 (.ref 42)),(de P "__doc__" 227 .none)] 2) #[]))::
 (nat_lit 44,(.mk (.type "type") none (.cls (PySem.ClassData.mk "NoNumber" [(.ref 31)] [(.ref 44),(.ref 31),(.type "ValueError"),(.type "Exception"),(.type "BaseException"),(.type "object")] 43 "NoNumber" Bool.true [] [] Bool.false none Bool.false)) #[(some (.ref 35)),none,(some (.str "NoNumber" 214)),(some (.str "NoNumber" 222)),(some (.builtin "ValueError.__new__")),(some (.bool Bool.true))]))::
 (nat_lit 55,(.mk (.type "dict") none (.dict #[(de P "__module__" 237 (.str "boxnarrow.errors" 194)),(de P "__firstlineno__" 241 (.int 9 240)),(de P "__static_attributes__" 242 (.ref 54)),(de P "__doc__" 243 .none)] 2) #[]))::
 (nat_lit 56,(.mk (.type "type") none (.cls (PySem.ClassData.mk "NoRow" [(.ref 31)] [(.ref 56),(.ref 31),(.type "ValueError"),(.type "Exception"),(.type "BaseException"),(.type "object")] 55 "NoRow" Bool.true [] [] Bool.false none Bool.false)) #[(some (.ref 47)),none,(some (.str "NoRow" 230)),(some (.str "NoRow" 238)),(some (.builtin "ValueError.__new__")),(some (.bool Bool.true))]))::
 (nat_lit 67,(.mk (.type "dict") none (.dict #[(de P "__module__" 253 (.str "boxnarrow.errors" 194)),(de P "__firstlineno__" 257 (.int 11 256)),(de P "__static_attributes__" 258 (.ref 66)),(de P "__doc__" 259 .none)] 2) #[]))::
 (nat_lit 68,(.mk (.type "type") none (.cls (PySem.ClassData.mk "TooMuch" [(.ref 31)] [(.ref 68),(.ref 31),(.type "ValueError"),(.type "Exception"),(.type "BaseException"),(.type "object")] 67 "TooMuch" Bool.true [] [] Bool.false none Bool.false)) #[(some (.ref 59)),none,(some (.str "TooMuch" 246)),(some (.str "TooMuch" 254)),(some (.builtin "ValueError.__new__")),(some (.bool Bool.true))]))::
 (nat_lit 86,(.mk (.type "dict") none (.dict #[(de P "__module__" 269 (.str "boxnarrow.errors" 194)),(de P "__firstlineno__" 273 (.int 13 272)),(de P "__init__" 281 (.ref 84)),(de P "__static_attributes__" 283 (.ref 85)),(de P "__doc__" 284 .none)] 2) #[]))::
 (nat_lit 87,(.mk (.type "type") none (.cls (PySem.ClassData.mk "NoName" [(.ref 31)] [(.ref 87),(.ref 31),(.type "ValueError"),(.type "Exception"),(.type "BaseException"),(.type "object")] 86 "NoName" Bool.true [] [] Bool.false none Bool.false)) #[(some (.ref 71)),none,(some (.str "NoName" 262)),(some (.str "NoName" 270)),(some (.builtin "ValueError.__new__")),(some (.bool Bool.true))]))::
 (nat_lit 95,co "is_whole" "is_whole" 289 290 291 294 18 1 90 91 (.ref 92) (.ref 93) 94 293)::
 (nat_lit 96,fo "is_whole" "is_whole" (top 8) (.str "boxnarrow.fractions" 287) 95)::
 (nat_lit 102,co "greatest_divisor" "greatest_divisor" 296 297 298 303 20 2 97 98 (.ref 99) (.ref 100) 101 302)::
 (nat_lit 103,fo "greatest_divisor" "greatest_divisor" (top 9) (.str "boxnarrow.fractions" 287) 102)::
 (nat_lit 109,co "fraction" "fraction" 305 306 307 312 26 2 104 105 (.ref 106) (.ref 107) 108 311)::
 (nat_lit 110,fo "fraction" "fraction" (top 10) (.str "boxnarrow.fractions" 287) 109)::
 (nat_lit 116,co "less" "less" 314 315 316 320 33 2 111 112 (.ref 113) (.ref 114) 115 319)::
 (nat_lit 117,fo "less" "less" (top 11) (.str "boxnarrow.fractions" 287) 116)::
 (nat_lit 118,(.mk (.type "tuple") none (.seq #[(.str "let" 332),(.str "in" 333),(.str "grid" 334),(.str "fine" 335),(.str "looks" 336),(.str "solve" 337),(.str "boxes" 338),(.str "point" 339),(.str "right" 340),(.str "islands" 341)] 0) #[]))::
 (nat_lit 122,co "made_of" "made_of" 343 344 345 347 41 3 119 120 .none .none 121 346)::
 (nat_lit 123,fo "made_of" "made_of" (top 18) (.str "boxnarrow.words" 322) 122)::
 (nat_lit 129,co "figures_of" "figures_of" 349 350 351 356 43 1 124 125 (.ref 126) (.ref 127) 128 355)::
 (nat_lit 130,fo "figures_of" "figures_of" (top 19) (.str "boxnarrow.words" 322) 129)::
 (nat_lit 136,co "written" "written" 358 359 360 364 51 1 131 132 (.ref 133) (.ref 134) 135 363)::
 (nat_lit 137,fo "written" "written" (top 20) (.str "boxnarrow.words" 322) 136)::
 (nat_lit 143,co "number_of" "number_of" 366 367 368 376 58 1 138 139 (.ref 140) (.ref 141) 142 375)::
 (nat_lit 144,fo "number_of" "number_of" (top 21) (.str "boxnarrow.words" 322) 143)::
 (nat_lit 150,co "is_name" "is_name" 378 379 380 383 71 1 145 146 (.ref 147) (.ref 148) 149 382)::
 (nat_lit 151,fo "is_name" "is_name" (top 22) (.str "boxnarrow.words" 322) 150)::
 (nat_lit 152,(.mk (.type "dict") none (.dict #[(de P "plus" 391 (.str "+" 392)),(de P "minus" 393 (.str "-" 394)),(de P "times" 395 (.str "*" 396))] 3) #[]))::
 (nat_lit 158,co "weight_of" "weight_of" 401 402 403 407 77 2 153 154 (.ref 155) (.ref 156) 157 406)::
 (nat_lit 159,fo "weight_of" "weight_of" (top 27) (.str "boxnarrow.nets" 385) 158)::
 (nat_lit 172,co "__init__" "Net.__init__" 421 422 423 426 85 1 167 168 (.ref 169) (.ref 170) 171 425)::
 (nat_lit 173,fo "__init__" "Net.__init__" (zaH (top 28) 0) (.str "boxnarrow.nets" 385) 172)::
 (nat_lit 179,co "put" "Net.put" 428 429 430 436 90 2 174 175 (.ref 176) (.ref 177) 178 435)::
 (nat_lit 180,fo "put" "Net.put" (zaH (top 28) 1) (.str "boxnarrow.nets" 385) 179)::
 (nat_lit 186,co "nodes" "Net.nodes" 438 439 440 443 104 1 181 182 (.ref 183) (.ref 184) 185 442)::
 (nat_lit 187,fo "nodes" "Net.nodes" (zaH (top 28) 2) (.str "boxnarrow.nets" 385) 186)::
 (nat_lit 196,(.mk (.type "dict") none (.dict #[(de P "__module__" 416 (.str "boxnarrow.nets" 385)),(de P "__firstlineno__" 420 (.int 83 419)),(de P "__init__" 427 (.ref 173)),(de P "put" 437 (.ref 180)),(de P "nodes" 444 (.ref 187)),(de P "weight" 452 (.ref 194)),(de P "__static_attributes__" 456 (.ref 195)),(de P "__dict__" 458 (.ref 198)),(de P "__weakref__" 460 (.ref 199)),(de P "__doc__" 461 .none)] 4) #[]))::
 (nat_lit 197,(.mk (.type "type") none (.cls (PySem.ClassData.mk "Net" [(.type "object")] [(.ref 197),(.type "object")] 196 "Net" Bool.true [] [] Bool.false none Bool.false)) #[none,none,(some (.str "Net" 409)),(some (.str "Net" 417)),(some (.builtin "object.__new__")),(some (.bool Bool.true))]))::
 (nat_lit 207,co "shown" "shown" 464 465 466 476 109 3 202 203 (.ref 204) (.ref 205) 206 475)::
 (nat_lit 208,fo "shown" "shown" (top 29) (.str "boxnarrow.nets" 385) 207)::
 (nat_lit 209,(.mk (.type "dict") none (.dict #[(de P "+" 484 (.str "plus" 485)),(de P "-" 486 (.str "minus" 487))] 2) #[]))::
 (nat_lit 210,(.mk (.type "tuple") none (.seq #[(.str "2" 491),(.str "3" 492),(.str "4" 493),(.str "5" 494),(.str "6" 495)] 0) #[]))::
 (nat_lit 223,co "__init__" "Reader.__init__" 509 510 511 515 129 2 218 219 (.ref 220) (.ref 221) 222 514)::
 (nat_lit 224,fo "__init__" "Reader.__init__" (zaH (top 35) 0) (.str "boxnarrow.grammar" 478) 223)::
 (nat_lit 230,co "at_end" "Reader.at_end" 517 518 519 522 134 1 225 226 (.ref 227) (.ref 228) 229 521)::
 (nat_lit 231,fo "at_end" "Reader.at_end" (zaH (top 35) 1) (.str "boxnarrow.grammar" 478) 230)::
 (nat_lit 237,co "sees" "Reader.sees" 524 525 526 530 137 2 232 233 (.ref 234) (.ref 235) 236 529)::
 (nat_lit 238,fo "sees" "Reader.sees" (zaH (top 35) 2) (.str "boxnarrow.grammar" 478) 237)::
 (nat_lit 244,co "take" "Reader.take" 532 533 534 538 140 1 239 240 (.ref 241) (.ref 242) 243 537)::
 (nat_lit 245,fo "take" "Reader.take" (zaH (top 35) 3) (.str "boxnarrow.grammar" 478) 244)::
 (nat_lit 251,co "expression" "Reader.expression" 540 541 542 547 147 1 246 247 (.ref 248) (.ref 249) 250 546)::
 (nat_lit 252,fo "expression" "Reader.expression" (zaH (top 35) 4) (.str "boxnarrow.grammar" 478) 251)::
 (nat_lit 258,co "term" "Reader.term" 549 550 551 555 154 1 253 254 (.ref 255) (.ref 256) 257 554)::
 (nat_lit 259,fo "term" "Reader.term" (zaH (top 35) 5) (.str "boxnarrow.grammar" 478) 258)::
 (nat_lit 265,co "factor" "Reader.factor" 557 558 559 563 161 1 260 261 (.ref 262) (.ref 263) 264 562)::
 (nat_lit 266,fo "factor" "Reader.factor" (zaH (top 35) 6) (.str "boxnarrow.grammar" 478) 265)::
 (nat_lit 272,co "atom" "Reader.atom" 565 566 567 572 170 1 267 268 (.ref 269) (.ref 270) 271 571)::
 (nat_lit 273,fo "atom" "Reader.atom" (zaH (top 35) 7) (.str "boxnarrow.grammar" 478) 272)::
 (nat_lit 279,co "bracket" "Reader.bracket" 574 575 576 580 179 1 274 275 (.ref 276) (.ref 277) 278 579)::
 (nat_lit 280,fo "bracket" "Reader.bracket" (zaH (top 35) 8) (.str "boxnarrow.grammar" 478) 279)::
 (nat_lit 282,(.mk (.type "dict") none (.dict #[(de P "__module__" 504 (.str "boxnarrow.grammar" 478)),(de P "__firstlineno__" 508 (.int 127 507)),(de P "__init__" 516 (.ref 224)),(de P "at_end" 523 (.ref 231)),(de P "sees" 531 (.ref 238)),(de P "take" 539 (.ref 245)),(de P "expression" 548 (.ref 252)),(de P "term" 556 (.ref 259)),(de P "factor" 564 (.ref 266)),(de P "atom" 573 (.ref 273)),(de P "bracket" 581 (.ref 280)),(de P "__static_attributes__" 585 (.ref 281)),(de P "__dict__" 587 (.ref 284)),(de P "__weakref__" 589 (.ref 285)),(de P "__doc__" 590 .none)] 4) #[]))::
 (nat_lit 283,(.mk (.type "type") none (.cls (PySem.ClassData.mk "Reader" [(.type "object")] [(.ref 283),(.type "object")] 282 "Reader" Bool.true [] [] Bool.false none Bool.false)) #[none,none,(some (.str "Reader" 497)),(some (.str "Reader" 505)),(some (.builtin "object.__new__")),(some (.bool Bool.true))]))::
 (nat_lit 293,co "tree_of" "tree_of" 593 594 595 600 188 1 288 289 (.ref 290) (.ref 291) 292 599)::
 (nat_lit 294,fo "tree_of" "tree_of" (top 36) (.str "boxnarrow.grammar" 478) 293)::
 (nat_lit 295,(.mk (.type "dict") none (.dict #[(de P "=" 608 (.str "zero" 609)),(de P ">=" 610 (.str "least" 611))] 2) #[]))::
 (nat_lit 301,co "words_of" "words_of" 615 616 617 621 200 1 296 297 (.ref 298) (.ref 299) 300 620)::
 (nat_lit 302,fo "words_of" "words_of" (top 41) (.str "boxnarrow.tasks" 602) 301)::
 (nat_lit 308,co "ends_of" "ends_of" 623 624 625 630 207 1 303 304 (.ref 305) (.ref 306) 307 629)::
 (nat_lit 309,fo "ends_of" "ends_of" (top 42) (.str "boxnarrow.tasks" 602) 308)::
 (nat_lit 315,co "place_of_sign" "place_of_sign" 632 633 634 639 215 1 310 311 (.ref 312) (.ref 313) 314 638)::
 (nat_lit 316,fo "place_of_sign" "place_of_sign" (top 43) (.str "boxnarrow.tasks" 602) 315)::
 (nat_lit 322,co "put_tree" "put_tree" 641 642 643 650 220 3 317 318 (.ref 319) (.ref 320) 321 649)::
 (nat_lit 323,fo "put_tree" "put_tree" (top 44) (.str "boxnarrow.tasks" 602) 322)::
 (nat_lit 329,co "copy_of" "copy_of" 652 653 654 659 230 1 324 325 (.ref 326) (.ref 327) 328 658)::
 (nat_lit 330,fo "copy_of" "copy_of" (top 45) (.str "boxnarrow.tasks" 602) 329)::
 (nat_lit 343,co "__init__" "Task.__init__" 673 674 675 678 237 1 338 339 (.ref 340) (.ref 341) 342 677)::
 (nat_lit 344,fo "__init__" "Task.__init__" (zaH (top 46) 0) (.str "boxnarrow.tasks" 602) 343)::
 (nat_lit 350,co "tell" "Task.tell" 680 681 682 687 244 2 345 346 (.ref 347) (.ref 348) 349 686)::
 (nat_lit 351,fo "tell" "Task.tell" (zaH (top 46) 1) (.str "boxnarrow.tasks" 602) 350)::
 (nat_lit 357,co "tell_unknown" "Task.tell_unknown" 689 690 691 697 252 2 352 353 (.ref 354) (.ref 355) 356 696)::
 (nat_lit 358,fo "tell_unknown" "Task.tell_unknown" (zaH (top 46) 2) (.str "boxnarrow.tasks" 602) 357)::
 (nat_lit 364,co "tell_part" "Task.tell_part" 699 700 701 707 263 2 359 360 (.ref 361) (.ref 362) 363 706)::
 (nat_lit 365,fo "tell_part" "Task.tell_part" (zaH (top 46) 3) (.str "boxnarrow.tasks" 602) 364)::
 (nat_lit 371,co "tell_row" "Task.tell_row" 709 710 711 720 274 2 366 367 (.ref 368) (.ref 369) 370 719)::
 (nat_lit 372,fo "tell_row" "Task.tell_row" (zaH (top 46) 4) (.str "boxnarrow.tasks" 602) 371)::
 (nat_lit 378,co "check_new" "Task.check_new" 722 723 724 728 287 2 373 374 (.ref 375) (.ref 376) 377 727)::
 (nat_lit 379,fo "check_new" "Task.check_new" (zaH (top 46) 5) (.str "boxnarrow.tasks" 602) 378)::
 (nat_lit 385,co "check_known" "Task.check_known" 730 731 732 737 291 2 380 381 (.ref 382) (.ref 383) 384 736)::
 (nat_lit 386,fo "check_known" "Task.check_known" (zaH (top 46) 6) (.str "boxnarrow.tasks" 602) 385)::
 (nat_lit 406,co "nodes" "Task.nodes" 753 754 755 758 302 1 401 402 (.ref 403) (.ref 404) 405 757)::
 (nat_lit 407,fo "nodes" "Task.nodes" (zaH (top 46) 9) (.str "boxnarrow.tasks" 602) 406)::
 (nat_lit 413,co "rows" "Task.rows" 760 761 762 765 305 1 408 409 (.ref 410) (.ref 411) 412 764)::
 (nat_lit 414,fo "rows" "Task.rows" (zaH (top 46) 10) (.str "boxnarrow.tasks" 602) 413)::
 (nat_lit 416,(.mk (.type "dict") none (.dict #[(de P "__module__" 668 (.str "boxnarrow.tasks" 602)),(de P "__firstlineno__" 672 (.int 235 671)),(de P "__init__" 679 (.ref 344)),(de P "tell" 688 (.ref 351)),(de P "tell_unknown" 698 (.ref 358)),(de P "tell_part" 708 (.ref 365)),(de P "tell_row" 721 (.ref 372)),(de P "check_new" 729 (.ref 379)),(de P "check_known" 738 (.ref 386)),(de P "names" 745 (.ref 393)),(de P "ends" 752 (.ref 400)),(de P "nodes" 759 (.ref 407)),(de P "rows" 766 (.ref 414)),(de P "__static_attributes__" 772 (.ref 415)),(de P "__dict__" 774 (.ref 418)),(de P "__weakref__" 776 (.ref 419)),(de P "__doc__" 777 .none)] 4) #[]))::
 (nat_lit 417,(.mk (.type "type") none (.cls (PySem.ClassData.mk "Task" [(.type "object")] [(.ref 417),(.type "object")] 416 "Task" Bool.true [] [] Bool.false none Bool.false)) #[none,none,(some (.str "Task" 661)),(some (.str "Task" 669)),(some (.builtin "object.__new__")),(some (.bool Bool.true))]))::
 (nat_lit 427,co "_law_cell_at" "_law_cell_at" 782 783 784 788 308 2 422 423 (.ref 424) (.ref 425) 426 787)::
 (nat_lit 428,fo "_law_cell_at" "_law_cell_at" (top 48) (.str "law_boxnarrow_k18_shown_read_again" 780) 427)::
 (nat_lit 434,co "_law_name" "_law_name" 790 791 792 799 312 2 429 430 (.ref 431) (.ref 432) 433 798)::
 (nat_lit 435,fo "_law_name" "_law_name" (top 49) (.str "law_boxnarrow_k18_shown_read_again" 780) 434)::
 (nat_lit 441,co "_law_node" "_law_node" 801 802 803 810 317 2 436 437 (.ref 438) (.ref 439) 440 809)::
 (nat_lit 442,fo "_law_node" "_law_node" (top 50) (.str "law_boxnarrow_k18_shown_read_again" 780) 441)::
 (nat_lit 448,co "_law_weight" "_law_weight" 812 813 814 818 330 2 443 444 (.ref 445) (.ref 446) 447 817)::
 (nat_lit 449,fo "_law_weight" "_law_weight" (top 51) (.str "law_boxnarrow_k18_shown_read_again" 780) 448)::
 (nat_lit 455,co "_law_net" "_law_net" 820 821 822 829 336 1 450 451 (.ref 452) (.ref 453) 454 828)::
 (nat_lit 456,fo "_law_net" "_law_net" (top 52) (.str "law_boxnarrow_k18_shown_read_again" 780) 455)::
 (nat_lit 462,co "_law_text" "_law_text" 831 832 833 841 345 3 457 458 (.ref 459) (.ref 460) 461 840)::
 (nat_lit 463,fo "_law_text" "_law_text" (top 53) (.str "law_boxnarrow_k18_shown_read_again" 780) 462)::
 (nat_lit 469,co "_law_same" "_law_same" 843 844 845 853 364 4 464 465 (.ref 466) (.ref 467) 468 852)::
 (nat_lit 470,fo "_law_same" "_law_same" (top 54) (.str "law_boxnarrow_k18_shown_read_again" 780) 469)::
 (nat_lit 476,co "_law_read" "_law_read" 855 856 857 871 376 5 471 472 (.ref 473) (.ref 474) 475 870)::
 (nat_lit 477,fo "_law_read" "_law_read" (top 55) (.str "law_boxnarrow_k18_shown_read_again" 780) 476)::
 (nat_lit 481,co "law" "law" 873 874 875 877 397 1 478 479 .none .none 480 876)::
 (nat_lit 482,fo "law" "law" (top 56) (.str "law_boxnarrow_k18_shown_read_again" 780) 481)::[]
def ks:List Addr:=nat_lit 3::nat_lit 30::nat_lit 31::nat_lit 43::nat_lit 44::nat_lit 55::nat_lit 56::nat_lit 67::nat_lit 68::nat_lit 86::nat_lit 87::nat_lit 95::nat_lit 96::nat_lit 102::nat_lit 103::nat_lit 109::nat_lit 110::nat_lit 116::nat_lit 117::nat_lit 118::nat_lit 122::nat_lit 123::nat_lit 129::nat_lit 130::nat_lit 136::nat_lit 137::nat_lit 143::nat_lit 144::nat_lit 150::nat_lit 151::nat_lit 152::nat_lit 158::nat_lit 159::nat_lit 172::nat_lit 173::nat_lit 179::nat_lit 180::nat_lit 186::nat_lit 187::nat_lit 196::nat_lit 197::nat_lit 207::nat_lit 208::nat_lit 209::nat_lit 210::nat_lit 223::nat_lit 224::nat_lit 230::nat_lit 231::nat_lit 237::nat_lit 238::nat_lit 244::nat_lit 245::nat_lit 251::nat_lit 252::nat_lit 258::nat_lit 259::nat_lit 265::nat_lit 266::nat_lit 272::nat_lit 273::nat_lit 279::nat_lit 280::nat_lit 282::nat_lit 283::nat_lit 293::nat_lit 294::nat_lit 295::nat_lit 301::nat_lit 302::nat_lit 308::nat_lit 309::nat_lit 315::nat_lit 316::nat_lit 322::nat_lit 323::nat_lit 329::nat_lit 330::nat_lit 343::nat_lit 344::nat_lit 350::nat_lit 351::nat_lit 357::nat_lit 358::nat_lit 364::nat_lit 365::nat_lit 371::nat_lit 372::nat_lit 378::nat_lit 379::nat_lit 385::nat_lit 386::nat_lit 406::nat_lit 407::nat_lit 413::nat_lit 414::nat_lit 416::nat_lit 417::nat_lit 427::nat_lit 428::nat_lit 434::nat_lit 435::nat_lit 441::nat_lit 442::nat_lit 448::nat_lit 449::nat_lit 455::nat_lit 456::nat_lit 462::nat_lit 463::nat_lit 469::nat_lit 470::nat_lit 476::nat_lit 477::nat_lit 481::nat_lit 482::[]
theorem zgn (P:Params):ks=(kp P).map (·.1):=by kernel_rfl
noncomputable abbrev hk:PySem.W.Hook:=PySem.W.kHook kp ks zgn
abbrev xt (s:Shared):Bool:=PySem.W.xlAt vw [] s&&PySem.W.recOk (PySem.W.RowW.records (PySem.W.OpenRow.toRowW (PySem.W.OpenLaw.row PySem.Challenge.rw_boxnarrow_k18_shown_read_again))) s
theorem zlW:PySem.W.opening PySem.Challenge.pw_boxnarrow_k18_shown_read_again=PySem.W.plainProg PySem.Challenge.pw_boxnarrow_k18_shown_read_again.main.scope.names:=by kernel_rfl
theorem fe_eq (s:Shared):PySem.fenceModules? PySem.Challenge.pw_boxnarrow_k18_shown_read_again s=some s:=by kernel_rfl
theorem si_eq (w:World):((PySem.W.boot_heap w.params).isNs mainGlobals&&(Array.mk []:Array GenState).size==0,(PySem.W.boot_heap w.params).objs.size,(PySem.W.boot_heap w.params).nsMap mainGlobals "__annotations__")=(true,11,some (.ref 6)):=by kernel_rfl
theorem zvd (w:World):(λos=>(L3.goT PySem.treeTable PySem.Challenge.pw_boxnarrow_k18_shown_read_again (w.withFollow "special-get-raises" false) 11 (some (.ref 6)) 7310 (L3.zgv (w.withFollow "special-get-raises" false) os) (PySem.W.topStub PySem.Challenge.pw_boxnarrow_k18_shown_read_again)).map λs=>L3.zgL PySem.Challenge.pw_boxnarrow_k18_shown_read_again vw [PySem.Str.ofString "SIGNS",PySem.Str.ofString "SUMS",PySem.Str.ofString "ROW_WORDS"] xt (λs=>ks.map (L3.zex s)) true (w.withFollow "special-get-raises" false) s)=λ_=>some (true,PySem.W.openGood vw [PySem.Str.ofString "SIGNS",PySem.Str.ofString "SUMS",PySem.Str.ofString "ROW_WORDS"],hk.val (w.withFollow "special-get-raises" false)):=by kernel_rfl
theorem zsO (w:World):(λos=>(L3.goT PySem.treeTable PySem.Challenge.pw_boxnarrow_k18_shown_read_again (w.withFollow "special-get-raises" true) 11 (some (.ref 6)) 7310 (L3.zgv (w.withFollow "special-get-raises" true) os) (PySem.W.topStub PySem.Challenge.pw_boxnarrow_k18_shown_read_again)).map λs=>L3.zgL PySem.Challenge.pw_boxnarrow_k18_shown_read_again vw [PySem.Str.ofString "SIGNS",PySem.Str.ofString "SUMS",PySem.Str.ofString "ROW_WORDS"] xt (λs=>ks.map (L3.zex s)) true (w.withFollow "special-get-raises" true) s)=λ_=>some (true,PySem.W.openGood vw [PySem.Str.ofString "SIGNS",PySem.Str.ofString "SUMS",PySem.Str.ofString "ROW_WORDS"],hk.val (w.withFollow "special-get-raises" true)):=by kernel_rfl
theorem run_b (b:Bool)(w:World):(λos=>(L3.goT PySem.treeTable PySem.Challenge.pw_boxnarrow_k18_shown_read_again (w.withFollow "special-get-raises" b) 11 (some (.ref 6)) 7310 (L3.zgv (w.withFollow "special-get-raises" b) os) (PySem.W.topStub PySem.Challenge.pw_boxnarrow_k18_shown_read_again)).map λs=>L3.zgL PySem.Challenge.pw_boxnarrow_k18_shown_read_again vw [PySem.Str.ofString "SIGNS",PySem.Str.ofString "SUMS",PySem.Str.ofString "ROW_WORDS"] xt (λs=>ks.map (L3.zex s)) true (w.withFollow "special-get-raises" b) s)=λ_=>some (true,PySem.W.openGood vw [PySem.Str.ofString "SIGNS",PySem.Str.ofString "SUMS",PySem.Str.ofString "ROW_WORDS"],hk.val (w.withFollow "special-get-raises" b)):=by exact match b with | false=>zvd w | true=>zsO w
theorem zvP (w:World):(λos=>(L3.goT PySem.treeTable PySem.Challenge.pw_boxnarrow_k18_shown_read_again w 11 (some (.ref 6)) 7310 (L3.zgv w os) (PySem.W.topStub PySem.Challenge.pw_boxnarrow_k18_shown_read_again)).map λs=>L3.zgL PySem.Challenge.pw_boxnarrow_k18_shown_read_again vw [PySem.Str.ofString "SIGNS",PySem.Str.ofString "SUMS",PySem.Str.ofString "ROW_WORDS"] xt (λs=>ks.map (L3.zex s)) true w s)=λ_=>some (true,PySem.W.openGood vw [PySem.Str.ofString "SIGNS",PySem.Str.ofString "SUMS",PySem.Str.ofString "ROW_WORDS"],hk.val w):=by
 have z:=run_b (w.params.followText "special-get-raises") w
 rwa [PySem.World.withFollow_self] at z
theorem left:PySem.W.LeftO PySem.Challenge.pw_boxnarrow_k18_shown_read_again vw [PySem.Str.ofString "SIGNS",PySem.Str.ofString "SUMS",PySem.Str.ofString "ROW_WORDS"] xt hk.obs hk.val 7310:=L3.zwz (L3.zvZ ks) zlW (by decide) fe_eq si_eq zvP
end Mine
set_option Elab.async false
set_option linter.all false
set_option maxRecDepth 100000
namespace L2
open PySem PySem.Spec PyProof.Rows
abbrev Key:=Sum Int Str
def zfC:Key→Value→Bool
 | .inl k,v=>Value.isInt k v
 | .inr x,v=>Value.isStrOf x v
def zcu (w:World):Key→Int
 | .inl k=>hashInt k
 | .inr x=>hashStr w x
theorem zdP:∀ {k:Key} {v:Value},zfC k v=true→(∃i t,k=Sum.inl i∧v=Value.int i t)∨(∃x t,k=Sum.inr x∧v=Value.str x t)
 | .inl i,v,h=>by
  obtain⟨t,e⟩:=Value.isInt_shape (k:=i) (v:=v) h
  exact .inl ⟨i,t,rfl,e⟩
 | .inr x,v,h=>by
  obtain⟨t,e⟩:=Value.isStrOf_shape (x:=x) (v:=v) h
  exact .inr ⟨x,t,rfl,e⟩
theorem zu6 (i:Int)(t:Tok):zfC (.inl i) (.int i t)=true:=by simp[zfC,Value.isInt]
theorem zqQ (x:Str)(t:Tok):zfC (.inr x) (.str x t)=true:=by simp[zfC,Value.isStrOf]
theorem zsU (a b:Int):decide ((Sum.inl a:Key)=Sum.inl b)=(a==b):=by
 by_cases e:a=b
 ·subst e; simp
 ·have h:¬ (Sum.inl a:Key)=Sum.inl b:=λq=>e (Sum.inl.inj q)
  rw[decide_eq_false h]
  exact(beq_eq_false_iff_ne.mpr e).symm
theorem zwj (a b:Str):decide ((Sum.inr a:Key)=Sum.inr b)=decide (a=b):=by
 by_cases e:a=b
 ·subst e; simp
 ·have h:¬ (Sum.inr a:Key)=Sum.inr b:=λq=>e (Sum.inr.inj q)
  rw[decide_eq_false h,decide_eq_false e]
theorem zux (a:Int)(b:Str):decide ((Sum.inl a:Key)=Sum.inr b)=false:=decide_eq_false (λq=>nomatch q)
theorem zuT (a:Str)(b:Int):decide ((Sum.inr a:Key)=Sum.inl b)=false:=decide_eq_false (λq=>nomatch q)
def zcg (prog:Program)(w:World):PySem.KeyKind prog w Key where
 is:=zfC
 hash:=zcu w
 inj:=λv a b ha hb=>by
  rcases zdP ha with ⟨i,t,rfl,rfl⟩ | ⟨x,t,rfl,rfl⟩
  ·rcases zdP hb with ⟨j,u,rfl,e⟩ | ⟨y,u,rfl,e⟩
   ·injection e with e1 _; rw[e1]
   ·exact nomatch e
  ·rcases zdP hb with ⟨j,u,rfl,e⟩ | ⟨y,u,rfl,e⟩
   ·exact nomatch e
   ·injection e with e1 _; rw[e1]
 byValue:=λk v h=>by
  rcases zdP h with ⟨i,t,rfl,rfl⟩ | ⟨x,t,rfl,rfl⟩ <;> rfl
 pyHash:=λhv h=>by
  rcases zdP hv with ⟨i,t,rfl,rfl⟩ | ⟨x,t,rfl,rfl⟩
  ·exact wpAny_pyHash_int h
  ·exact wpAny_pyHash_str h
 eqBool:=λhu hv h=>by
  rcases zdP hu with ⟨i,t,rfl,rfl⟩ | ⟨x,t,rfl,rfl⟩
  ·rcases zdP hv with ⟨j,u,rfl,rfl⟩ | ⟨y,u,rfl,rfl⟩
   ·rw[zsU] at h; exact wpAny_eqBool_int h
   ·rw[zux] at h; exact SeqAt.EqAt.int_str i t y u _ _ _ _ h
  ·rcases zdP hv with ⟨j,u,rfl,rfl⟩ | ⟨y,u,rfl,rfl⟩
   ·rw[zuT] at h; exact SeqAt.EqAt.str_int x t j u _ _ _ _ h
   ·rw[zwj] at h; exact wpAny_eqBool_str h
 «strs»:=λk x t v h=>by
  rcases zdP h with ⟨i,u,rfl,e⟩ | ⟨y,u,rfl,e⟩
  ·exact nomatch e
  ·injection e with e1 _
   subst e1
   cases v <;> rfl
theorem zvQ (prog:Program)(w:World)(i:Int)(t:Tok):(zcg prog w).is (.inl i) (.int i t)=true:=zu6 i t
theorem zcT (prog:Program)(w:World)(x:Str)(t:Tok):(zcg prog w).is (.inr x) (.str x t)=true:=zqQ x t
end L2
namespace L2
open PySem PySem.Spec PyProof.Rows
inductive V where
 | non | bl (b:Bool) | int (i:Int) | str (x:Str) | byt (b:Array UInt8) | flt (b:UInt64) | ref (a:Addr) | ty (n:String)
 deriving DecidableEq
def zal:V→Value→Prop
 | .non,u=>u=Value.none
 | .bl b,u=>u=Value.bool b
 | .int i,u=>∃t,u=Value.int i t
 | .str x,u=>∃t,u=Value.str x t
 | .byt b,u=>∃t,u=Value.bytes b t
 | .flt b,u=>∃t,u=Value.float b t
 | .ref a,u=>u=Value.ref a
 | .ty n,u=>u=Value.type n
abbrev zas:List V→List Value→Prop:=Paired zal
theorem zas.length {xs:List V}{us:List Value}(r:zas xs us):xs.length=us.length:=Paired.length r
theorem zas.get:∀ {xs:List V} {us:List Value} {i:Nat} {x:V},zas xs us→xs[i]?=some x→∃u,us[i]?=some u∧zal x u
 | _,_,_,_,.nil,e=>by simp at e
 | _,_,0,_,.cons r _,e=>by simp at e; subst e; exact⟨_,rfl,r⟩
 | _,_,i+1,x,.cons _ t,e=>by
  obtain⟨u,h1,h2⟩:=zas.get (i:=i) (x:=x) t (by simpa using e)
  exact⟨u,by simpa using h1,h2⟩
theorem zas.append:∀ {xs ys:List V} {us ws:List Value},zas xs us→zas ys ws→zas (xs++ys) (us++ws)
 | _,_,_,_,.nil,s=>s
 | _,_,_,_,.cons r t,s=>.cons r (zas.append t s)
theorem zas.take:∀ {xs:List V} {us:List Value} (n:Nat),zas xs us→zas (xs.take n) (us.take n)
 | _,_,0,_=>.nil
 | _,_,_+1,.nil=>.nil
 | _,_,n+1,.cons r t=>.cons r (zas.take n t)
theorem zas.drop:∀ {xs:List V} {us:List Value} (n:Nat),zas xs us→zas (xs.drop n) (us.drop n)
 | _,_,0,r=>r
 | _,_,_+1,.nil=>.nil
 | _,_,n+1,.cons _ t=>zas.drop n t
def zbW:Option V→Option Value→Prop
 | some v,some u=>zal v u
 | none,none=>True
 | _,_=>False
def KV {κ:Type}:List (κ×V)→List (κ×Value)→Prop:=Paired λ(p:κ×V) (q:κ×Value)=>p.1=q.1∧zal p.2 q.2
def kV:Key→V
 | .inl i=>.int i
 | .inr x=>.str x
inductive HO where
  | lst (xs:List V)
  | tup (xs:List V)
  | dK (kvs:List (Key×V)) | dT (kvs:List (List Key×V))
  | set (S:Int→Bool) (n:Nat)
  | ins (C dx:Addr) (fs:List (Str×V))
  | own (x:Addr)
  | xd (fs:List (Str×V))
  | met (f x:Addr)
  | rng (lo hi:Int)
  | frz (o:Obj) (u:HO)
  | tbl (ps:Array Value)
  | ext (φ:Heap→Prop)
abbrev Hp:=Addr→Option HO
def upd (H:Hp)(a:Addr)(o:HO):Hp:=λb=>if b=a then some o else H b
theorem zbP {H:Hp}{a:Addr}{o:HO}:upd H a o a=some o:=by unfold upd; rw[if_pos rfl]
theorem za2 {H:Hp}{a b:Addr}{o:HO}(h:b≠a):upd H a o b=H b:=by unfold upd; rw[if_neg h]
theorem zh7 {H:Hp}{a b:Addr}{o u:HO}(h:H a=some o)(h':H b=some u)(d:o≠u):a≠b:=by
 intro e; subst e; rw[h] at h'; exact d (Option.some.inj h')
theorem zdL {H:Hp}{a b:Addr}{o:HO}(h:H a=some o)(h':H b=none):a≠b:=by
 intro e; subst e; rw[h] at h'; cases h'
section
variable (P:Program)(w:World)
def za6 (H:Hp)(h:Heap)(a:Addr):HO→Prop
 | .lst xs=>xs.length≤sizeLine∧∃(its:List Value) (n:Nat),zas xs its∧h.get? a=some { cls:=.type "list",data:=.seq its.toArray n }
 | .tup xs=>xs.length≤sizeLine∧∃its:List Value,zas xs its∧IsTup h a its.toArray
 | .dK kvs=>kvs.length≤sizeLine∧(a==sysModules)=false∧∃vs,KV kvs vs∧h.DictOf (zcg P w) a vs
 | .dT kvs=>kvs.length≤sizeLine∧(a==sysModules)=false∧∃xs:List (List Key×Addr×Value),
   Paired (λ(p:List Key×V) (q:List Key×Addr×Value)=>p.1=q.1∧H q.2.1=some (.tup (p.1.map kV))∧zal p.2 q.2.2) kvs xs∧
   ∃o es ep,h.get? a=some o∧o.ExactDict∧o.data=.dict es ep∧es.toList=xs.map (entryOfKey (tupleKind (zcg P w)))∧(xs.map (·.1)).Nodup
 | .set S n=>h.SetOf (intKind P w) a S n
 | .ins C dx fs=>H dx=some (.own a)∧fs.length≤1000∧dx≠a∧h.get? a=some (PySem.W.instObj C dx)∧
   ∃mA,h.Ns1 dx mA∧(∀f,zbW (fs.lookup f) (mA f))∧PySem.Within mA (fs.map (·.1))
 | .own _=>∃o,h.get? a=some o
 | .xd fs=>∃mA,h.Ns1 a mA∧∀f,zbW (fs.lookup f) (mA f)
 | .rng lo hi=>∃t u v,h.get? a=some { cls:=.type "range",data:=.fields #[.int lo t,.int hi u,.int 1 v] }
 | .frz o u=>h.get? a=some o∧za6 H h a u
 | .tbl ps=>h.get? a=some { cls:=.none,data:=.fields ps }
 | .met f x=>h.get? a=some (PySem.W.methodObj (.ref f) (.ref x))
 | .ext φ=>φ h∧(∃o,h.get? a=some o)∧∀h1 h2:Heap,φ h1→(∀o,h1.get? a=some o→h2.get? a=some o)→φ h2
def HOk (H:Hp)(h:Heap):Prop:=∀a o,H a=some o→za6 P w H h a o
end
section
variable {P:Program}{w:World}{H H':Hp}{h h':Heap}{a:Addr}{o:HO}
theorem za6.lt (x:za6 P w H h a o):a<h.objs.size:=by
 cases o with
 | lst xs=>obtain⟨_,_,_,_,e⟩:=x; exact Heap.lt_size e
 | tup xs=>obtain⟨_,_,_,p⟩:=x; exact p.lt
 | dK kvs=>obtain⟨_,_,_,_,o,_,_,e,_⟩:=x; exact Heap.lt_size e
 | dT kvs=>obtain⟨_,_,_,_,o,_,_,e,_⟩:=x; exact Heap.lt_size e
 | set S n=>obtain⟨o,_,_,_,e,_⟩:=x; exact Heap.lt_size e
 | ins C dx fs=>obtain⟨_,_,_,e,_⟩:=x; exact Heap.lt_size e
 | own y=>obtain⟨_,e⟩:=x; exact Heap.lt_size e
 | xd fs=>obtain⟨_,⟨_,_,_,e,_⟩,_⟩:=x; exact Heap.lt_size e
 | rng lo hi=>obtain⟨_,_,_,e⟩:=x; exact Heap.lt_size e
 | frz ob u=>obtain⟨e,_⟩:=x; exact Heap.lt_size e
 | tbl ps=>exact Heap.lt_size (show h.get? a=some _ from x)
 | met f y=>exact Heap.lt_size (show h.get? a=some _ from x)
 | ext φ=>obtain⟨_,⟨_,e⟩,_⟩:=x; exact Heap.lt_size e
theorem Paired.mapP {α β:Type}{F G:α→β→Prop}:∀ {l₁:List α} {l₂:List β},Paired F l₁ l₂→(∀a b,F a b→G a b)→Paired G l₁ l₂
 | _,_,.nil,_=>.nil
 | _,_,.cons r t,f=>.cons (f _ _ r) (Paired.mapP t f)
theorem za6.stay (x:za6 P w H h a o)(k:∀b u,(b=a∨H b=some (.own a))→h.get? b=some u→h'.get? b=some u)
  (ho:∀b,H b=some (.own a)→H' b=some (.own a))(ht:∀b xs,H b=some (.tup xs)→H' b=some (.tup xs)):za6 P w H' h' a o:=by
 induction o with
 | lst xs=>obtain⟨z,its,n,r,e⟩:=x; exact⟨z,its,n,r,k _ _ (.inl rfl) e⟩
 | tup xs=>obtain⟨z,its,r,ob,e,c⟩:=x; exact⟨z,its,r,ob,k _ _ (.inl rfl) e,c⟩
 | dK kvs=>obtain⟨z,y,vs,r,ob,es,ep,e,c⟩:=x; exact⟨z,y,vs,r,ob,es,ep,k _ _ (.inl rfl) e,c⟩
 | dT kvs=>
  obtain⟨z,y,xs,r,ob,es,ep,e,c⟩:=x
  exact⟨z,y,xs,Paired.mapP r λp q z=>⟨z.1,ht _ _ z.2.1,z.2.2⟩,ob,es,ep,k _ _ (.inl rfl) e,c⟩
 | set S n=>obtain⟨ob,es,ep,t,e,c⟩:=x; exact⟨ob,es,ep,t,k _ _ (.inl rfl) e,c⟩
 | ins C dx fs=>
  obtain⟨d,z,ne,e,mA,⟨od,es,ep,e2,c⟩,r⟩:=x
  exact⟨ho _ d,z,ne,k _ _ (.inl rfl) e,mA,⟨od,es,ep,k _ _ (.inr d) e2,c⟩,r⟩
 | own y=>obtain⟨ob,e⟩:=x; exact⟨ob,k _ _ (.inl rfl) e⟩
 | xd fs=>obtain⟨mA,⟨od,es,ep,e,c⟩,r⟩:=x; exact⟨mA,⟨od,es,ep,k _ _ (.inl rfl) e,c⟩,r⟩
 | rng lo hi=>obtain⟨t,u,v,e⟩:=x; exact⟨t,u,v,k _ _ (.inl rfl) e⟩
 | frz ob u ih=>obtain⟨e,q⟩:=x; exact⟨k _ _ (.inl rfl) e,ih q⟩
 | tbl ps=>
  have e:h.get? a=some { cls:=.none,data:=.fields ps }:=x
  show h'.get? a=some { cls:=.none,data:=.fields ps }
  exact k a _ (.inl rfl) e
 | met f y=>
  have e:h.get? a=some (PySem.W.methodObj (.ref f) (.ref y)):=x
  show h'.get? a=some (PySem.W.methodObj (.ref f) (.ref y))
  exact k a _ (.inl rfl) e
 | ext φ=>obtain⟨p,⟨o,e⟩,st⟩:=x; exact⟨st _ _ p λo q=>k _ _ (.inl rfl) q,⟨o,k _ _ (.inl rfl) e⟩,st⟩
theorem HOk.lt (x:HOk P w H h)(e:H a=some o):a<h.objs.size:=(x a o e).lt
theorem HOk.fresh (x:HOk P w H h)(e:h.objs.size≤a):H a=none:=by
 cases q:H a with
 | none=>rfl
 | some u=>exact absurd (Vak (x.lt q) e) (VaC _)
theorem HOk.kept (x:HOk P w H h)(k:∀b u,h.get? b=some u→h'.get? b=some u):HOk P w H h':=λa o e=>
 (x a o e).stay (λb u _ q=>k b u q) (λ_ q=>q) λ_ _ q=>q
theorem HOk.laid (x:HOk P w H h)(k:∀b u,h.get? b=some u→h'.get? b=some u)(hp:h.objs.size≤a)(new:za6 P w (upd H a o) h' a o):HOk P w (upd H a o) h':=λb u e=>by
 have hn:=x.fresh hp
 by_cases hb:b=a
 ·subst hb; rw[zbP] at e; cases e; exact new
 ·rw[za2 hb] at e
  exact(x b u e).stay (λc v _ q=>k c v q) (λc q=>by rw[za2 (zdL q hn)]; exact q) λc xs q=>by rw[za2 (zdL q hn)]; exact q
end
def Rd (H:Hp)(a:Addr)(u:HO):Prop:=H a=some u∨∃o,H a=some (.frz o u)
theorem Rd.ok {P:Program}{w:World}{H:Hp}{h:Heap}{a:Addr}{u:HO}(r:Rd H a u)(x:HOk P w H h):za6 P w H h a u:=by
 rcases r with r | ⟨o,r⟩
 ·exact x a u r
 ·obtain⟨_,q⟩:=x a _ r
  exact q
def Mut:Option HO→Prop
 | some (.lst _)=>True
 | some (.dK _)=>True
 | some (.dT _)=>True
 | some (.set _ _)=>True
 | some (.ins _ _ _)=>True
 | some (.ext _)=>True
 | _=>False
section
variable {P:Program}{w:World}{H:Hp}{h h':Heap}{x e:Addr}{o':HO}
theorem HOk.write (ok:HOk P w H h)(mu:Mut (H x))(he:e=x∨H e=some (.own x))(k:∀b u,b≠e→h.get? b=some u→h'.get? b=some u)(heo:∃u,h'.get? e=some u)
  (new:za6 P w (upd H x o') h' x o'):HOk P w (upd H x o') h':=λb u q=>by
 have nown:∀c y,H c=some (.own y)→c≠x:=λc y r z=>by subst z; rw[r] at mu; exact mu
 have ntup:∀c xs,H c=some (.tup xs)→c≠x:=λc xs r z=>by subst z; rw[r] at mu; exact mu
 by_cases hb:b=x
 ·subst hb; rw[zbP] at q; cases q; exact new
 ·rw[za2 hb] at q
  by_cases hbe:b=e
  ·have q':H b=some (.own x):=by
    rcases he with z | z
    ·exact absurd (hbe.trans z) hb
    ·rw[hbe]; exact z
   rw[q] at q'; cases q'
   obtain⟨v,hv⟩:=heo
   exact⟨v,by rw[hbe]; exact hv⟩
  ·refine(ok b u q).stay (λc v hc r=>k c v ?_ r) (λc r=>by rw[za2 (nown c b r)]; exact r) λc xs r=>by rw[za2 (ntup c xs r)]; exact r
   rcases hc with rfl | hc
   ·exact hbe
   ·rintro rfl
    rcases he with z | z
    ·exact nown c b hc z
    ·rw[hc] at z; cases z; exact hb rfl
end
structure Un (fs ex:List Addr)(H H':Hp)(h h':Heap):Prop where
 keep:∀b o,h.get? b=some o→H b=none→b ∉ fs→b ∉ ex→h'.get? b=some o
 slot:∀b o,h.get? b=some o→H b=none→b∈fs→b ∉ ex→∃sl,h'.get? b=some { o with slots:=sl }
 free:∀b o,h.get? b=some o→H b=none→b ∉ ex→H' b=none
 there:∀b o,h.get? b=some o→b ∉ ex→∃o',h'.get? b=some o'
 tups:∀b xs,H b=some (.tup xs)→H' b=some (.tup xs)
 frzs:∀b o u,H b=some (.frz o u)→H' b=some (.frz o u)
 tbls:∀b ps,H b=some (.tbl ps)→∃more,H' b=some (.tbl (ps++more))
section
variable {fs fs' ex ex':List Addr}{H H1 H2:Hp}{h h1 h2 h':Heap}{a x e:Addr}{o:HO}
theorem Un.any (u:Un fs ex H H1 h h1){b:Addr}{ob:Obj}(q:h.get? b=some ob)(n:H b=none)(hx:b ∉ ex):∃sl,h1.get? b=some { ob with slots:=sl }:=by
 by_cases hb:b∈fs
 ·exact u.slot b ob q n hb hx
 ·exact⟨ob.slots,u.keep b ob q n hb hx⟩
theorem Un.kept (k:∀b u,h.get? b=some u→h'.get? b=some u):Un fs ex H H h h':=
 ⟨λb ob q _ _ _=>k b ob q,λb ob q _ _ _=>⟨ob.slots,k b ob q⟩,λ_ _ _ n _=>n,λb ob q _=>⟨ob,k b ob q⟩,λ_ _ q=>q,λ_ _ _ q=>q,λ_ ps q=>⟨#[],by rw[q]; simp⟩⟩
theorem Un.refl:Un fs ex H H h h:=Un.kept λ_ _ q=>q
theorem Un.laid (k:∀b u,h.get? b=some u→h'.get? b=some u)(hp:h.objs.size≤a)(hn:H a=none):Un fs ex H (upd H a o) h h' where
 keep:=λb u q _ _ _=>k b u q
 slot:=λb u q _ _ _=>⟨u.slots,k b u q⟩
 free:=λb u q n _=>by rw[za2 (Vam (Vak (Heap.lt_size q) hp))]; exact n
 there:=λb u q _=>⟨u,k b u q⟩
 tups:=λb xs q=>by rw[za2 (zdL q hn)]; exact q
 frzs:=λb u xs q=>by rw[za2 (zdL q hn)]; exact q
 tbls:=λb ps q=>⟨#[],by rw[za2 (zdL q hn),q]; simp⟩
theorem Un.write (mu:Mut (H x))(he:e=x∨H e=some (.own x))(k:∀b u,b≠e→h.get? b=some u→h'.get? b=some u)(heo:∃u,h'.get? e=some u):Un fs ex H (upd H x o) h h':=by
 have hx:∀b,H b=none→b≠x:=λb n z=>by subst z; rw[n] at mu; exact mu
 have hb:∀b,H b=none→b≠e:=λb n z=>by
  subst z
  rcases he with r | r
  ·exact hx b n r
  ·rw[n] at r; cases r
 have hm:∀b u,H b=some u→¬ Mut (some u)→b≠x:=λb u q nm z=>by subst z; rw[q] at mu; exact nm mu
 refine⟨λb u q n _ _=>k b u (hb b n) q,λb u q n _ _=>⟨u.slots,k b u (hb b n) q⟩,λb u q n _=>by rw[za2 (hx b n)]; exact n,λb u q _=>?_,
  λb xs q=>by rw[za2 (hm b _ q λz=>z)]; exact q,λb u xs q=>by rw[za2 (hm b _ q λz=>z)]; exact q,λb ps q=>⟨#[],by rw[za2 (hm b _ q λz=>z),q]; simp⟩⟩
 by_cases hbe:b=e
 ·subst hbe; exact heo
 ·exact⟨u,k b u hbe q⟩
end
def trk (h:Heap)(H:Hp):List Addr:=(List.range h.objs.size).filter λa=>(H a).isSome
def zdQ (h:Heap)(H:Hp):Heap:=PySem.W.hideAll h (trk h H)
theorem ztq (h:Heap)(H:Hp):(zdQ h H).objs.size=h.objs.size:=PySem.W.hideAll_size _ _
theorem zvW {h:Heap}{H:Hp}{b:Addr}{o:Obj}(e:h.get? b=some o)(n:H b=none):(zdQ h H).get? b=some o:=
 PySem.W.hideAll_get _ e λhm=>by
  have q:(H b).isSome=true:=(List.mem_filter.mp hm).2
  rw[n] at q; simp at q
theorem zq6 {h:Heap}{H:Hp}{b:Addr}{o:Obj}(e:(zdQ h H).get? b=some o):h.get? b=some o∧H b=none:=by
 have e':h.get? b=some o:=PySem.W.of_hideAll (trk h H) e
 refine⟨e',?_⟩
 cases q:H b with
 | none=>rfl
 | some x=>
  have hm:b∈trk h H:=List.mem_filter.mpr ⟨VaU.mpr (Heap.lt_size e'),by simp[q]⟩
  have z:(zdQ h H).get? b=none:=PySem.W.hideAll_none (trk h H) hm
  rw[z] at e; cases e
def zuz (g h:Heap)(L:Addr):List (Addr×Obj):=(List.range h.objs.size).filterMap λa=>if a=L∨(g.get? a).isSome=true then none else (h.get? a).map λo=>(a,o)
def zbn (g h:Heap)(L d:Addr):List (Addr×Obj):=(zuz g h L).filter λp=>decide (p.1≠d)
end L2
namespace L2
open PySem PySem.Spec PyProof.Rows
structure Mod (K:PySem.W.Frag)(mg:Str→Option Value)(base:Heap):Prop where
 kin:K.In base
 glob:base.Ns mainGlobals mg
 blt:∃mb,base.Ns builtinsNs mb∧∀x:Str,x≠"__name__"→mb x=bootBuiltins x
 nolimit:base.NoLimit
structure Cx where
 prog:Program
 w:World
 K:PySem.W.Frag
 mg:Str→Option Value
 base:Heap
 A:Around
 N:List Str
 s₀:Shared
 H₀:Hp
 env:Env
 outer:List Env
 stack:List Env
 ex:List Addr
 fn:Str→Bool
 calm:Bool
 pn:List (Addr×Obj)
 xe:Value→Shared→Prop
def frs (l:List Env):List Addr:=l.filterMap (·.frame)
abbrev Cx.fs (X:Cx):List Addr:=frs X.outer
def Vis (sc:Scope)(x:Str):Prop:=sc.names.lookup x=some .local∨sc.names.lookup x=some .cell∨sc.names.lookup x=some .free
def Loc (sc:Scope)(x:Str):Prop:=sc.names.lookup x=some .local∨sc.names.lookup x=some .cell
def Look (env:Env)(h:Heap)(m:Str→Option Value)(x:Str)(u:Value):Prop:=
 (env.kindOf x=some .local∧m x=some u)∨((env.kindOf x=some .cell∨env.kindOf x=some .free)∧∃c,env.cells.lookup x=some c∧h.IsCell c (some u))
structure Cx.Ok (X:Cx):Prop where
 mod:Mod X.K X.mg X.base
 kind:X.env.scope.kind=.function
 glob:X.env.globals=mainGlobals
 blt:X.env.builtins=builtinsNs
 above:X.s₀.heap.objs.size≤X.env.locals
 inj:∀x y c,X.env.cells.lookup x=some c→X.env.cells.lookup y=some c→x=y
 has:∀x,(X.env.kindOf x=some .cell∨X.env.kindOf x=some .free)→∃c,X.env.cells.lookup x=some c
 cab:∀x c,X.fn x=true→X.env.cells.lookup x=some c→X.s₀.heap.objs.size≤c
 hd:X.calm=true→X.A.handled=none
 frames:X.A.frames=some X.stack
 stk:X.stack=X.outer∨(X.stack=X.env::X.outer∧X.env.frame=some X.env.locals)
 exf:∀b∈X.ex,b≠X.env.locals∧∀x c,X.env.cells.lookup x=some c→c≠b
 bs:∀b o,X.base.get? b=some o→X.s₀.heap.get? b=some o∧X.H₀ b=none
 bsz:X.base.objs.size≤X.s₀.heap.objs.size
 noex:∀b o,X.base.get? b=some o→b ∉ X.ex
 exfs:∀b∈X.ex,b ∉ X.fs
 funs:X.s₀.heap.FunFrames X.base X.outer
 frf:∀b∈X.fs,X.H₀ b=none
structure Inv (X:Cx)(pins:List (Addr×Obj))(σ:List (Option V))(H:Hp)(s:Shared):Prop where
 ok:X.Ok
 os:s.os=X.s₀.os
 bare:AllBare s.gens
 base:Un X.fs X.ex X.H₀ H X.s₀.heap s.heap
 loc:∃m,s.heap.Ns X.env.locals m∧∀(i:Nat) (x:Str) (v:V),X.N[i]?=some x→σ[i]?=some (some v)→Vis X.env.scope x→∃u,zal v u∧Look X.env s.heap m x u
 cell:∀x c,X.env.cells.lookup x=some c→∃v,s.heap.IsCell c v
 free:H X.env.locals=none
 freeC:∀x c,X.env.cells.lookup x=some c→H c=none
 pin:∀p∈X.pn++pins,s.heap.get? p.1=some p.2∧H p.1=none∧p.1≠X.env.locals∧p.1 ∉ X.fs∧∀v,p.2.data≠.cell v
 hok:HOk X.prog X.w H s.heap
 len:σ.length=X.N.length
section
variable {X:Cx}{pins:List (Addr×Obj)}{σ:List (Option V)}{H H':Hp}{s:Shared}{h':Heap}
theorem Cx.Ok.nofr (ok:X.Ok){b:Addr}{o:Obj}(e:X.base.get? b=some o):b ∉ X.fs:=λhb=>by
 have:=(ok.funs.mem hb).1
 rw[e] at this; cases this
theorem Inv.bs (I:Inv X pins σ H s):∀b o,X.base.get? b=some o→s.heap.get? b=some o∧H b=none:=λb o e=>
 ⟨I.base.keep b o (I.ok.bs b o e).1 (I.ok.bs b o e).2 (I.ok.nofr e) (I.ok.noex b o e),I.base.free b o (I.ok.bs b o e).1 (I.ok.bs b o e).2 (I.ok.noex b o e)⟩
theorem Inv.bk (I:Inv X pins σ H s):∀b o,X.base.get? b=some o→s.heap.get? b=some o:=λb o e=>(I.bs b o e).1
theorem Inv.mod (I:Inv X pins σ H s):Mod X.K X.mg X.base:=I.ok.mod
theorem Inv.kIn (I:Inv X pins σ H s):X.K.In s.heap:=I.ok.mod.kin.keeps I.bk
theorem Inv.lt (I:Inv X pins σ H s):X.env.locals<s.heap.objs.size:=let ⟨_,hn,_⟩:=I.loc; hn.lt
theorem Inv.sz (I:Inv X pins σ H s):X.s₀.heap.objs.size≤s.heap.objs.size:=Vax I.ok.above (VaF I.lt)
theorem Inv.nofs (I:Inv X pins σ H s){a:Addr}(h:s.heap.objs.size≤a):a ∉ X.fs:=λhb=>by
 obtain⟨_,o,ho,_⟩:=I.ok.funs.mem hb
 exact absurd (Vak (Heap.lt_size ho) (Vax I.sz h)) (VaC _)
theorem Inv.cne (I:Inv X pins σ H s):∀x c,X.env.cells.lookup x=some c→c≠X.env.locals:=λx c e z=>by
 obtain⟨v,o,ho,hd⟩:=I.cell x c e
 obtain⟨m,⟨o',es,ep,ho',hd',_⟩,_⟩:=I.loc
 rw[z,ho'] at ho; cases ho; rw[hd'] at hd; cases hd
theorem Inv.funs (I:Inv X pins σ H s):s.heap.FunFrames X.base X.outer:=by
 have all:∀(l:List Env),(∀b∈frs l,b∈X.fs)→X.s₀.heap.FunFrames X.base l→s.heap.FunFrames X.base l:=by
  intro l
  induction l with
  | nil=>intro _ _; trivial
  | cons env r ih=>
   intro hs hl
   obtain⟨hk,⟨L,o,hf,hn,ho,hd⟩,hr⟩:=hl
   have hL:L∈X.fs:=hs L (by unfold frs; rw[List.filterMap_cons,hf]; exact Vau)
   obtain⟨sl,e⟩:=I.base.slot L o ho (I.ok.frf L hL) hL λz=>I.ok.exfs L z hL
   exact⟨hk,⟨L,_,hf,hn,e,hd⟩,ih (λb hb=>hs b (by unfold frs; rw[List.filterMap_cons,hf]; exact Vap _ hb)) hr⟩
 exact all X.outer (λ_ hb=>hb) I.ok.funs
theorem Inv.stack (I:Inv X pins σ H s):s.heap.FunFrames X.base X.stack:=by
 rcases I.ok.stk with e | ⟨e,hf⟩
 ·rw[e]; exact I.funs
 ·rw[e]
  obtain⟨m,hn,_⟩:=I.loc
  refine .cons (by rw[I.ok.kind]; decide) hf hn ?_ I.funs
  exact Heap.get?_none_of_le (Vax I.ok.bsz I.ok.above)
theorem Inv.stkSub (I:Inv X pins σ H s):∀b∈frs X.stack,b∈X.env.locals::X.fs:=λb hb=>by
 rcases I.ok.stk with e | ⟨e,hf⟩
 ·rw[e] at hb; exact Vap _ hb
 ·rw[e] at hb
  unfold frs at hb
  rw[List.filterMap_cons,hf] at hb
  exact hb
theorem Inv.stkFree (I:Inv X pins σ H s):∀b∈frs X.stack,H b=none:=λb hb=>by
 rcases Vaa.mp (I.stkSub b hb) with e | hb
 ·rw[e]; exact I.free
 ·obtain⟨_,o,ho,_⟩:=I.ok.funs.mem hb
  exact I.base.free b o ho (I.ok.frf b hb) λz=>I.ok.exfs b z hb
theorem Inv.step {g':Array GenState}{t':Nat}{d':Drawn}{ch:List Addr}(I:Inv X pins σ H s)
  (hch:∀b∈ch,(b∈X.ex∨X.s₀.heap.objs.size≤b)∧b≠X.env.locals∧(∀x c,X.env.cells.lookup x=some c→c≠b)∧∀p∈X.pn++pins,p.1≠b)
  (keep:∀b o,b≠X.env.locals→b ∉ X.fs→b ∉ ch→s.heap.get? b=some o→H b=none→h'.get? b=some o)
  (slot:∀b o,b≠X.env.locals→b∈X.fs→b ∉ ch→s.heap.get? b=some o→H b=none→∃sl,h'.get? b=some { o with slots:=sl })(free:∀b o,b ∉ ch→s.heap.get? b=some o→H b=none→H' b=none)
  (there:∀b o,b ∉ ch→s.heap.get? b=some o→∃o',h'.get? b=some o')
  (tups:∀b xs,H b=some (.tup xs)→H' b=some (.tup xs))(frzs:∀b o u,H b=some (.frz o u)→H' b=some (.frz o u))(tbls:∀b ps,H b=some (.tbl ps)→∃more,H' b=some (.tbl (ps++more)))
  (ns:∀m,s.heap.Ns X.env.locals m→h'.Ns X.env.locals m)(hok:HOk X.prog X.w H' h')(hg:AllBare g'):
  Inv X pins σ H' { s with heap:=h',gens:=g',drawn:=d',toks:=t' }:=by
 have neL:∀b o,X.s₀.heap.get? b=some o→b≠X.env.locals:=λb o e=>Vam (Vak (Heap.lt_size e) I.ok.above)
 have neC:∀b o,X.s₀.heap.get? b=some o→b ∉ X.ex→b ∉ ch:=λb o e hx hb=>by
  rcases (hch b hb).1 with z | z
  ·exact hx z
  ·exact absurd (Vak (Heap.lt_size e) z) (VaC _)
 have cellK:∀x c,X.env.cells.lookup x=some c→∀v,s.heap.IsCell c v→h'.IsCell c v:=λx c e v ⟨o,ho,hd⟩=>by
  have nch:c ∉ ch:=λz=>(hch c z).2.2.1 x c e rfl
  by_cases hc:c∈X.fs
  ·obtain⟨sl,q⟩:=slot c o (I.cne x c e) hc nch ho (I.freeC x c e)
   exact⟨_,q,hd⟩
  ·exact⟨o,keep c o (I.cne x c e) hc nch ho (I.freeC x c e),hd⟩
 refine⟨I.ok,I.os,hg,⟨λb o e n hb hx=>?_,λb o e n hb hx=>?_,λb o e n hx=>?_,λb o e hx=>?_,λb xs e=>tups b xs (I.base.tups b xs e),λb o xs e=>frzs b o xs (I.base.frzs b o xs e),λb ps e=>?_⟩,?_,λx c e=>?_,?_,λx c e=>?_,λp hp=>?_,hok,I.len⟩
 ·exact keep b o (neL b o e) hb (neC b o e hx) (I.base.keep b o e n hb hx) (I.base.free b o e n hx)
 ·obtain⟨sl,e1⟩:=I.base.slot b o e n hb hx
  obtain⟨sl',e2⟩:=slot b _ (neL b o e) hb (neC b o e hx) e1 (I.base.free b o e n hx)
  exact⟨sl',e2⟩
 ·obtain⟨o',e1⟩:=I.base.there b o e hx
  exact free b o' (neC b o e hx) e1 (I.base.free b o e n hx)
 ·obtain⟨o',e1⟩:=I.base.there b o e hx
  exact there b o' (neC b o e hx) e1
 ·obtain⟨m1,e1⟩:=I.base.tbls b ps e
  obtain⟨m2,e2⟩:=tbls b _ e1
  exact⟨m1++m2,by rw[e2,Array.append_assoc]⟩
 ·obtain⟨m,hn,hl⟩:=I.loc
  refine⟨m,ns m hn,λi x v e1 e2 e3=>?_⟩
  obtain⟨u,r,l⟩:=hl i x v e1 e2 e3
  refine⟨u,r,?_⟩
  rcases l with l | ⟨k,c,e,z⟩
  ·exact .inl l
  ·exact .inr ⟨k,c,e,cellK x c e _ z⟩
 ·obtain⟨v,z⟩:=I.cell x c e
  exact⟨v,cellK x c e v z⟩
 ·obtain⟨m,⟨o,_,_,ho,_⟩,_⟩:=I.loc
  exact free _ o (λz=>(hch _ z).2.1 rfl) ho I.free
 ·obtain⟨v,o,ho,hd⟩:=I.cell x c e
  exact free c o (λz=>(hch c z).2.2.1 x c e rfl) ho (I.freeC x c e)
 ·obtain⟨e,n,ne,nf,d⟩:=I.pin p hp
  have nch:p.1 ∉ ch:=λz=>(hch p.1 z).2.2.2 p hp rfl
  exact⟨keep p.1 p.2 ne nf nch e n,free p.1 p.2 nch e n,ne,nf,d⟩
theorem Inv.un {t':Nat}(I:Inv X pins σ H s)(u:Un X.fs [] H H' s.heap h')(hok:HOk X.prog X.w H' h'):Inv X pins σ H' { s with heap:=h',toks:=t' }:=by
 obtain⟨m,⟨o,es,ep,ho,r⟩,_⟩:=id I.loc
 obtain⟨sl,hL⟩:=u.any ho I.free (by simp)
 exact I.step (g':=s.gens) (d':=s.drawn) (ch:=[]) (λ_ z=>nomatch z) (λb o _ hb _ e n=>u.keep b o e n hb (by simp)) (λb o _ hb _ e n=>u.slot b o e n hb (by simp)) (λb o _ e n=>u.free b o e n (by simp)) (λb o _ e=>u.there b o e (by simp)) u.tups u.frzs u.tbls (λm' hm=>by
  obtain⟨o',es',ep',ho',r'⟩:=hm
  rw[ho] at ho'; cases ho'
  exact⟨_,es',ep',hL,r'⟩) hok I.bare
theorem Inv.call {g':Array GenState}{t':Nat}{d':Drawn}{ch:List Addr}(I:Inv X pins σ H s)(u:Un (frs X.stack) ch H H' s.heap h')(hok:HOk X.prog X.w H' h')(hg:AllBare g')
  (hch:∀b∈ch,(b∈X.ex∨X.s₀.heap.objs.size≤b)∧b≠X.env.locals∧(∀x c,X.env.cells.lookup x=some c→c≠b)∧∀p∈X.pn++pins,p.1≠b):
  Inv X pins σ H' { s with heap:=h',gens:=g',drawn:=d',toks:=t' }:=by
 obtain⟨m,⟨o,es,ep,ho,r⟩,_⟩:=id I.loc
 obtain⟨sl,hL⟩:=u.any ho I.free λz=>(hch _ z).2.1 rfl
 exact I.step (ch:=ch) hch (λb o hL hb hc e n=>u.keep b o e n (λz=>(Vaa.mp (I.stkSub b z)).elim hL hb) hc) (λb o _ _ hc e n=>u.any e n hc) (λb o hc e n=>u.free b o e n hc) (λb o hc e=>u.there b o e hc) u.tups u.frzs u.tbls (λm' hm=>by
  obtain⟨o',es',ep',ho',r'⟩:=hm
  rw[ho] at ho'; cases ho'
  exact⟨_,es',ep',hL,r'⟩) hok hg
theorem Inv.turned {t':Nat}{it:Addr}(I:Inv X pins σ H s)(k:∀b o,b≠it→s.heap.get? b=some o→h'.get? b=some o)(hn:H it=none)(hL:it≠X.env.locals)
  (h1:it∈X.ex∨X.s₀.heap.objs.size≤it)(h2:∀x c,X.env.cells.lookup x=some c→c≠it)(h3:∀p∈X.pn++pins,p.1≠it):Inv X pins σ H { s with heap:=h',toks:=t' }:=by
 have nit:∀b u,H b=some u→b≠it:=λb u e z=>by rw[z,hn] at e; cases e
 refine I.step (g':=s.gens) (d':=s.drawn) (ch:=[it]) (λb hb=>?_) (λb o _ _ hc e _=>k b o (λz=>hc (by simp[z])) e) (λb o _ _ hc e _=>⟨o.slots,k b o (λz=>hc (by simp[z])) e⟩) (λ_ _ _ _ n=>n)
  (λb o hc e=>⟨o,k b o (λz=>hc (by simp[z])) e⟩) (λ_ _ e=>e) (λ_ _ _ e=>e) (λb ps e=>⟨#[],by rw[e]; simp⟩) (λm hm=>?_) (λb u e=>?_) I.bare
 ·have e:b=it:=by simpa using hb
  subst e
  exact⟨h1,hL,h2,h3⟩
 ·obtain⟨o,es,ep,ho,r⟩:=hm
  exact⟨o,es,ep,k _ o (Ne.symm hL) ho,r⟩
 ·refine(I.hok b u e).stay (λc v hc q=>k c v ?_ q) (λ_ q=>q) λ_ _ q=>q
  rcases hc with z | z
  ·rw[z]; exact nit b u e
  ·exact nit c _ z
theorem Inv.tok (I:Inv X pins σ H s)(t:Nat):Inv X pins σ H { s with toks:=t }:=I.un (h':=s.heap) (t':=t) Un.refl I.hok
theorem Inv.kept {t':Nat}(I:Inv X pins σ H s)(k:∀b u,s.heap.get? b=some u→h'.get? b=some u):Inv X pins σ H { s with heap:=h',toks:=t' }:=I.un (Un.kept k) (I.hok.kept k)
theorem Inv.laid {a:Addr}{o:HO}{t':Nat}(I:Inv X pins σ H s)(k:∀b u,s.heap.get? b=some u→h'.get? b=some u)(hp:s.heap.objs.size≤a)(new:za6 X.prog X.w (upd H a o) h' a o):
  Inv X pins σ (upd H a o) { s with heap:=h',toks:=t' }:=I.un (Un.laid k hp (I.hok.fresh hp)) (I.hok.laid k hp new)
theorem Inv.write {x e:Addr}{o:HO}{t':Nat}(I:Inv X pins σ H s)(mu:Mut (H x))(he:e=x∨H e=some (.own x))(k:∀b u,b≠e→s.heap.get? b=some u→h'.get? b=some u)(heo:∃u,h'.get? e=some u)
  (new:za6 X.prog X.w (upd H x o) h' x o):Inv X pins σ (upd H x o) { s with heap:=h',toks:=t' }:=I.un (Un.write mu he k heo) (I.hok.write mu he k heo new)
theorem Inv.pins_of {pins':List (Addr×Obj)}(I:Inv X pins σ H s)(h:∀p∈pins',s.heap.get? p.1=some p.2∧H p.1=none∧p.1≠X.env.locals∧p.1 ∉ X.fs∧∀v,p.2.data≠.cell v):Inv X pins' σ H s:=
 ⟨I.ok,I.os,I.bare,I.base,I.loc,I.cell,I.free,I.freeC,λp hp=>(Val.mp hp).elim (λz=>I.pin p (VaD _ z)) (h p),I.hok,I.len⟩
theorem zpw {N:List Str}(hN:N.Nodup){i j:Nat}{x:Str}(a:N[i]?=some x)(b:N[j]?=some x):i=j:=by
 obtain⟨h1,e1⟩:=Vac.mp a
 obtain⟨h2,e2⟩:=Vac.mp b
 exact(List.getElem_inj hN).mp (e1.trans e2.symm)
theorem zpo {M:Model}{A:Around}{E:Value→Shared→Prop}{i:Nat}{x:Str}{v:V}{u:Value}{Q:Unit→Shared→Prop}(I:Inv X pins σ H s)(hN:X.N.Nodup)(hi:X.N[i]?=some x)(hx:Loc X.env.scope x)(r:zal v u)
  (h:∀s',Inv X pins (σ.set i (some v)) H s'→(∃a,Heap.SameBut a s.heap s'.heap∧(a=X.env.locals∨X.env.cells.lookup x=some a))→Q () s')(hf:X.fn x=true∨X.env.scope.names.lookup x=some .local:=by first | exact .inl rfl | exact .inr rfl | assumption):wpAny M A (storeName X.env x u) Q E s:=by
 obtain⟨m,hn,hl⟩:=id I.loc
 have hcls:(X.env.scope.kind==.class||(X.env.scope.kind==.module&&X.env.locals != X.env.globals))=false:=by rw[I.ok.kind]; rfl
 have hiσ:i<σ.length:=by rw[I.len]; exact(Vac.mp hi).1
 have cne:=I.cne
 have tracked:∀ {a:Addr} {h':Heap},(∃o,s.heap.get? a=some o∧H a=none)→Heap.SameBut a s.heap h'→HOk X.prog X.w H h':=λ{a h'} ha hs b ob e=>by
  obtain⟨_,_,hfree⟩:=ha
  refine(I.hok b ob e).stay (λc w' hc q=>(hs.2 c ?_).trans q) (λ_ q=>q) λ_ _ q=>q
  rintro rfl
  rcases hc with rfl | hc
  ·rw[hfree] at e; cases e
  ·rw[hfree] at hc; cases hc
 rcases hx with hk | hk
 ·refine wpAny_storeName_local hk hn (λh' hn' hs=>?_) hcls
  obtain⟨oL,_,_,hoL,_⟩:=id hn
  refine h _ ⟨I.ok,I.os,I.bare,⟨λb o e n hb hx=>?_,λb o e n hb hx=>?_,I.base.free,λb o e hx=>?_,I.base.tups,I.base.frzs,I.base.tbls⟩,⟨_,hn',λj y v' e1 e2 e3=>?_⟩,λy c e=>?_,I.free,I.freeC,λp hp=>?_,tracked ⟨oL,hoL,I.free⟩ hs,by simpa using I.len⟩ ⟨_,hs,.inl rfl⟩
  ·exact(hs.2 b (Vam (Vak (Heap.lt_size e) I.ok.above))).trans (I.base.keep b o e n hb hx)
  ·obtain⟨sl,e1⟩:=I.base.slot b o e n hb hx
   exact⟨sl,(hs.2 b (Vam (Vak (Heap.lt_size e) I.ok.above))).trans e1⟩
  ·obtain⟨o',e1⟩:=I.base.there b o e hx
   exact⟨o',(hs.2 b (Vam (Vak (Heap.lt_size e) I.ok.above))).trans e1⟩
  ·by_cases hj:j=i
   ·subst hj
    rw[hi] at e1; cases e1
    rw[VaV hiσ] at e2
    cases e2
    exact⟨u,r,.inl ⟨hk,by simp⟩⟩
   ·rw[VaJ (Ne.symm hj)] at e2
    obtain⟨u',r',q⟩:=hl j y v' e1 e2 e3
    refine⟨u',r',?_⟩
    rcases q with ⟨k,e⟩ | ⟨k,c,e,z⟩
    ·refine .inl ⟨k,?_⟩
     have:y≠x:=λe=>hj (zpw hN e1 (e ▸ hi))
     simp[this,e]
    ·exact .inr ⟨k,c,e,z.sameBut hs (cne y c e)⟩
  ·obtain⟨w',z⟩:=I.cell y c e
   exact⟨w',z.sameBut hs (cne y c e)⟩
  ·obtain⟨e,n,ne,nf,d⟩:=I.pin p hp
   exact⟨(hs.2 p.1 ne).trans e,n,ne,nf,d⟩
 ·have hfn:X.fn x=true:=by
   rcases hf with z | z
   ·exact z
   ·rw[z] at hk; cases hk
  obtain⟨c,hc⟩:=I.ok.has x (.inl hk)
  obtain⟨w',z⟩:=I.cell x c hc
  refine wpAny_storeName_cell I.ok.kind hk hc z (λh' hc' hs=>?_)
  obtain⟨oc,hoc,hocd⟩:=id z
  refine h { s with heap:=h' } ⟨I.ok,I.os,I.bare,⟨λb o e n hb hx=>?_,λb o e n hb hx=>?_,I.base.free,λb o e hx=>?_,I.base.tups,I.base.frzs,I.base.tbls⟩,⟨m,hn.sameBut hs (Ne.symm (cne x c hc)),λj y v' e1 e2 e3=>?_⟩,λy c' e=>?_,I.free,I.freeC,λp hp=>?_,tracked ⟨oc,hoc,I.freeC x c hc⟩ hs,by simpa using I.len⟩ ⟨c,hs,.inr hc⟩
  ·exact(hs.2 b (Vam (Vak (Heap.lt_size e) (I.ok.cab x c hfn hc)))).trans (I.base.keep b o e n hb hx)
  ·obtain⟨sl,e1⟩:=I.base.slot b o e n hb hx
   exact⟨sl,(hs.2 b (Vam (Vak (Heap.lt_size e) (I.ok.cab x c hfn hc)))).trans e1⟩
  ·obtain⟨o',e1⟩:=I.base.there b o e hx
   exact⟨o',(hs.2 b (Vam (Vak (Heap.lt_size e) (I.ok.cab x c hfn hc)))).trans e1⟩
  ·by_cases hj:j=i
   ·subst hj
    rw[hi] at e1; cases e1
    rw[VaV hiσ] at e2
    cases e2
    exact⟨u,r,.inr ⟨.inl hk,c,hc,hc'⟩⟩
   ·rw[VaJ (Ne.symm hj)] at e2
    obtain⟨u',r',q⟩:=hl j y v' e1 e2 e3
    refine⟨u',r',?_⟩
    rcases q with q | ⟨k,c',e,z'⟩
    ·exact .inl q
    ·refine .inr ⟨k,c',e,z'.sameBut hs ?_⟩
     rintro rfl
     exact hj (zpw hN e1 (I.ok.inj _ _ _ e hc ▸ hi))
  ·by_cases hcc:c'=c
   ·subst hcc; exact⟨_,hc'⟩
   ·obtain⟨w2,z2⟩:=I.cell y c' e
    exact⟨w2,z2.sameBut hs hcc⟩
  ·obtain⟨e,n,ne,nf,d⟩:=I.pin p hp
   refine⟨(hs.2 p.1 ?_).trans e,n,ne,nf,d⟩
   intro q
   rw[q,hoc] at e
   have q':oc=p.2:=Option.some.inj e
   exact d w' (by rw[← q']; exact hocd)
theorem znc {M:Model}{A:Around}{E:Value→Shared→Prop}{i:Nat}{x:Str}{v:V}{u:Value}{Q:Unit→Shared→Prop}(I:Inv X pins σ H s)(hN:X.N.Nodup)(hi:X.N[i]?=some x)(hx:Loc X.env.scope x)(r:zal v u)
  (h:∀s',Inv X pins (σ.set i (some v)) H s'→Q () s')(hf:X.fn x=true∨X.env.scope.names.lookup x=some .local:=by first | exact .inl rfl | exact .inr rfl | assumption):wpAny M A (storeName X.env x u) Q E s:=
 zpo I hN hi hx r (λs' I' _=>h s' I') hf
theorem Inv.call' {s':Shared}{ch:List Addr}(I:Inv X pins σ H s)(ho:s'.os=s.os)(u:Un (frs X.stack) ch H H' s.heap s'.heap)(hok:HOk X.prog X.w H' s'.heap)(hg:AllBare s'.gens)
  (hch:∀b∈ch,(b∈X.ex∨X.s₀.heap.objs.size≤b)∧b≠X.env.locals∧(∀x c,X.env.cells.lookup x=some c→c≠b)∧∀p∈X.pn++pins,p.1≠b):Inv X pins σ H' s':=by
 obtain⟨h',g',d',t',o'⟩:=s'
 have e:o'=s.os:=ho
 subst e
 exact I.call (g':=g') (t':=t') (d':=d') u hok hg hch
end
abbrev XK:=Value→Option Addr→Hp→Prop
abbrev St:=List (Option V)
abbrev VK:=V→Hp→Prop
abbrev TE:=St→Hp→VK→Prop
abbrev TT:=St→Hp→(Bool→Hp→Prop)→Prop
abbrev TA:=St→Hp→(List V→Hp→Prop)→Prop
structure zd2 where
 nx:St→Hp→Prop
 rt:VK
 bk:St→Hp→Prop:=λ_ _=>False
 ct:St→Hp→Prop:=λ_ _=>False
abbrev TS:=zd2→St→Hp→Prop
def EP (X:Cx)(pins:List (Addr×Obj))(σ:St)(Q:VK)(u:Value)(s':Shared):Prop:=∃v H',Inv X pins σ H' s'∧zal v u∧Q v H'
def TP (X:Cx)(pins:List (Addr×Obj))(σ:St)(Q:Bool→Hp→Prop)(b:Bool)(s':Shared):Prop:=∃H',Inv X pins σ H' s'∧Q b H'
def AP (X:Cx)(pins:List (Addr×Obj))(σ:St)(Q:List V→Hp→Prop)(us:List Value)(s':Shared):Prop:=∃vs H',Inv X pins σ H' s'∧zas vs us∧Q vs H'
def SP (X:Cx)(pins:List (Addr×Obj))(D:zd2)(f:Flow)(s':Shared):Prop:=
 match f with
 | .next=>∃σ' H',Inv X pins σ' H' s'∧D.nx σ' H'
 | .brk=>∃σ' H',Inv X pins σ' H' s'∧D.bk σ' H'
 | .cont=>∃σ' H',Inv X pins σ' H' s'∧D.ct σ' H'
 | .ret u=>∃v σ' H',Inv X pins σ' H' s'∧zal v u∧D.rt v H'
def PE (X:Cx)(e:Expr)(t:TE):Prop:=
 ∀(pins:List (Addr×Obj)) (s:Shared) (σ:St) (H:Hp) (Q:VK),Inv X pins σ H s→t σ H Q→wpAny (model X.prog X.w) X.A (eval e X.env) (EP X pins σ Q) X.xe s
def PT (X:Cx)(e:Expr)(t:TT):Prop:=
 ∀(pins:List (Addr×Obj)) (s:Shared) (σ:St) (H:Hp) (Q:Bool→Hp→Prop),Inv X pins σ H s→t σ H Q→wpAny (model X.prog X.w) X.A (isTrue e X.env (eval e X.env)) (TP X pins σ Q) X.xe s
def PW (X:Cx)(e:Expr)(t:TT):Prop:=
 ∀(whole:Sem Value) (pins:List (Addr×Obj)) (s:Shared) (σ:St) (H:Hp) (Q:Bool→Hp→Prop),Inv X pins σ H s→t σ H Q→wpAny (model X.prog X.w) X.A (isTrue e X.env whole) (TP X pins σ Q) X.xe s
theorem PW.pt {X:Cx}{e:Expr}{t:TT}(h:PW X e t):PT X e t:=h _
def PA (X:Cx)(es:List Expr)(t:TA):Prop:=
 ∀(pos:Pos) (pins:List (Addr×Obj)) (s:Shared) (σ:St) (H:Hp) (Q:List V→Hp→Prop),Inv X pins σ H s→t σ H Q→wpAny (model X.prog X.w) X.A (spliced (backTo pos (starEach es X.env))) (AP X pins σ Q) X.xe s
def PS (X:Cx)(st:Stmt)(t:TS):Prop:=
 ∀(pins:List (Addr×Obj)) (s:Shared) (σ:St) (H:Hp) (D:zd2),Inv X pins σ H s→t D σ H→wpAny (model X.prog X.w) X.A (exec st X.env) (SP X pins D) X.xe s
def PSs (X:Cx)(st:List Stmt)(t:TS):Prop:=
 ∀(pins:List (Addr×Obj)) (s:Shared) (σ:St) (H:Hp) (D:zd2),Inv X pins σ H s→t D σ H→wpAny (model X.prog X.w) X.A (execs st X.env) (SP X pins D) X.xe s
theorem thn {α:Type}{t:Sem α}{Q Q':α→Shared→Prop}{M:Model}{A:Around}{E:Value→Shared→Prop}{s:Shared}(h:wpAny M A t Q E s)(hQ:∀a s,Q a s→Q' a s):wpAny M A t Q' E s:=wpAny_mono h hQ λ_ _ x=>x
end L2
namespace L2
open PySem PySem.Spec PyProof.Rows
section
variable {X:Cx}
def tVar (i:Nat):TE:=λσ H Q=>∃v,σ[i]?=some (some v)∧Q v H
def tC (v:V):TE:=λ_ H Q=>Q v H
theorem znQ {i:Nat}{x:Str}{pos:Pos}(hN:X.N[i]?=some x)(hv:Vis X.env.scope x)(hd:(x==("__debug__":Str))=false:=by decide)(hcd:(x==("__classdict__":Str))=false:=by decide):PE X (.Name x pos) (tVar i):=by
 intro pins s σ H Q I h
 obtain⟨v,e,h⟩:=h
 obtain⟨m,hn,hl⟩:=I.loc
 obtain⟨u,r,l⟩:=hl i x v hN e hv
 have fin:EP X pins σ Q u s:=⟨v,H,I,r,h⟩
 rcases l with ⟨hk,hm⟩ | ⟨hk,c,hc,hcell⟩
 ·exact wpAny_Name (wpAny_loadName_local I.ok.kind hk hn hm fin) hd
 ·rcases hk with hk | hk
  ·exact wpAny_Name (wpAny_loadName_cell I.ok.kind hk hc hcell fin) hd
  ·exact wpAny_Name (wpAny_loadName_free I.ok.kind hk hc hcell fin hcd) hd
theorem zvw {i j pos}:PE X (.Constant (.int i) j pos) (tC (.int i)):=λ_ _ _ H _ I h=>wpAny_Constant_int ⟨.int i,H,I.tok _,⟨_,rfl⟩,h⟩
theorem pe_bl {b j pos}:PE X (.Constant (.bool b) j pos) (tC (.bl b)):=λ_ _ _ H _ I h=>Constant_bool ⟨.bl b,H,I,rfl,h⟩
theorem ztr {x j pos}:PE X (.Constant (.str x) j pos) (tC (.str x)):=λ_ _ _ H _ I h=>Calls.Constant_str ⟨.str x,H,I.tok _,⟨_,rfl⟩,h⟩
def Gl (X:Cx)(x:Str):Prop:=X.env.kindOf x=some .globalImplicit
theorem zhe {E:Value→Shared→Prop}{pins:List (Addr×Obj)}{s:Shared}{σ:St}{H:Hp}{x:Str}{u:Value}{pos:Pos}{Q:Value→Shared→Prop}(I:Inv X pins σ H s)(hg:Gl X x)(hm:X.mg x=some u)(h:Q u s)
  (hd:(x==("__debug__":Str))=false:=by decide):wpAny (model X.prog X.w) X.A (eval (.Name x pos) X.env) Q E s:=
 Calls.Name_function_global I.ok.kind hg (Calls.loadGlobal_global (by rw[I.ok.glob]; exact I.mod.glob.keeps I.bk) hm h) hd
theorem zhu {E:Value→Shared→Prop}{pins:List (Addr×Obj)}{s:Shared}{σ:St}{H:Hp}{x:Str}{u:Value}{pos:Pos}{Q:Value→Shared→Prop}(I:Inv X pins σ H s)(hg:Gl X x)(hm:X.mg x=none)(hv:bootBuiltins x=some u)(h:Q u s)
  (hn:x≠"__name__":=by decide)(hd:(x==("__debug__":Str))=false:=by decide):wpAny (model X.prog X.w) X.A (eval (.Name x pos) X.env) Q E s:=by
 obtain⟨mb,h1,h2⟩:=I.mod.blt
 exact Calls.Name_function_global I.ok.kind hg (Calls.loadGlobal_builtin (by rw[I.ok.glob]; exact I.mod.glob.keeps I.bk) hm (by rw[I.ok.blt]; exact h1.keeps I.bk) ((h2 x hn).trans hv) h) hd
theorem zfs {x:Str}{v:V}{u:Value}{pos:Pos}(hg:Gl X x)(hm:X.mg x=some u)(r:zal v u)(hd:(x==("__debug__":Str))=false:=by decide):PE X (.Name x pos) (tC v):=
 λ_ _ _ H _ I h=>zhe I hg hm ⟨v,H,I,r,h⟩ hd
theorem zwm {x:Str}{v:V}{u:Value}{pos:Pos}(hg:Gl X x)(hm:X.mg x=none)(hv:bootBuiltins x=some u)(r:zal v u)(hn:x≠"__name__":=by decide)(hd:(x==("__debug__":Str))=false:=by decide):PE X (.Name x pos) (tC v):=
 λ_ _ _ H _ I h=>zhu I hg hm hv ⟨v,H,I,r,h⟩ hn hd
variable {a b:Expr}{ta tb:TE}{pos:Pos}
def PC (X:Cx)(op:CmpOp)(a b:Expr)(t:TE):Prop:=
 ∀(pins:List (Addr×Obj)) (s:Shared) (σ:St) (H:Hp) (Q:VK),Inv X pins σ H s→t σ H Q→
  wpAny (model X.prog X.w) X.A (eval a X.env) (λv s₁=>wpAny (model X.prog X.w) X.A (eval b X.env) (λu s₂=>wpAny (model X.prog X.w) X.A (compareOp op v u) (EP X pins σ Q) X.xe s₂) X.xe s₁) X.xe s
theorem zqO (b:Expr){op:CmpOp}(h:op≠.In)(h2:op≠.NotIn):behindInMarks op b=false:=by
 have e1:(op==CmpOp.In)=false:=by cases op <;> first | rfl | exact absurd rfl h
 have e2:(op==CmpOp.NotIn)=false:=by cases op <;> first | rfl | exact absurd rfl h2
 cases b <;> simp[behindInMarks,e1,e2]
def tB (t:TE):TT:=λσ H Q=>t σ H λx H1=>∃c,x=.bl c∧Q c H1
theorem zkt {op:CmpOp}{t:TE}(h:PC X op a b t)(h1:behindInMarks op b=false:=by first | exact zqO _ (by decide) (by decide) | rfl):PT X (.Compare a [op] [b] pos) (tB t):=by
 intro pins s σ H Q I hw
 refine wpAny_isTrue_Compare1 (thn (h pins s σ H _ I hw) λv s1 h1=>thn h1 λu s2 h2=>thn h2 λc s3 ⟨x,H1,I1,r1,q1⟩=>?_) h1
 obtain⟨d,rfl,q⟩:=q1
 cases r1
 exact wpAny_truthy_bool ⟨H1,I1,q⟩
theorem ztk {e:Expr}{t:TE}(h:PE X e t)(he:∀whole,isTrue e X.env whole=(do let v ← whole; standAt e.pos; holding [v] (truthy v)):=by intro _; rfl):PT X e (tB t):=by
 intro pins s σ H Q I hw
 refine isTrue_plain (thn (h pins s σ H _ I hw) λv s1 ⟨x,H1,I1,r1,q1⟩=>?_) (he _)
 obtain⟨d,rfl,q⟩:=q1
 cases r1
 exact wpAny_truthy_bool ⟨H1,I1,q⟩
variable {tA tB':TT}{zbn:List Expr}
def tAnd (t u:TT):TT:=λσ H Q=>t σ H λc H1=>if c=true then u σ H1 Q else Q false H1
def tOr (t u:TT):TT:=λσ H Q=>t σ H λc H1=>if c=true then Q true H1 else u σ H1 Q
def tNot (t:TT):TT:=λσ H Q=>t σ H λc H1=>Q (!c) H1
theorem ztx (ha:PT X a tA):PW X (.BoolOp .And [a] pos) tA:=by
 intro wh pins s σ H Q I h
 refine isTrue_and (thn (ha pins s σ H Q I h) λc s1 e=>?_)
 cases c with
 | true=>exact isTrue_and_nil e
 | false=>exact e
theorem zqB (ha:PT X a tA):PW X (.BoolOp .Or [a] pos) tA:=by
 intro wh pins s σ H Q I h
 refine isTrue_or (thn (ha pins s σ H Q I h) λc s1 e=>?_)
 cases c with
 | false=>exact isTrue_or_nil e
 | true=>exact e
theorem zr3 (ha:PT X a tA)(hb:PW X (.BoolOp .And (b::zbn) pos) tB'):PW X (.BoolOp .And (a::b::zbn) pos) (tAnd tA tB'):=by
 intro wh pins s σ H Q I h
 refine isTrue_and (thn (ha pins s σ H _ I h) λc s1 ⟨H1,I1,q1⟩=>?_)
 cases c with
 | true=>exact hb wh pins s1 σ H1 Q I1 q1
 | false=>exact⟨H1,I1,q1⟩
theorem pw_or (ha:PT X a tA)(hb:PW X (.BoolOp .Or (b::zbn) pos) tB'):PW X (.BoolOp .Or (a::b::zbn) pos) (tOr tA tB'):=by
 intro wh pins s σ H Q I h
 refine isTrue_or (thn (ha pins s σ H _ I h) λc s1 ⟨H1,I1,q1⟩=>?_)
 cases c with
 | true=>exact⟨H1,I1,q1⟩
 | false=>exact hb wh pins s1 σ H1 Q I1 q1
theorem zuR (ha:PT X a tA):PT X (.UnaryOp .Not a pos) (tNot tA):=by
 intro pins s σ H Q I h
 exact isTrue_not (ha pins s σ H (λc H1=>Q (!c) H1) I h)
def tAndV (ta tb:TE):TE:=λσ H Q=>ta σ H λx H1=>∃c,x=.bl c∧if c=true then tb σ H1 Q else Q (.bl false) H1
def tNotV (ta:TE):TE:=λσ H Q=>ta σ H λx H1=>∃c,x=.bl c∧Q (.bl (!c)) H1
theorem zq4 {op}{t:TE}(h:PE X a t):PE X (.BoolOp op [a] pos) t:=λpins s σ H Q I hw=>BoolOp_one (h pins s σ H Q I hw)
theorem zrI (ha:PE X a ta)(hb:PE X (.BoolOp .And (b::zbn) pos) tb):PE X (.BoolOp .And (a::b::zbn) pos) (tAndV ta tb):=by
 intro pins s σ H Q I h
 refine BoolOp_and (thn (ha pins s σ H _ I h) λv s1 ⟨x,H1,I1,r1,q1⟩=>?_)
 obtain⟨c,rfl,q1⟩:=q1
 cases r1
 refine wpAny_truthy_bool ?_
 cases c with
 | true=>exact hb pins s1 σ H1 Q I1 q1
 | false=>exact⟨.bl false,H1,I1,rfl,q1⟩
theorem zqE (ha:PE X a ta):PE X (.UnaryOp .Not a pos) (tNotV ta):=by
 intro pins s σ H Q I h
 refine UnaryOp_ (thn (ha pins s σ H _ I h) λv s1 ⟨x,H1,I1,r1,q1⟩=>?_)
 obtain⟨c,rfl,q1⟩:=q1
 cases r1
 exact not_of (wpAny_truthy_bool ⟨.bl (!c),H1,I1,rfl,q1⟩)
def tIf (t:TT)(ta tb:TE):TE:=λσ H Q=>t σ H λc H1=>if c=true then ta σ H1 Q else tb σ H1 Q
theorem zws {c:Expr}(hc:PT X c tA)(ha:PE X a ta)(hb:PE X b tb):PE X (.IfExp c a b pos) (tIf tA ta tb):=by
 intro pins s σ H Q I h
 refine wpAny_IfExp (thn (hc pins s σ H _ I h) λd s1 ⟨H1,I1,q1⟩=>?_)
 cases d with
 | true=>exact ha pins s1 σ H1 Q I1 q1
 | false=>exact hb pins s1 σ H1 Q I1 q1
end
end L2
namespace L2
open PySem PySem.Spec PyProof.Rows
def SqL (K:PySem.W.Frag)(H:Hp)(a:Addr)(xs:List V):Prop:=
 Rd H a (.lst xs)∨
  ∃(o:Obj) (its:Array Value) (n:Nat),K.lookup a=some o∧o.cls=.type "list"∧o.dict=none∧o.data=.seq its n∧its.size≤sizeLine∧zas xs its.toList
def SqT (K:PySem.W.Frag)(H:Hp)(a:Addr)(xs:List V):Prop:=
 Rd H a (.tup xs)∨
  ∃(o:Obj) (its:Array Value) (n:Nat),K.lookup a=some o∧o.cls=.type "tuple"∧o.data=.seq its n∧its.size≤sizeLine∧zas xs its.toList
def absV:Value→Option V
 | .none=>some .non
 | .bool b=>some (.bl b)
 | .int i _=>some (.int i)
 | .str x _=>some (.str x)
 | .bytes b _=>some (.byt b)
 | .float b _=>some (.flt b)
 | .ref a=>some (.ref a)
 | .type n=>some (.ty n)
 | _=>none
theorem zal.abs {x:V}{u:Value}(r:zal x u):absV u=some x:=by
 cases x with
 | non=>cases r; rfl
 | bl _=>cases r; rfl
 | int _=>obtain⟨t,rfl⟩:=r; rfl
 | str _=>obtain⟨t,rfl⟩:=r; rfl
 | byt _=>obtain⟨t,rfl⟩:=r; rfl
 | flt _=>obtain⟨t,rfl⟩:=r; rfl
 | ref _=>cases r; rfl
 | ty _=>cases r; rfl
theorem zal.inj {x y:V}{u:Value}(r:zal x u)(q:zal y u):x=y:=Option.some.inj (r.abs.symm.trans q.abs)
theorem zas.inj:∀ {xs ys:List V} {us:List Value},zas xs us→zas ys us→xs=ys
 | _,_,_,.nil,.nil=>rfl
 | _,_,_,.cons r t,.cons r' t'=>by rw[r.inj r',zas.inj t t']
section
variable {X:Cx}{pins:List (Addr×Obj)}{σ:St}{H:Hp}{s:Shared}{a:Addr}{xs ys:List V}
theorem SqL.of {K:PySem.W.Frag}(h:H a=some (.lst xs)):SqL K H a xs:=.inl (.inl h)
theorem SqT.of {K:PySem.W.Frag}(h:H a=some (.tup xs)):SqT K H a xs:=.inl (.inl h)
theorem Inv.list (I:Inv X pins σ H s)(h:SqL X.K H a xs):∃its:List Value,zas xs its∧PlainL s.heap a its.toArray∧xs.length≤sizeLine:=by
 rcases h with h | ⟨o,its,n,hk,hc,hd,hs,hz,r⟩
 ·obtain⟨z,its,n,r,e⟩:=h.ok I.hok
  exact⟨its,r,⟨_,n,e,rfl,rfl,rfl⟩,z⟩
 ·refine⟨its.toList,r,⟨o,n,I.kIn a o hk,hc,hd,by simpa using hs⟩,?_⟩
  have e:=r.length
  simp only[Array.length_toList] at e
  omega
theorem Inv.tuple (I:Inv X pins σ H s)(h:SqT X.K H a xs):∃its:List Value,zas xs its∧IsTup s.heap a its.toArray∧xs.length≤sizeLine:=by
 rcases h with h | ⟨o,its,n,hk,hc,hs,hz,r⟩
 ·obtain⟨z,its,r,p⟩:=h.ok I.hok
  exact⟨its,r,p,z⟩
 ·refine⟨its.toList,r,⟨o,I.kIn a o hk,hc,n,by simpa using hs⟩,?_⟩
  have e:=r.length
  simp only[Array.length_toList] at e
  omega
theorem Inv.list_inj (I:Inv X pins σ H s)(h:SqL X.K H a xs)(h':SqL X.K H a ys):xs=ys:=by
 obtain⟨its,r,⟨o,n,e,_,_,d⟩,_⟩:=I.list h
 obtain⟨its',r',⟨o',n',e',_,_,d'⟩,_⟩:=I.list h'
 rw[e] at e'; cases e'
 rw[d] at d'
 injection d' with d1 _
 have:its=its':=by simpa using congrArg Array.toList d1
 subst this
 exact r.inj r'
end
abbrev Cx.wish (X:Cx)(E:Value→Shared→Prop):Cx:={ X with xe:=E }
abbrev Cx.nox (X:Cx):Cx:=X.wish λ_ _=>False
theorem Cx.Ok.wish {X:Cx}(ok:X.Ok)(E:Value→Shared→Prop):(X.wish E).Ok:=
 ⟨ok.mod,ok.kind,ok.glob,ok.blt,ok.above,ok.inj,ok.has,ok.cab,ok.hd,ok.frames,ok.stk,ok.exf,ok.bs,ok.bsz,ok.noex,ok.exfs,ok.funs,ok.frf⟩
theorem Cx.Ok.unwish {X:Cx}{E:Value→Shared→Prop}(ok:(X.wish E).Ok):X.Ok:=
 ⟨ok.mod,ok.kind,ok.glob,ok.blt,ok.above,ok.inj,ok.has,ok.cab,ok.hd,ok.frames,ok.stk,ok.exf,ok.bs,ok.bsz,ok.noex,ok.exfs,ok.funs,ok.frf⟩
section
variable {X:Cx}{pins:List (Addr×Obj)}{σ:St}{H:Hp}{s:Shared}{E:Value→Shared→Prop}
theorem Inv.wish (I:Inv X pins σ H s)(E:Value→Shared→Prop):Inv (X.wish E) pins σ H s:=⟨I.ok.wish E,I.os,I.bare,I.base,I.loc,I.cell,I.free,I.freeC,I.pin,I.hok,I.len⟩
theorem Inv.unwish (I:Inv (X.wish E) pins σ H s):Inv X pins σ H s:=⟨I.ok.unwish,I.os,I.bare,I.base,I.loc,I.cell,I.free,I.freeC,I.pin,I.hok,I.len⟩
theorem SP.unwish {D:zd2}{f:Flow}{s':Shared}(h:SP (X.wish E) pins D f s'):SP X pins D f s':=by
 cases f with
 | next=>obtain⟨σ',H',I,q⟩:=h; exact⟨σ',H',I.unwish,q⟩
 | brk=>obtain⟨σ',H',I,q⟩:=h; exact⟨σ',H',I.unwish,q⟩
 | cont=>obtain⟨σ',H',I,q⟩:=h; exact⟨σ',H',I.unwish,q⟩
 | ret u=>obtain⟨v,σ',H',I,r,q⟩:=h; exact⟨v,σ',H',I.unwish,r,q⟩
theorem PSs.nox {st:List Stmt}{t:TS}(h:PSs X.nox st t):PSs X st t:=λpins s σ H D I hw=>
 wpAny_mono (h pins s σ H D (I.wish _) hw) (λ_ _ q=>q.unwish) λ_ _ z=>False.elim z
end
section
variable {X:Cx}{st:Stmt}{zbn:List Stmt}{t u:TS}{e:Expr}{te:TE}{pos:Pos}
def tNext:TS:=λD σ H=>D.nx σ H
def tSeq (t u:TS):TS:=λD σ H=>t { D with nx:=u D } σ H
theorem ztw:PSs X [] tNext:=λ_ _ σ H _ I h=>wpAny_execs_nil ⟨σ,H,I,h⟩
theorem zsv (h1:PS X st t)(h2:PSs X zbn u):PSs X (st::zbn) (tSeq t u):=by
 intro pins s σ H D I h
 refine wpAny_execs_cons (thn (h1 pins s σ H { D with nx:=u D } I h) λf s1 q=>?_)
 cases f with
 | next=>
  obtain⟨σ',H',I',q⟩:=q
  exact h2 pins s1 σ' H' D I' q
 | ret v=>exact q
 | brk=>exact q
 | cont=>exact q
theorem zw3 (h1:PS X st t):PSs X [st] t:=by
 intro pins s σ H D I h
 refine wpAny_execs_cons (thn (h1 pins s σ H D I h) λf s1 q=>?_)
 cases f with
 | next=>exact wpAny_execs_nil q
 | ret v=>exact q
 | brk=>exact q
 | cont=>exact q
theorem Inv.quiet {pins:List (Addr×Obj)}{σ:St}{H:Hp}{s:Shared}(I:Inv X pins σ H s):interactive X.env=false:=by simp[interactive,I.ok.kind]
def tDrop (te:TE):TS:=λD σ H=>te σ H λ_ H1=>D.nx σ H1
theorem zqN (he:PE X e te)(hs:swapsWith e none pos.line X.env=pure false:=by rfl):PS X (.Expr e pos) (tDrop te):=by
 intro pins s σ H D I h
 exact wpAny_Expr_any (thn (he pins s σ H _ I h) λv s1 ⟨x,H1,I1,r1,q1⟩=>⟨σ,H1,I1,q1⟩) I.quiet hs
def tRet (te:TE):TS:=λD σ H=>te σ H D.rt
theorem zrd (he:PE X e te):PS X (.Return (some e) pos) (tRet te):=by
 intro pins s σ H D I h
 exact wpAny_Return_some (thn (he pins s σ H _ I h) λv s1 ⟨x,H1,I1,r1,q1⟩=>⟨x,σ,H1,I1,r1,q1⟩)
def tIfS (c:TT)(t u:TS):TS:=λD σ H=>c σ H λb H1=>if b=true then t D σ H1 else u D σ H1
theorem ps_if {c:Expr}{a b:List Stmt}{tc:TT}(hc:PT X c tc)(ha:PSs X a t)(hb:PSs X b u):PS X (.If c a b pos) (tIfS tc t u):=by
 intro pins s σ H D I h
 refine wpAny_If (thn (hc pins s σ H _ I h) λd s1 ⟨H1,I1,q1⟩=>?_)
 cases d with
 | true=>exact ha pins s1 σ H1 D I1 q1
 | false=>exact hb pins s1 σ H1 D I1 q1
end
abbrev TG:=V→St→Hp→(St→Hp→Prop)→Prop
abbrev TGs:=List V→St→Hp→(St→Hp→Prop)→Prop
def PG (X:Cx)(target:Expr)(t:TG):Prop:=
 ∀(pins:List (Addr×Obj)) (s:Shared) (σ:St) (H:Hp) (v:V) (u:Value) (Q:St→Hp→Prop),Inv X pins σ H s→zal v u→t v σ H Q→
  wpAny (model X.prog X.w) X.A (assign target X.env u) (λ_ s'=>∃σ' H',Inv X pins σ' H' s'∧Q σ' H') X.xe s
def PGs (X:Cx)(ts:List Expr)(t:TGs):Prop:=
 ∀(pins:List (Addr×Obj)) (s:Shared) (σ:St) (H:Hp) (vs:List V) (us:List Value) (Q:St→Hp→Prop),Inv X pins σ H s→zas vs us→t vs σ H Q→
  wpAny (model X.prog X.w) X.A (assignInOrder ((assignEach ts X.env).map (·.2)) us) (λ_ s'=>∃σ' H',Inv X pins σ' H' s'∧Q σ' H') X.xe s
section
variable {X:Cx}{pos:Pos}
def zob (i:Nat):TG:=λv σ H Q=>Q (σ.set i (some v)) H
theorem ziV {i:Nat}{x:Str}(hN:X.N.Nodup)(hi:X.N[i]?=some x)(hx:Loc X.env.scope x)(hf:X.fn x=true∨X.env.scope.names.lookup x=some .local:=by first | exact .inl rfl | exact .inr rfl | assumption):PG X (.Name x pos) (zob i):=by
 intro pins s σ H v u Q I r h
 exact wpAny_assign_Name (znc I hN hi hx r (λs' I'=>⟨_,H,I',h⟩) hf)
def gNil:TGs:=λvs σ H Q=>vs=[]∧Q σ H
def gCons (t:TG)(u:TGs):TGs:=λvs σ H Q=>∃v r,vs=v::r∧t v σ H λσ' H'=>u r σ' H' Q
theorem zwU:PGs X [] gNil:=by
 intro pins s σ H vs us Q I r h
 obtain⟨e,h⟩:=h
 subst e
 cases r
 exact assignInOrder_nil ⟨σ,H,I,h⟩
theorem zvr {e:Expr}{es:List Expr}{t:TG}{u:TGs}(h1:PG X e t)(h2:PGs X es u)
  (hs:(assignEach (e::es) X.env).map (·.2)=assign e X.env::(assignEach es X.env).map (·.2):=by rfl):PGs X (e::es) (gCons t u):=by
 intro pins s σ H vs us Q I r h
 obtain⟨v,vr,e1,h⟩:=h
 subst e1
 cases r with
 | cons r rr=>
  rw[hs]
  refine assignInOrder_cons (thn (h1 pins s σ H _ _ _ I r h) λ_ s1 ⟨σ1,H1,I1,q1⟩=>?_)
  exact h2 pins s1 σ1 H1 _ _ Q I1 rr q1
def gTup (K:PySem.W.Frag)(n:Nat)(t:TGs):TG:=λv σ H Q=>∃a xs,v=.ref a∧SqT K H a xs∧xs.length=n∧t xs σ H Q
theorem zs4 {es:List Expr}{k:Nat}{t:TGs}{n:Nat}(hc:X.calm=true)(h:PGs X es t)
  (hn:(assignEach es X.env).length=n:=by rfl)(hst:(assignEach es X.env).findIdx? (·.1)=none:=by rfl):PG X (.Tuple es k pos) (gTup X.K n t):=by
 intro pins s σ H v u Q I r hw
 obtain⟨a,xs,e1,hq,hl,hw⟩:=hw
 subst e1
 cases r
 obtain⟨its,rv,ht,hz⟩:=I.tuple hq
 refine assign_Tuple_tuple (I.ok.hd hc) ht (by simp[hn,← hl,rv.length]) hst λh' hx=>?_
 have I1:Inv X pins σ H { s with heap:=h' }:=I.kept (t':=s.toks) λb o e=>hx b o (Vam (Heap.lt_size e)) e
 exact h pins _ σ H xs _ Q I1 (by simpa using rv) hw
def tAsg (te:TE)(g:TG):TS:=λD σ H=>te σ H λx H1=>g x σ H1 D.nx
theorem zsL {i:Nat}{x:Str}{e:Expr}{te:TE}{pos':Pos}(hN:X.N.Nodup)(hi:X.N[i]?=some x)(hx:Loc X.env.scope x)(he:PE X e te)(hs:swapsWith e (some (.Name x pos')) pos.line X.env=pure false:=by rfl)(hf:X.fn x=true∨X.env.scope.names.lookup x=some .local:=by first | exact .inl rfl | exact .inr rfl | assumption):
  PS X (.Assign [.Name x pos'] e pos) (tAsg te (zob i)):=by
 intro pins s σ H D I h
 refine wpAny_Assign_Name (thn (he pins s σ H _ I h) λv s1 ⟨y,H1,I1,r1,q1⟩=>?_) hs
 exact znc I1 hN hi hx r1 (λs2 I2=>⟨_,H1,I2,q1⟩) hf
end
section
variable {X:Cx}{pos:Pos}
def zw2 (c:TT)(tb:TS):TS:=λD σ H=>∃W:Nat→St→Hp→Prop,(∃m,W m σ H)∧∀m σ H,W m σ H→
 c σ H λb H1=>if b=true then ∃N:St→Hp→Prop,(∀σ' H',N σ' H'→∃m',m'<m∧W m' σ' H')∧tb { D with nx:=N,ct:=N,bk:=D.nx } σ H1 else D.nx σ H1
theorem zva {c:Expr}{body:List Stmt}{tc:TT}{tb:TS}(hp:PassesOwn (model X.prog X.w) X.A X.env X.xe)(hc:PT X c tc)(hb:PSs X body tb):PS X (.While c body [] pos) (zw2 tc tb):=by
 intro pins s σ H D I h
 obtain⟨W,⟨m0,w0⟩,turn⟩:=h
 refine wpAny_While (codeAny_whileLoop (λn s'=>∃σ' H',Inv X pins σ' H' s'∧W n σ' H') ?_ m0 ⟨σ,H,I,w0⟩)
 rintro n s1 ⟨σ1,H1,I1,w1⟩
 refine wpAny_passesOwn hp (thn (hc pins s1 σ1 H1 _ I1 (turn n σ1 H1 w1)) λb s2 ⟨H2,I2,q2⟩=>?_)
 cases b with
 | true=>
  obtain⟨N,hN,q2⟩:=q2
  rw[if_pos rfl]
  refine wpAny_passesOwn hp (thn (hb pins s2 σ1 H2 _ I2 q2) λf s3 q3=>?_)
  cases f with
  | next=>
   obtain⟨σ3,H3,I3,n3⟩:=q3
   obtain⟨m',hm,w3⟩:=hN σ3 H3 n3
   exact⟨m',hm,σ3,H3,I3,w3⟩
  | cont=>
   obtain⟨σ3,H3,I3,n3⟩:=q3
   obtain⟨m',hm,w3⟩:=hN σ3 H3 n3
   exact⟨m',hm,σ3,H3,I3,w3⟩
  | brk=>exact q3
  | ret v=>exact q3
 | false=>
  rw[if_neg Van]
  exact wpAny_execs_nil ⟨σ1,H2,I2,q2⟩
end
structure It where
 go:Nat→Hp→Prop
 yld:Nat→Hp→V→Hp→Prop
 stop:Nat→Hp→Prop
def zce (X:Cx)(pins:List (Addr×Obj))(H:Hp)(b:Addr):Prop:=
 H b=none∧b≠X.env.locals∧b ∉ X.fs∧(b∈X.ex∨X.s₀.heap.objs.size≤b)∧(∀x c,X.env.cells.lookup x=some c→c≠b)∧∀p∈X.pn++pins,p.1≠b
theorem Inv.fpOk {X:Cx}{pins:List (Addr×Obj)}{σ:St}{H H':Hp}{s:Shared}{b:Addr}(I:Inv X pins σ H s)(hb:s.heap.objs.size≤b)(hn:H' b=none):zce X pins H' b:=by
 refine⟨hn,Nat.ne_of_gt (Vak I.lt hb),I.nofs hb,.inr (Vax I.sz hb),λx c e z=>?_,λp hp z=>?_⟩
 ·obtain⟨v,q⟩:=I.cell x c e
  exact absurd (Vak q.lt (by rw[z]; exact hb)) (VaC _)
 ·exact absurd (Vak (Heap.lt_size (I.pin p hp).1) (by rw[z]; exact hb)) (VaC _)
structure zg9 (P:Program)(w:World)(K:PySem.W.Frag)(tg:Expr)(J:It)(fp:List Addr)(it:Addr)(tn:Nat→Heap→Prop):Prop where
 mem:it∈fp
 obj:∀i h,tn i h→∀b∈fp,∃o,h.get? b=some o∧∀v,o.data≠.cell v
 keep:∀i h h',tn i h→(∀b∈fp,∀o,h.get? b=some o→h'.get? b=some o)→tn i h'
 item:∀(X:Cx),X.prog=P→X.w=w→X.K=K→X.calm=true→∀(i:Nat) (pins:List (Addr×Obj)) (s:Shared) (σ:St) (H:Hp) (E:Value→Shared→Prop),Inv X pins σ H s→(∀b∈fp,zce X pins H b)→tn i s.heap→J.go i H→
  wpAny (model P w) X.A (pyNext (.ref it)) (λr s1=>∃u,r=some u∧
   wpAny (model P w) X.A (letOwnedTupleGo tg (.ref it) u) (λ_ s2=>∃x H',Inv X pins σ H' s2∧zal x u∧J.yld i H x H'∧tn (i+1) s2.heap∧∀b∈fp,H' b=none) E s1) E s
 done:∀(X:Cx),X.prog=P→X.w=w→X.K=K→X.calm=true→∀(i:Nat) (pins:List (Addr×Obj)) (s:Shared) (σ:St) (H:Hp) (E:Value→Shared→Prop),Inv X pins σ H s→(∀b∈fp,zce X pins H b)→tn i s.heap→J.stop i H→
  wpAny (model P w) X.A (pyNext (.ref it)) (λr s1=>r=none∧Inv X pins σ H s1) E s
 self:∀(A:Around) (i:Nat) (s:Shared) (Q:Value→Shared→Prop) (E:Value→Shared→Prop),tn i s.heap→Q (.ref it) s→wpAny (model P w) A (pyIter (.ref it)) Q E s
abbrev TI:=St→Hp→(It→Hp→Prop)→Prop
def PIE (X:Cx)(pins:List (Addr×Obj))(σ:St)(tg:Expr)(R:It→Hp→Prop)(itv:Value)(s2:Shared):Prop:=
 ∃(it:Addr) (fp:List Addr) (tn:Nat→Heap→Prop) (J:It) (H':Hp),itv=.ref it∧Inv X pins σ H' s2∧zg9 X.prog X.w X.K tg J fp it tn∧tn 0 s2.heap∧(∀b∈fp,zce X pins H' b)∧R J H'
def PI (X:Cx)(tg iter:Expr)(wi:TI):Prop:=
 ∀(pins:List (Addr×Obj)) (s:Shared) (σ:St) (H:Hp) (R:It→Hp→Prop),Inv X pins σ H s→wi σ H R→
  wpAny (model X.prog X.w) X.A (eval iter X.env) (λv s1=>wpAny (model X.prog X.w) X.A (pyIter v) (PIE X pins σ tg R) X.xe s1) X.xe s
theorem zmg {M:Model}{A:Around}{E:Value→Shared→Prop}{s:Shared}{tg:Expr}{it:Addr}{u:Value}{o:Obj}{n:String}{vs:Array Value}{Q:Unit→Shared→Prop}(ho:s.heap.get? it=some o)(hc:o.cls=.type n)(hd:o.data=.fields vs)
    (hn:["enumerate","zip","dict_itemiterator","dict_reverseitemiterator","odict_iterator","itertools.zip_longest","itertools.pairwise"].contains n=false)(hQ:Q () s):wpAny M A (letOwnedTupleGo tg (.ref it) u) Q E s:=by
  unfold letOwnedTupleGo
  cases tg <;> first
    | exact wpAny_pure hQ
    | (cases u <;> first
        | exact wpAny_pure hQ
        | (refine wpAny_bind (wpAny_load ho ?_)
           rw[hc,hd]
           show wpAny M A (if (["enumerate","zip","dict_itemiterator","dict_reverseitemiterator","odict_iterator","itertools.zip_longest","itertools.pairwise"].contains n&&vs[0]?==some (rawInt _))=true then _ else _) Q E s
           rw[if_neg (by intro h; rw[hn,VaW] at h; cases h)]
           exact wpAny_pure hQ))
def Itl (K:PySem.W.Frag)(a:Addr):It:=
 ⟨λi H=>∃xs x,SqL K H a xs∧xs[i]?=some x,λi H x H'=>H'=H∧∀xs,SqL K H a xs→xs[i]?=some x,λi H=>∃xs,SqL K H a xs∧xs.length≤i⟩
def Itr (lo:Int)(n:Nat):It:=⟨λi _=>i<n,λi H x H'=>H'=H∧x=.int (lo+i),λi _=>n≤i⟩
theorem zwL {P:Program}{w:World}{K:PySem.W.Frag}{tg:Expr}(a it:Addr):zg9 P w K tg (Itl K a) [it] it (λi h=>h.IsListIter it a i) where
 mem:=by simp
 obj:=λi h st b hb=>by
  have e:b=it:=by simpa using hb
  subst e
  obtain⟨o,e,c,d⟩:=st
  exact⟨o,e,λv z=>by rw[d] at z; cases z⟩
 keep:=λi h h' st k=>st.at λo e=>k it (by simp) o e
 item:=by
  intro X hP hw hK hc i pins s σ H E I hf st hg
  subst hP hw hK
  obtain⟨xs,x,hq,hx⟩:=hg
  obtain⟨its,rv,p,hz⟩:=I.list hq
  obtain⟨u,hu,ru⟩:=rv.get hx
  obtain⟨f0,f1,f2,f3,f4,f5⟩:=hf it (by simp)
  refine wpAny_pyNext_list_item st p.isList (x:=u) (by simpa using hu) λh' st' sb=>?_
  have I1:Inv X pins σ H { s with heap:=h' }:=I.turned (t':=s.toks) (λb o hb e=>(sb.2 b hb).trans e) f0 f1 f3 f4 f5
  obtain⟨o,e,c,d⟩:=id st'
  exact⟨u,rfl,zmg (s:={ s with heap:=h' }) e c d (by decide) ⟨x,H,I1,ru,⟨rfl,λys hy=>by rw[I.list_inj hy hq]; exact hx⟩,st',λb hb=>(hf b hb).1⟩⟩
 done:=by
  intro X hP hw hK hc i pins s σ H E I hf st hg
  subst hP hw hK
  obtain⟨xs,hq,hx⟩:=hg
  obtain⟨its,rv,p,hz⟩:=I.list hq
  obtain⟨f0,f1,f2,f3,f4,f5⟩:=hf it (by simp)
  have hl:=rv.length
  exact wpAny_pyNext_list_end (I.ok.hd hc) st p.isList (by simp; omega) λh' eb=>⟨rfl,I.turned (t':=s.toks) (λb o hb e=>eb b o hb e) f0 f1 f3 f4 f5⟩
 self:=λ_ _ _ _ _ st h=>wpAny_pyIter_listiter st h
theorem ztM {P:Program}{w:World}{K:PySem.W.Frag}{tg:Expr}(it:Addr)(lo:Int)(n:Nat):zg9 P w K tg (Itr lo n) [it] it (λi h=>IsRangeIter h it (lo+(i:Nat)*1) ((n:Int)-(i:Nat)) 1) where
 mem:=by simp
 obj:=λi h st b hb=>by
  have e:b=it:=by simpa using hb
  subst e
  exact⟨_,st,λv z=>by
   have z':Data.fields _=Data.cell v:=z
   cases z'⟩
 keep:=λi h h' st k=>k it (by simp) _ st
 item:=by
  intro X hP hw hK hc i pins s σ H E I hf st hg
  subst hP hw hK
  obtain⟨f0,f1,f2,f3,f4,f5⟩:=hf it (by simp)
  have W:=Walks.range (prog:=X.prog) (w:=X.w) (I.ok.hd hc) it lo 1 n
  refine W.item i s _ _ hg st λv h' tk hv st' kk=>?_
  obtain⟨t,rfl⟩:=hv
  have I1:Inv X pins σ H { s with heap:=h',toks:=tk }:=I.turned (λb o hb e=>kk b o (by simpa using hb) e) f0 f1 f3 f4 f5
  refine⟨_,rfl,zmg (s:={ s with heap:=h',toks:=tk }) (n:="range_iterator") st' rfl rfl (by decide) ⟨.int (lo+i),H,I1,⟨t,?_⟩,⟨rfl,rfl⟩,st',λb hb=>(hf b hb).1⟩⟩
  rw[Int.mul_one]
 done:=by
  intro X hP hw hK hc i pins s σ H E I hf st hg
  subst hP hw hK
  obtain⟨f0,f1,f2,f3,f4,f5⟩:=hf it (by simp)
  exact wpAny_pyNext_range_end (I.ok.hd hc) st (by have:n≤i:=hg; omega) λh' eb=>⟨rfl,I.turned (t':=s.toks) (λb o hb e=>eb b o hb e) f0 f1 f3 f4 f5⟩
 self:=λ_ _ _ _ _ st h=>wpAny_pyIter_rangeiter st h
end L2
namespace L2
open PySem PySem.Spec PyProof.Rows
section
variable {X:Cx}{tg:Expr}
def zn7 (K:PySem.W.Frag)(tl:TE):TI:=λσ H R=>tl σ H λx H1=>∃a,x=.ref a∧(∃xs,SqL K H1 a xs)∧R (Itl K a) H1
theorem zpO {l:Expr}{tl:TE}(hl:PE X l tl):PI X tg l (zn7 X.K tl):=by
 intro pins s σ H R I h
 refine thn (hl pins s σ H _ I h) λv s1 ⟨x,H1,I1,r1,q1⟩=>?_
 obtain⟨a,e,⟨xs,hq⟩,q⟩:=q1
 subst e
 cases r1
 obtain⟨its,rv,p,hz⟩:=I1.list hq
 refine wpAny_pyIter_list p.isList ?_
 refine⟨s1.heap.objs.size,[s1.heap.objs.size],_,_,H1,rfl,I1.kept (t':=s1.toks) λb o e=>Heap.get?_push_of_some _ e,zwL a _,⟨_,Heap.get?_push_size _ rfl,rfl,rfl⟩,λb hb=>?_,q⟩
 have e:b=s1.heap.objs.size:=by simpa using hb
 subst e
 exact I1.fpOk (Vab _) (I1.hok.fresh (Vab _))
theorem zrY {pins:List (Addr×Obj)}{σ:St}{H:Hp}{s:Shared}{R:It→Hp→Prop}{E:Value→Shared→Prop}{lo hi:Int}{t u v:Tok}{tk:Nat}(I:Inv X pins σ H s)(h1:-(2^62)≤lo)(h2:lo<2^62)(h3:-(2^62)≤hi)(h4:hi<2^62)
  (q:R (Itr lo (hi-lo).toNat) H):wpAny (model X.prog X.w) X.A (pyIter (.ref s.heap.objs.size)) (PIE X pins σ tg R) E { s with heap:=s.heap.push { cls:=.type "range",data:=.fields #[.int lo t,.int hi u,.int 1 v] },toks:=tk }:=by
 refine wpAny_pyIter_range (IsRange.new ..) (small_one h1 h2 h3 h4) ?_
 have I1:Inv X pins σ H { s with heap:=s.heap.push { cls:=.type "range",data:=.fields #[.int lo t,.int hi u,.int 1 v] },toks:=tk }:=I.kept λb o e=>Heap.get?_push_of_some _ e
 refine⟨(s.heap.push { cls:=.type "range",data:=.fields #[.int lo t,.int hi u,.int 1 v] }).objs.size,[(s.heap.push { cls:=.type "range",data:=.fields #[.int lo t,.int hi u,.int 1 v] }).objs.size],_,_,H,rfl,
  I1.kept (t':=tk) λb o e=>Heap.get?_push_of_some _ e,ztM _ lo (hi-lo).toNat,?_,λb hb=>?_,q⟩
 ·have e1:lo+((0:Nat):Int)*1=lo:=by simp
  have e2:(((hi-lo).toNat:Nat):Int)-((0:Nat):Int)=Builtin.Range.rangeSize lo hi 1:=by rw[rangeSize_one]; split <;> omega
  show IsRangeIter _ _ (lo+((0:Nat):Int)*1) ((((hi-lo).toNat:Nat):Int)-((0:Nat):Int)) 1
  rw[e1,e2]
  exact Heap.get?_push_size _ rfl
 ·have e:b=(s.heap.push { cls:=.type "range",data:=.fields #[.int lo t,.int hi u,.int 1 v] }).objs.size:=by simpa using hb
  subst e
  exact I1.fpOk (Vab _) (I1.hok.fresh (Vab _))
def zp5 (ta:TA):TI:=λσ H R=>ta σ H λvs H1=>∃j:Int,vs=[.int j]∧-(2^62)≤j∧j<2^62∧R (Itr 0 j.toNat) H1
theorem zoX {a:Expr}{ta:TA}{p pos:Pos}(hg:Gl X "range")(hm:X.mg "range"=none)(ha:PA X [a] ta)(hs:starEach [a] X.env=[(false,eval a X.env)]:=by rfl):PI X tg (.Call (.Name "range" p) [a] [] pos) (zp5 ta):=by
 intro pins s σ H R I h
 refine Call_ (zhu I hg hm boot_range (PyProof.Rows.callWith_type1 (thn (ha pos pins s σ H _ I h) λus s1 ⟨vs,H1,I1,r1,q1⟩=>?_) hs rfl))
 obtain⟨j,e,q1,q2,q⟩:=q1
 subst e
 cases r1 with
 | cons r rr=>
  cases rr
  obtain⟨t,rfl⟩:=r
  exact call_range_1 (zrY I1 (by omega) (by omega) q1 q2 (by simpa using q))
def tFor (wi:TI)(g:TG)(tb:TS):TS:=λD σ H=>wi σ H λJ H1=>∃W:Nat→Nat→St→Hp→Prop,(∃m,W 0 m σ H1)∧∀i m σ H,W i m σ H→
 (J.stop i H∧D.nx σ H)∨(J.go i H∧∃N:St→Hp→Prop,(∀σ' H',N σ' H'→∃m',m'<m∧W (i+1) m' σ' H')∧∀x H',J.yld i H x H'→g x σ H' λσ2 H2=>tb { D with nx:=N,ct:=N,bk:=D.nx } σ2 H2)
def zgG (fp:List Addr)(h:Heap):List (Addr×Obj):=fp.filterMap λb=>(h.get? b).map λo=>(b,o)
theorem zj2 {fp:List Addr}{h:Heap}{b:Addr}{o:Obj}(hb:b∈fp)(e:h.get? b=some o):(b,o)∈zgG fp h:=List.mem_filterMap.mpr ⟨b,hb,by rw[e]; rfl⟩
theorem zuH {fp:List Addr}{h:Heap}{p:Addr×Obj}(hp:p∈zgG fp h):p.1∈fp∧h.get? p.1=some p.2:=by
 obtain⟨b,hb,e⟩:=List.mem_filterMap.mp hp
 cases q:h.get? b with
 | none=>rw[q] at e; cases e
 | some o=>
  rw[q] at e
  have e':(b,o)=p:=Option.some.inj e
  subst e'
  exact⟨hb,q⟩
theorem Inv.pinned {pins:List (Addr×Obj)}{σ:St}{H:Hp}{s:Shared}{fp:List Addr}(I:Inv X pins σ H s)(hf:∀b∈fp,zce X pins H b)(ho:∀b∈fp,∃o,s.heap.get? b=some o∧∀v,o.data≠.cell v):Inv X (pins++zgG fp s.heap) σ H s:=
 I.pins_of λp hp=>(Val.mp hp).elim (λz=>I.pin p (Vav _ z)) λz=>by
  obtain⟨hb,e⟩:=zuH z
  obtain⟨f0,f1,f2,_⟩:=hf p.1 hb
  obtain⟨o,e',d⟩:=ho p.1 hb
  rw[e] at e'; cases e'
  exact⟨e,f0,f1,f2,d⟩
theorem Inv.unpinned {pins pl:List (Addr×Obj)}{σ:St}{H:Hp}{s:Shared}(I:Inv X (pins++pl) σ H s):Inv X pins σ H s:=I.pins_of λp hp=>I.pin p (Vav _ (VaD _ hp))
theorem zmG {iter:Expr}{body:List Stmt}{wi:TI}{g:TG}{tb:TS}{pos:Pos}(hp:PassesOwn (model X.prog X.w) X.A X.env X.xe)(hc:X.calm=true)(hi:PI X tg iter wi)(hg:PG X tg g)(hb:PSs X body tb)
  (hs:∀x,foldedSetIterable iter X.env x=pure x:=by intro _; rfl):PS X (.For tg iter body [] pos) (tFor wi g tb):=by
 intro pins s σ H D I h
 refine wpAny_For (thn (hi pins s σ H _ I h) λv s1 h1=>thn h1 λitv s2 h2=>?_) hs
 obtain⟨it,fp,tn,J,H2,e,I2,T,st2,f2,W,⟨m0,w0⟩,turn⟩:=h2
 subst e
 have stat:∀ {H':Hp},(∀b∈fp,H' b=none)→∀b∈fp,zce X pins H' b:=λhn b hb=>⟨hn b hb,(f2 b hb).2⟩
 refine codeAny_forLoop_any (λn s'=>∃i σ' H',Inv X pins σ' H' s'∧tn i s'.heap∧(∀b∈fp,H' b=none)∧W i n σ' H') ?_ m0 ⟨0,σ,H2,I2,st2,λb hb=>(f2 b hb).1,w0⟩
 rintro n s3 ⟨i,σ3,H3,I3,st3,fr3,w3⟩
 rcases turn i n σ3 H3 w3 with ⟨stop,qn⟩ | ⟨go,N,hN,step⟩
 ·refine wpAny_passesOwn hp (thn (T.done X rfl rfl rfl hc i pins s3 σ3 H3 X.xe I3 (stat fr3) st3 stop) λr s4 ⟨hr,I4⟩=>?_)
  subst hr
  exact wpAny_execs_nil ⟨σ3,H3,I4,qn⟩
 ·refine wpAny_passesOwn hp (thn (T.item X rfl rfl rfl hc i pins s3 σ3 H3 X.xe I3 (stat fr3) st3 go) λr s4 ⟨u,hr,h4⟩=>?_)
  subst hr
  refine wpAny_passesOwn hp (thn h4 λ_ s5 ⟨x,H5,I5,r5,y5,st5,fr5⟩=>?_)
  have I5':=I5.pinned (stat fr5) (T.obj _ _ st5)
  refine wpAny_passesOwn hp (thn (hg _ s5 σ3 H5 x u _ I5' r5 (step x H5 y5)) λ_ s6 ⟨σ6,H6,I6,q6⟩=>?_)
  refine wpAny_passesOwn hp (thn (hb _ s6 σ6 H6 _ I6 q6) λf s7 q7=>?_)
  have again:∀ {σ7:St} {H7:Hp},Inv X (pins++zgG fp s5.heap) σ7 H7 s7→N σ7 H7→∃m,m<n∧∃i σ' H',Inv X pins σ' H' s7∧tn i s7.heap∧(∀b∈fp,H' b=none)∧W i m σ' H':=λ{σ7 H7} I7 n7=>by
   obtain⟨m',hm,w7⟩:=hN σ7 H7 n7
   refine⟨m',hm,i+1,σ7,H7,I7.unpinned,T.keep _ _ _ st5 λb hb o e=>(I7.pin (b,o) (Vav _ (Vav _ (zj2 hb e)))).1,λb hb=>?_,w7⟩
   obtain⟨o,e,d⟩:=T.obj _ _ st5 b hb
   exact(I7.pin (b,o) (Vav _ (Vav _ (zj2 hb e)))).2.1
  cases f with
  | next=>obtain⟨σ7,H7,I7,n7⟩:=q7; exact again I7 n7
  | cont=>obtain⟨σ7,H7,I7,n7⟩:=q7; exact again I7 n7
  | brk=>obtain⟨σ7,H7,I7,q7⟩:=q7; exact⟨σ7,H7,I7.unpinned,q7⟩
  | ret v=>obtain⟨x7,σ7,H7,I7,r7,q7⟩:=q7; exact⟨x7,σ7,H7,I7.unpinned,r7,q7⟩
end
end L2
namespace L2
open PySem PySem.Spec PyProof.Rows
abbrev R2:=V→V→Hp→VK→Prop
def OpR (X:Cx)(f:Value→Value→Sem Value)(r:R2):Prop:=
 ∀(pins:List (Addr×Obj)) (s:Shared) (σ:St) (H:Hp) (x y:V) (v u:Value) (Q:VK),Inv X pins σ H s→zal x v→zal y u→r x y H Q→
  wpAny (model X.prog X.w) X.A (f v u) (EP X pins σ Q) X.xe s
def UnR (X:Cx)(f:Value→Sem Value)(r:V→Hp→VK→Prop):Prop:=
 ∀(pins:List (Addr×Obj)) (s:Shared) (σ:St) (H:Hp) (x:V) (v:Value) (Q:VK),Inv X pins σ H s→zal x v→r x H Q→
  wpAny (model X.prog X.w) X.A (f v) (EP X pins σ Q) X.xe s
def zbj (X:Cx)(f:Value)(r:List V→Hp→VK→Prop):Prop:=
 ∀(pins:List (Addr×Obj)) (s:Shared) (σ:St) (H:Hp) (xs:List V) (us:List Value) (Q:VK),Inv X pins σ H s→zas xs us→r xs H Q→
  wpAny (model X.prog X.w) X.A (call f us) (EP X pins σ Q) X.xe s
def tOp (r:R2)(ta tb:TE):TE:=λσ H Q=>ta σ H λx H1=>tb σ H1 λy H2=>r x y H2 Q
def tUn (r:V→Hp→VK→Prop)(ta:TE):TE:=λσ H Q=>ta σ H λx H1=>r x H1 Q
def rI (C:Int→Int→Prop)(g:Int→Int→V):R2:=λx y H Q=>∃i j,x=.int i∧y=.int j∧C i j∧Q (g i j) H
def rI0 (g:Int→Int→V):R2:=λx y H Q=>∃i j,x=.int i∧y=.int j∧Q (g i j) H
def rU (g:Int→V):V→Hp→VK→Prop:=λx H Q=>∃i,x=.int i∧Q (g i) H
section
variable {X:Cx}{a b c:Expr}{ta tb tc:TE}{pos:Pos}
theorem zjV (ha:PE X a ta)(hb:PE X b tb){pins:List (Addr×Obj)}{s:Shared}{σ:St}{H:Hp}{R:V→V→Hp→Prop}(I:Inv X pins σ H s)
  (h:ta σ H λx H1=>tb σ H1 λy H2=>R x y H2){Q:Value→Shared→Prop}{f:Value→Value→Sem Value}
  (hf:∀v u s2 x y H2,Inv X pins σ H2 s2→zal x v→zal y u→R x y H2→wpAny (model X.prog X.w) X.A (f v u) Q X.xe s2):
  wpAny (model X.prog X.w) X.A (eval a X.env) (λv s₁=>wpAny (model X.prog X.w) X.A (eval b X.env) (λu s₂=>wpAny (model X.prog X.w) X.A (f v u) Q X.xe s₂) X.xe s₁) X.xe s:=by
 refine thn (ha pins s σ H _ I h) λv s1 ⟨x,H1,I1,r1,q1⟩=>?_
 refine thn (hb pins s1 σ H1 _ I1 q1) λu s2 ⟨y,H2,I2,r2,q2⟩=>?_
 exact hf v u s2 x y H2 I2 r1 r2 q2
theorem pe_op {op:Operator}{r:R2}(ho:OpR X (binaryOp op) r)(ha:PE X a ta)(hb:PE X b tb):PE X (.BinOp a op b pos) (tOp r ta tb):=by
 intro pins s σ H Q I h
 exact wpAny_BinOp (zjV ha hb I h λv u s2 x y H2 I2 rx ry q=>ho pins s2 σ H2 x y v u Q I2 rx ry q)
theorem pe_un {op:UnaryOp}{r:V→Hp→VK→Prop}(ho:UnR X (unaryOp op) r)(ha:PE X a ta):PE X (.UnaryOp op a pos) (tUn r ta):=by
 intro pins s σ H Q I h
 exact UnaryOp_ (thn (ha pins s σ H _ I h) λv s1 ⟨x,H1,I1,r1,q1⟩=>ho pins s1 σ H1 x v Q I1 r1 q1)
theorem opI {f:Value→Value→Sem Value}{C:Int→Int→Prop}{g:Int→Int→Int}
  (rule:∀(i j:Int) (t u:Tok) (s:Shared) (Q:Value→Shared→Prop) (E:Value→Shared→Prop),C i j→Q (.int (g i j) s.toks) { s with toks:=s.toks+1 }→wpAny (model X.prog X.w) X.A (f (.int i t) (.int j u)) Q E s):
  OpR X f (rI C λi j=>.int (g i j)):=by
 intro pins s σ H x y v u Q I rx ry h
 obtain⟨i,j,rfl,rfl,hc,q⟩:=h
 obtain⟨t,rfl⟩:=rx
 obtain⟨t',rfl⟩:=ry
 exact rule i j t t' s _ _ hc ⟨.int (g i j),H,I.tok _,⟨_,rfl⟩,q⟩
theorem opI0 {f:Value→Value→Sem Value}{g:Int→Int→Int}
  (rule:∀(i j:Int) (t u:Tok) (s:Shared) (Q:Value→Shared→Prop) (E:Value→Shared→Prop),Q (.int (g i j) s.toks) { s with toks:=s.toks+1 }→wpAny (model X.prog X.w) X.A (f (.int i t) (.int j u)) Q E s):
  OpR X f (rI0 λi j=>.int (g i j)):=by
 intro pins s σ H x y v u Q I rx ry h
 obtain⟨i,j,rfl,rfl,q⟩:=h
 obtain⟨t,rfl⟩:=rx
 obtain⟨t',rfl⟩:=ry
 exact rule i j t t' s _ _ ⟨.int (g i j),H,I.tok _,⟨_,rfl⟩,q⟩
theorem zjj {f:Value→Value→Sem Value}{g:Int→Int→Bool}
  (rule:∀(i j:Int) (t u:Tok) (s:Shared) (Q:Value→Shared→Prop) (E:Value→Shared→Prop),Q (.bool (g i j)) s→wpAny (model X.prog X.w) X.A (f (.int i t) (.int j u)) Q E s):
  OpR X f (rI0 λi j=>.bl (g i j)):=by
 intro pins s σ H x y v u Q I rx ry h
 obtain⟨i,j,rfl,rfl,q⟩:=h
 obtain⟨t,rfl⟩:=rx
 obtain⟨t',rfl⟩:=ry
 exact rule i j t t' s _ _ ⟨.bl (g i j),H,I,rfl,q⟩
def CPow (i j:Int):Prop:=0≤j∧j≤1000000∧i.natAbs<2^64
theorem zwJ:OpR X (binaryOp .Add) (rI0 λi j=>.int (i+j)):=opI0 λ_ _ _ _ _ _ _ q=>add_int q
theorem zvh:OpR X (binaryOp .Sub) (rI0 λi j=>.int (i-j)):=opI0 λ_ _ _ _ _ _ _ q=>sub_int q
theorem zq2:OpR X (binaryOp .Mod) (rI (λ_ j=>0<j) λi j=>.int (i%j)):=opI λi j _ _ _ _ _ hc q=>by
 have h1:(0:Int)<j:=hc
 exact mod_int' (by omega) (by rw[Int.fmod_eq_emod_of_nonneg i (by omega)]; exact q)
theorem zrp:OpR X (binaryOp .Pow) (rI CPow λi j=>.int (i^j.toNat)):=opI λ_ _ _ _ _ _ _ hc q=>pow_int_small hc.1 hc.2.1 hc.2.2 q
theorem unI {f:Value→Sem Value}{g:Int→Int}
  (rule:∀(i:Int) (t:Tok) (s:Shared) (Q:Value→Shared→Prop) (E:Value→Shared→Prop),Q (.int (g i) s.toks) { s with toks:=s.toks+1 }→wpAny (model X.prog X.w) X.A (f (.int i t)) Q E s):
  UnR X f (rU λi=>.int (g i)):=by
 intro pins s σ H x v Q I rx h
 obtain⟨i,rfl,q⟩:=h
 obtain⟨t,rfl⟩:=rx
 exact rule i t s _ _ ⟨.int (g i),H,I.tok _,⟨_,rfl⟩,q⟩
theorem zrb:UnR X (unaryOp .USub) (rU λi=>.int (-i)):=unI λ_ _ _ _ _ q=>neg_int q
end
def zjJ:V→V→Bool
 | .non,.non=>true | .non,.int _=>true | .int _,.non=>true | .non,.bl _=>true | .bl _,.non=>true | .non,.str _=>true | .str _,.non=>true
 | .int _,.int _=>true | .bl _,.bl _=>true | .str _,.str _=>true | .byt _,.byt _=>true
 | .int _,.str _=>true | .str _,.int _=>true | .bl _,.str _=>true | .str _,.bl _=>true
 | _,_=>false
def rEq:R2:=λx y H Q=>zjJ x y=true∧Q (.bl (decide (x=y))) H
def rNe:R2:=λx y H Q=>zjJ x y=true∧Q (.bl (!decide (x=y))) H
theorem znA {i j:Int}:decide (V.int i=V.int j)=(i==j):=by
 rw[VaO]
 simp
theorem zod {i j:Bool}:decide (V.bl i=V.bl j)=(i==j):=by
 rw[VaO]
 simp
theorem zmY {i j:Str}:decide (V.str i=V.str j)=(i==j):=by
 rw[VaO]
 simp
theorem zo8 {i j:Array UInt8}:decide (V.byt i=V.byt j)=(i.toList==j.toList):=by
 rw[VaO]
 cases i
 cases j
 simp
section
variable {X:Cx}{a b c:Expr}{ta tb tc:TE}{pos:Pos}
theorem za1 {pins:List (Addr×Obj)}{σ:St}{H:Hp}{s:Shared}{Q:VK}{k k':Bool}(I:Inv X pins σ H s)(q:Q (.bl k) H)(e:k=k'):EP X pins σ Q (.bool k') s:=by
 subst e
 exact⟨.bl k,H,I,rfl,q⟩
theorem zlW:OpR X (compareOp .Eq) rEq:=by
 intro pins s σ H x y v u Q I rx ry h
 obtain⟨hs,q⟩:=h
 cases x with
 | non=>
  cases rx
  cases y with
  | non=>cases ry; exact PySem.EqNone.eq_none_none (za1 I q (by simp))
  | bl j=>cases ry; exact PySem.EqNone.eq_none_bool (za1 I q (by simp))
  | int j=>obtain⟨t',rfl⟩:=ry; exact PySem.EqNone.eq_none_int (za1 I q (by simp))
  | str j=>obtain⟨t',rfl⟩:=ry; exact PySem.EqNone.eq_none_str (za1 I q (by simp))
  | _=>exact absurd (show false=true from hs) Van
 | bl i=>
  cases rx
  cases y with
  | non=>cases ry; exact PySem.EqNone.eq_bool_none (za1 I q (by simp))
  | bl j=>cases ry; exact eq_bool (za1 I q zod)
  | str j=>obtain⟨t',rfl⟩:=ry; exact PySem.EqMixed.eq_bool_str (za1 I q (by simp))
  | _=>exact absurd (show false=true from hs) Van
 | int i=>
  obtain⟨t,rfl⟩:=rx
  cases y with
  | non=>cases ry; exact PySem.EqNone.eq_int_none (za1 I q (by simp))
  | int j=>obtain⟨t',rfl⟩:=ry; exact eq_int (za1 I q znA)
  | str j=>obtain⟨t',rfl⟩:=ry; exact PySem.EqMixed.eq_int_str (za1 I q (by simp))
  | _=>exact absurd (show false=true from hs) Van
 | str i=>
  obtain⟨t,rfl⟩:=rx
  cases y with
  | non=>cases ry; exact PySem.EqNone.eq_str_none (za1 I q (by simp))
  | bl j=>cases ry; exact PySem.EqMixed.eq_str_bool (za1 I q (by simp))
  | int j=>obtain⟨t',rfl⟩:=ry; exact PySem.EqMixed.eq_str_int (za1 I q (by simp))
  | str j=>obtain⟨t',rfl⟩:=ry; exact eq_str (za1 I q zmY)
  | _=>exact absurd (show false=true from hs) Van
 | byt i=>
  obtain⟨t,rfl⟩:=rx
  cases y with
  | byt j=>obtain⟨t',rfl⟩:=ry; exact PySem.W.eq_bytes (za1 I q zo8)
  | _=>exact absurd (show false=true from hs) Van
 | _=>cases y <;> exact absurd (show false=true from hs) Van
theorem op_ne:OpR X (compareOp .NotEq) rNe:=by
 intro pins s σ H x y v u Q I rx ry h
 obtain⟨hs,q⟩:=h
 cases x with
 | non=>
  cases rx
  cases y with
  | non=>cases ry; exact PySem.EqNone.ne_none_none (za1 I q (by simp))
  | bl j=>cases ry; exact PySem.EqNone.ne_none_bool (za1 I q (by simp))
  | int j=>obtain⟨t',rfl⟩:=ry; exact PySem.EqNone.ne_none_int (za1 I q (by simp))
  | str j=>obtain⟨t',rfl⟩:=ry; exact PySem.EqNone.ne_none_str (za1 I q (by simp))
  | _=>exact absurd (show false=true from hs) Van
 | bl i=>
  cases rx
  cases y with
  | non=>cases ry; exact PySem.EqNone.ne_bool_none (za1 I q (by simp))
  | bl j=>cases ry; exact ne_bool (za1 I q (congrArg not zod))
  | str j=>obtain⟨t',rfl⟩:=ry; exact PySem.EqMixed.ne_bool_str (za1 I q (by simp))
  | _=>exact absurd (show false=true from hs) Van
 | int i=>
  obtain⟨t,rfl⟩:=rx
  cases y with
  | non=>cases ry; exact PySem.EqNone.ne_int_none (za1 I q (by simp))
  | int j=>obtain⟨t',rfl⟩:=ry; exact ne_int (za1 I q (congrArg not znA))
  | str j=>obtain⟨t',rfl⟩:=ry; exact PySem.EqMixed.ne_int_str (za1 I q (by simp))
  | _=>exact absurd (show false=true from hs) Van
 | str i=>
  obtain⟨t,rfl⟩:=rx
  cases y with
  | non=>cases ry; exact PySem.EqNone.ne_str_none (za1 I q (by simp))
  | bl j=>cases ry; exact PySem.EqMixed.ne_str_bool (za1 I q (by simp))
  | int j=>obtain⟨t',rfl⟩:=ry; exact PySem.EqMixed.ne_str_int (za1 I q (by simp))
  | str j=>obtain⟨t',rfl⟩:=ry; exact ne_str (za1 I q (congrArg not zmY))
  | _=>exact absurd (show false=true from hs) Van
 | byt i=>
  obtain⟨t,rfl⟩:=rx
  cases y with
  | byt j=>obtain⟨t',rfl⟩:=ry; exact PySem.W.ne_bytes (za1 I q (congrArg not zo8))
  | _=>exact absurd (show false=true from hs) Van
 | _=>cases y <;> exact absurd (show false=true from hs) Van
theorem op_lt:OpR X (compareOp .Lt) (rI0 λi j=>.bl (decide (i<j))):=zjj λ_ _ _ _ _ _ _ q=>lt_int q
theorem op_le:OpR X (compareOp .LtE) (rI0 λi j=>.bl (decide (i≤j))):=zjj λ_ _ _ _ _ _ _ q=>le_int q
theorem op_gt:OpR X (compareOp .Gt) (rI0 λi j=>.bl (decide (j<i))):=zjj λ_ _ _ _ _ _ _ q=>gt_int q
theorem op_ge:OpR X (compareOp .GtE) (rI0 λi j=>.bl (decide (j≤i))):=zjj λ_ _ _ _ _ _ _ q=>ge_int q
theorem zsf:OpR X (compareOp .In) (λx y H Q=>∃i j,x=.str i∧y=.str j∧Q (.bl (!(Builtin.Str.occurrences j i 0 j.length 1).isEmpty)) H):=by
 intro pins s σ H x y v u Q I rx ry h
 obtain⟨i,j,rfl,rfl,q⟩:=h
 obtain⟨t,rfl⟩:=rx
 obtain⟨t',rfl⟩:=ry
 exact in_str (za1 I q rfl)
theorem zat (b:Expr){op:CmpOp}(h:op≠.In:=by decide)(h2:op≠.NotIn:=by decide):behindInMarks op b=false:=by
 have e1:(op==CmpOp.In)=false:=by cases op <;> first | rfl | exact absurd rfl h
 have e2:(op==CmpOp.NotIn)=false:=by cases op <;> first | rfl | exact absurd rfl h2
 cases b <;> simp[behindInMarks,e1,e2]
theorem zpx {op:CmpOp}{r:R2}(ho:OpR X (compareOp op) r)(ha:PE X a ta)(hb:PE X b tb)(hm:behindInMarks op b=false):PE X (.Compare a [op] [b] pos) (tOp r ta tb):=by
 intro pins s σ H Q I h
 exact wpAny_Compare1 (zjV ha hb I h λv u s2 x y H2 I2 rx ry q=>ho pins s2 σ H2 x y v u Q I2 rx ry q) hm
def tTest (t:TE):TT:=λσ H Q=>t σ H λx H'=>∃k,x=.bl k∧Q k H'
theorem zqM {op:CmpOp}{r:R2}(ho:OpR X (compareOp op) r)(ha:PE X a ta)(hb:PE X b tb)(hm:behindInMarks op b=false):PT X (.Compare a [op] [b] pos) (tTest (tOp r ta tb)):=by
 intro pins s σ H Q I h
 refine wpAny_isTrue_Compare1 (thn (ha pins s σ H _ I h) λv s1 ⟨x,H1,I1,r1,q1⟩=>thn (hb pins s1 σ H1 _ I1 q1) λu s2 ⟨y,H2,I2,r2,q2⟩=>
  thn (ho pins s2 σ H2 x y v u _ I2 r1 r2 q2) λc s3 ⟨z,H3,I3,r3,k,e,q3⟩=>?_) hm
 subst e
 cases r3
 exact wpAny_truthy_bool ⟨H3,I3,q3⟩
def zm3 (r r':R2)(ta tb tc:TE):TE:=λσ H Q=>ta σ H λx H1=>tb σ H1 λy H2=>r x y H2 λz H3=>∃k,z=.bl k∧
 (if k=true then tc σ H3 λw' H4=>r' y w' H4 Q else Q (.bl false) H3)
theorem zvg {op op':CmpOp}{r r':R2}(ho:OpR X (compareOp op) r)(ho':OpR X (compareOp op') r')(ha:PE X a ta)(hb:PE X b tb)(hc:PE X c tc)
  (hm:lastMarks [op,op'] [b,c]=false:=by with_unfolding_all rfl):PE X (.Compare a [op,op'] [b,c] pos) (zm3 r r' ta tb tc):=by
 intro pins s σ H Q I h
 refine Compare_chain (thn (ha pins s σ H _ I h) λv s1 ⟨x,H1,I1,r1,q1⟩=>chain_link (thn (hb pins s1 σ H1 _ I1 q1) λu s2 ⟨y,H2,I2,r2,q2⟩=>
  thn (ho pins s2 σ H2 x y v u _ I2 r1 r2 q2) λd s3 ⟨z,H3,I3,r3,k,e,q3⟩=>?_)) hm
 subst e
 cases r3
 refine wpAny_truthy_bool ?_
 cases k with
 | false=>exact ite_ff ⟨.bl false,H3,I3,rfl,q3⟩
 | true=>exact ite_tt (chain_last (thn (hc pins s3 σ H3 _ I3 q3) λw' s4 ⟨z',H4,I4,r4,q4⟩=>ho' pins s4 σ H4 y z' u w' Q I4 r2 r4 q4))
theorem ziR:(sizeLine:Nat)<2^63:=by rw[sizeLine_eq]; decide
theorem zuf:OpR X (binaryOp .Add) (λx y H Q=>∃i j,x=.str i∧y=.str j∧i.length+j.length≤sizeLine∧Q (.str (i++j)) H):=by
 intro pins s σ H x y v u Q I rx ry h
 obtain⟨i,j,rfl,rfl,hz,q⟩:=h
 obtain⟨t,rfl⟩:=rx
 obtain⟨t',rfl⟩:=ry
 exact add_str (λt' tk=>⟨.str (i++j),H,I.tok _,⟨_,rfl⟩,q⟩) hz
def zoF (b:Expr):Prop:=∀o i,subscripted b false o i=operate [o,i] (getItem o i)
theorem zwv (ha:PE X a ta)(hb:PE X b tb)(hs:zoF b):
  PE X (.Subscript a b pos) (tOp (λx y H Q=>∃z i c,x=.str z∧y=.int i∧0≤i∧i<2^63∧i<z.length∧z.cps[i.toNat]?=some c∧Q (.str ⟨#[c]⟩) H) ta tb):=by
 intro pins s σ H Q I h
 refine Subscript_ (zjV ha hb I h λv u s2 x y H2 I2 rx ry q=>?_)
 obtain⟨z,i,c,rfl,rfl,h0,h63,h1,hc,q⟩:=q
 obtain⟨t,rfl⟩:=rx
 obtain⟨t',rfl⟩:=ry
 have e:seqIndex? i z.length=some i.toNat:=PySem.StrLaws.seqIndex_nonneg h0 h1
 exact tail_any (typeIs_str s2 z t) slot_str_getitem.lookup (getItem_str (c:=c) (by
  have e1:decide (i < -(2^63:Int))=false:=decide_eq_false (by omega)
  have e2:decide (i≥2^63)=false:=decide_eq_false (by omega)
  rw[e1,e2] <;> rfl) (by rw[e]; exact hc) ⟨.str ⟨#[c]⟩,H2,I2.tok _,⟨_,rfl⟩,q⟩) (hs _ _)
theorem zcm {x:V}{us:List Value}(r:zas [x] us):∃u,us=[u]∧zal x u:=by
 cases r with
 | cons r1 r2=>cases r2; exact⟨_,rfl,r1⟩
theorem vals2 {x y:V}{us:List Value}(r:zas [x,y] us):∃u w',us=[u,w']∧zal x u∧zal y w':=by
 cases r with
 | cons r1 r2=>
  cases r2 with
  | cons r3 r4=>cases r4; exact⟨_,_,rfl,r1,r3⟩
theorem zvJ:zbj X (.builtin "abs") (λxs H Q=>∃i,xs=[.int i]∧Q (.int (if i<0 then -i else i)) H):=by
 intro pins s σ H xs us Q I r h
 obtain⟨i,rfl,q⟩:=h
 obtain⟨u,rfl,t,rfl⟩:=zcm r
 exact call_abs_int λu tk=>⟨.int (if i<0 then -i else i),H,I.tok _,⟨_,rfl⟩,q⟩
end
end L2
namespace L2
open PySem PySem.Spec PyProof.Rows
structure zet (h:Heap)(x dx C:Addr)(mA:Str→Option Value):Prop where
 obj:h.get? x=some (PySem.W.instObj C dx)
 ns:h.Ns1 dx mA
 ne:dx≠x
theorem zvy {h:Heap}{dx:Addr}{mA:Str→Option Value}(n:h.Ns1 dx mA):∃od,h.get? dx=some od∧∀name,PySem.W.lookIn name od=some (mA name):=by
 obtain⟨o,es,ep,ho,hd,hk,_,hm⟩:=n
 refine⟨o,ho,λname=>?_⟩
 have e:=hm name
 unfold nsFind findBy at e
 rw[← Array.find?_toList] at e
 unfold PySem.W.lookIn
 rw[hd]
 dsimp only
 split
 ·rename_i y q
  rw[q] at e
  exact congrArg some e
 ·rename_i q
  rw[q] at e
  have a:es.toList.any (·.refKey)=false:=by
   rw[List.any_eq_false]
   intro y hy
   obtain⟨z,t,hkey⟩:=hk y (Array.mem_toList_iff.mp hy)
   simp[DictEntry.refKey,hkey]
  have a':¬ es.toList.any (·.refKey)=true:=by rw[a]; exact Van
  rw[if_neg a']
  exact congrArg some e
theorem zet.look {h:Heap}{x dx C:Addr}{mA:Str→Option Value}(I:zet h x dx C mA):∃od,PySem.W.InstAt h x (PySem.W.instObj C dx) C (some od)∧∀name,PySem.W.lookIn name od=some (mA name):=
 let ⟨od,ho,hl⟩:=zvy I.ns
 ⟨od,⟨I.obj,rfl,rfl,ho⟩,hl⟩
section
variable {prog:Program}{w:World}{A:Around}{E:Value→Shared→Prop}{s:Shared}{K:PySem.W.Frag}{x dx C f:Addr}{mA:Str→Option Value}{name:Str}{v:Value}
theorem zr6 {expr:Bool}{Q:Value→Shared→Prop}(X:K.In s.heap)(I:zet s.heap x dx C mA)(hg:PySem.W.plainGet K C name=true)(hh:PySem.W.hasDictIn K C=true)
  (ha:PySem.W.findIn K (.ref C) name=some none)(hv:mA name=some v)(hv':PySem.W.handedIn v=true)(h:Q v { s with toks:=s.toks+1 }):
  wpAny (model prog w) A (getAttr (.ref x) name expr) Q E s:=by
 obtain⟨od,J,hl⟩:=I.look
 exact PySem.W.get_value X J (PySem.W.plainGet_of hg).1 (PySem.W.findObj_own hh ha rfl (by rw[hl,hv])) hv' h
theorem zxa {pl:Sem Bool}{Q:Value×List Value→Shared→Prop}(X:K.In s.heap)(I:zet s.heap x dx C mA)(hg:PySem.W.plainGet K C name=true)
  (hf:PySem.W.findIn K (.ref C) name=some (some (.ref f)))(ht:PySem.W.isFn K (.ref f)=true)(hv:mA name=none)(h:Q (.ref f,[.ref x]) s):
  wpAny (model prog w) A (getMethod (.ref x) name pl) Q E s:=by
 obtain⟨od,J,hl⟩:=I.look
 exact PySem.W.method_fn X J (PySem.W.plainGet_of hg).1 (PySem.W.plainGet_of hg).2 hf (beq_iff_eq.mp ht) (by show (PySem.W.lookIn name od).map (·.isSome)=some false; rw[hl,hv]; rfl) h
theorem zv4 {ns:List Str}{Q:Unit→Shared→Prop}(X:K.In s.heap)(I:zet s.heap x dx C mA)
  (hs:PySem.W.findIn K (.ref C) "__setattr__"=some (some (.builtin "object.__setattr__")))(hp:PySem.W.plainOver K C=true)(ht:PySem.W.takerIn K C name=some none)(hh:PySem.W.hasDictIn K C=true)
  (hw:PySem.Within mA ns)(hsz:ns.length≤sizeLine)
  (h:∀h',zet h' x dx C (λy=>if y=name then some v else mA y)→Heap.SameBut dx s.heap h'→Q () { s with heap:=h',toks:=s.toks+2 }):
  wpAny (model prog w) A (setAttr (.ref x) name v) Q E s:=by
 obtain⟨od,J,hl⟩:=I.look
 refine PySem.W.set_plain X J hs (PySem.W.osa_open (s:={ s with toks:=s.toks+1 }) (r:=none) X J hp ht λb=>?_)
 obtain⟨cd,hc,hd'⟩:=PySem.W.any_some hh
 have hx:s.heap.get? x=some ⟨.ref C,some dx,.plain,#[]⟩:=I.obj
 refine wpAny_bind (wpAny_pure (wpAny_bind (wpAny_bind (wpAny_loadPart hx (wpAny_bind (PySem.W.Looks.here (s:={ s with toks:=s.toks+1 }) (PySem.W.looks_clsIn X hc) ?_))))))
 rw[hd']
 refine wpAny_pure (a:=some dx) (wpAny_bind (wpAny_pure (wpAny_bind ?_)))
 refine wpAny_nsSet1 (s:={ s with toks:=s.toks+1 }) I.ns λh' hn2 hs2=>?_
 obtain⟨oD,esD,epD,hoD,hdD,hcD⟩:=hn2.count (PySem.Within.cons name v hw)
 refine wpAny_bind (wpAny_lookBehind hoD (by rw[hdD]; exact pastItsLine_dict (Vax hcD (by rw[Vaq]; omega))) ?_)
 exact wpAny_pure (h _ ⟨(hs2.2 _ (Ne.symm I.ne)).trans I.obj,hn2,I.ne⟩ hs2)
theorem zsp {R:Result→Shared→Prop}{vs:List Value}{kw:List (Str×Value)}(X:K.In s.heap)(hm:PySem.W.makesIn K C=true)
  (hi:PySem.W.findIn K (.ref C) "__init__"=some (some (.ref f)))(hf:PySem.W.typeIn K (.ref f)=some (.type "function"))
  (h:codeAny (model prog w) (A.under (.builtin "type.__call__" ⟨.ref C::vs,kw⟩)) (.call (.ref f) ⟨.ref (s.heap.objs.size+1)::vs,kw⟩) (PySem.W.InitBack (s.heap.objs.size+1) R)
   { s with heap:=(s.heap.push PySem.W.emptyDict).push (PySem.W.instObj C s.heap.objs.size) }):
  codeAny (model prog w) A (.call (.ref C) ⟨vs,kw⟩) R s:=by
 obtain⟨hh,g,d,t,os⟩:=s
 exact PySem.W.make_core (PySem.W.makes_of X hm) (PySem.W.looks_findIn X hi) (λself=>PySem.W.bind_fn X self hf) (.inl rfl) h
end
def zbv (f:Str)(v:V):List (Str×V)→List (Str×V)
 | []=>[(f,v)]
 | (g,x)::r=>if g=f then (g,v)::r else (g,x)::zbv f v r
theorem zpf (f g:Str)(v:V):∀fs:List (Str×V),(zbv f v fs).lookup g=if g=f then some v else fs.lookup g
 | []=>by
  show List.lookup g [(f,v)]=_
  by_cases h:g=f
  ·have hb:(g==f)=true:=beq_iff_eq.mpr h
   simp only[List.lookup,hb,if_pos h]
  ·have hb:(g==f)=false:=beq_eq_false_iff_ne.mpr h
   simp only[List.lookup,hb,if_neg h]
 | (k,x)::r=>by
  have ih:=zpf f g v r
  rw[show zbv f v ((k,x)::r)=(if k=f then (k,v)::r else (k,x)::zbv f v r) from rfl]
  by_cases hk:k=f
  ·rw[if_pos hk]
   by_cases h:g=k
   ·have hb:(g==k)=true:=beq_iff_eq.mpr h
    simp only[List.lookup,hb,if_pos (h.trans hk)]
   ·have hb:(g==k)=false:=beq_eq_false_iff_ne.mpr h
    simp only[List.lookup,hb,if_neg (λe:g=f=>h (e.trans hk.symm))]
  ·rw[if_neg hk]
   by_cases h:g=k
   ·have hb:(g==k)=true:=beq_iff_eq.mpr h
    simp only[List.lookup,hb,if_neg (λe:g=f=>hk (h.symm.trans e))]
   ·have hb:(g==k)=false:=beq_eq_false_iff_ne.mpr h
    simp only[List.lookup,hb]
    exact ih
theorem zmI (f:Str)(v:V):∀fs:List (Str×V),f∈(zbv f v fs).map (·.1)∧∀g,g∈fs.map (·.1)→g∈(zbv f v fs).map (·.1)
 | []=>⟨by simp[zbv],λg h=>by simp at h⟩
 | (k,x)::r=>by
  obtain⟨i1,i2⟩:=zmI f v r
  rw[show zbv f v ((k,x)::r)=(if k=f then (k,v)::r else (k,x)::zbv f v r) from rfl]
  by_cases hk:k=f
  ·rw[if_pos hk]
   subst hk
   exact⟨by simp,λg h=>by simpa using h⟩
  ·rw[if_neg hk]
   refine⟨?_,λg h=>?_⟩
   ·rw[Vaj]
    exact Vap _ i1
   ·rw[Vaj] at h ⊢
    rcases Vaa.mp h with e | e
    ·exact Vaa.mpr (.inl e)
    ·exact Vap _ (i2 g e)
theorem zni (f:Str)(v:V):∀fs:List (Str×V),(zbv f v fs).length≤fs.length+1
 | []=>by simp[zbv]
 | (k,x)::r=>by
  have ih:=zni f v r
  rw[show zbv f v ((k,x)::r)=(if k=f then (k,v)::r else (k,x)::zbv f v r) from rfl]
  by_cases hk:k=f
  ·rw[if_pos hk,Vaq,Vaq]; omega
  ·rw[if_neg hk,Vaq,Vaq]; omega
theorem zbW.some_of {v:V}{o:Option Value}(r:zbW (some v) o):∃u,o=some u∧zal v u:=by
 cases o with
 | none=>exact(show False from r).elim
 | some u=>exact⟨u,rfl,r⟩
theorem zbW.none_of {o:Option Value}(r:zbW none o):o=none:=by
 cases o with
 | none=>rfl
 | some u=>exact(show False from r).elim
theorem zwp {v:V}{u:Value}(r:zal v u):PySem.W.handedIn u=true:=by
 cases v with
 | non=>cases (show u=Value.none from r); rfl
 | bl b=>cases (show u=Value.bool b from r); rfl
 | int i=>obtain⟨t,e⟩:=(show ∃t,u=Value.int i t from r); cases e; rfl
 | str x=>obtain⟨t,e⟩:=(show ∃t,u=Value.str x t from r); cases e; rfl
 | byt b=>obtain⟨t,e⟩:=(show ∃t,u=Value.bytes b t from r); cases e; rfl
 | flt b=>obtain⟨t,e⟩:=(show ∃t,u=Value.float b t from r); cases e; rfl
 | ref a=>cases (show u=Value.ref a from r); rfl
 | ty n=>cases (show u=Value.type n from r); rfl
section
variable {P:Program}{w:World}{H H':Hp}{h h':Heap}{a C dx:Addr}{fs fs':List (Str×V)}
theorem zjq (hok:HOk P w H h)(e:H a=some (.ins C dx fs)):∃mA,zet h a dx C mA∧(∀f,zbW (fs.lookup f) (mA f))∧PySem.Within mA (fs.map (·.1))∧fs.length≤1000∧H dx=some (.own a):=by
 obtain⟨d,z,ne,ob,mA,n,r,q⟩:=(show za6 P w H h a (.ins C dx fs) from hok a _ e)
 exact⟨mA,⟨ob,n,ne⟩,r,q,z,d⟩
end
structure Cls (K:PySem.W.Frag)(C:Addr):Prop where
 pg:PySem.W.plainGet K C Str.empty=true
 hd:PySem.W.hasDictIn K C=true
 po:PySem.W.plainOver K C=true
 sa:PySem.W.findIn K (.ref C) "__setattr__"=some (some (.builtin "object.__setattr__"))
theorem Cls.get {K:PySem.W.Frag}{C:Addr}(c:Cls K C)(f:Str):PySem.W.plainGet K C f=true:=c.pg
def zbr (K:PySem.W.Frag)(C:Addr)(f:Str):Prop:=PySem.W.findIn K (.ref C) f=some none
theorem zbr.taker {K:PySem.W.Frag}{C:Addr}{f:Str}(n:zbr K C f):PySem.W.takerIn K C f=some none:=by
 unfold PySem.W.takerIn
 rw[show PySem.W.findIn K (.ref C) f=some none from n]
 rfl
structure zfe (K:PySem.W.Frag)(C:Addr)(m:Str)(f:Addr):Prop where
 at_:PySem.W.findIn K (.ref C) m=some (some (.ref f))
 fn:PySem.W.isFn K (.ref f)=true
 kp:PySem.W.keepIn K (.ref f)=true
section
variable {X:Cx}{pins:List (Addr×Obj)}{σ:St}{H:Hp}{s:Shared}{a C dx:Addr}{fs:List (Str×V)}{f:Str}{v:V}{A:Around}{E:Value→Shared→Prop}
theorem zmX {b:Bool}{Q:Value→Shared→Prop}(I:Inv X pins σ H s)(e:H a=some (.ins C dx fs))(c:Cls X.K C)(n:zbr X.K C f)(l:fs.lookup f=some v)
  (h:∀u s',Inv X pins σ H s'→zal v u→Q u s'):wpAny (model X.prog X.w) A (getAttr (.ref a) f b) Q E s:=by
 obtain⟨mA,O,r,_,_,_⟩:=zjq I.hok e
 obtain⟨u,hu,ru⟩:=zbW.some_of (v:=v) (o:=mA f) (by rw[← l]; exact r f)
 exact zr6 I.kIn O (c.get f) c.hd n hu (zwp ru) (h u _ (I.tok _) ru)
theorem zpY {m:Str}{g:Addr}{pl:Sem Bool}{Q:Value×List Value→Shared→Prop}(I:Inv X pins σ H s)(e:H a=some (.ins C dx fs))(c:Cls X.K C)(k:zfe X.K C m g)(l:fs.lookup m=none)
  (h:Q (.ref g,[.ref a]) s):wpAny (model X.prog X.w) A (getMethod (.ref a) m pl) Q E s:=by
 obtain⟨mA,O,r,_,_,_⟩:=zjq I.hok e
 have hn:mA m=none:=zbW.none_of (by rw[← l]; exact r m)
 exact zxa I.kIn O (c.get m) k.at_ k.fn hn h
theorem zoc {y:V}{u:Value}{Q:Unit→Shared→Prop}(I:Inv X pins σ H s)(e:H a=some (.ins C dx fs))(c:Cls X.K C)(n:zbr X.K C f)(hl:fs.length<1000)(ry:zal y u)
  (h:∀s',Inv X pins σ (upd H a (.ins C dx (zbv f y fs))) s'→Q () s'):wpAny (model X.prog X.w) A (setAttr (.ref a) f u) Q E s:=by
 obtain⟨mA,O,r,wi,_,ho⟩:=zjq I.hok e
 have hz:(fs.map (·.1)).length≤sizeLine:=by rw[Vaf,sizeLine_eq]; omega
 refine zv4 I.kIn O c.sa c.po n.taker c.hd wi hz λh' O' sb=>h _ ?_
 have hd:∃o,h'.get? dx=some o:=let ⟨o,_,_,e',_⟩:=O'.ns; ⟨o,e'⟩
 refine I.write (x:=a) (e:=dx) (by rw[e]; exact True.intro) (.inr ho) (λb q hb z=>(sb.2 b hb).trans z) hd ?_
 refine⟨by rw[za2 O.ne]; exact ho,?_,O.ne,O'.obj,_,O'.ns,λg=>?_,λg hg=>?_⟩
 ·have:=zni f y fs; omega
 ·show zbW ((zbv f y fs).lookup g) (if g=f then some u else mA g)
  rw[zpf]
  by_cases q:g=f
  ·rw[if_pos q,if_pos q]; exact ry
  ·rw[if_neg q,if_neg q]; exact r g
 ·by_cases q:g=f
  ·rw[q]; exact(zmI f y fs).1
  ·refine(zmI f y fs).2 g (wi g λz=>hg ?_)
   show (if g=f then some u else mA g)=none
   rw[if_neg q]; exact z
theorem Inv.made (I:Inv X pins σ H s):Inv X pins σ (upd (upd H s.heap.objs.size (.own (s.heap.objs.size+1))) (s.heap.objs.size+1) (.ins C s.heap.objs.size []))
  { s with heap:=(s.heap.push PySem.W.emptyDict).push (PySem.W.instObj C s.heap.objs.size) }:=by
 have e1:(s.heap.push PySem.W.emptyDict).get? s.heap.objs.size=some PySem.W.emptyDict:=Heap.get?_push_size s.heap rfl
 have e2:((s.heap.push PySem.W.emptyDict).push (PySem.W.instObj C s.heap.objs.size)).get? (s.heap.objs.size+1)=some (PySem.W.instObj C s.heap.objs.size):=by
  have:=Heap.get?_push_size (s.heap.push PySem.W.emptyDict) (o:=PySem.W.instObj C s.heap.objs.size) rfl
  rwa [Heap.size_push] at this
 have e3:(s.heap.push PySem.W.emptyDict).Ns s.heap.objs.size (λ_=>none):=⟨PySem.W.emptyDict,#[],_,e1,rfl,(λe he=>absurd he (by simp)),λ_=>rfl⟩
 have I1:=I.laid (a:=s.heap.objs.size) (o:=.own (s.heap.objs.size+1)) (h':=s.heap.push PySem.W.emptyDict) (t':=s.toks) (λb u q=>Heap.get?_push_of_some _ q) (Vab _) ⟨_,e1⟩
 refine I1.laid (a:=s.heap.objs.size+1) (o:=.ins C s.heap.objs.size []) (t':=s.toks) (λb u q=>Heap.get?_push_of_some _ q) (Nat.le_of_eq (Heap.size_push _ _)) ?_
 have ne:s.heap.objs.size≠s.heap.objs.size+1:=Vam (Nat.lt_succ_self _)
 refine⟨by rw[za2 ne,zbP],VaG _,ne,e2,λ_=>none,(Heap.Ns1.of_empty e3).at λo q=>Heap.get?_push_of_some _ q,λ_=>True.intro,λy hy=>absurd rfl hy⟩
theorem ztC {prog:Program}{w:World}{env:Env}{e:Expr}{f:Str}{pos:Pos}{s:Shared}{Q:Value→Shared→Prop}(hb:attributeBase e f env (eval e env)=eval e env)
  (h:wpAny (model prog w) A (eval e env) (λo s₁=>wpAny (model prog w) A (getAttr o f true) Q E s₁) E s):wpAny (model prog w) A (eval (.Attribute e f pos) env) Q E s:=
 Attribute_any_ h (by rw[arm_eval_Attribute,hb])
end
def tFld (K:PySem.W.Frag)(ta:TE)(f:Str):TE:=λσ H Q=>ta σ H λx H1=>∃a C dx fs v,x=.ref a∧H1 a=some (.ins C dx fs)∧Cls K C∧zbr K C f∧fs.lookup f=some v∧Q v H1
def sFld (K:PySem.W.Frag)(ta tv:TE)(f:Str):TS:=λD σ H=>tv σ H λy H1=>ta σ H1 λx H2=>∃a C dx fs,x=.ref a∧H2 a=some (.ins C dx fs)∧Cls K C∧zbr K C f∧fs.length<1000∧
 D.nx σ (upd H2 a (.ins C dx (zbv f y fs)))
def ziN (X:Cx)(op:Operator)(rd:V→V→Hp→VK→Prop):Prop:=
 ∀(pins:List (Addr×Obj)) (s:Shared) (σ:St) (H:Hp) (x y:V) (u v:Value) (Q:VK),Inv X pins σ H s→zal x u→zal y v→rd x y H Q→wpAny (model X.prog X.w) X.A (inplaceOp op u v) (EP X pins σ Q) X.xe s
def zqG (K:PySem.W.Frag)(ta tv:TE)(rd:V→V→Hp→VK→Prop)(f:Str):TS:=λD σ H=>ta σ H λx H1=>∃a C dx fs v,x=.ref a∧H1 a=some (.ins C dx fs)∧Cls K C∧zbr K C f∧fs.lookup f=some v∧
 tv σ H1 λy H2=>rd v y H2 λz H3=>∃dx' fs',H3 a=some (.ins C dx' fs')∧fs'.length<1000∧D.nx σ (upd H3 a (.ins C dx' (zbv f z fs')))
section
variable {X:Cx}{o e value:Expr}{f:Str}{pos pos' tpos:Pos}{ta tv:TE}
theorem zv0 (he:PE X e ta)(hb:attributeBase e f X.env (eval e X.env)=eval e X.env):PE X (.Attribute e f pos) (tFld X.K ta f):=by
 intro pins s σ H Q I h
 refine ztC hb (thn (he pins s σ H _ I h) λu s1 ⟨x,H1,I1,rx,a,C,dx,fs,v,ex,ea,c,n,l,q⟩=>?_)
 subst ex
 obtain rfl:u=Value.ref a:=rx
 exact zmX I1 ea c n l λu' s2 I2 ru=>⟨v,H1,I2,ru,q⟩
theorem zvT (ha:PE X o ta)(hv:PE X value tv)(hs:swapsWith value (some (.Attribute o f pos')) pos.line X.env=pure false):PS X (.Assign [.Attribute o f pos'] value pos) (sFld X.K ta tv f):=by
 intro pins s σ H D I h
 refine plainObj_wpAny_Assign_Attribute (thn (hv pins s σ H _ I h) λu s1 ⟨y,H1,I1,ry,q⟩=>thn (ha pins s1 σ H1 _ I1 q) λov s2 ⟨x,H2,I2,rx,a,C,dx,fs,ex,ea,c,n,l,q2⟩=>?_) hs
 subst ex
 obtain rfl:ov=Value.ref a:=rx
 exact zoc I2 ea c n l ry λs3 I3=>⟨σ,_,I3,q2⟩
theorem ztE {op:Operator}{rd:V→V→Hp→VK→Prop}(ha:PE X o ta)(hv:PE X value tv)(hop:ziN X op rd):PS X (.AugAssign (.Attribute o f tpos) op value pos) (zqG X.K ta tv rd f):=by
 intro pins s σ H D I h
 refine wpAny_AugAssign_AttributeAny (thn (ha pins s σ H _ I h) λov s1 ⟨x,H1,I1,rx,a,C,dx,fs,v,ex,ea,c,n,l,q⟩=>?_)
 subst ex
 obtain rfl:ov=Value.ref a:=rx
 refine zmX I1 ea c n l λu s2 I2 ru=>thn (hv pins s2 σ H1 _ I2 q) λw3 s3 ⟨y,H2,I3,ry,q3⟩=>thn (hop pins s3 σ H2 v y u w3 _ I3 ru ry q3) λw4 s4 ⟨z,H3,I4,rz,dx',fs',ea',l',q4⟩=>?_
 exact zoc I4 ea' c n l' rz λs5 I5=>⟨σ,_,I5,q4⟩
def rAdd:V→V→Hp→VK→Prop:=λx y H Q=>∃i j,x=.int i∧y=.int j∧Q (.int (i+j)) H
def rSub:V→V→Hp→VK→Prop:=λx y H Q=>∃i j,x=.int i∧y=.int j∧Q (.int (i-j)) H
theorem zv5:ziN X .Add rAdd:=by
 rintro pins s σ H x y u v Q I rx ry ⟨i,j,rfl,rfl,q⟩
 obtain⟨t,rfl⟩:=(show ∃t,u=Value.int i t from rx)
 obtain⟨t',rfl⟩:=(show ∃t',v=Value.int j t' from ry)
 exact PyProof.Rows.iadd_int ⟨.int (i+j),H,I.tok _,⟨_,rfl⟩,q⟩
theorem zqA:ziN X .Sub rSub:=by
 rintro pins s σ H x y u v Q I rx ry ⟨i,j,rfl,rfl,q⟩
 obtain⟨t,rfl⟩:=(show ∃t,u=Value.int i t from rx)
 obtain⟨t',rfl⟩:=(show ∃t',v=Value.int j t' from ry)
 exact PyProof.Rows.isub_int ⟨.int (i-j),H,I.tok _,⟨_,rfl⟩,q⟩
end
section
variable {X:Cx}{pins:List (Addr×Obj)}{σ:St}{H:Hp}{s:Shared}{A:Around}{E:Value→Shared→Prop}{Q:Value→Shared→Prop}{c:Value}{b:Bool}
inductive zcw (K:PySem.W.Frag)(H:Hp):V→Value→Prop where
 | non:zcw K H .non (.type "NoneType")
 | bl (x:Bool):zcw K H (.bl x) (.type "bool")
 | int (i:Int):zcw K H (.int i) (.type "int")
 | str (x:Str):zcw K H (.str x) (.type "str")
 | flt (x:UInt64):zcw K H (.flt x) (.type "float")
 | lst {a:Addr} {xs:List V} (e:H a=some (.lst xs)):zcw K H (.ref a) (.type "list")
 | frz {a:Addr} {o:Obj} {xs:List V} (e:H a=some (.frz o (.lst xs))):zcw K H (.ref a) (.type "list")
 | tup {a:Addr} {xs:List V} (e:H a=some (.tup xs)):zcw K H (.ref a) (.type "tuple")
 | dK {a:Addr} {kvs:List (Key×V)} (e:H a=some (.dK kvs)):zcw K H (.ref a) (.type "dict")
 | dT {a:Addr} {kvs:List (List Key×V)} (e:H a=some (.dT kvs)):zcw K H (.ref a) (.type "dict")
 | ins {a C dx:Addr} {fs:List (Str×V)} (e:H a=some (.ins C dx fs)) (cl:Cls K C) (ha:PySem.W.findIn K (.ref C) "__class__"=some (some (.builtin "object.__class__")))
   (hn:PySem.W.specialIn K (.builtin "object.__class__") "__get__"=some (some (.builtin "getset_descriptor.__get__"))) (htk:PySem.W.takesIn K (.builtin "object.__class__")=some true)
   (hm:PySem.W.mroIn K C (.type "object")=some true):zcw K H (.ref a) (.ref C)
theorem zrm {x:V}{u t:Value}(I:Inv X pins σ H s)(rx:zal x u)(ty:zcw X.K H x t)(e:PySem.W.kitOne X.K t c=some b)(h:∀tk,Q (.bool b) { s with toks:=tk }):
  wpAny (model X.prog X.w) A (call (.builtin "isinstance") [u,c]) Q E s:=by
 cases ty with
 | non=>cases (show u=Value.none from rx); exact PySem.W.kia_one PySem.W.kitx_none I.kIn True.intro e (λz=>nomatch z) h
 | bl y=>cases (show u=Value.bool y from rx); exact PySem.W.kia_one PySem.W.kitx_bool I.kIn True.intro e (λz=>nomatch z) h
 | int i=>obtain⟨t,q⟩:=(show ∃t,u=Value.int i t from rx); cases q; exact PySem.W.kia_one PySem.W.kitx_int I.kIn True.intro e (λz=>nomatch z) h
 | str y=>obtain⟨t,q⟩:=(show ∃t,u=Value.str y t from rx); cases q; exact PySem.W.kia_one PySem.W.kitx_str I.kIn True.intro e (λz=>nomatch z) h
 | flt y=>obtain⟨t,q⟩:=(show ∃t,u=Value.float y t from rx); cases q; exact PySem.W.kia_one PySem.W.kitx_float I.kIn True.intro e (λz=>nomatch z) h
 | @lst a xs ea=>
  cases (show u=Value.ref a from rx)
  obtain⟨_,_,n,_,h1⟩:=(show za6 X.prog X.w H s.heap a (.lst xs) from I.hok a _ ea)
  exact PySem.W.kia_one PySem.W.kitx_list I.kIn ⟨_,h1,rfl⟩ e (λz=>nomatch z) h
 | @frz a ob xs ea=>
  cases (show u=Value.ref a from rx)
  obtain⟨_,_,_,n,_,h1⟩:=(show za6 X.prog X.w H s.heap a (.frz ob (.lst xs)) from I.hok a _ ea)
  exact PySem.W.kia_one PySem.W.kitx_list I.kIn ⟨_,h1,rfl⟩ e (λz=>nomatch z) h
 | @tup a xs ea=>
  cases (show u=Value.ref a from rx)
  obtain⟨_,_,_,p⟩:=(show za6 X.prog X.w H s.heap a (.tup xs) from I.hok a _ ea)
  obtain⟨o,h1,h2,_⟩:=p
  exact PySem.W.kia_one PySem.W.kitx_tuple I.kIn ⟨o,h1,h2⟩ e (λz=>nomatch z) h
 | @dK a kvs ea=>
  cases (show u=Value.ref a from rx)
  obtain⟨_,_,vs,_,p⟩:=(show za6 X.prog X.w H s.heap a (.dK kvs) from I.hok a _ ea)
  obtain⟨o,es,ep,h1,h2,_⟩:=p
  exact PySem.W.kia_one PySem.W.kitx_dict I.kIn ⟨o,h1,h2.1⟩ e (λz=>nomatch z) h
 | @dT a kvs ea=>
  cases (show u=Value.ref a from rx)
  obtain⟨_,_,xs,_,o,es,ep,h1,h2,_⟩:=(show za6 X.prog X.w H s.heap a (.dT kvs) from I.hok a _ ea)
  exact PySem.W.kia_one PySem.W.kitx_dict I.kIn ⟨o,h1,h2.1⟩ e (λz=>nomatch z) h
 | @ins a C dx fs ea cl ha hn htk hm=>
  cases (show u=Value.ref a from rx)
  obtain⟨mA,O,_⟩:=zjq I.hok ea
  obtain⟨od,J,_⟩:=O.look
  exact PySem.W.kia_one (PySem.W.kitx_own (cl.get _) cl.hd ha hn htk hm) I.kIn J e (λz=>nomatch z) h
end
end L2
namespace L2
open PySem PySem.Spec PyProof.Rows
structure zaE (k:Nat)(A:Around):Prop where
 hd:A.handled=none
 dp:A.depth+3*k+5<recursionLimit
 un:A.units+16*k+200<cLine
theorem zaE.mono {j k:Nat}{A:Around}(r:zaE k A)(h:j≤k):zaE j A:=⟨r.hd,by have:=r.dp; omega,by have:=r.un; omega⟩
theorem zaE.deeper {k:Nat}{A:Around}(r:zaE (k+1) A)(env:Env):zaE k (A.deeper env):=
 ⟨r.hd,by have:=r.dp; show A.depth+1+3*k+5<_; omega,by have:=r.un; show A.units+3+16*k+200<_; omega⟩
theorem ztc {A:Around}{C:Addr}{us:List Value}{kw:List (Str×Value)}:(A.under (.builtin "type.__call__" ⟨.ref C::us,kw⟩)).depth=A.depth+1:=by
 first | rfl | simp[Around.under,Code.weight,Code.isCreation,Code.isGuard,Code.isCaller,Code.frames,Code.isFrame,guardIds]
theorem zwb {A:Around}{C:Addr}{us:List Value}{kw:List (Str×Value)}:(A.under (.builtin "type.__call__" ⟨.ref C::us,kw⟩)).units=A.units+1:=by
 first | rfl | simp[Around.under,Code.cUnits,Code.frames,Code.isFrame]
theorem zaE.make {k:Nat}{A:Around}(r:zaE (k+1) A)(C:Addr)(us:List Value)(kw:List (Str×Value)):zaE k (A.under (.builtin "type.__call__" ⟨.ref C::us,kw⟩)):=
 ⟨r.hd,by have:=r.dp; rw[ztc]; omega,by have:=r.un; rw[zwb]; omega⟩
theorem zaE.depth {k:Nat}{A:Around}(r:zaE k A):A.depth<recursionLimit:=by have:=r.dp; omega
def tNil:TA:=λ_ H Q=>Q [] H
def tCons (ta:TE)(tr:TA):TA:=λσ H Q=>ta σ H λx H1=>tr σ H1 λxs H2=>Q (x::xs) H2
section
variable {X:Cx}{e:Expr}{es:List Expr}{te:TE}{t:TA}{pos:Pos}
theorem zh6:PA X [] tNil:=λ_ _ _ _ H Q I h=>Calls.spliced_nil ⟨[],H,I,.nil,h⟩
theorem zgi (ha:PE X e te)(hr:PA X es t)(hs:starEach (e::es) X.env=(false,eval e X.env)::starEach es X.env:=by rfl):PA X (e::es) (tCons te t):=by
 intro pos pins s σ H Q I h
 rw[hs]
 show wpAny _ _ (spliced ((false,eval e X.env)::backTo pos (starEach es X.env))) _ _ s
 refine Calls.spliced_cons (thn (ha pins s σ H _ I h) λu s1 ⟨x,H1,I1,r1,q1⟩=>?_)
 exact thn (hr pos pins s1 σ H1 _ I1 q1) λus s2 ⟨xs,H2,I2,r2,q2⟩=>⟨x::xs,H2,I2,.cons r1 r2,q2⟩
def tTup (t:TA):TE:=λσ H Q=>t σ H λxs H1=>xs.length≤sizeLine∧∀p,H1 p=none→Q (.ref p) (upd H1 p (.tup xs))
def tLst (t:TA):TE:=λσ H Q=>t σ H λxs H1=>xs.length≤sizeLine∧∀p,H1 p=none→Q (.ref p) (upd H1 p (.lst xs))
theorem ztS {x1}(h:PA X es t):PE X (.Tuple es x1 pos) (tTup t):=by
 intro pins s σ H Q I hq
 refine wpAny_Tuple_spliced (thn (h pos pins s σ H _ I hq) λus s1 ⟨xs,H1,I1,r,z,q⟩=>⟨by rw[← r.length]; exact z,?_⟩)
 have hf:H1 s1.heap.objs.size=none:=I1.hok.fresh (Vab _)
 refine⟨.ref s1.heap.objs.size,upd H1 s1.heap.objs.size (.tup xs),I1.laid (t':=s1.toks) (λb u e=>Heap.get?_push_of_some _ e) (Vab _) ?_,rfl,q _ hf⟩
 exact⟨z,us,r,⟨_,Heap.get?_push_size _ rfl,rfl,_,rfl⟩⟩
theorem zvU (h:PA X es t):PE X (.List es pos) (tLst t):=by
 intro pins s σ H Q I hq
 refine wpAny_List_spliced (thn (h pos pins s σ H _ I hq) λus s1 ⟨xs,H1,I1,r,z,q⟩=>⟨by rw[← r.length]; exact z,?_⟩)
 have hf:H1 s1.heap.objs.size=none:=I1.hok.fresh (Vab _)
 refine⟨.ref s1.heap.objs.size,upd H1 s1.heap.objs.size (.lst xs),I1.laid (t':=s1.toks) (λb u e=>Heap.get?_push_of_some _ e) (Vab _) ?_,rfl,q _ hf⟩
 exact⟨z,us,0,r,Heap.get?_push_size _ rfl⟩
end
abbrev Sp:=List V→Hp→VK→XK→Prop
abbrev CXT:=List Env→Hp→Shared→XK→Value→Shared→Prop
structure zeJ (P:Program)(w:World)(K:PySem.W.Frag)(mg:Str→Option Value)(base:Heap)(A:Around)(outer:List Env)(s:Shared)(H:Hp):Prop where
 frames:A.frames=some outer
 mod:Mod K mg base
 bs:∀b o,base.get? b=some o→s.heap.get? b=some o∧H b=none
 bsz:base.objs.size≤s.heap.objs.size
 funs:s.heap.FunFrames base outer
 frf:∀b∈frs outer,H b=none
 hok:HOk P w H s.heap
 bare:AllBare s.gens
def CE (outer:List Env)(P:Program)(w:World)(H:Hp)(s:Shared)(Q:VK)(u:Value)(s':Shared):Prop:=
 ∃v H',s'.os=s.os∧AllBare s'.gens∧Un (frs outer) [] H H' s.heap s'.heap∧HOk P w H' s'.heap∧zal v u∧Q v H'
def CR (CX:CXT)(outer:List Env)(P:Program)(w:World)(H:Hp)(s:Shared)(Q:VK)(E:XK)(r:Result)(s':Shared):Prop:=
 match r with
 | .ok (.ret u)=>CE outer P w H s Q u s'
 | .ok _=>False
 | .error e=>CX outer H s E e s'
structure zbg (P:Program)(w:World)(K:PySem.W.Frag)(mg:Str→Option Value)(base:Heap)(CX:CXT)(k:Nat)(f:Addr)(fd:FuncData)(ps:List Str)(sp:Sp):Prop where
 len:∀vs H Q E,sp vs H Q E→vs.length=ps.length
 run:∀(A:Around) (outer:List Env) (s:Shared) (H:Hp) (args:Args) (us:List Value) (vs:List V) (Q:VK) (E:XK),zaE k A→zeJ P w K mg base A outer s H→BindsTo s fd args (ps.zip us)→zas vs us→sp vs H Q E→
  codeAny (model P w) A (.call (.ref f) args) (CR CX outer P w H s Q E) s
theorem zeJ.make {P:Program}{w:World}{K:PySem.W.Frag}{mg:Str→Option Value}{base:Heap}{A:Around}{outer:List Env}{s:Shared}{H:Hp}(e:zeJ P w K mg base A outer s H)(C:Addr)(us:List Value)(kw:List (Str×Value)):
  zeJ P w K mg base (A.under (.builtin "type.__call__" ⟨.ref C::us,kw⟩)) outer s H:=⟨by first | exact e.frames | (simpa [Around.under,Code.envs,Code.isFrame,pushEnvs] using e.frames),e.mod,e.bs,e.bsz,e.funs,e.frf,e.hok,e.bare⟩
section
variable {X:Cx}{pins:List (Addr×Obj)}{σ:St}{H:Hp}{s s':Shared}
theorem Inv.env0 (I:Inv X pins σ H s):zeJ X.prog X.w X.K X.mg X.base X.A X.stack s H:=
 ⟨I.ok.frames,I.ok.mod,I.bs,Vax I.ok.bsz I.sz,I.stack,I.stkFree,I.hok,I.bare⟩
theorem Inv.after {Q:VK}{u:Value}(I:Inv X pins σ H s)(h:CE X.stack X.prog X.w H s Q u s'):EP X pins σ Q u s':=by
 obtain⟨v,H',os,bare,un,hok,r,q⟩:=h
 obtain⟨hh,g,d,t,os'⟩:=s'
 obtain rfl:os'=s.os:=os
 exact⟨v,H',I.call (h':=hh) (g':=g) (d':=d) (t':=t) (ch:=[]) un hok bare (λb z=>absurd z (by simp)),r,q⟩
end
def zm7 (C:Addr)(sp:Sp)(dvs:List V)(E:XK)(t:TA):TE:=λσ H Q=>t σ H λvs H1=>∀x dx,H1 x=none→H1 dx=none→dx≠x→
 sp (.ref x::(vs++dvs)) (upd (upd H1 dx (.own x)) x (.ins C dx [])) (λv H2=>v=.non∧Q (.ref x) H2) E
def zbJ (K:PySem.W.Frag)(fd:FuncData)(ps:List Str)(ds:List Value):Prop:=
 ∀(s:Shared) (us:List Value),K.In s.heap→(us++ds).length=ps.length→BindsTo s fd ⟨us,[]⟩ (ps.zip (us++ds))
theorem zbJ.all {K:PySem.W.Frag}{fd:FuncData}{ps:List Str}(h:∀us:List Value,us.length=ps.length→bindArgs fd ⟨us,[]⟩=pure (ps.zip us)):zbJ K fd ps []:=λs us _ hl=>by
 rw[VaB] at hl ⊢
 exact .of_eq (h us hl)
def zeI (CX:CXT)(X:Cx)(E:XK):Prop:=∀(pins:List (Addr×Obj)) (σ:St) (H:Hp) (s:Shared) (e:Value) (s':Shared),Inv X pins σ H s→CX X.stack H s E e s'→X.xe e s'
section
variable {X:Cx}{CX:CXT}{k:Nat}{f C:Addr}{fd:FuncData}{ps:List Str}{sp:Sp}{dvs:List V}{ds:List Value}{E:XK}{x m:Str}{p pos apos:Pos}{e o:Expr}{es:List Expr}{ta:TE}{t:TA}
structure Mk (K:PySem.W.Frag)(C f:Addr):Prop where
 makes:PySem.W.makesIn K C=true
 init:PySem.W.findIn K (.ref C) "__init__"=some (some (.ref f))
 fn:PySem.W.isFn K (.ref f)=true
 kp:PySem.W.keepIn K (.ref C)=true
theorem zo5 {pins:List (Addr×Obj)}{σ:St}{H:Hp}{s:Shared}{Q:VK}{us:List Value}{vs:List V}(M:Mk X.K C f)(F:zbg X.prog X.w X.K X.mg X.base CX k f fd ps sp)(hr:zaE (k+1) X.A)(hb:zbJ X.K fd ps ds)(hd:zas dvs ds)
  (hx:zeI CX X E)(I:Inv X pins σ H s)(r:zas vs us)
  (h:∀x dx,H x=none→H dx=none→dx≠x→sp (.ref x::(vs++dvs)) (upd (upd H dx (.own x)) x (.ins C dx [])) (λv H2=>v=.non∧Q (.ref x) H2) E):
  wpAny (model X.prog X.w) X.A (call (.ref C) us) (EP X pins σ Q) X.xe s:=by
 have hq:=h (s.heap.objs.size+1) s.heap.objs.size (I.hok.fresh (Nat.le_succ _)) (I.hok.fresh (Vab _)) (Vam (Nat.lt_succ_self _))
 have I2:=Inv.made (C:=C) I
 have r2:zas (V.ref (s.heap.objs.size+1)::(vs++dvs)) (Value.ref (s.heap.objs.size+1)::(us++ds)):=.cons rfl (r.append hd)
 have hl:(Value.ref (s.heap.objs.size+1)::us++ds).length=ps.length:=by
  have e:=r2.length
  rw[F.len _ _ _ _ hq] at e
  exact e.symm
 refine wpAny_call (zsp (f:=f) I.kIn M.makes M.init (beq_iff_eq.mp M.fn) (codeAny_mono (F.run _ X.stack _ _ ⟨Value.ref (s.heap.objs.size+1)::us,[]⟩ (Value.ref (s.heap.objs.size+1)::(us++ds)) _ _ E (hr.make C us [])
  (I2.env0.make C us []) (hb _ (Value.ref (s.heap.objs.size+1)::us) I2.kIn hl) r2 hq) λr s' hq'=>?_))
 cases r with
 | error e=>exact hx pins σ _ _ e s' I2 hq'
 | ok fl=>
  cases fl with
  | ret u=>
   obtain⟨v,H',I3,rv,ev,q3⟩:=I2.after hq'
   subst ev
   exact⟨rv,⟨V.ref (s.heap.objs.size+1),H',I3,rfl,q3⟩⟩
  | next=>exact False.elim hq'
  | brk=>exact False.elim hq'
  | cont=>exact False.elim hq'
theorem zxb (M:Mk X.K C f)(F:zbg X.prog X.w X.K X.mg X.base CX k f fd ps sp)(hr:zaE (k+1) X.A)(hg:Gl X x)(hm:X.mg x=some (.ref C))(hb:zbJ X.K fd ps ds)(hd:zas dvs ds)(hx:zeI CX X E)
  (ha:PA X (e::es) t)(hdb:(x==("__debug__":Str))=false:=by decide)(he:starEach (e::es) X.env=(false,eval e X.env)::starEach es X.env:=by rfl)(hpl:(backTo pos (starEach es X.env)).any (·.1)=false:=by rfl):
  PE X (.Call (.Name x p) (e::es) [] pos) (zm7 C sp dvs E t):=by
 intro pins s σ H Q I h
 refine wpAny_Call_Name_kw (zhe I hg hm ?_ hdb)
 refine PySem.W.callWith_K (h₀:=X.base) I.ok.mod.kin M.kp (thn (ha pos pins s σ H _ I h) λus s1 ⟨vs,H1,I1,r,q⟩=>⟨I1.kIn,?_⟩) he hpl
 exact zo5 M F hr hb hd hx I1 r q
theorem zuv (M:Mk X.K C f)(F:zbg X.prog X.w X.K X.mg X.base CX k f fd ps sp)(hr:zaE (k+1) X.A)(hg:Gl X x)(hm:X.mg x=some (.ref C))(hb:zbJ X.K fd ps ds)(hd:zas dvs ds)(hx:zeI CX X E)
  (hdb:(x==("__debug__":Str))=false:=by decide):PE X (.Call (.Name x p) [] [] pos) (zm7 C sp dvs E tNil):=by
 intro pins s σ H Q I h
 refine wpAny_Call_Name_kw (zhe I hg hm ?_ hdb)
 exact PySem.W.callWith_K0 I.kIn M.kp (zo5 (us:=[]) M F hr hb hd hx I .nil h)
end
section
variable {X:Cx}{CX:CXT}{k:Nat}{f C:Addr}{fd:FuncData}{ps ks:List Str}{sp:Sp}{E:XK}{x m:Str}{p pos apos kpos:Pos}{e o:Expr}{es:List Expr}{kws:List Keyword}{te ta:TE}{t tk:TA}{nm:Option Str}
variable {g:List Value→List Value→List Value}{gV:List V→List V→List V}
end
structure zaB (N P:List Str)(sc:Scope):Prop where
 kind:sc.kind=.function
 co:sc.isCoroutine=false
 gen:sc.isGenerator=false
 nd:N.Nodup
 pre:N.take P.length=P
 par:∀x∈P,sc.names.lookup x=some .local∨sc.names.lookup x=some .cell
 nofree:∀y∈sc.names,y.2≠.free
theorem znL {kindOf:Str→Option NameKind}{x:Str}:∀ {binds:List (Str×Value)} {m:Str→Option Value},(∀v,(x,v) ∉ binds)→bindL kindOf binds m x=m x
 | [],_,_=>rfl
 | (n,v)::r,m,h=>by
  unfold bindL
  rw[znL λw hw=>h w (Vap _ hw)]
  split
  ·have:x≠n:=by rintro rfl; exact h v Vau
   simp[this]
  ·rfl
theorem zp8 {kindOf:Str→Option NameKind}{x:Str}:∀ {binds:List (Str×Value)} {m:Str→Option Value},(∀v,(x,v) ∉ binds)→bindC kindOf binds m x=m x
 | [],_,_=>rfl
 | (n,v)::r,m,h=>by
  unfold bindC
  rw[zp8 λw hw=>h w (Vap _ hw)]
  split
  ·rfl
  ·have:x≠n:=by rintro rfl; exact h v Vau
   simp[this]
theorem zpj {kindOf:Str→Option NameKind}{x:Str}{v:Value}:∀ {P:List Str} {vs:List Value} {i:Nat} {m:Str→Option Value},P.Nodup→P[i]?=some x→vs[i]?=some v→kindOf x=some .local→
  bindL kindOf (P.zip vs) m x=some v
 | [],_,_,_,_,h,_,_=>by simp at h
 | _::_,[],_,_,_,_,h,_=>by simp at h
 | p::P,w::vs,0,m,nd,h1,h2,hk=>by
  simp at h1 h2; subst h1; subst h2
  show bindL kindOf ((p,w)::P.zip vs) m p=_
  unfold bindL
  rw[znL λv hv=>(VaH.mp nd).1 (List.of_mem_zip hv).1,if_pos hk]
  simp
 | p::P,w::vs,i+1,m,nd,h1,h2,hk=>by
  show bindL kindOf ((p,w)::P.zip vs) m x=_
  unfold bindL
  exact zpj (i:=i) (VaH.mp nd).2 (by simpa using h1) (by simpa using h2) hk
theorem zn3 {kindOf:Str→Option NameKind}{x:Str}{v:Value}:∀ {P:List Str} {vs:List Value} {i:Nat} {m:Str→Option Value},P.Nodup→P[i]?=some x→vs[i]?=some v→kindOf x≠some .local→
  bindC kindOf (P.zip vs) m x=some v
 | [],_,_,_,_,h,_,_=>by simp at h
 | _::_,[],_,_,_,_,h,_=>by simp at h
 | p::P,w::vs,0,m,nd,h1,h2,hk=>by
  simp at h1 h2; subst h1; subst h2
  show bindC kindOf ((p,w)::P.zip vs) m p=_
  unfold bindC
  rw[zp8 λv hv=>(VaH.mp nd).1 (List.of_mem_zip hv).1,if_neg hk]
  simp
 | p::P,w::vs,i+1,m,nd,h1,h2,hk=>by
  show bindC kindOf ((p,w)::P.zip vs) m x=_
  unfold bindC
  exact zn3 (i:=i) (VaH.mp nd).2 (by simpa using h1) (by simpa using h2) hk
def zdn (N:List Str)(vs:List V):St:=vs.map some++List.replicate (N.length-vs.length) none
def zbi (CX:CXT)(P:Program)(w:World)(K:PySem.W.Frag)(mg:Str→Option Value)(base:Heap)(N:List Str)(qual:Str)(scope:Scope)(f:Addr)(cd:Value)(A:Around)(outer:List Env)(s:Shared)(H:Hp)(E:XK):Cx where
 prog:=P
 w:=w
 K:=K
 mg:=mg
 base:=base
 A:=A.deeper (envOfC qual scope s.heap.objs.size f cd)
 N:=N
 s₀:=s
 H₀:=H
 env:=envOfC qual scope s.heap.objs.size f cd
 outer:=outer
 stack:=envOfC qual scope s.heap.objs.size f cd::outer
 ex:=[]
 calm:=true
 fn:=λ_=>true
 pn:=[]
 xe:=λe s'=>wpAny (model P w) (A.deeper (envOfC qual scope s.heap.objs.size f cd)) (leaving (envOfC qual scope s.heap.objs.size f cd) e) (λ_ s''=>CX outer H s E e s'') (λe' s''=>CX outer H s E e' s'') s'
theorem znP {sc:Scope}{n:Nat}{x:Str}(h:sc.names.lookup x=some .cell):∃c,(cellsFrom n sc.names []).lookup x=some c:=by
 have q:=PySem.W.cellsFrom_some sc.names n [] (.inl h)
 exact Option.isSome_iff_exists.mp q
theorem zwT {CX:CXT}{P:Program}{w:World}{K:PySem.W.Frag}{mg:Str→Option Value}{base:Heap}{N ps:List Str}{qual:Str}{scope:Scope}{f:Addr}{cd:Value}{A:Around}{outer:List Env}{s s1:Shared}{H:Hp}{E:XK}{us:List Value}{vs:List V}
  (S:zaB N ps scope)(hd:A.handled=none)(e0:zeJ P w K mg base A outer s H)(hl:vs.length=ps.length)(r:zas vs us)
  (x:InCallC s s.heap.objs.size (bindL (envOfC qual scope s.heap.objs.size f cd).kindOf (ps.zip us) λ_=>none) (cellsFrom (s.heap.objs.size+1) scope.names []) (bindC (envOfC qual scope s.heap.objs.size f cd).kindOf (ps.zip us) λ_=>none) s1):
  Inv (zbi CX P w K mg base N qual scope f cd A outer s H E) [] (zdn N vs) H s1:=by
 have hpl:ps.length≤N.length:=by have:=congrArg List.length S.pre; rw[VaK] at this; omega
 obtain⟨h1,tk,rfl,hk⟩:=x.done
 have noA:∀b:Addr,b ∉ (zbi CX P w K mg base N qual scope f cd A outer s H E).ex:=λb z=>absurd (show b∈([]:List Addr) from z) (by simp)
 refine⟨⟨e0.mod,S.kind,rfl,rfl,Vab _,λy z c h1 h2=>?_,λy hy=>?_,λy c _ h=>?_,λ_=>hd,Around.frames_deeper e0.frames,.inr ⟨rfl,rfl⟩,λb z=>absurd z (noA b),e0.bs,e0.bsz,λb _ _=>noA b,λb z=>absurd z (noA b),e0.funs,e0.frf⟩,
  rfl,e0.bare,Un.kept hk,⟨_,x.toInCall.ns,λi y v h1 h2 h3=>?_⟩,λy c h=>⟨_,x.cell y c h⟩,e0.hok.fresh (Vab _),λy c h=>?_,λp hp=>absurd (show p∈([]:List (Addr×Obj)) from hp) (by simp),e0.hok.kept hk,?_⟩
 ·exact name_of_addr x.apart (PySem.mem_of_lookup h1) (PySem.mem_of_lookup h2)
 ·have hy:scope.names.lookup y=some .cell∨scope.names.lookup y=some .free:=hy
  rcases hy with hy | hy
  ·exact znP hy
  ·exact absurd rfl (S.nofree _ (PySem.mem_of_lookup hy))
 ·exact VaF (x.above y c (PySem.mem_of_lookup h))
 ·have hi:i<vs.length:=by
   unfold zdn at h2
   by_cases hi:i<vs.length
   ·exact hi
   ·rw[VaE (by simpa using hi)] at h2
    rw[List.getElem?_replicate] at h2
    split at h2 <;> cases h2
  have ha:vs[i]?=some v:=by
   unfold zdn at h2
   rw[Vah (by simpa using hi),Vao] at h2
   cases e:vs[i]? with
   | none=>rw[e] at h2; cases h2
   | some a=>rw[e] at h2; cases h2; rfl
  obtain⟨u,hu,rv⟩:=r.get ha
  have hp:ps[i]?=some y:=by
   rw[← S.pre,List.getElem?_take_of_lt (by omega)]; exact h1
  have ndP:ps.Nodup:=by rw[← S.pre]; exact S.nd.sublist (List.take_sublist _ _)
  refine⟨u,rv,?_⟩
  rcases S.par y (Vas hp) with k | k
  ·exact .inl ⟨k,zpj ndP hp hu k⟩
  ·obtain⟨c,e⟩:=znP (n:=s.heap.objs.size+1) k
   refine .inr ⟨.inl k,c,e,?_⟩
   have q:=x.cell y c e
   rw[zn3 ndP hp hu (by show scope.names.lookup y≠_; rw[k]; decide)] at q
   exact q
 ·exact e0.hok.fresh (VaF (x.above y c (PySem.mem_of_lookup h)))
 ·unfold zdn
  show _=N.length
  rw[Vag,Vaf,List.length_replicate]
  omega
theorem zow {CX:CXT}{P:Program}{w:World}{K:PySem.W.Frag}{mg:Str→Option Value}{base:Heap}{k:Nat}{f:Addr}{name qual:Str}{params:Arguments}{body:List Stmt}{scope:Scope}{dV kV doc pm cdv ct oc:Value}{an od:Option Addr}
  {osl:Array (Option Value)}{N ps:List Str}{sp:Sp}(lk:K.lookup f=some ⟨oc,od,.func (PySem.W.fnOf name qual params body scope dV kV doc pm an cdv ct),osl⟩)(hcd:PySem.W.codeIn K cdv qual=true)(S:zaB N ps scope)
  (len:∀vs H Q E,sp vs H Q E→vs.length=ps.length)
  (hbody:∀(A:Around) (outer:List Env) (s:Shared) (H:Hp) (vs:List V) (Q:VK) (E:XK),zaE k (A.deeper (envOfC qual scope s.heap.objs.size f cdv))→sp vs H Q E→
   ∃t,PSs (zbi CX P w K mg base N qual scope f cdv A outer s H E) body t∧t { nx:=λ_ H'=>Q .non H',rt:=Q } (zdn N vs) H):
  zbg P w K mg base CX (k+1) f (PySem.W.fnOf name qual params body scope dV kV doc pm an cdv ct) ps sp:=by
 refine⟨len,λA outer s H args us vs Q E hr e0 hb r hsp=>?_⟩
 have hl:=len _ _ _ _ hsp
 have KX:K.In s.heap:=e0.mod.kin.keeps λb o e=>(e0.bs b o e).1
 have lim:s.heap.NoLimit:=e0.mod.nolimit.keeps λb o e=>(e0.bs b o e).1
 have hkind:∀y∈ps.zip us,scope.names.lookup y.1=some .local∨(scope.names.lookup y.1=some .cell∧((cellsFrom (s.heap.objs.size+1) scope.names []).lookup y.1).isSome=true):=λ⟨n,v⟩ hy=>by
  rcases S.par n (List.of_mem_zip hy).1 with q | q
  ·exact .inl q
  ·exact .inr ⟨q,PySem.W.cellsFrom_some _ _ _ (.inl q)⟩
 refine codeAny_call_function hr.depth (KX _ _ lk) rfl S.co S.gen rfl (PySem.W.codeRec_of KX hcd) (hb _ _ _ _ ?_)
 refine wpAny_newFunctionEnv_cells S.kind hkind λenv he s1 x=>?_
 subst he
 refine⟨lim.keeps x.toInCall.keep,codeAny_func ?_⟩
 obtain⟨t,ht,hq⟩:=hbody A outer s H vs Q E (hr.deeper _) hsp
 have I:Inv (zbi CX P w K mg base N qual scope f cdv A outer s H E) [] (zdn N vs) H s1:=zwT S hr.hd e0 hl r x
 refine wpAny_mono (ht [] s1 (zdn N vs) H _ I hq) (λfl s' hs=>?_) λe s' hs=>hs
 have fin:∀ {σ':St} {H':Hp} {v:V} {u:Value},Inv (zbi CX P w K mg base N qual scope f cdv A outer s H E) [] σ' H' s'→zal v u→Q v H'→CE outer P w H s Q u s':=
  λ{σ' H' v u} J rv q=>⟨v,H',J.os,J.bare,J.base,J.hok,rv,q⟩
 cases fl with
 | ret u=>
  obtain⟨v,σ',H',J,rv,q⟩:=hs
  exact fin J rv q
 | next=>
  obtain⟨σ',H',J,q⟩:=hs
  exact fin (v:=V.non) (u:=Value.none) J rfl q
 | brk=>
  obtain⟨_,_,_,q⟩:=hs
  exact False.elim q
 | cont=>
  obtain⟨_,_,_,q⟩:=hs
  exact False.elim q
end L2
namespace L2
open PySem PySem.Spec PyProof.Rows
section
variable {X:Cx}{x:Str}{p pos:Pos}{e:Expr}{es:List Expr}{t:TA}{id T:String}{r:List V→Hp→VK→Prop}
def tCB (r:List V→Hp→VK→Prop)(t:TA):TE:=λσ H Q=>t σ H λvs H1=>r vs H1 Q
theorem zm8 (hc:zbj X (.builtin id) r)(hg:Gl X x)(hm:X.mg x=none)(hv:bootBuiltins x=some (.builtin id))(ha:PA X (e::es) t)(hn:x≠"__name__":=by decide)(hdb:(x==("__debug__":Str))=false:=by decide)
  (he:starEach (e::es) X.env=(false,eval e X.env)::starEach es X.env:=by rfl)(hpl:(backTo pos (starEach es X.env)).any (·.1)=false:=by rfl):PE X (.Call (.Name x p) (e::es) [] pos) (tCB r t):=by
 intro pins s σ H Q I h
 refine wpAny_Call_Name_kw (zhu I hg hm hv ?_ hn hdb)
 exact PyProof.Rows.callWith_builtin1 (thn (ha pos pins s σ H _ I h) λus s1 ⟨vs,H1,I1,r1,q1⟩=>hc pins s1 σ H1 vs us Q I1 r1 q1) he hpl
theorem znj (hc:zbj X (.type T) r)(hg:Gl X x)(hm:X.mg x=none)(hv:bootBuiltins x=some (.type T))(ha:PA X (e::es) t)(hn:x≠"__name__":=by decide)(hdb:(x==("__debug__":Str))=false:=by decide)
  (he:starEach (e::es) X.env=(false,eval e X.env)::starEach es X.env:=by rfl)(hpl:(backTo pos (starEach es X.env)).any (·.1)=false:=by rfl):PE X (.Call (.Name x p) (e::es) [] pos) (tCB r t):=by
 intro pins s σ H Q I h
 refine wpAny_Call_Name_kw (zhu I hg hm hv ?_ hn hdb)
 exact PyProof.Rows.callWith_type1 (thn (ha pos pins s σ H _ I h) λus s1 ⟨vs,H1,I1,r1,q1⟩=>hc pins s1 σ H1 vs us Q I1 r1 q1) he hpl
end
end L2
namespace HT
open PySem PyProof.Rows
section
open PySem.SeqAt
open PySem.AutoSeq1 (wpAny_loadPart')
open PySem.MeetsSeq PySem.MeetsSeq2 PySem.MeetsSeq3
end
section
variable {prog:Program}{w:World}{A:Around}{E:Value→Shared→Prop}{s:Shared}
def sIx (n d:Nat):Option Int→Nat
 | none=>d
 | some v=>if v<0 then (v+(n:Int)).toNat else min v.toNat n
theorem sIx_none (n d:Nat):sIx n d none=d:=rfl
theorem sIx_nat (n d k:Nat):sIx n d (some (k:Int))=min k n:=by
 show (if (k:Int)<0 then ((k:Int)+(n:Int)).toNat else min (k:Int).toNat n)=min k n
 rw[if_neg (by omega),VaL]
end
end HT
namespace L2
open PySem PySem.Spec PyProof.Rows
abbrev TO:=St→Hp→(Option Int→Hp→Prop)→Prop
def PO (X:Cx)(e:Option Expr)(t:TO):Prop:=
 ∀(pins:List (Addr×Obj)) (s:Shared) (σ:St) (H:Hp) (Q:Option Int→Hp→Prop),Inv X pins σ H s→t σ H Q→
  wpAny (model X.prog X.w) X.A (evalPart e X.env) (λu s'=>∃o H',Inv X pins σ H' s'∧IsPart u o∧Q o H') X.xe s
def zuS:TO:=λ_ H Q=>Q none H
def tPart (t:TE):TO:=λσ H Q=>t σ H λx H1=>∃i,x=.int i∧Q (some i) H1
section
variable {X:Cx}{e:Expr}{te:TE}{lo hi:Option Expr}{tl th:TO}{pos p2:Pos}
theorem zvf:PO X none zuS:=by
 intro pins s σ H Q I h
 rw[evalPart_none]
 exact wpAny_pure ⟨none,H,I,.none,h⟩
theorem zxq (h:PE X e te):PO X (some e) (tPart te):=by
 intro pins s σ H Q I hw
 rw[evalPart_some]
 refine thn (h pins s σ H _ I hw) λu s1 ⟨x,H1,I1,r1,q1⟩=>?_
 obtain⟨i,rfl,q⟩:=q1
 obtain⟨t,rfl⟩:=r1
 exact⟨some i,H1,I1,.int i t,q⟩
def SlR (X:Cx)(r:V→Option Int→Option Int→Hp→VK→Prop):Prop:=
 ∀(pins:List (Addr×Obj)) (s:Shared) (σ:St) (H:Hp) (x:V) (v vl vu:Value) (lo hi:Option Int) (sl:Addr) (Q:VK),Inv X pins σ H s→zal x v→s.heap.IsSliceOf sl vl vu .none→IsPart vl lo→IsPart vu hi→r x lo hi H Q→
  ∃T id,typeLookup (.type T) "__getitem__"=pure (some (.builtin id))∧s.TypeIs v T∧wpAny (model X.prog X.w) X.A (getItem v (.ref sl)) (EP X pins σ Q) X.xe s
def tSl (r:V→Option Int→Option Int→Hp→VK→Prop)(te:TE)(tl th:TO):TE:=λσ H Q=>te σ H λx H1=>tl σ H1 λl H2=>th σ H2 λu H3=>r x l u H3 Q
theorem zmV {r:V→Option Int→Option Int→Hp→VK→Prop}(hr:SlR X r)(he:PE X e te)(hl:PO X lo tl)(hu:PO X hi th):PE X (.Subscript e (.Slice lo hi none p2) pos) (tSl r te tl th):=by
 intro pins s σ H Q I h
 refine Subscript_ (thn (he pins s σ H _ I h) λv s1 ⟨x,H1,I1,r1,q1⟩=>?_)
 refine wpAny_Slice (thn (hl pins s1 σ H1 _ I1 q1) λvl s2 ⟨l,H2,I2,pl,q2⟩=>thn (hu pins s2 σ H2 _ I2 q2) λvu s3 ⟨u,H3,I3,pu,q3⟩=>?_)
 rw[evalPart_none]
 refine wpAny_pure ?_
 have I4:Inv X pins σ H3 { s3 with heap:=s3.heap.push { cls:=.type "slice",data:=.fields #[vl,vu,.none] } }:=I3.kept (t':=s3.toks) λb ob q=>Heap.get?_push_of_some _ q
 obtain⟨T,id,hT,ht,hg⟩:=hr pins { s3 with heap:=s3.heap.push { cls:=.type "slice",data:=.fields #[vl,vu,.none] } } σ H3 x v vl vu l u s3.heap.objs.size Q I4 r1 (Heap.IsSliceOf.new ..) pl pu q3
 show wpAny (model X.prog X.w) X.A (subscriptTail e (.Slice lo hi none p2) v (.ref s3.heap.objs.size)) (EP X pins σ Q) X.xe { s3 with heap:=s3.heap.push { cls:=.type "slice",data:=.fields #[vl,vu,.none] } }
 exact tail_any (ops:=[.ref s3.heap.objs.size,v]) ht hT hg (by with_unfolding_all rfl)
def zfP (xs:List V)(lo hi:Option Int):List V:=(xs.drop (HT.sIx xs.length 0 lo)).take (HT.sIx xs.length xs.length hi-HT.sIx xs.length 0 lo)
theorem ztJ (xs:List V)(lo hi:Option Int):(zfP xs lo hi).length≤xs.length:=by
 unfold zfP
 rw[VaK,List.length_drop]
 omega
end
end L2
namespace L2
open PySem PySem.Spec PyProof.Rows
def ixN (n:Nat)(i:Int):Option Nat:=if 0≤i then (if i<n then some i.toNat else none) else if -(n:Int)≤i then some (i+n).toNat else none
def atI {α:Type}(xs:List α)(i:Int):Option α:=(ixN xs.length i).bind λj=>xs[j]?
theorem zru {n:Nat}{i:Int}{j:Nat}(h:ixN n i=some j):seqIndex? i n=some j∧j<n∧-(n:Int)≤i∧i<n:=by
 unfold ixN at h
 by_cases h0:0≤i
 ·rw[if_pos h0] at h
  by_cases h1:i<n
  ·rw[if_pos h1] at h
   have e:i.toNat=j:=Option.some.inj h
   exact⟨by rw[seqIndex_of h0 h1,e],by omega,by omega,h1⟩
  ·rw[if_neg h1] at h; cases h
 ·rw[if_neg h0] at h
  by_cases h1:-(n:Int)≤i
  ·rw[if_pos h1] at h
   have e:(i+n).toNat=j:=Option.some.inj h
   exact⟨by rw[seqIndex_neg (by omega) h1,e],by omega,h1,by omega⟩
  ·rw[if_neg h1] at h; cases h
theorem znD {α:Type}{xs:List α}{i:Int}{v:α}(h:atI xs i=some v):∃j,seqIndex? i xs.length=some j∧xs[j]?=some v∧j<xs.length∧-(xs.length:Int)≤i∧i<xs.length:=by
 unfold atI at h
 cases e:ixN xs.length i with
 | none=>rw[e] at h; cases h
 | some j=>
  rw[e] at h
  obtain⟨h1,h2,h3,h4⟩:=zru e
  exact⟨j,h1,h,h2,h3,h4⟩
theorem zdM {α:Type}{xs:List α}{j:Nat}{v:α}(h:xs[j]?=some v):atI xs (j:Int)=some v:=by
 have hj:j<xs.length:=(Vac.mp h).1
 have e:ixN xs.length (j:Int)=some j:=by
  unfold ixN
  rw[if_pos (by omega),if_pos (by omega)]; simp
 unfold atI; rw[e]; exact h
def zl5 (b:Expr):Prop:=∀o i,subscripted b false o i=operate [o,i] (getItem o i)
def IxR (X:Cx)(r:R2):Prop:=
 ∀(value slice:Expr) (pins:List (Addr×Obj)) (s:Shared) (σ:St) (H:Hp) (x y:V) (v u:Value) (Q:VK),Inv X pins σ H s→zal x v→zal y u→r x y H Q→
  subscripted slice false v u=operate [v,u] (getItem v u)→wpAny (model X.prog X.w) X.A (subscriptTail value slice v u) (EP X pins σ Q) X.xe s
def MtR (X:Cx)(id:String)(r:V→List V→Hp→VK→Prop):Prop:=
 ∀(pins:List (Addr×Obj)) (s:Shared) (σ:St) (H:Hp) (x:V) (xs:List V) (v:Value) (us:List Value) (Q:VK),Inv X pins σ H s→zal x v→zas xs us→r x xs H Q→
  wpAny (model X.prog X.w) X.A (call (.builtin id) (v::us)) (EP X pins σ Q) X.xe s
section
variable {X:Cx}{a b:Expr}{ta tb:TE}{pos:Pos}
theorem pe_ix {r:R2}(hr:IxR X r)(ha:PE X a ta)(hb:PE X b tb)(hs:zl5 b):PE X (.Subscript a b pos) (tOp r ta tb):=by
 intro pins s σ H Q I h
 exact Subscript_ (zjV ha hb I h λv u s2 x y H2 I2 rx ry q=>hr a b pins s2 σ H2 x y v u Q I2 rx ry q (hs _ _))
def rIxL (K:PySem.W.Frag):R2:=λx y H Q=>∃p xs i v,x=.ref p∧y=.int i∧SqL K H p xs∧atI xs i=some v∧Q v H
def rIxT (K:PySem.W.Frag):R2:=λx y H Q=>∃p xs i v,x=.ref p∧y=.int i∧SqT K H p xs∧atI xs i=some v∧Q v H
theorem zqy:IxR X (rIxL X.K):=by
 intro value slice pins s σ H x y v u Q I rx ry h hs
 obtain⟨p,xs,i,z,rfl,rfl,hq,he,q⟩:=h
 cases rx
 obtain⟨t,rfl⟩:=ry
 obtain⟨its,r,pl,hz⟩:=I.list hq
 obtain⟨j,h1,h2,h3,h4,h5⟩:=znD he
 obtain⟨w,ew,rw'⟩:=r.get h2
 have hl:=r.length
 have hn:=ziR
 have fin:EP X pins σ Q w s:=⟨z,H,I,rw',q⟩
 by_cases h0:0≤i
 ·have hj:i.toNat=j:=by
   rw[seqIndex_of h0 h5] at h1
   exact Option.some.inj h1
  exact item_listR pl.isList h0 (by omega) (by rw[hj]; simpa using ew) fin hs
 ·have hj:(i+(its.toArray.size:Int)).toNat=j:=by
   rw[seqIndex_neg (by omega) h4] at h1
   rw[Var,← hl]
   exact Option.some.inj h1
  exact subscriptTail_builtinR (x:=w) pl.isList.typeIs slot_list_getitem.lookup
   (wpAny_getItem_list_neg (Q:=λr s'=>r=w∧EP X pins σ Q r s') pl.isList (by omega) (by rw[Var] <;> omega) (by omega) (by rw[hj]; simpa using ew) ⟨rfl,fin⟩) hs
theorem zvz:IxR X (rIxT X.K):=by
 intro value slice pins s σ H x y v u Q I rx ry h hs
 obtain⟨p,xs,i,z,rfl,rfl,hq,he,q⟩:=h
 cases rx
 obtain⟨t,rfl⟩:=ry
 obtain⟨its,r,pl,hz⟩:=I.tuple hq
 obtain⟨j,h1,h2,h3,h4,h5⟩:=znD he
 obtain⟨w,ew,rw'⟩:=r.get h2
 have hl:=r.length
 have hn:=ziR
 have fin:EP X pins σ Q w s:=⟨z,H,I,rw',q⟩
 exact subscriptTail_builtinR (x:=w) pl.typeIs slot_tuple_getitem.lookup
  (getItem_tuple (j:=j) (Q:=λr s'=>r=w∧EP X pins σ Q r s') pl (by omega) (by omega) (by rw[Var,← hl]; exact h1) (by simpa using ew) ⟨rfl,fin⟩) hs
theorem zqn (lo hi:Option Int)(n:Nat):(sliceBounds lo hi none n).1=((HT.sIx n 0 lo:Nat):Int)∧(sliceBounds lo hi none n).2.1=((HT.sIx n n hi:Nat):Int)∧(sliceBounds lo hi none n).2.2=1:=by
 refine⟨?_,?_,rfl⟩
 ·cases lo with
  | none=>simp[sliceBounds,HT.sIx]
  | some i=>
   simp only[sliceBounds,HT.sIx,Option.getD_none,show (1:Int) > 0 by decide,if_true]
   by_cases h:i<0
   ·simp only[h,if_true] <;> omega
   ·simp only[h,if_false] <;> omega
 ·cases hi with
  | none=>simp[sliceBounds,HT.sIx]
  | some i=>
   simp only[sliceBounds,HT.sIx,Option.getD_none,show (1:Int) > 0 by decide,if_true]
   by_cases h:i<0
   ·simp only[h,if_true] <;> omega
   ·simp only[h,if_false] <;> omega
theorem zql (its:List Value)(lo hi:Option Int):slicePick its.toArray lo hi none=((its.drop (HT.sIx its.length 0 lo)).take (HT.sIx its.length its.length hi-HT.sIx its.length 0 lo)).toArray:=by
 obtain⟨h1,h2,h3⟩:=zqn lo hi its.toArray.size
 unfold slicePick
 rw[h1,h2,h3]
 simp only[sliceRange_one,pick_run,Var] <;> rfl
def rSlL (K:PySem.W.Frag):V→Option Int→Option Int→Hp→VK→Prop:=λx lo hi H Q=>∃a xs,x=.ref a∧SqL K H a xs∧∀p,H p=none→Q (.ref p) (upd H p (.lst (zfP xs lo hi)))
theorem zrv:SlR X (rSlL X.K):=by
 intro pins s σ H x v vl vu lo hi sl Q I rx hs pl pu h
 obtain⟨a,xs,rfl,hx,q⟩:=h
 cases rx
 obtain⟨its,r,ht,hz⟩:=I.list hx
 have hlen:=r.length
 refine⟨"list",_,slot_list_getitem.lookup,ht.isList.typeIs,?_⟩
 refine wpAny_getItem_list_slice ht.isList hs pl pu .none (by simp) ?_ (by rw[Var] <;> omega)
 rw[zql,← hlen]
 refine⟨.ref s.heap.objs.size,_,I.laid (t':=s.toks) (o:=.lst (zfP xs lo hi)) (λb ob q=>Heap.get?_push_of_some _ q) (Vab _) ?_,rfl,q _ (I.hok.fresh (Vab _))⟩
 exact⟨Vax (ztJ xs lo hi) hz,_,0,(r.drop (HT.sIx xs.length 0 lo)).take (HT.sIx xs.length xs.length hi-HT.sIx xs.length 0 lo),Heap.get?_push_size _ rfl⟩
def zc5:V→Bool
 | .non=>true
 | .bl _=>true
 | .int _=>true
 | .str _=>true
 | _=>false
def eqV:V→V→Bool
 | .non,.non=>true
 | .bl a,.bl b=>a==b
 | .bl a,.int b=>(if a then 1 else 0)==b
 | .int a,.bl b=>a==(if b then 1 else 0)
 | .int a,.int b=>a==b
 | .str a,.str b=>a==b
 | _,_=>false
theorem zo9 {A:Around}{s:Shared}{y x:V}{u v:Value}(ry:zal y u)(rx:zal x v)(fy:zc5 y=true)(fx:zc5 x=true):SeqAt.EqAt A s u v (eqV y x):=by
 cases y with
 | non=>
  cases ry
  cases x with
  | non=>cases rx; exact SeqAt.EqAt.same _
  | bl b=>cases rx; exact SeqAt.EqAt.none_bool b
  | int b=>obtain⟨t,rfl⟩:=rx; exact SeqAt.EqAt.none_int b t
  | str b=>obtain⟨t,rfl⟩:=rx; exact SeqAt.EqAt.none_str b t
  | _=>exact absurd (show false=true from fx) Van
 | bl a=>
  cases ry
  cases x with
  | non=>cases rx; exact SeqAt.EqAt.bool_none a
  | bl b=>cases rx; exact SeqAt.EqAt.bool_bool a b
  | int b=>obtain⟨t,rfl⟩:=rx; exact SeqAt.EqAt.bool_int a b t
  | str b=>obtain⟨t,rfl⟩:=rx; exact SeqAt.EqAt.bool_str a b t
  | _=>exact absurd (show false=true from fx) Van
 | int a=>
  obtain⟨t',rfl⟩:=ry
  cases x with
  | non=>cases rx; exact SeqAt.EqAt.int_none a t'
  | bl b=>cases rx; exact SeqAt.EqAt.int_bool a t' b
  | int b=>obtain⟨t,rfl⟩:=rx; exact SeqAt.EqAt.int_int a t' b t
  | str b=>obtain⟨t,rfl⟩:=rx; exact SeqAt.EqAt.int_str a t' b t
  | _=>exact absurd (show false=true from fx) Van
 | str a=>
  obtain⟨t',rfl⟩:=ry
  cases x with
  | non=>cases rx; exact SeqAt.EqAt.str_none a t'
  | bl b=>cases rx; exact SeqAt.EqAt.str_bool a t' b
  | int b=>obtain⟨t,rfl⟩:=rx; exact SeqAt.EqAt.str_int a t' b t
  | str b=>obtain⟨t,rfl⟩:=rx; exact SeqAt.EqAt.str_str a t' b t
  | _=>exact absurd (show false=true from fx) Van
 | _=>exact absurd (show false=true from fy) Van
def eqU (x:V)(u:Value):Bool:=match u with
 | .none=>eqV .non x
 | .bool b=>eqV (.bl b) x
 | .int i _=>eqV (.int i) x
 | .str z _=>eqV (.str z) x
 | _=>false
theorem zoy {x y:V}{u:Value}(r:zal y u)(f:zc5 y=true):eqU x u=eqV y x:=by
 cases y with
 | non=>cases r; rfl
 | bl b=>cases r; rfl
 | int i=>obtain⟨t,rfl⟩:=r; rfl
 | str z=>obtain⟨t,rfl⟩:=r; rfl
 | _=>exact absurd (show false=true from f) Van
theorem zhG {x:V}:∀ {xs:List V} {us:List Value},zas xs us→xs.all zc5=true→us.any (eqU x)=xs.any λy=>eqV y x
 | _,_,.nil,_=>rfl
 | y::xs,u::us,.cons r t,f=>by
  rw[List.all_cons,Vay] at f
  rw[VaN,VaN,zoy r f.1,zhG t f.2]
theorem zgR {A:Around}{s:Shared}{x:V}{v:Value}(rx:zal x v)(fx:zc5 x=true):∀ {xs:List V} {us:List Value},zas xs us→xs.all zc5=true→∀u∈us,SeqAt.EqAt A s u v (eqU x u)
 | _,_,.nil,_=>λu hu=>by cases hu
 | y::xs,u::us,.cons r t,f=>λu' hu=>by
  rw[List.all_cons,Vay] at f
  rcases Vaa.mp hu with rfl | hu
  ·rw[zoy r f.1]; exact zo9 r rx f.1 fx
  ·exact zgR rx fx t f.2 u' hu
def inV (x:V)(xs:List V):Bool:=xs.any λy=>eqV y x
def rIn (K:PySem.W.Frag)(neg:Bool):R2:=λx y H Q=>∃p xs,y=.ref p∧(SqL K H p xs∨SqT K H p xs)∧zc5 x=true∧xs.all zc5=true∧Q (.bl (if neg then !inV x xs else inV x xs)) H
theorem zun:OpR X (compareOp .In) (rIn X.K false):=by
 intro pins s σ H x y v u Q I rx ry h
 obtain⟨p,xs,rfl,hq,fx,fs,q⟩:=h
 cases ry
 rcases hq with hq | hq
 ·obtain⟨its,r,pl,hz⟩:=I.list hq
  refine SeqAt.in_listAt (eqU x) pl.isList (λw hw=>zgR rx fx r fs w (by simpa using hw)) ⟨.bl _,H,I,rfl,?_⟩
  rw[show its.toArray.any (eqU x)=its.any (eqU x) by simp,zhG r fs]
  exact q
 ·obtain⟨its,r,pl,hz⟩:=I.tuple hq
  refine SeqAt.in_tupleAt (eqU x) pl (λw hw=>zgR rx fx r fs w (by simpa using hw)) ⟨.bl _,H,I,rfl,?_⟩
  rw[show its.toArray.any (eqU x)=its.any (eqU x) by simp,zhG r fs]
  exact q
theorem zsM:OpR X (compareOp .NotIn) (rIn X.K true):=by
 intro pins s σ H x y v u Q I rx ry h
 obtain⟨p,xs,rfl,hq,fx,fs,q⟩:=h
 cases ry
 rcases hq with hq | hq
 ·obtain⟨its,r,pl,hz⟩:=I.list hq
  refine SeqAt.notIn_listAt (eqU x) pl.isList (λw hw=>zgR rx fx r fs w (by simpa using hw)) ⟨.bl _,H,I,rfl,?_⟩
  rw[show its.toArray.any (eqU x)=its.any (eqU x) by simp,zhG r fs]
  exact q
 ·obtain⟨its,r,pl,hz⟩:=I.tuple hq
  refine SeqAt.notIn_tupleAt (eqU x) pl (λw hw=>zgR rx fx r fs w (by simpa using hw)) ⟨.bl _,H,I,rfl,?_⟩
  rw[show its.toArray.any (eqU x)=its.any (eqU x) by simp,zhG r fs]
  exact q
theorem zsr:zbj X (.builtin "len") (λxs H Q=>∃p ys,xs=[.ref p]∧(SqL X.K H p ys∨SqT X.K H p ys)∧Q (.int ys.length) H):=by
 intro pins s σ H xs us Q I r h
 obtain⟨p,ys,rfl,hq,q⟩:=h
 obtain⟨u,rfl,rx⟩:=zcm r
 cases rx
 have hn:=ziR
 rcases hq with hq | hq
 ·obtain⟨its,r',pl,hz⟩:=I.list hq
  have hlen:=r'.length
  exact Calls.call_len_list pl.isList (by simp only[Var] <;> omega) ⟨.int ys.length,H,I.tok _,⟨s.toks+1,by rw[Var,hlen]⟩,q⟩
 ·obtain⟨its,r',pl,hz⟩:=I.tuple hq
  have hlen:=r'.length
  exact len_tuple pl (by simp only[Var] <;> omega) ⟨.int ys.length,H,I.tok _,⟨s.toks+1,by rw[Var,hlen]⟩,q⟩
theorem zxn:zbj X (.builtin "len") (λxs H Q=>∃z,xs=[.str z]∧z.length≤sizeLine∧Q (.int z.length) H):=by
 intro pins s σ H xs us Q I r h
 obtain⟨z,rfl,hz,q⟩:=h
 obtain⟨u,rfl,t,rfl⟩:=zcm r
 have hn:=ziR
 exact len_str (by omega) ⟨.int z.length,H,I.tok _,⟨_,rfl⟩,q⟩
theorem zsw:zbj X (.type "list") (λxs H Q=>∃p ys,xs=[.ref p]∧(SqL X.K H p ys∨SqT X.K H p ys)∧∀l,H l=none→Q (.ref l) (upd H l (.lst ys))):=by
 intro pins s σ H xs us Q I r h
 obtain⟨p,ys,rfl,hq,q⟩:=h
 obtain⟨u,rfl,rx⟩:=zcm r
 cases rx
 have fin:∀(its:List Value),zas ys its→ys.length≤sizeLine→∀(h':Heap) (c':Nat),(∀b o',s.heap.get? b=some o'→h'.get? b=some o')→
   h'.get? s.heap.objs.size=some { cls:=.type "list",dict:=none,data:=.seq its.toArray c',slots:=#[] }→EP X pins σ Q (.ref s.heap.objs.size) { s with heap:=h' }:=λits r' hz h' c' kp e=>
  ⟨.ref s.heap.objs.size,_,I.laid (t':=s.toks) kp (Vab _) (show za6 X.prog X.w _ h' _ (.lst ys) from ⟨hz,its,c',r',e⟩),rfl,q _ (I.hok.fresh (Vab _))⟩
 rcases hq with hq | hq
 ·obtain⟨its,r',pl,hz⟩:=I.list hq
  have hlen:=r'.length
  obtain⟨o,ho,hc,n,hd⟩:=pl.isList
  exact call_list_seq p (.inl rfl) ho hc hd (λh' c' kp e=>fin its r' hz h' c' kp e) (by simp only[Var] <;> omega)
 ·obtain⟨its,r',pl,hz⟩:=I.tuple hq
  have hlen:=r'.length
  obtain⟨o,ho,hc,n,hd⟩:=pl
  exact call_list_seq p (.inr rfl) ho hc hd (λh' c' kp e=>fin its r' hz h' c' kp e) (by simp only[Var] <;> omega)
def tyV (K:PySem.W.Frag)(T:String)(x:V)(H:Hp):Prop:=match x with
 | .str _=>T="str"
 | .int _=>T="int"
 | .ref p=>(T="list"∧∃xs,SqL K H p xs)∨(T="tuple"∧∃o,K.lookup p=some o∧o.cls=.type "tuple"∧o.dict=none)∨
   (T="dict"∧((∃kvs,H p=some (.dK kvs))∨∃kvs,H p=some (.dT kvs)))∨(T="set"∧∃S n,H p=some (.set S n))
 | _=>False
theorem zvm {pins:List (Addr×Obj)}{σ:St}{H:Hp}{s:Shared}{T:String}{x:V}{v:Value}(I:Inv X pins σ H s)(r:zal x v)(ty:tyV X.K T x H):
  s.TypeIs v T∧∀a,v=.ref a→∃ob,s.heap.get? a=some ob∧ob.dict=none:=by
 cases x with
 | str z=>
  obtain⟨t,rfl⟩:=r
  cases (show T="str" from ty)
  exact⟨typeIs_str s z t,λ_ e=>nomatch e⟩
 | int i=>
  obtain⟨t,rfl⟩:=r
  cases (show T="int" from ty)
  exact⟨typeIs_int s i t,λ_ e=>nomatch e⟩
 | ref p=>
  cases r
  rcases ty with ⟨rfl,xs,hq⟩ | ⟨rfl,o,hk,hc,hd⟩ | ⟨rfl,hk⟩ | ⟨rfl,S,n,hk⟩
  ·obtain⟨its,_,pl,_⟩:=I.list hq
   refine⟨pl.isList.typeIs,λa e=>?_⟩
   cases e
   obtain⟨o,n,e,c,hd,_⟩:=pl
   exact⟨o,e,hd⟩
  ·refine⟨⟨o,I.kIn p o hk,hc⟩,λa e=>?_⟩
   cases e
   exact⟨o,I.kIn _ o hk,hd⟩
  ·have z:∃o,s.heap.get? p=some o∧o.ExactDict:=by
    rcases hk with ⟨kvs,hk⟩ | ⟨kvs,hk⟩
    ·obtain⟨_,_,_,_,o,_,_,e,ex,_⟩:=I.hok p _ hk
     exact⟨o,e,ex⟩
    ·obtain⟨_,_,_,_,o,_,_,e,ex,_⟩:=I.hok p _ hk
     exact⟨o,e,ex⟩
   obtain⟨o,e,ex⟩:=z
   refine⟨⟨o,e,ex.1⟩,λa e2=>?_⟩
   cases e2
   exact⟨o,e,ex.2.1⟩
  ·obtain⟨o,_,_,_,e,ex,_⟩:=I.hok p _ hk
   refine⟨⟨o,e,ex.1⟩,λa e2=>?_⟩
   cases e2
   exact⟨o,e,ex.2.1⟩
 | _=>exact False.elim ty
def tBM (K:PySem.W.Frag)(T:String)(r:V→List V→Hp→VK→Prop)(to:TE)(t:TA):TE:=λσ H Q=>to σ H λx H1=>tyV K T x H1∧t σ H1 λxs H2=>r x xs H2 Q
variable {o e:Expr}{es:List Expr}{to:TE}{t:TA}{name:Str}{apos cpos:Pos}{T id:String}{r:V→List V→Hp→VK→Prop}
theorem ze3 (pa:PlainAttrs T)(slot:Slot T name id)(hty:typeOf (.builtin id)=pure (.type "method_descriptor"))(hm:MtR X id r)(ho:PE X o to)(ha:PA X (e::es) t)
  (hbase:attributeBase o name X.env (eval o X.env)=eval o X.env:=by rfl)
  (hfew:((backTo cpos (starEach (e::es) X.env)).all (λx=>!x.1)&&(backToKw cpos (keywordEach [] X.env)).all (λx=>x.1.isSome)
  &&decide ((e::es).length+([]:List Keyword).length+(if ([]:List Keyword).isEmpty then 0 else 1)<30))=true:=by rfl)
  (hline:(apos.endLine==cpos.line)=true:=by rfl)(hs:starEach (e::es) X.env=(false,eval e X.env)::starEach es X.env:=by rfl)(hplain:(backTo cpos (starEach es X.env)).any (·.1)=false:=by rfl):
  PE X (.Call (.Attribute o name apos) (e::es) [] cpos) (tBM X.K T r to t):=by
 intro pins s σ H Q I h
 refine wpAny_Call_method_late hbase hfew hline rfl (thn (ho pins s σ H _ I h) λv s1 ⟨x,H1,I1,r1,ty,q1⟩=>?_)
 obtain⟨h1,h2⟩:=zvm I1 r1 ty
 refine⟨T,id,pa,slot,hty,h1,h2,?_⟩
 have hA:=ha cpos pins s1 σ H1 _ I1 q1
 rw[hs] at hA ⊢
 refine Calls.callWith_builtin (by show (false||(backTo cpos (starEach es X.env)).any (·.1))=false; rw[hplain] <;> rfl) (Calls.evalArgs_plain ?_)
 exact thn hA λus s2 ⟨vs,H2,I2,r2,q2⟩=>hm pins s2 σ H2 x vs v us Q I2 r1 r2 q2
end
end L2
namespace L2
open PySem PySem.Spec PyProof.Rows
def MtM (X:Cx)(id:String)(r:V→List V→Hp→VK→Prop):Prop:=
 ∀(pins:List (Addr×Obj)) (s:Shared) (σ:St) (H:Hp) (x:V) (xs:List V) (v:Value) (us:List Value) (Q:VK),Inv X pins σ H s→zal x v→zas xs us→r x xs H Q→
  wpAny (model X.prog X.w) X.A (call (.builtin id) (v::us)) (EP X pins σ Q) X.xe s
theorem zas.one:∀ {x:V} {us:List Value},zas [x] us→∃u,us=[u]∧zal x u
 | _,_,.cons r .nil=>⟨_,rfl,r⟩
section
variable {X:Cx}{pins:List (Addr×Obj)}{σ:St}{H:Hp}{s:Shared}{l b:Addr}{xs ys zs:List V}
theorem Inv.lset {its its':List Value}{n:Nat}{f:Array Value→Array Value}{t':Nat}(I:Inv X pins σ H s)(hH:H l=some (.lst xs))
  (e:s.heap.get? l=some { cls:=.type "list",data:=.seq its.toArray n })(hf:f its.toArray=its'.toArray)(hv:zas ys its')(hz:ys.length≤sizeLine):
  Inv X pins σ (upd H l (.lst ys)) { s with heap:=s.heap.update l (Obj.mapSeq f),toks:=t' }:=by
 have q:=PySem.IsL.update e f
 rw[hf] at q
 refine I.write (x:=l) (e:=l) (by rw[hH]; exact trivial) (.inl rfl) (λb' u hb hu=>(Heap.get?_update_other s.heap (Obj.mapSeq f) (Ne.symm hb)).trans hu) ⟨_,q⟩ ?_
 exact⟨hz,its',_,hv,q⟩
theorem Inv.lnew {its:List Value}{t':Nat}(I:Inv X pins σ H s)(hv:zas ys its)(hz:ys.length≤sizeLine):
  Inv X pins σ (upd H s.heap.objs.size (.lst ys)) { s with heap:=s.heap.push { cls:=.type "list",data:=.seq its.toArray },toks:=t' }:=
 I.laid (λ_ _ q=>Heap.get?_push_of_some _ q) (Vab _) ⟨hz,its,0,hv,Heap.get?_push_size _ rfl⟩
theorem Inv.fresh (I:Inv X pins σ H s):H s.heap.objs.size=none:=I.hok.fresh (Vab _)
theorem Inv.lstM (I:Inv X pins σ H s)(hH:H l=some (.lst xs)):xs.length≤sizeLine∧∃(its:List Value) (n:Nat),zas xs its∧xs.length=its.length∧s.heap.get? l=some { cls:=.type "list",data:=.seq its.toArray n }:=by
 obtain⟨z,its,n,r,e⟩:=I.hok l _ hH
 exact⟨z,its,n,r,r.length,e⟩
end
section
variable {X:Cx}
def ztf:V→List V→Hp→VK→Prop:=λx vs H Q=>∃l xs y,x=.ref l∧vs=[y]∧H l=some (.lst xs)∧xs.length<sizeLine∧Q .non (upd H l (.lst (xs++[y])))
theorem zna:MtM X "list.append" ztf:=by
 intro pins s σ H x vs v us Q I rx rv h
 obtain⟨l,xs,y,rfl,rfl,hH,hz,q⟩:=h
 cases rx
 obtain⟨u,rfl,ru⟩:=rv.one
 obtain⟨z,its,n,r,hl,e⟩:=I.lstM hH
 refine call_meets F.slot_list_append ⟨_,e,rfl⟩ F.entry_list_append (F.args_list_append_2 _ _) (PySem.list_append l its.toArray n u (by rw[Var]; omega)) ⟨e,?_⟩
 refine⟨.non,_,I.lset (its':=its++[u]) hH e (by simp) (r.append (.cons ru .nil)) ?_,rfl,q⟩
 rw[Vag,List.length_singleton]
 omega
def rCat:R2:=λx y H Q=>∃l b xs zs,x=.ref l∧y=.ref b∧H l=some (.lst xs)∧H b=some (.lst zs)∧xs.length+zs.length≤sizeLine∧∀p,H p=none→Q (.ref p) (upd H p (.lst (xs++zs)))
theorem zsd:OpR X (binaryOp .Add) rCat:=by
 intro pins s σ H x y v u Q I rx ry h
 obtain⟨l,b,xs,zs,rfl,rfl,hH,hB,hz,q⟩:=h
 cases rx
 cases ry
 obtain⟨z,its,n,r,hl,e⟩:=I.lstM hH
 obtain⟨z2,its2,n2,r2,hl2,e2⟩:=I.lstM hB
 refine PySem.P.add_list e e2 ?_ (by rw[Var,Var]; omega)
 have ea:its.toArray++its2.toArray=(its++its2).toArray:=by simp
 rw[ea]
 exact⟨.ref _,_,I.lnew (t':=s.toks) (r.append r2) (by rw[Vag]; omega),rfl,q _ I.fresh⟩
end
section
variable {prog:Program}{w:World}{A:Around}{E:Value→Shared→Prop}{s:Shared}
set_option maxRecDepth 100000 in
end
section
variable {X:Cx}
end
end L2
namespace Att
open PySem PySem.W PySem.Calls PyProof.Rows
theorem zuL {P:Params}{h:Heap}:∀(ns:List Int) (vs:List Value),WellAll P h vs (ns.map WData.int)→IntsAre vs ns:=by
 intro ns
 induction ns with
 | nil=>
  intro vs w
  rw[List.map_nil] at w
  cases w
  exact .nil
 | cons n ns ih=>
  intro vs w
  rw[Vaj] at w
  cases w with
  | cons a b=>
   cases a
   exact .cons _ _ (ih _ b)
theorem zqq {l:OpenLaw}{n:Nat}(hn:l.most=some n){P:Params}{h:Heap}{args:List WData}{vals:List Value}
  (hpre:l.row.toRowW.claim.pre args=true)(hwl:WellAll P h vals args):
  ∃a vs ns,vals=[Value.ref a]∧args=[WData.list (ns.map WData.int)]∧h.get? a=some { cls:=.type "list",data:=.seq vs.toArray }∧IntsAre vs ns∧ns.length≤n:=by
 have hsh:WShape.hasAll [] args [.list .int]=true:=(pre_splitW hpre).1
 have hc:l.pre.holds [] { args:=args }=true:=(pre_splitW hpre).2
 obtain⟨d,r,rfl,h1,h2⟩:=hasAllW_cons hsh
 obtain rfl:=hasAllW_nil h2
 obtain⟨xs,rfl,h3⟩:=hasW_list h1
 obtain⟨ns,rfl⟩:=items_int h3
 have hlen:ns.length≤n:=by
  unfold OpenLaw.pre at hc
  have h4:(WTm.not (.lt (.lit (.int (n:Int))) (.len (.arg 0)))).holds [] { args:=[.list (ns.map .int)] }=true:=by
   have h4:=(holds_andW hc).1
   rw[hn] at h4
   exact h4
  have h5:=condW_of h4 (w_not (w_lt w_lit (w_len_list (w_arg rfl))))
  rw[Vaf] at h5
  refine Nat.le_of_not_lt λq=>?_
  have q':(n:Int)<((ns.length:Nat):Int):=by omega
  first
   | (rw[decide_eq_true q'] at h5; exact absurd h5 (by decide))
   | (simp at h5; omega)
 cases hwl with
 | cons w1 w2=>
  cases w2
  cases w1 with
  | list ho hall=>exact⟨_,_,ns,rfl,rfl,ho,zuL ns _ hall,hlen⟩
theorem ztg (l:OpenLaw)(args:List WData):l.row.toRowW.claim.post args (.bool true) args=true:=
 postW_of (r:=l.row.toRowW) (X:=(true==true))
  (show WShape.has [] (.bool true) .bool=true by first | rfl | decide | simp[WShape.has,WShape.arms,WShape.armsAll])
  (show (WTm.eq .res (.lit (.bool true))).value [] { args:=args,res:=some (.bool true),after:=args }=some (.bool (true==true)) from w_eq_bool (w_res rfl) w_lit) rfl
theorem attach_call {l:OpenLaw}{n:Nat}{q:Program}{loose:List Str}{XP:(Str→Option Value)→Heap→Prop}{YP:World→Heap→Prop}{d:DefRec}
  (hn:l.most=some n)(hdf:d.params.defaults=[])
  (call:∀(w:World) (s₀ s₁:Shared) (mg mb:Str→Option Value) (fa:Addr) (o:Obj) (pm cd doc:Value) (a:Addr) (vs:List Value) (ns:List Int),
   Ground q loose [] XP w s₀ mg mb s₁.heap→YP w s₁.heap→
   s₁.heap.get? fa=some o→o.data=.func (docDef d.name d.params d.body d.scope pm cd doc)→s₁.heap.CodeRec cd d.name→mg d.name=some (.ref fa)→
   s₁.heap.get? a=some { cls:=.type "list",data:=.seq vs.toArray }→IntsAre vs ns→ns.length≤n→s₁.gens=#[]→
   codeAny (model l.prog w) callerA (.call (.ref fa) ⟨[.ref a],[]⟩) (λr s'=>r=.ok (.ret (.bool true))∧OldK s₁.heap s'.heap∧s'.os=s₁.os∧AllBare s'.gens) s₁):
  WalkO q loose XP YP l.row.toRowW d [] (λf vs=>PySem.call f vs):=by
 intro w s₀ s₁ mg mb G Y fa o pm cd doc dV kV ho hd hcd hD hmg hg args vals as hpre hlay hrd hwl hlo
 obtain rfl:dV=.none:=Dflts.none hD hdf
 obtain rfl:kV=.none:=Dflts.noKw hD
 obtain⟨a,vs,ns,rfl,rfl,hobj,hints,hlen⟩:=zqq hn hpre hwl
 refine enter_call (codeAny_mono (call w s₀ s₁ mg mb fa o pm cd doc a vs ns G Y ho (fd_plain hd) hcd hmg hobj hints hlen hg) λr s' hq=>?_)
 obtain⟨rfl,h2,h3,h4⟩:=hq
 exact⟨.inl ⟨.bool true,.bool true,[],rfl,λ_=>rfl,.bool true,ztg l _,λ_=>⟨List.Pairwise.nil,λ_ hm=>(nomatch hm)⟩⟩,h2,h3,h4⟩
section
variable {prog:Program}{w:World}{A:Around}{E:Value→Shared→Prop}{s:Shared}{K:Frag}
end
end Att
namespace L2
open PySem PySem.Spec PyProof.Rows
theorem zkP:∀ {vs:List Value} {ns:List Int},IntsAre vs ns→zas (ns.map V.int) vs
 | _,_,.nil=>.nil
 | _,_,.cons n t h=>.cons ⟨t,rfl⟩ (zkP h)
def zhA (H:Hp):Prop:=∀b,H b=none∨∃o xs,H b=some (.frz o (.lst xs))
theorem zrH {P:Program}{w:World}{K:PySem.W.Frag}{mg mb:Str→Option Value}{CX:CXT}{k:Nat}{fa a:Addr}{fd:FuncData}{x:Str}{sp:Sp}{s₁:Shared}{vs:List Value}{ns:List Int}
  (KX:K.In s₁.heap)(hns:s₁.heap.Ns mainGlobals mg)(hb:s₁.heap.Ns builtinsNs mb)(hbb:∀x:Str,x≠"__name__"→mb x=bootBuiltins x)(hlim:s₁.heap.NoLimit)(hg:s₁.gens=#[])
  (ha:s₁.heap.get? a=some { cls:=.type "list",data:=.seq vs.toArray })(hi:IntsAre vs ns)(hl:ns.length≤sizeLine)(hr:zaE k callerA)
  (F:∀base:Heap,K.In base→base.Ns mainGlobals mg→zbg P w K mg base CX k fa fd [x] sp)(hbind:∀(s:Shared) (u:Value),BindsTo s fd ⟨[u],[]⟩ [(x,u)])
  (hsp:∀H:Hp,zhA H→SqL K H a (ns.map V.int)→sp [.ref a] H (λv _=>v=.bl true) λ_ _ _=>False)
  (hCX:∀H e s',CX [] H s₁ (λ_ _ _=>False) e s'→False):
  codeAny (model P w) callerA (.call (.ref fa) ⟨[.ref a],[]⟩) (λr s'=>r=.ok (.ret (.bool true))∧OldK s₁.heap s'.heap∧s'.os=s₁.os∧AllBare s'.gens) s₁:=by
 have rv:=zkP hi
 have lenV:=hi.length
 have core:∀H:Hp,zhA H→SqL K H a (ns.map V.int)→HOk P w H s₁.heap→(∀b,H b≠none→b=a)→(H a≠none→K.lookup a=none)→
   codeAny (model P w) callerA (.call (.ref fa) ⟨[.ref a],[]⟩) (λr s'=>r=.ok (.ret (.bool true))∧OldK s₁.heap s'.heap∧s'.os=s₁.os∧AllBare s'.gens) s₁:=by
  intro H hO hS hok hA hK
  have base_of:∀ {b:Addr} {o:Obj},s₁.heap.get? b=some o→H b=none→(zdQ s₁.heap H).get? b=some o:=λe n=>zvW e n
  have noA:∀ {b:Addr} {o:Obj} {es:Array DictEntry} {ep:Nat},s₁.heap.get? b=some o→o.data=.dict es ep→H b=none:=λ{b o es ep} e d=>by
   cases q:H b with
   | none=>rfl
   | some u=>
    have e':b=a:=hA b (by rw[q]; simp)
    subst e'
    rw[ha] at e; cases e
    have d':Data.seq vs.toArray _=Data.dict es ep:=d
    cases d'
  have nsK:∀ {b:Addr} {m:Str→Option Value},s₁.heap.Ns b m→(zdQ s₁.heap H).Ns b m:=λ{b m} ⟨o,es,ep,e,d,r⟩=>⟨o,es,ep,base_of e (noA e d),d,r⟩
  have hKb:K.In (zdQ s₁.heap H):=λb o e=>base_of (KX b o e) (by
   cases q:H b with
   | none=>rfl
   | some u=>
    have e':b=a:=hA b (by rw[q]; simp)
    subst e'
    rw[hK (by rw[q]; simp)] at e; cases e)
  have hM:Mod K mg (zdQ s₁.heap H):=⟨hKb,nsK hns,⟨mb,nsK hb,hbb⟩,let ⟨mc,h1,h2⟩:=hlim; ⟨mc,nsK h1,h2⟩⟩
  have e0:zeJ P w K mg (zdQ s₁.heap H) callerA [] s₁ H:=⟨rfl,hM,λb o e=>zq6 e,Nat.le_of_eq (ztq _ _),trivial,λb hb=>absurd (show b∈([]:List Addr) from hb) (by simp),hok,.of_eq hg⟩
  refine codeAny_mono ((F _ hKb (nsK hns)).run callerA [] s₁ H ⟨[.ref a],[]⟩ [.ref a] [.ref a] _ _ hr e0 (hbind s₁ (.ref a)) (.cons rfl .nil) (hsp H hO hS)) λr s' h=>?_
  cases r with
  | error e=>exact(hCX H e s' h).elim
  | ok fl=>
   cases fl with
   | next=>exact False.elim h
   | brk=>exact False.elim h
   | cont=>exact False.elim h
   | ret u=>
    obtain⟨v,H',os,bare,un,hok',r',q⟩:=h
    have q':v=.bl true:=q
    subst q'
    obtain rfl:u=Value.bool true:=r'
    refine⟨rfl,OldK.of_keep λb o e=>?_,os,bare⟩
    cases q:H b with
    | none=>exact un.keep b o e q (by intro z; exact absurd (show b∈([]:List Addr) from z) (by simp)) (by simp)
    | some u=>
     rcases hO b with z | ⟨ob,xs,z⟩
     ·rw[q] at z; cases z
     ·have z2:=un.frzs b ob _ z
      obtain⟨e1,_⟩:=hok b _ z
      obtain⟨e2,_⟩:=hok' b _ z2
      rw[e] at e1; cases e1
      exact e2
 cases hk:K.lookup a with
 | some o=>
  have e:=KX a o hk
  rw[ha] at e
  cases e
  refine core (λ_=>none) (λ_=>.inl rfl) (.inr ⟨_,vs.toArray,_,hk,rfl,rfl,rfl,by rw[Var,lenV]; exact hl,by simpa using rv⟩) (λb u z=>by have z':(none:Option HO)=some u:=z; cases z') (λb z=>absurd rfl z) λz=>absurd rfl z
 | none=>
  refine core (λb=>if b=a then some (.frz { cls:=.type "list",data:=.seq vs.toArray } (.lst (ns.map V.int))) else none) (λb=>?_) (.inl (.inr ⟨{ cls:=.type "list",data:=.seq vs.toArray },if_pos rfl⟩)) (λb u z=>?_) (λb z=>?_) λ_=>hk
  ·by_cases hb:b=a
   ·exact .inr ⟨_,_,if_pos hb⟩
   ·exact .inl (if_neg hb)
  ·by_cases hb:b=a
   ·have z':=(if_pos hb).symm.trans z
    cases z'
    subst hb
    exact⟨ha,by rw[Vaf]; exact hl,vs,_,rv,ha⟩
   ·have z':=(if_neg hb).symm.trans z
    cases z'
  ·by_cases hb:b=a
   ·exact hb
   ·exact absurd (if_neg hb) z
end L2
namespace L2
open PySem PySem.Spec PyProof.Rows
theorem zsl {l:PySem.W.OpenLaw}{n k:Nat}{q:Program}{loose:List Str}{XP:(Str→Option Value)→Heap→Prop}{YP:World→Heap→Prop}{d:DefRec}{K:Params→PySem.W.Frag}{CX:World→CXT}{sp:World→Sp}{x:Str}
  (hn:l.most=some n)(hn2:n≤sizeLine)(hdf:d.params.defaults=[])(hr:zaE k callerA)
  (hY:∀(w:World) (h:Heap),YP w h→(K w.params).In h)
  (F:∀(w:World) (mg:Str→Option Value) (fa:Addr) (h:Heap),(K w.params).In h→h.Ns mainGlobals mg→mg d.name=some (.ref fa)→
   ∃fd:FuncData,(∀(s:Shared) (u:Value),BindsTo s fd ⟨[u],[]⟩ [(x,u)])∧
    ∀base:Heap,(K w.params).In base→base.Ns mainGlobals mg→zbg l.prog w (K w.params) mg base (CX w) k fa fd [x] (sp w))
  (hsp:∀(w:World) (H:Hp) (a:Addr) (ns:List Int),ns.length≤n→zhA H→SqL (K w.params) H a (ns.map V.int)→sp w [.ref a] H (λv _=>v=.bl true) λ_ _ _=>False)
  (hCX:∀(w:World) (H:Hp) (s:Shared) (e:Value) (s':Shared),CX w [] H s (λ_ _ _=>False) e s'→False):
  PySem.W.WalkO q loose XP YP l.row.toRowW d [] (λf vs=>PySem.call f vs):=by
 refine Att.attach_call hn hdf λw s₀ s₁ mg mb fa o pm cd doc a vs ns G Y ho hd hcd hmg hobj hints hlen hg=>?_
 have KX:=hY w _ Y
 obtain⟨fd,hb,hF⟩:=F w mg fa _ KX G.T.g hmg
 exact zrH KX G.T.g G.T.b G.T.builtins G.T.nolimit hg hobj hints (Vax hlen hn2) hr hF hb (λH hO hS=>hsp w H a ns hlen hO hS) λH e s'=>hCX w H s₁ e s'
end L2
namespace L2
open PySem PySem.Spec PyProof.Rows
structure Fun (K:PySem.W.Frag)(x qual:Str)(st:Stmt)(f:Addr)(fd:FuncData):Prop where
 ex:∃(oc:Value) (od:Option Addr) (kV doc pm:Value) (an:Option Addr) (cdv ct:Value) (osl:Array (Option Value)),
  fd=PySem.W.fnOf x qual (zeW st) (zdO st) (zau st) .none kV doc pm an cdv ct∧K.lookup f=some ⟨oc,od,.func fd,osl⟩∧PySem.W.codeIn K cdv qual=true
 kp:PySem.W.keepIn K (.ref f)=true
section
variable {P:Program}{w:World}{K:PySem.W.Frag}{mg:Str→Option Value}{base:Heap}
theorem Fun.binds {x qual:Str}{st:Stmt}{f:Addr}{fd:FuncData}{ps:List Str}(F:Fun K x qual st f fd)
  (h:∀(kV doc pm:Value) (an:Option Addr) (cdv ct:Value) (us:List Value),us.length=ps.length→bindArgs (PySem.W.fnOf x qual (zeW st) (zdO st) (zau st) .none kV doc pm an cdv ct) ⟨us,[]⟩=pure (ps.zip us)):zbJ K fd ps []:=by
 obtain⟨oc,od,kV,doc,pm,an,cdv,ct,osl,rfl,lk,hcd⟩:=F.ex
 exact .all (h kV doc pm an cdv ct)
theorem zk6 {x qual:Str}{st:Stmt}{f:Addr}{oc:Value}{od an:Option Addr}{osl:Array (Option Value)}{kV doc pm cdv ct:Value}(l:K.lookup f=some ⟨oc,od,.func (PySem.W.fnOf x qual (zeW st) (zdO st) (zau st) .none kV doc pm an cdv ct),osl⟩)
  (c:PySem.W.codeIn K cdv qual=true)(k:PySem.W.keepIn K (.ref f)=true):Fun K x qual st f (PySem.W.fnOf x qual (zeW st) (zdO st) (zau st) .none kV doc pm an cdv ct):=⟨⟨oc,od,kV,doc,pm,an,cdv,ct,osl,rfl,l,c⟩,k⟩
end
theorem zg5 {n:Nat}(h:n≤1000):n<sizeLine:=Nat.lt_of_le_of_lt h (by decide)
section
variable {X:Cx}
theorem pv (i:Nat){x:Str}{pos:Pos}(hN:X.N[i]?=some x:=by rfl)(hv:Vis X.env.scope x:=by first | exact Or.inl rfl | exact Or.inr (Or.inl rfl) | exact Or.inr (Or.inr rfl))(hd:(x==("__debug__":Str))=false:=by decide)
  (hcd:(x==("__classdict__":Str))=false:=by decide):PE X (.Name x pos) (tVar i):=znQ hN hv hd hcd
end
theorem zbw {A B:Prop}(h:B):if false=true then A else B:=by
 rw[if_neg Van]
 exact h
theorem zbX {A B:Prop}(h:A):if true=true then A else B:=by
 rw[if_pos rfl]
 exact h
theorem ite2 {c A B:Prop} [Decidable c] (h1:c→A)(h2:¬ c→B):if c then A else B:=by
 by_cases h:c
 ·rw[if_pos h]
  exact h1 h
 ·rw[if_neg h]
  exact h2 h
end L2
namespace L2
open PySem PySem.Spec PyProof.Rows
section
variable {κ:Type} [DecidableEq κ]
def zco (kvs:List (κ×V))(k:κ):Option V:=(kvs.find? λkv=>decide (kv.1=k)).map (·.2)
def putK (kvs:List (κ×V))(k:κ)(v:V):List (κ×V):=
 if (kvs.any λkv=>decide (kv.1=k))=true then kvs.map (λkv=>if kv.1=k then (kv.1,v) else kv) else kvs++[(k,v)]
theorem zlj {p:κ×V}{r:List (κ×V)}{k:κ}(e:p.1=k):zco (p::r) k=some p.2:=by simp[zco,VaM,e]
theorem zlf {p:κ×V}{r:List (κ×V)}{k:κ}(e:¬ p.1=k):zco (p::r) k=zco r k:=by simp[zco,VaM,e]
theorem zpH (k:κ):∀kvs:List (κ×V),(kvs.any λkv=>decide (kv.1=k))=(zco kvs k).isSome
 | []=>rfl
 | p::r=>by
  rw[VaN]
  by_cases e:p.1=k
  ·simp only[zlj e,decide_eq_true e,Bool.true_or,Option.isSome_some]
  ·rw[zlf e,decide_eq_false e,Bool.false_or]; exact zpH k r
theorem zpE (kvs:List (κ×V))(k:κ)(v:V):(putK kvs k v).length≤kvs.length+1:=by
 unfold putK
 split
 ·rw[Vaf]; omega
 ·rw[Vag,Vaq,List.length_nil]; omega
theorem zbW.isSome_eq {o:Option V}{u:Option Value}(r:zbW o u):o.isSome=u.isSome:=by
 cases o with
 | none=>cases u with
  | none=>rfl
  | some _=>exact(show False from r).elim
 | some _=>cases u with
  | none=>exact(show False from r).elim
  | some _=>rfl
theorem KV.val {kvs:List (κ×V)}{vs:List (κ×Value)}(r:KV kvs vs)(k:κ):zbW (zco kvs k) (valueAt vs k):=by
 unfold KV at r
 induction r with
 | nil=>exact True.intro
 | @cons p q ps qs h t ih=>
  obtain⟨h1,h2⟩:=h
  by_cases e:p.1=k
  ·have e':q.1=k:=h1.symm.trans e
   have b:valueAt (q::qs) k=some q.2:=by simp[valueAt,VaM,e']
   rw[zlj e,b]; exact h2
  ·have e':¬ q.1=k:=λz=>e (h1.trans z)
   have b:valueAt (q::qs) k=valueAt qs k:=by simp[valueAt,VaM,e']
   rw[zlf e,b]; exact ih
theorem KV.any {kvs:List (κ×V)}{vs:List (κ×Value)}(r:KV kvs vs)(k:κ):(kvs.any λkv=>decide (kv.1=k))=vs.any λkv=>decide (kv.1=k):=by
 unfold KV at r
 induction r with
 | nil=>rfl
 | cons h t ih=>rw[VaN,VaN,ih,h.1]
theorem KV.repl {kvs:List (κ×V)}{vs:List (κ×Value)}(r:KV kvs vs)(k:κ){y:V}{u:Value}(ry:zal y u):
  KV (kvs.map λkv=>if kv.1=k then (kv.1,y) else kv) (vs.map λkv=>if kv.1=k then (kv.1,u) else kv):=by
 unfold KV at r ⊢
 induction r with
 | nil=>exact .nil
 | @cons p q ps qs h t ih=>
  rw[Vaj,Vaj]
  refine .cons ?_ ih
  obtain⟨h1,h2⟩:=h
  by_cases e:p.1=k
  ·rw[if_pos e,if_pos (h1.symm.trans e)]; exact⟨h1,ry⟩
  ·rw[if_neg e,if_neg (λz=>e (h1.trans z))]; exact⟨h1,h2⟩
theorem KV.put {kvs:List (κ×V)}{vs:List (κ×Value)}(r:KV kvs vs)(k:κ){y:V}{u:Value}(ry:zal y u):KV (putK kvs k y) (stored vs k u):=by
 unfold putK stored
 rw[r.any k]
 by_cases e:(vs.any λkv=>decide (kv.1=k))=true
 ·rw[if_pos e,if_pos e]; exact r.repl k ry
 ·rw[if_neg e,if_neg e]; exact Paired.snoc r ⟨rfl,ry⟩
theorem KV.length {kvs:List (κ×V)}{vs:List (κ×Value)}(r:KV kvs vs):kvs.length=vs.length:=Paired.length r
end
theorem ze1 {P:Program}{w:World}{k:Key}{u:Value}(r:zal (kV k) u):(zcg P w).is k u=true:=by
 cases k with
 | inl i=>obtain⟨t,e⟩:=(show ∃t,u=Value.int i t from r); subst e; exact zvQ P w i t
 | inr x=>obtain⟨t,e⟩:=(show ∃t,u=Value.str x t from r); subst e; exact zcT P w x t
theorem zoT {P:Program}{w:World}:∀ {ks:List Key} {us:List Value},zas (ks.map kV) us→ItemsAre (zcg P w) ks us
 | [],_,r=>by rw[List.map_nil] at r; cases r; exact .nil
 | k::ks,_,r=>by
  rw[Vaj] at r
  cases r with
  | cons h t=>exact .cons (ze1 h) (zoT t)
abbrev KT (H:Hp):List (List Key×V)→List (List Key×Addr×Value)→Prop:=Paired λp q=>p.1=q.1∧H q.2.1=some (.tup (p.1.map kV))∧zal p.2 q.2.2
theorem KT.val {H:Hp}{kvs:List (List Key×V)}{xs:List (List Key×Addr×Value)}(r:KT H kvs xs)(k:List Key):zbW (zco kvs k) ((atKey xs k).map (·.2)):=by
 induction r with
 | nil=>exact True.intro
 | @cons p q ps qs h t ih=>
  obtain⟨h1,_,h2⟩:=h
  by_cases e:p.1=k
  ·have e':q.1=k:=h1.symm.trans e
   have b:atKey (q::qs) k=some q.2:=by simp[atKey,VaM,e']
   rw[zlj e,b]; exact h2
  ·have e':¬ q.1=k:=λz=>e (h1.trans z)
   have b:atKey (q::qs) k=atKey qs k:=by simp[atKey,VaM,e']
   rw[zlf e,b]; exact ih
theorem KT.repl {H:Hp}{kvs:List (List Key×V)}{xs:List (List Key×Addr×Value)}(r:KT H kvs xs)(k:List Key){y:V}{u:Value}(ry:zal y u):
  KT H (kvs.map λkv=>if kv.1=k then (kv.1,y) else kv) (xs.map (putAt k u)):=by
 induction r with
 | nil=>exact .nil
 | @cons p q ps qs h t ih=>
  rw[Vaj,Vaj]
  refine .cons ?_ ih
  obtain⟨h1,h2,h3⟩:=h
  unfold putAt
  by_cases e:p.1=k
  ·rw[if_pos e,if_pos (h1.symm.trans e)]; exact⟨h1,h2,ry⟩
  ·rw[if_neg e,if_neg (λz=>e (h1.trans z))]; exact⟨h1,h2,h3⟩
theorem KT.put {H:Hp}{kvs:List (List Key×V)}{xs:List (List Key×Addr×Value)}(r:KT H kvs xs)(k:List Key){b:Addr}{y:V}{u:Value}(hb:H b=some (.tup (k.map kV)))(ry:zal y u):
  KT H (putK kvs k y) (storedH xs k b u):=by
 have e:(kvs.any λkv=>decide (kv.1=k))=(atKey xs k).isSome:=by
  rw[zpH,(r.val k).isSome_eq,Option.isSome_map]
 unfold putK storedH
 rw[e]
 by_cases q:(atKey xs k).isSome=true
 ·rw[if_pos q,if_pos q]; exact r.repl k ry
 ·rw[if_neg q,if_neg q]; exact Paired.snoc r ⟨rfl,hb,ry⟩
theorem KT.keeps {H H':Hp}{kvs:List (List Key×V)}{xs:List (List Key×Addr×Value)}(r:KT H kvs xs)(ht:∀b ys,H b=some (.tup ys)→H' b=some (.tup ys)):KT H' kvs xs:=
 Paired.mapP r λ_ _ z=>⟨z.1,ht _ _ z.2.1,z.2.2⟩
section
variable {P:Program}{w:World}{H:Hp}{h:Heap}{a:Addr}
theorem zp0 {u:HO}(ok:HOk P w H h)(e:Rd H a u):za6 P w H h a u:=e.ok ok
theorem zhl {kvs:List (Key×V)}(ok:HOk P w H h)(e:Rd H a (.dK kvs)):kvs.length≤sizeLine∧(a==sysModules)=false∧∃vs,KV kvs vs∧h.DictOf (zcg P w) a vs:=
 show za6 P w H h a (.dK kvs) from zp0 ok e
theorem dk_of {kvs:List (Key×V)}(ok:HOk P w H h)(e:H a=some (.dK kvs)):kvs.length≤sizeLine∧(a==sysModules)=false∧∃vs,KV kvs vs∧h.DictOf (zcg P w) a vs:=zhl ok (.inl e)
theorem zie {ks:List Key}(ok:HOk P w H h)(e:H a=some (.tup (ks.map kV))):(tupleKind (zcg P w)).is h ks a:=by
 obtain⟨_,its,r,o,h1,h2,n,h3⟩:=(show za6 P w H h a (.tup (ks.map kV)) from ok a _ e)
 exact⟨o,its.toArray,n,h1,h2,h3,by simpa using zoT r⟩
theorem zg2 {kvs:List (List Key×V)}(ok:HOk P w H h)(e:Rd H a (.dT kvs)):kvs.length≤sizeLine∧(a==sysModules)=false∧
  ∃xs,KT H kvs xs∧h.DictOfH (tupleKind (zcg P w)) a xs:=by
 obtain⟨z,y,xs,r,o,es,ep,h1,h2,h3,h4,h5⟩:=(show za6 P w H h a (.dT kvs) from zp0 ok e)
 refine⟨z,y,xs,r,o,es,ep,h1,h2,h3,h4,λx hx=>?_,h5⟩
 have all:∀ {l:List (List Key×V)} {m:List (List Key×Addr×Value)},KT H l m→∀x∈m,(tupleKind (zcg P w)).is h x.1 x.2.1:=by
  intro l m q
  induction q with
  | nil=>intro x hx; exact nomatch hx
  | @cons p q ps qs hq t ih=>
   intro x hx
   rcases Vaa.mp hx with e | hx
   ·subst e
    exact zie ok (by rw[← hq.1]; exact hq.2.1)
   ·exact ih x hx
 exact all r x hx
theorem dt_of {kvs:List (List Key×V)}(ok:HOk P w H h)(e:H a=some (.dT kvs)):kvs.length≤sizeLine∧(a==sysModules)=false∧
  ∃xs,KT H kvs xs∧h.DictOfH (tupleKind (zcg P w)) a xs:=zg2 ok (.inl e)
end
def zcd (H:Hp)(a:Addr)(y:V)(r:Option V):Prop:=
 (∃kvs k,Rd H a (.dK kvs)∧y=kV k∧r=zco kvs k)∨∃kvs k b,Rd H a (.dT kvs)∧y=.ref b∧H b=some (.tup (k.map kV))∧r=zco kvs k
def zdY (H:Hp)(a:Addr)(y v:V)(H':Hp):Prop:=
 (∃kvs k,H a=some (.dK kvs)∧y=kV k∧kvs.length<sizeLine∧H'=upd H a (.dK (putK kvs k v)))∨
 ∃kvs k b,H a=some (.dT kvs)∧y=.ref b∧H b=some (.tup (k.map kV))∧kvs.length<sizeLine∧H'=upd H a (.dT (putK kvs k v))
theorem zcd.k {H:Hp}{a:Addr}{kvs:List (Key×V)}{k:Key}(e:H a=some (.dK kvs)):zcd H a (kV k) (zco kvs k):=.inl ⟨kvs,k,.inl e,rfl,rfl⟩
theorem zcd.t {H:Hp}{a b:Addr}{kvs:List (List Key×V)}{k:List Key}(e:H a=some (.dT kvs))(eb:H b=some (.tup (k.map kV))):zcd H a (.ref b) (zco kvs k):=.inr ⟨kvs,k,b,.inl e,rfl,eb,rfl⟩
theorem zdY.k {H:Hp}{a:Addr}{kvs:List (Key×V)}{k:Key}{v:V}(e:H a=some (.dK kvs))(hl:kvs.length<sizeLine):zdY H a (kV k) v (upd H a (.dK (putK kvs k v))):=.inl ⟨kvs,k,e,rfl,hl,rfl⟩
theorem zdY.t {H:Hp}{a b:Addr}{kvs:List (List Key×V)}{k:List Key}{v:V}(e:H a=some (.dT kvs))(eb:H b=some (.tup (k.map kV)))(hl:kvs.length<sizeLine):
  zdY H a (.ref b) v (upd H a (.dT (putK kvs k v))):=.inr ⟨kvs,k,b,e,rfl,eb,hl,rfl⟩
section
variable {X:Cx}{pins:List (Addr×Obj)}{σ:St}{H:Hp}{s:Shared}{a:Addr}{y v:V}{u r:Value}{o:Option V}{A:Around}{E:Value→Shared→Prop}
theorem Inv.big (I:Inv X pins σ H s):sysModules<s.heap.objs.size:=by
 have h:mainGlobals<s.heap.objs.size:=(I.mod.glob.keeps I.bk).lt
 exact Nat.lt_trans (by decide) h
theorem zsz {Q:Value→Shared→Prop}(hu:A.units+1<cLine)(I:Inv X pins σ H s)(g:zcd H a y (some v))(ry:zal y u)(h:∀w' s',Inv X pins σ H s'→zal v w'→Q w' s'):
  wpAny (model X.prog X.w) A (getItem (.ref a) u) Q E s:=by
 rcases g with ⟨kvs,k,e,ey,l⟩ | ⟨kvs,k,b,e,ey,eb,l⟩
 ·subst ey
  obtain⟨z,hd,vs,rel,dd⟩:=zhl I.hok e
  obtain⟨w',hw,rw'⟩:=zbW.some_of (v:=v) (o:=valueAt vs k) (by rw[l]; exact rel.val k)
  exact wpAny_getItem_of (ze1 ry) dd.mapOf hw (h w' _ (I.tok _) rw')
 ·subst ey
  cases (show u=Value.ref b from ry)
  obtain⟨z,hd,xs,rel,dd⟩:=zg2 I.hok e
  obtain⟨w',hw,rw'⟩:=zbW.some_of (v:=v) (o:=(atKey xs k).map (·.2)) (by rw[l]; exact rel.val k)
  obtain⟨p,hp,hp2⟩:=VaR.mp hw
  refine wpAny_getItem_heap (tupleKind_room_in1 hu) (zie I.hok eb) dd hp ?_
  rw[hp2]
  exact h w' _ (I.tok _) rw'
theorem d_in {Q:Value→Shared→Prop}(hu:A.units+1<cLine)(I:Inv X pins σ H s)(g:zcd H a y o)(ry:zal y u)(h:∀s',Inv X pins σ H s'→Q (.bool o.isSome) s'):
  wpAny (model X.prog X.w) A (compareOp .In u (.ref a)) Q E s:=by
 rcases g with ⟨kvs,k,e,ey,l⟩ | ⟨kvs,k,b,e,ey,eb,l⟩
 ·subst ey
  obtain⟨z,hd,vs,rel,dd⟩:=zhl I.hok e
  refine wpAny_in_of (ze1 ry) hd dd.mapOf ?_
  rw[← (rel.val k).isSome_eq,← l]
  exact h _ (I.tok _)
 ·subst ey
  cases (show u=Value.ref b from ry)
  obtain⟨z,hd,xs,rel,dd⟩:=zg2 I.hok e
  refine wpAny_in_heap (tupleKind_room_in1 hu) (zie I.hok eb) hd dd ?_
  have q:=(rel.val k).isSome_eq
  rw[Option.isSome_map] at q
  rw[← q,← l]
  exact h _ (I.tok _)
theorem zts {Q:Value→Shared→Prop}(hu:A.units+1<cLine)(I:Inv X pins σ H s)(g:zcd H a y o)(ry:zal y u)(h:∀s',Inv X pins σ H s'→Q (.bool (!o.isSome)) s'):
  wpAny (model X.prog X.w) A (compareOp .NotIn u (.ref a)) Q E s:=by
 rcases g with ⟨kvs,k,e,ey,l⟩ | ⟨kvs,k,b,e,ey,eb,l⟩
 ·subst ey
  obtain⟨z,hd,vs,rel,dd⟩:=zhl I.hok e
  refine wpAny_notIn_of (ze1 ry) hd dd.mapOf ?_
  rw[← (rel.val k).isSome_eq,← l]
  exact h _ (I.tok _)
 ·subst ey
  cases (show u=Value.ref b from ry)
  obtain⟨z,hd,xs,rel,dd⟩:=zg2 I.hok e
  refine wpAny_notIn_heap (tupleKind_room_in1 hu) (zie I.hok eb) hd dd ?_
  have q:=(rel.val k).isSome_eq
  rw[Option.isSome_map] at q
  rw[← q,← l]
  exact h _ (I.tok _)
theorem zmQ {h':Heap}{t':Nat}{ob:HO}(I:Inv X pins σ H s)(mu:Mut (H a))(hs:Heap.SameBut a s.heap h')(he:∃q,h'.get? a=some q)(new:za6 X.prog X.w (upd H a ob) h' a ob):
  Inv X pins σ (upd H a ob) { s with heap:=h',toks:=t' }:=
 I.write (x:=a) (e:=a) mu (.inl rfl) (λb q hb z=>(hs.2 b hb).trans z) he new
theorem zuy {P:Program}{w:World}{H':Hp}{h':Heap}{kvs:List (Key×V)}{vs:List (Key×Value)}(z:kvs.length≤sizeLine)(hd:(a==sysModules)=false)(rel:KV kvs vs)(dd:h'.DictOf (zcg P w) a vs):
  za6 P w H' h' a (.dK kvs):=⟨z,hd,vs,rel,dd⟩
theorem zrX {H':Hp}{Q:Unit→Shared→Prop}(hu:A.units+1<cLine)(I:Inv X pins σ H s)(g:zdY H a y v H')(ry:zal y u)(rv:zal v r)(h:∀s',Inv X pins σ H' s'→Q () s'):
  wpAny (model X.prog X.w) A (setItem (.ref a) u r) Q E s:=by
 rcases g with ⟨kvs,k,e,ey,l,eH⟩ | ⟨kvs,k,b,e,ey,eb,l,eH⟩
 ·subst ey eH
  obtain⟨z,hd,vs,rel,dd⟩:=dk_of I.hok e
  have hz:vs.length≤sizeLine:=by rw[← rel.length]; exact z
  have hl:(putK kvs k v).length≤sizeLine:=by have:=zpE kvs k v; omega
  refine wpAny_setItem_pairs (hsz:=hz) (ze1 ry) dd λh' dd' hs=>h _ ?_
  have he:∃q,h'.get? a=some q:=let ⟨q,_,_,hq,_⟩:=dd'; ⟨q,hq⟩
  exact zmQ I (by rw[e]; exact True.intro) hs he (zuy hl hd (rel.put k rv) dd')
 ·subst ey eH
  cases (show u=Value.ref b from ry)
  obtain⟨z,hd,xs,rel,dd⟩:=dt_of I.hok e
  have hz:xs.length≤sizeLine:=by rw[← Paired.length rel]; exact z
  have hl:(putK kvs k v).length≤sizeLine:=by have:=zpE kvs k v; omega
  refine wpAny_setItem_heap (hsz:=hz) (tupleKind_room_in1 hu) (zie I.hok eb) dd λh' dd' hs=>h _ ?_
  obtain⟨q,es,ep,hq,h2,h3,h4,_,h5⟩:=dd'
  refine zmQ I (by rw[e]; exact True.intro) hs ⟨q,hq⟩ ⟨hl,hd,_,(rel.put k eb rv).keeps λc ys ec=>?_,q,es,ep,hq,h2,h3,h4,h5⟩
  rw[za2 (zh7 ec e (λz=>nomatch z))]
  exact ec
end
section
variable {X:Cx}{pins:List (Addr×Obj)}{σ:St}{H:Hp}{s:Shared}{a:Addr}{kvs:List (Key×V)}{k:Key}{u:Value}{A:Around}{E:Value→Shared→Prop}
end
def zgm (i:Expr):Prop:=∀ov iv,subscripted i false ov iv=operate [ov,iv] (getItem ov iv)
theorem zoP {prog:Program}{w:World}{A:Around}{E:Value→Shared→Prop}{s:Shared}{env:Env}{value slice:Expr}{pos:Pos}{T id:String}{Q:Value→Shared→Prop}
  (hl:typeLookup (.type T) "__getitem__"=pure (some (.builtin id)))(hs:zgm slice)
  (h:wpAny (model prog w) A (eval value env) (λo s₁=>wpAny (model prog w) A (eval slice env) (λi s₂=>s₂.TypeIs o T∧wpAny (model prog w) A (getItem o i) Q E s₂) E s₁) E s):
  wpAny (model prog w) A (eval (.Subscript value slice pos) env) Q E s:=by
 refine Subscript_ (wpAny_mono h (λo s₁ h₁=>wpAny_mono h₁ (λi s₂ h₂=>?_) λ_ _ x=>x) λ_ _ x=>x)
 obtain⟨hT,h₂⟩:=h₂
 unfold subscriptTail
 refine wpAny_bind ?_
 rw[getitemInPython_of_ne hT.not_modules]
 refine wpAny_bind (wpAny_specialOf hT hl ?_)
 have fin:wpAny (model prog w) A (subscripted slice false o i) (λr s₃=>wpAny (model prog w) A (letTemporaryGo value o r >>= λ_=>pure r) Q E s₃) E s₂:=by
  rw[hs o i]
  exact wpAny_operating (wpAny_mono h₂ (λr s₃ h₃=>wpAny_bind (wpAny_letTemporaryGo (wpAny_pure h₃))) λ_ _ x=>x)
 first
  | exact wpAny_pure (wpAny_bind fin)
  | exact wpAny_bind (wpAny_pure (wpAny_bind fin))
  | exact wpAny_bind fin
theorem zxh {X:Cx}{pins:List (Addr×Obj)}{σ:St}{H:Hp}{s:Shared}{a:Addr}{y:V}{o:Option V}(I:Inv X pins σ H s)(g:zcd H a y o):s.TypeIs (.ref a) "dict":=by
 rcases g with ⟨kvs,k,e,_,_⟩ | ⟨kvs,k,b,e,_,_,_⟩
 ·obtain⟨_,_,vs,_,dd⟩:=zhl I.hok e
  exact dd.typeIs
 ·obtain⟨_,_,xs,_,dd⟩:=zg2 I.hok e
  exact dd.typeIs
def tDGet (td ty:TE):TE:=λσ H Q=>td σ H λx H1=>ty σ H1 λy H2=>∃a v,x=.ref a∧zcd H2 a y (some v)∧Q v H2
def tDIn (ty td:TE):TE:=λσ H Q=>ty σ H λy H1=>td σ H1 λx H2=>∃a o,x=.ref a∧zcd H2 a y o∧Q (.bl o.isSome) H2
def znq (ty td:TE):TE:=λσ H Q=>ty σ H λy H1=>td σ H1 λx H2=>∃a o,x=.ref a∧zcd H2 a y o∧Q (.bl (!o.isSome)) H2
def sDPut (td ty tv:TE):TS:=λD σ H=>tv σ H λv H1=>td σ H1 λx H2=>ty σ H2 λy H3=>∃a H4,x=.ref a∧zdY H3 a y v H4∧D.nx σ H4
section
variable {X:Cx}{o i e value:Expr}{pos pos' tpos:Pos}{td ty tv:TE}
theorem zpM (hu:X.A.units+1<cLine)(ho:PE X o td)(hi:PE X i ty)(hs:zgm i):PE X (.Subscript o i pos) (tDGet td ty):=by
 intro pins s σ H Q I h
 refine zoP PySem.F.slot_dict_getitem.lookup hs (thn (ho pins s σ H _ I h) λu s1 ⟨x,H1,I1,rx,q1⟩=>thn (hi pins s1 σ H1 _ I1 q1) λiv s2 ⟨y,H2,I2,ry,a,v,ex,g,q2⟩=>?_)
 subst ex
 obtain rfl:u=Value.ref a:=rx
 exact⟨zxh I2 g,zsz hu I2 g ry λw' s3 I3 rw'=>⟨v,H2,I3,rw',q2⟩⟩
theorem zp4 (hu:X.A.units+1<cLine)(hi:PE X i ty)(ho:PE X o td):PC X .In i o (tDIn ty td):=by
 intro pins s σ H Q I h
 refine thn (hi pins s σ H _ I h) λiv s1 ⟨y,H1,I1,ry,q1⟩=>thn (ho pins s1 σ H1 _ I1 q1) λu s2 ⟨x,H2,I2,rx,a,ov,ex,g,q2⟩=>?_
 subst ex
 obtain rfl:u=Value.ref a:=rx
 exact d_in hu I2 g ry λs3 I3=>⟨.bl ov.isSome,H2,I3,rfl,q2⟩
theorem zsS (hu:X.A.units+1<cLine)(hi:PE X i ty)(ho:PE X o td):PC X .NotIn i o (znq ty td):=by
 intro pins s σ H Q I h
 refine thn (hi pins s σ H _ I h) λiv s1 ⟨y,H1,I1,ry,q1⟩=>thn (ho pins s1 σ H1 _ I1 q1) λu s2 ⟨x,H2,I2,rx,a,ov,ex,g,q2⟩=>?_
 subst ex
 obtain rfl:u=Value.ref a:=rx
 exact zts hu I2 g ry λs3 I3=>⟨.bl (!ov.isSome),H2,I3,rfl,q2⟩
theorem zpZ (hu:X.A.units+1<cLine)(ho:PE X o td)(hi:PE X i ty)(hv:PE X value tv)(hs:swapsWith value (some (.Subscript o i pos')) pos.line X.env=pure false):
  PS X (.Assign [.Subscript o i pos'] value pos) (sDPut td ty tv):=by
 intro pins s σ H D I h
 refine wpAny_Assign_Subscript (thn (hv pins s σ H _ I h) λr s1 ⟨v,H1,I1,rv,q1⟩=>thn (ho pins s1 σ H1 _ I1 q1) λu s2 ⟨x,H2,I2,rx,q2⟩=>thn (hi pins s2 σ H2 _ I2 q2) λiv s3 ⟨y,H3,I3,ry,a,H4,ex,g,q3⟩=>?_) hs
 subst ex
 obtain rfl:u=Value.ref a:=rx
 exact zrX hu I3 g ry rv λs4 I4=>⟨σ,H4,I4,q3⟩
end
theorem zsq {P:Program}{w:World}{H:Hp}(h:Heap)(hb:sysModules<h.objs.size):za6 P w H (h.push { cls:=.type "dict",data:=.dict #[] }) h.objs.size (.dK []):=
 ⟨VaG _,beq_eq_false_iff_ne.mpr (Ne.symm (Vam hb)),[],.nil,Heap.DictOf.new h⟩
theorem zqI {P:Program}{w:World}{H:Hp}(h:Heap)(hb:sysModules<h.objs.size):za6 P w H (h.push { cls:=.type "dict",data:=.dict #[] }) h.objs.size (.dT []):=
 ⟨VaG _,beq_eq_false_iff_ne.mpr (Ne.symm (Vam hb)),[],.nil,_,#[],0,Heap.get?_push_size _ rfl,⟨rfl,rfl,rfl⟩,rfl,rfl,VaP⟩
def zvK:TE:=λ_ H Q=>∀p,H p=none→Q (.ref p) (upd H p (.dK []))
def zwQ:TE:=λ_ H Q=>∀p,H p=none→Q (.ref p) (upd H p (.dT []))
section
variable {X:Cx}{pos:Pos}
theorem zsW:PE X (.Dict [] [] pos) zvK:=λpins s σ H Q I h=>
 wpAny_Dict_empty ⟨.ref s.heap.objs.size,_,I.laid (a:=s.heap.objs.size) (o:=.dK []) (t':=s.toks) (λ_ _ q=>Heap.get?_push_of_some _ q) (Vab _) (zsq s.heap I.big),rfl,h _ (I.hok.fresh (Vab _))⟩
theorem zrZ:PE X (.Dict [] [] pos) zwQ:=λpins s σ H Q I h=>
 wpAny_Dict_empty ⟨.ref s.heap.objs.size,_,I.laid (a:=s.heap.objs.size) (o:=.dT []) (t':=s.toks) (λ_ _ q=>Heap.get?_push_of_some _ q) (Vab _) (zqI s.heap I.big),rfl,h _ (I.hok.fresh (Vab _))⟩
end
section
variable {X:Cx}{pins:List (Addr×Obj)}{σ:St}{H:Hp}{s:Shared}{a:Addr}{y d:V}{u r:Value}{o:Option V}{A:Around}{E:Value→Shared→Prop}
end
section
variable {X:Cx}{o e f:Expr}{apos cpos:Pos}{td ty tx:TE}
end
section
variable {X:Cx}{pins:List (Addr×Obj)}{σ:St}{H:Hp}{s:Shared}{a:Addr}{kvs:List (Key×V)}{A:Around}{E:Value→Shared→Prop}
end
section
variable {X:Cx}{pins:List (Addr×Obj)}{σ:St}{H:Hp}{s:Shared}{a:Addr}{y:V}{u:Value}{A:Around}{E:Value→Shared→Prop}
end
end L2
namespace L3
open PySem PySem.Spec PyProof.Rows L2
abbrev St:=L2.St
inductive D where
 | non | bl (b:Bool) | int (i:Int) | str (x:Str) | tup (xs:List D) | ref (n:Nat) | exc (c:Addr)
inductive Ob where
 | lst (xs:List D) | frz (xs:List D)
  | ins (C:Addr) (fs:List (Str×D))
  | dct (kvs:List (List Key×D))
  | tpl (ws:List Str)
  | dck (kvs:List (Key×D))
abbrev Sto:=List Ob
abbrev Ev:=List (Option D)
abbrev DK:=D→Sto→Prop
abbrev TDE:=Ev→Sto→DK→Prop
abbrev TDT:=Ev→Sto→(Bool→Sto→Prop)→Prop
abbrev TDA:=Ev→Sto→(List D→Sto→Prop)→Prop
structure zbM where
 nx:Ev→Sto→Prop
 rt:DK
 bk:Ev→Sto→Prop:=λ_ _=>False
 ct:Ev→Sto→Prop:=λ_ _=>False
abbrev TDS:=zbM→Ev→Sto→Prop
def isX (a c:Addr):HO:=.ext λh=>∃o,h.get? a=some o∧o.cls=.ref c
inductive Rp (r:List Addr)(H:Hp):D→V→Prop
 | non:Rp r H .non .non
 | bl (b:Bool):Rp r H (.bl b) (.bl b)
 | int (i:Int):Rp r H (.int i) (.int i)
 | str (x:Str):Rp r H (.str x) (.str x)
 | tup {ds:List D} {xs:List V} {a:Addr}:H a=some (.tup xs)→ds.length=xs.length→(∀(i:Nat) (d:D) (v:V),ds[i]?=some d→xs[i]?=some v→Rp r H d v)→Rp r H (.tup ds) (.ref a)
 | ref {n:Nat} {a:Addr}:r[n]?=some a→Rp r H (.ref n) (.ref a)
 | exc {c a:Addr}:H a=some (isX a c)→Rp r H (.exc c) (.ref a)
def Rps (r:List Addr)(H:Hp)(ds:List D)(vs:List V):Prop:=ds.length=vs.length∧∀(i:Nat) (d:D) (v:V),ds[i]?=some d→vs[i]?=some v→Rp r H d v
structure Ext (r r':List Addr)(H H':Hp):Prop where
 adr:∀(n:Nat) (a:Addr),r[n]?=some a→r'[n]?=some a
 tup:∀a xs,H a=some (.tup xs)→H' a=some (.tup xs)
 xc:∀a c,H a=some (isX a c)→H' a=some (isX a c)
section
variable {r r' r2:List Addr}{H H' H2:Hp}{d:D}{v:V}{ds:List D}{vs:List V}
theorem Ext.refl:Ext r r H H:=⟨λ_ _ h=>h,λ_ _ h=>h,λ_ _ h=>h⟩
theorem Ext.trans (a:Ext r r' H H')(b:Ext r' r2 H' H2):Ext r r2 H H2:=⟨λn x h=>b.adr n x (a.adr n x h),λx y h=>b.tup x y (a.tup x y h),λx y h=>b.xc x y (a.xc x y h)⟩
theorem Rp.ext (h:Rp r H d v)(e:Ext r r' H H'):Rp r' H' d v:=by
 induction h with
 | non=>exact .non
 | bl b=>exact .bl b
 | int i=>exact .int i
 | str x=>exact .str x
 | tup h l _ ih=>exact .tup (e.tup _ _ h) l ih
 | ref h=>exact .ref (e.adr _ _ h)
 | exc h=>exact .exc (e.xc _ _ h)
theorem Rps.ext (h:Rps r H ds vs)(e:Ext r r' H H'):Rps r' H' ds vs:=⟨h.1,λi d v h1 h2=>(h.2 i d v h1 h2).ext e⟩
theorem Rps.nil:Rps r H [] []:=⟨rfl,λi d v h=>by simp at h⟩
theorem Rps.cons (h:Rp r H d v)(t:Rps r H ds vs):Rps r H (d::ds) (v::vs):=by
 refine⟨by simp[t.1],λi x y h1 h2=>?_⟩
 cases i with
 | zero=>
  simp at h1 h2
  subst h1; subst h2
  exact h
 | succ i=>exact t.2 i x y (by simpa using h1) (by simpa using h2)
theorem Rps.tail {y:V}(h:Rps r H (d::ds) (y::vs)):Rp r H d y∧Rps r H ds vs:=
 ⟨h.2 0 d y rfl rfl,by simpa using h.1,λi a b h1 h2=>h.2 (i+1) a b (by simpa using h1) (by simpa using h2)⟩
theorem Rps.uncons (h:Rps r H (d::ds) vs):∃v vs',vs=v::vs'∧Rp r H d v∧Rps r H ds vs':=by
 cases vs with
 | nil=>exact absurd h.1 (by simp)
 | cons v vs'=>exact⟨v,vs',rfl,h.tail⟩
theorem Rps.unnil (h:Rps r H [] vs):vs=[]:=by
 cases vs with
 | nil=>rfl
 | cons v vs'=>exact absurd h.1 (by simp)
theorem Rps.get {i:Nat}(h:Rps r H ds vs)(e:ds[i]?=some d):∃v,vs[i]?=some v∧Rp r H d v:=by
 have hi:i<ds.length:=(Vac.mp e).1
 have hv:i<vs.length:=by rw[← h.1]; exact hi
 exact⟨vs[i],by simp[hv],h.2 i d vs[i] e (by simp[hv])⟩
theorem Rps.get' {i:Nat}(h:Rps r H ds vs)(e:vs[i]?=some v):∃d,ds[i]?=some d∧Rp r H d v:=by
 have hv:i<vs.length:=(Vac.mp e).1
 have hi:i<ds.length:=by rw[h.1]; exact hv
 exact⟨ds[i],by simp[hi],h.2 i ds[i] v (by simp[hi]) e⟩
theorem Rps.snoc (h:Rps r H ds vs)(t:Rp r H d v):Rps r H (ds++[d]) (vs++[v]):=by
 refine⟨by simp[h.1],λi x y h1 h2=>?_⟩
 by_cases hi:i<ds.length
 ·rw[Vah hi] at h1
  rw[Vah (by rw[← h.1]; exact hi)] at h2
  exact h.2 i x y h1 h2
 ·have hl:i<(ds++[d]).length:=(Vac.mp h1).1
  have e:i=ds.length:=by simp at hl; omega
  subst e
  rw[VaE (Vab _)] at h1
  rw[h.1,VaE (Vab _)] at h2
  simp at h1 h2
  subst h1; subst h2
  exact t
theorem Rps.tupR {a:Addr}(h:Rps r H ds vs)(e:H a=some (.tup vs)):Rp r H (.tup ds) (.ref a):=.tup e h.1 h.2
theorem Rp.untup {vs:V}(h:Rp r H (.tup ds) vs):∃a xs,vs=.ref a∧H a=some (.tup xs)∧Rps r H ds xs:=by
 cases h with
 | tup e l f=>exact⟨_,_,rfl,e,l,f⟩
end
def SqF (K:PySem.W.Frag)(H:Hp)(a:Addr)(xs:List V):Prop:=
 (∃o,H a=some (.frz o (.lst xs)))∨
  ∃(o:Obj) (its:Array Value) (n:Nat),K.lookup a=some o∧o.cls=.type "list"∧o.dict=none∧o.data=.seq its n∧its.size≤sizeLine∧zas xs its.toList
theorem SqF.sql {K:PySem.W.Frag}{H:Hp}{a:Addr}{xs:List V}(h:SqF K H a xs):SqL K H a xs:=by
 rcases h with ⟨o,h⟩ | h
 ·exact .inl (.inr ⟨o,h⟩)
 ·exact .inr h
def FR {α:Type}(r:List Addr)(H:Hp)(fs:List (α×D))(fs':List (α×V)):Prop:=fs.map (·.1)=fs'.map (·.1)∧Rps r H (fs.map (·.2)) (fs'.map (·.2))
theorem FR.ext {α:Type}{r r':List Addr}{H H':Hp}{fs:List (α×D)}{fs':List (α×V)}(h:FR r H fs fs')(e:Ext r r' H H'):FR r' H' fs fs':=⟨h.1,h.2.ext e⟩
theorem FR.nil {α:Type}{r:List Addr}{H:Hp}:FR (α:=α) r H [] []:=⟨rfl,Rps.nil⟩
def ObR (K:PySem.W.Frag)(r:List Addr)(H:Hp)(a:Addr):Ob→Prop
 | .lst ds=>∃xs,H a=some (.lst xs)∧Rps r H ds xs
 | .frz ds=>∃xs,SqF K H a xs∧Rps r H ds xs
 | .ins C fs=>∃dx fs',H a=some (.ins C dx fs')∧FR r H fs fs'
 | .dct kvs=>∃kvs',H a=some (.dT kvs')∧FR r H kvs kvs'
 | .dck kvs=>∃kvs',H a=some (.dK kvs')∧FR r H kvs kvs'
 | .tpl ws=>∃(o:Obj) (its:Array Value) (n:Nat),K.lookup a=some o∧o.cls=.type "tuple"∧o.data=.seq its n∧its.size≤sizeLine∧zas (ws.map V.str) its.toList
def zdA:Ob→Bool
 | .frz _=>false
 | .tpl _=>false
 | _=>true
structure zaM (K:PySem.W.Frag)(r:List Addr)(S:Sto)(H:Hp):Prop where
 len:r.length=S.length
 ob:∀(n:Nat) (a:Addr) (o:Ob),r[n]?=some a→S[n]?=some o→ObR K r H a o
 nd:∀(n m:Nat) (a:Addr) (o u:Ob),r[n]?=some a→r[m]?=some a→S[n]?=some o→S[m]?=some u→zdA o=true→zdA u=true→n=m
def zan:Ob→List D
 | .lst ds=>ds
 | .frz ds=>ds
 | _=>[.exc 0]
def zcb:Ob→Option Ob
 | .lst ds=>some (.lst ds)
 | .frz ds=>some (.frz ds)
 | _=>none
def lAt (S:Sto)(n:Nat):Option Ob:=(S[n]?).bind zcb
theorem zw0 {o u:Ob}(h:zcb o=some u):u=o:=by
 cases o <;> simp[zcb] at h <;> exact h.symm
theorem zb5 {S:Sto}{n:Nat}{o:Ob}(h:lAt S n=some o):S[n]?=some o∧zcb o=some o:=by
  unfold lAt at h
  cases q:S[n]? with
  | none=>
   rw[q] at h
   cases h
  | some u=>
    rw[q] at h
    have h':zcb u=some o:=h
    have e:=zw0 h'
    subst e
    exact⟨rfl,h'⟩
theorem zbd {S:Sto}{n:Nat}{o:Ob}(h:S[n]?=some o)(hL:zcb o=some o):lAt S n=some o:=by
 unfold lAt
 rw[h]
 exact hL
section
variable {K:PySem.W.Frag}{r r':List Addr}{S:Sto}{H H':Hp}{n:Nat}{a p:Addr}
theorem zaM.at {o:Ob}(h:zaM K r S H)(e:S[n]?=some o):∃a,r[n]?=some a∧ObR K r H a o:=by
 have hn:n<S.length:=(Vac.mp e).1
 have hr:n<r.length:=by rw[h.len]; exact hn
 exact⟨r[n],by simp[hr],h.ob n r[n] o (by simp[hr]) e⟩
theorem ObR.list {o:Ob}(h:ObR K r H a o)(hL:zcb o=some o):∃xs,SqL K H a xs∧Rps r H (zan o) xs:=by
 cases o with
 | lst ds=>obtain⟨xs,e,q⟩:=h; exact⟨xs,SqL.of e,q⟩
 | frz ds=>obtain⟨xs,e,q⟩:=h; exact⟨xs,e.sql,q⟩
 | ins C fs=>cases hL
 | dct kvs=>cases hL
 | dck kvs=>cases hL
 | tpl ws=>cases hL
theorem ObR.keep {o:Ob}(q:ObR K r H a o)(x:Ext r r' H H')(ha:∀u,H a=some u→H' a=some u):ObR K r' H' a o:=by
 cases o with
 | lst ds=>obtain⟨xs,h3,h4⟩:=q; exact⟨xs,ha _ h3,h4.ext x⟩
 | frz ds=>
  obtain⟨xs,h3,h4⟩:=q
  refine⟨xs,?_,h4.ext x⟩
  rcases h3 with ⟨o,h3⟩ | h3
  ·exact .inl ⟨o,ha _ h3⟩
  ·exact .inr h3
 | ins C fs=>obtain⟨dx,fs',h3,h4⟩:=q; exact⟨dx,fs',ha _ h3,h4.ext x⟩
 | dct kvs=>obtain⟨ks,h3,h4⟩:=q; exact⟨ks,ha _ h3,h4.ext x⟩
 | dck kvs=>obtain⟨ks,h3,h4⟩:=q; exact⟨ks,ha _ h3,h4.ext x⟩
 | tpl ws=>exact q
theorem ObR.own {o:Ob}(q:ObR K r H a o)(h:zdA o=true):∃u,H a=some u∧(∀xs,u≠HO.tup xs)∧(∀b c,u≠isX b c)∧∀z y,u≠HO.frz z y:=by
 cases o with
 | lst ds=>obtain⟨xs,h3,h4⟩:=q; exact⟨_,h3,(λ_ z=>by cases z),(λ_ _ z=>by cases z),(λ_ _ z=>by cases z)⟩
 | frz ds=>cases h
 | tpl ws=>cases h
 | ins C fs=>obtain⟨dx,fs',h3,h4⟩:=q; exact⟨_,h3,(λ_ z=>by cases z),(λ_ _ z=>by cases z),(λ_ _ z=>by cases z)⟩
 | dct kvs=>obtain⟨ks,h3,h4⟩:=q; exact⟨_,h3,(λ_ z=>by cases z),(λ_ _ z=>by cases z),(λ_ _ z=>by cases z)⟩
 | dck kvs=>obtain⟨ks,h3,h4⟩:=q; exact⟨_,h3,(λ_ z=>by cases z),(λ_ _ z=>by cases z),(λ_ _ z=>by cases z)⟩
theorem zaM.same (h:zaM K r S H)(e:∀b o,H b=some o→H' b=some o):zaM K r S H':=
 ⟨h.len,λn a o h1 h2=>(h.ob n a o h1 h2).keep ⟨λ_ _ q=>q,λa xs q=>e _ _ q,λa c q=>e _ _ q⟩ (e a),h.nd⟩
theorem zcY {o:HO}(h:H p=none):∀b u,H b=some u→(upd H p o) b=some u:=λb u q=>by rw[za2 (zdL q h)]; exact q
theorem zeA {n:Nat}{b:Addr}(e:(r++[p])[n]?=some b):(n<r.length∧r[n]?=some b)∨(n=r.length∧b=p):=by
 by_cases hn:n<r.length
 ·rw[Vah hn] at e; exact .inl ⟨hn,e⟩
 ·have hl:n<(r++[p]).length:=(Vac.mp e).1
  have en:n=r.length:=by simp at hl; omega
  subst en
  rw[VaE (Vab _)] at e
  simp at e
  exact .inr ⟨rfl,e.symm⟩
theorem zaM.pushO {o:Ob}(h:zaM K r S H)(hp:H p=none)(keep:∀b u,H b=some u→H' b=some u)(q:Ext r (r++[p]) H H'→ObR K (r++[p]) H' p o):zaM K (r++[p]) (S++[o]) H'∧Ext r (r++[p]) H H':=by
 have x:Ext r (r++[p]) H H':=⟨λn a e=>by
  have hn:n<r.length:=(Vac.mp e).1
  rw[Vah hn]; exact e,λa ys e=>keep _ _ e,λa c e=>keep _ _ e⟩
 have sS:∀ {n:Nat} {u:Ob},n<r.length→(S++[o])[n]?=some u→S[n]?=some u:=λ{n u} hn e=>by
  rw[Vah (by rw[← h.len]; exact hn)] at e; exact e
 refine⟨⟨by simp[h.len],λn a u h1 h2=>?_,λn m a u w h1 h2 h3 h4 o1 o2=>?_⟩,x⟩
 ·rcases zeA h1 with ⟨hn,e⟩ | ⟨rfl,rfl⟩
  ·exact(h.ob n a u e (sS hn h2)).keep x (keep a)
  ·rw[h.len,VaE (Vab _)] at h2
   simp at h2
   subst h2
   exact q x
 ·rcases zeA h1 with ⟨hn,e⟩ | ⟨rfl,rfl⟩
  ·rcases zeA h2 with ⟨hm,e'⟩ | ⟨rfl,rfl⟩
   ·exact h.nd n m a u w e e' (sS hn h3) (sS hm h4) o1 o2
   ·obtain⟨zs,h5,_⟩:=(h.ob n _ _ e (sS hn h3)).own o1
    rw[hp] at h5; cases h5
  ·rcases zeA h2 with ⟨hm,e'⟩ | ⟨rfl,_⟩
   ·obtain⟨zs,h5,_⟩:=(h.ob m _ _ e' (sS hm h4)).own o2
    rw[hp] at h5; cases h5
   ·rfl
theorem zaM.pushF {o:Ob}(h:zaM K r S H)(ho:zdA o=false)(q:ObR K (r++[p]) H p o):zaM K (r++[p]) (S++[o]) H∧Ext r (r++[p]) H H:=by
 have x:Ext r (r++[p]) H H:=⟨λn a e=>by
  have hn:n<r.length:=(Vac.mp e).1
  rw[Vah hn]; exact e,λa ys e=>e,λa c e=>e⟩
 have sS:∀ {n:Nat} {u:Ob},n<r.length→(S++[o])[n]?=some u→S[n]?=some u:=λ{n u} hn e=>by
  rw[Vah (by rw[← h.len]; exact hn)] at e; exact e
 have sL:∀ {u:Ob},(S++[o])[r.length]?=some u→u=o:=λ{u} e=>by
  rw[h.len,VaE (Vab _)] at e
  simp at e
  exact e.symm
 refine⟨⟨by simp[h.len],λn a u h1 h2=>?_,λn m a u w h1 h2 h3 h4 o1 o2=>?_⟩,x⟩
 ·rcases zeA h1 with ⟨hn,e⟩ | ⟨rfl,rfl⟩
  ·exact(h.ob n a u e (sS hn h2)).keep x λ_ e=>e
  ·rw[sL h2]
   exact q
 ·rcases zeA h1 with ⟨hn,e⟩ | ⟨rfl,rfl⟩
  ·rcases zeA h2 with ⟨hm,e'⟩ | ⟨rfl,rfl⟩
   ·exact h.nd n m a u w e e' (sS hn h3) (sS hm h4) o1 o2
   ·rw[sL h4,ho] at o2; cases o2
  ·rw[sL h3,ho] at o1; cases o1
theorem zaM.push {ds:List D}{xs:List V}(h:zaM K r S H)(hp:H p=none)(q:Rps r H ds xs):zaM K (r++[p]) (S++[.lst ds]) (upd H p (.lst xs))∧Ext r (r++[p]) H (upd H p (.lst xs)):=
 h.pushO hp (zcY hp) λx=>⟨xs,zbP,q.ext x⟩
theorem zaM.setO {o o':Ob}{u:HO}(h:zaM K r S H)(hn:r[n]?=some a)(hS:S[n]?=some o)(ho:zdA o=true)(ho':zdA o'=true)(q:Ext r r H (upd H a u)→ObR K r (upd H a u) a o'):zaM K r (S.set n o') (upd H a u)∧Ext r r H (upd H a u):=by
 obtain⟨u0,h0,t1,t2,t3⟩:=(h.ob n a _ hn hS).own ho
 have x:Ext r r H (upd H a u):=⟨λ_ _ e=>e,λb zs e=>by
  rw[za2 (zh7 e h0 (λz=>t1 zs z.symm))]; exact e,λb c e=>by
  rw[za2 (zh7 e h0 (λz=>t2 b c z.symm))]; exact e⟩
 have hlt:n<S.length:=(Vac.mp hS).1
 have off:∀ {m:Nat} {w:Ob},m≠n→(S.set n o')[m]?=some w→S[m]?=some w:=λ{m w} hm e=>by
  rw[VaJ (Ne.symm hm)] at e; exact e
 refine⟨⟨by simp[h.len],λm b w h1 h2=>?_,λm k b w y h1 h2 h3 h4 o1 o2=>?_⟩,x⟩
 ·by_cases hm:m=n
  ·subst hm
   rw[hn] at h1; cases h1
   rw[VaV hlt] at h2
   cases h2
   exact q x
  ·have h2':=off hm h2
   have q':=h.ob m b w h1 h2'
   by_cases hw:zdA w=true
   ·have hb:b≠a:=λz=>hm (by subst z; exact h.nd m n b w o h1 hn h2' hS hw ho)
    exact q'.keep x λz e=>by rw[za2 hb]; exact e
   ·cases w with
    | frz es=>
     obtain⟨zs,h3,h4⟩:=q'
     refine⟨zs,?_,h4.ext x⟩
     rcases h3 with ⟨z,h3⟩ | h3
     ·exact .inl ⟨z,by rw[za2 (zh7 h3 h0 (λy=>t3 _ _ y.symm))]; exact h3⟩
     ·exact .inr h3
    | tpl ws=>exact q'
    | _=>exact absurd rfl hw
 ·have back:∀ {j:Nat} {w:Ob},(S.set n o')[j]?=some w→zdA w=true→∃y,S[j]?=some y∧zdA y=true:=λ{j w} e ow=>by
   by_cases hj:j=n
   ·subst hj; exact⟨o,hS,ho⟩
   ·exact⟨w,off hj e,ow⟩
  obtain⟨us',h3',q3⟩:=back h3 o1
  obtain⟨ws',h4',q4⟩:=back h4 o2
  exact h.nd m k b us' ws' h1 h2 h3' h4' q3 q4
theorem zaM.set {ds ds':List D}{xs:List V}(h:zaM K r S H)(hn:r[n]?=some a)(hS:S[n]?=some (.lst ds))(q:Rps r H ds' xs):zaM K r (S.set n (.lst ds')) (upd H a (.lst xs))∧Ext r r H (upd H a (.lst xs)):=
 h.setO hn hS rfl rfl λx=>⟨xs,zbP,q.ext x⟩
end
def Rs (r:List Addr)(H:Hp)(dl:Ev)(σ:St):Prop:=dl.length=σ.length∧∀(i:Nat) (d:D),dl[i]?=some (some d)→∃v,σ[i]?=some (some v)∧Rp r H d v
theorem Rs.ext {r r':List Addr}{H H':Hp}{dl:Ev}{σ:St}(h:Rs r H dl σ)(e:Ext r r' H H'):Rs r' H' dl σ:=⟨h.1,λi d q=>by
 obtain⟨v,h1,h2⟩:=h.2 i d q
 exact⟨v,h1,h2.ext e⟩⟩
theorem Rs.set {r:List Addr}{H:Hp}{dl:Ev}{σ:St}{d:D}{v:V}(i:Nat)(h:Rs r H dl σ)(q:Rp r H d v):Rs r H (dl.set i (some d)) (σ.set i (some v)):=by
 refine⟨by simp[h.1],λj e hj=>?_⟩
 by_cases hij:i=j
 ·subst hij
  have hl:i<dl.length:=by
   have:=(Vac.mp hj).1
   simpa using this
  rw[VaV hl] at hj
  cases hj
  exact⟨v,by rw[VaV (by rw[← h.1]; exact hl)],q⟩
 ·rw[VaJ hij] at hj
  obtain⟨v',h1,h2⟩:=h.2 j e hj
  exact⟨v',by rw[VaJ hij]; exact h1,h2⟩
structure Zx where
 ex:Ev→Addr→Sto→Prop
 w:St→XK
abbrev Zc (ex:Addr→Sto→Prop)(E:XK):Zx:=⟨λ_=>ex,λ_=>E⟩
def zeQ (K:PySem.W.Frag)(Z:Zx)(r:List Addr)(H:Hp):Prop:=∀(dl:Ev) (σ:St) (c:Addr) (H':Hp) (r':List Addr) (S':Sto),Ext r r' H H'→Rs r' H' dl σ→zaM K r' S' H'→Z.ex dl c S'→Z.w σ (.ref c) none H'
theorem zeQ.ext {K:PySem.W.Frag}{Z:Zx}{r r':List Addr}{H H':Hp}(h:zeQ K Z r H)(e:Ext r r' H H'):zeQ K Z r' H':=λdl σ c H2 r2 S2 x=>h dl σ c H2 r2 S2 (e.trans x)
structure Rel (K:PySem.W.Frag)(Z:Zx)(r:List Addr)(S:Sto)(H:Hp):Prop where
 b:zaM K r S H
 xw:zeQ K Z r H
section
variable {K:PySem.W.Frag}{Z:Zx}{r r':List Addr}{S:Sto}{H H':Hp}{n:Nat}{a p:Addr}
theorem Rel.len (h:Rel K Z r S H):r.length=S.length:=h.b.len
theorem Rel.at {o:Ob}(h:Rel K Z r S H)(e:S[n]?=some o):∃a,r[n]?=some a∧ObR K r H a o:=h.b.at e
theorem Rel.same (h:Rel K Z r S H)(e:∀b o,H b=some o→H' b=some o):Rel K Z r S H':=⟨h.b.same e,h.xw.ext ⟨λ_ _ q=>q,λa xs q=>e _ _ q,λa c q=>e _ _ q⟩⟩
theorem Rel.push {ds:List D}{xs:List V}(h:Rel K Z r S H)(hp:H p=none)(q:Rps r H ds xs):Rel K Z (r++[p]) (S++[.lst ds]) (upd H p (.lst xs))∧Ext r (r++[p]) H (upd H p (.lst xs)):=by
 obtain⟨h1,h2⟩:=h.b.push hp q
 exact⟨⟨h1,h.xw.ext h2⟩,h2⟩
theorem Rel.set {ds ds':List D}{xs:List V}(h:Rel K Z r S H)(hn:r[n]?=some a)(hS:S[n]?=some (.lst ds))(q:Rps r H ds' xs):Rel K Z r (S.set n (.lst ds')) (upd H a (.lst xs))∧Ext r r H (upd H a (.lst xs)):=by
 obtain⟨h1,h2⟩:=h.b.set hn hS q
 exact⟨⟨h1,h.xw.ext h2⟩,h2⟩
end
def Ret (K:PySem.W.Frag)(Z:Zx)(r:List Addr)(H:Hp)(Q:DK)(Qv:VK):Prop:=∀v H' r' d S',Ext r r' H H'→Rel K Z r' S' H'→Rp r' H' d v→Q d S'→Qv v H'
theorem Ret.ext {K:PySem.W.Frag}{Z:Zx}{r r':List Addr}{H H':Hp}{Q:DK}{Qv:VK}(h:Ret K Z r H Q Qv)(e:Ext r r' H H'):Ret K Z r' H' Q Qv:=λv H2 r2 d S2 x=>h v H2 r2 d S2 (e.trans x)
def up (K:PySem.W.Frag)(Z:Zx)(t:TDE):TE:=λσ H Qv=>∃r dl S Q,Rs r H dl σ∧Rel K Z r S H∧t dl S Q∧Ret K Z r H Q Qv
def upT (K:PySem.W.Frag)(Z:Zx)(t:TDT):TT:=λσ H Qb=>∃r dl S Q,Rs r H dl σ∧Rel K Z r S H∧t dl S Q∧∀b H' r' S',Ext r r' H H'→Rel K Z r' S' H'→Q b S'→Qb b H'
def upA (K:PySem.W.Frag)(Z:Zx)(t:TDA):TA:=λσ H Qv=>∃r dl S Q,Rs r H dl σ∧Rel K Z r S H∧t dl S Q∧∀vs H' r' ds S',Ext r r' H H'→Rel K Z r' S' H'→Rps r' H' ds vs→Q ds S'→Qv vs H'
structure zjA (K:PySem.W.Frag)(Z:Zx)(r:List Addr)(H:Hp)(E:zbM)(F:zd2):Prop where
 nx:∀σ' H' r' dl' S',Ext r r' H H'→Rs r' H' dl' σ'→Rel K Z r' S' H'→E.nx dl' S'→F.nx σ' H'
 bk:∀σ' H' r' dl' S',Ext r r' H H'→Rs r' H' dl' σ'→Rel K Z r' S' H'→E.bk dl' S'→F.bk σ' H'
 ct:∀σ' H' r' dl' S',Ext r r' H H'→Rs r' H' dl' σ'→Rel K Z r' S' H'→E.ct dl' S'→F.ct σ' H'
 rt:Ret K Z r H E.rt F.rt
theorem zjA.ext {K:PySem.W.Frag}{Z:Zx}{r r':List Addr}{H H':Hp}{E:zbM}{F:zd2}(h:zjA K Z r H E F)(e:Ext r r' H H'):zjA K Z r' H' E F:=
 ⟨λa b c d f x=>h.nx a b c d f (e.trans x),λa b c d f x=>h.bk a b c d f (e.trans x),λa b c d f x=>h.ct a b c d f (e.trans x),h.rt.ext e⟩
def upS (K:PySem.W.Frag)(Z:Zx)(t:TDS):TS:=λF σ H=>∃r dl S E,Rs r H dl σ∧Rel K Z r S H∧t E dl S∧zjA K Z r H E F
def PD (X:Cx)(Z:Zx)(e:Expr)(t:TDE):Prop:=PE X e (up X.K Z t)
def PDT (X:Cx)(Z:Zx)(e:Expr)(t:TDT):Prop:=PT X e (upT X.K Z t)
def PDW (X:Cx)(Z:Zx)(e:Expr)(t:TDT):Prop:=PW X e (upT X.K Z t)
def PDA (X:Cx)(Z:Zx)(es:List Expr)(t:TDA):Prop:=PA X es (upA X.K Z t)
def PDS (X:Cx)(Z:Zx)(st:Stmt)(t:TDS):Prop:=PS X st (upS X.K Z t)
def zcB (X:Cx)(Z:Zx)(st:List Stmt)(t:TDS):Prop:=PSs X st (upS X.K Z t)
section
variable {X:Cx}{Z:Zx}
theorem zaK {e:Expr}{t t':TE}(h:PE X e t)(f:∀σ H Q,t' σ H Q→t σ H Q):PE X e t':=λpins s σ H Q I q=>h pins s σ H Q I (f σ H Q q)
theorem ze0 {e:Expr}{t t':TT}(h:PT X e t)(f:∀σ H Q,t' σ H Q→t σ H Q):PT X e t':=λpins s σ H Q I q=>h pins s σ H Q I (f σ H Q q)
theorem znW {e:Expr}{t t':TT}(h:PW X e t)(f:∀σ H Q,t' σ H Q→t σ H Q):PW X e t':=λwh pins s σ H Q I q=>h wh pins s σ H Q I (f σ H Q q)
theorem znp {e:List Expr}{t t':TA}(h:PA X e t)(f:∀σ H Q,t' σ H Q→t σ H Q):PA X e t':=λpos pins s σ H Q I q=>h pos pins s σ H Q I (f σ H Q q)
theorem zb2 {e:Stmt}{t t':TS}(h:PS X e t)(f:∀F σ H,t' F σ H→t F σ H):PS X e t':=λpins s σ H F I q=>h pins s σ H F I (f F σ H q)
theorem znd {e:List Stmt}{t t':TS}(h:PSs X e t)(f:∀F σ H,t' F σ H→t F σ H):PSs X e t':=λpins s σ H F I q=>h pins s σ H F I (f F σ H q)
theorem PDW.pt {e:Expr}{t:TDT}(h:PDW X Z e t):PDT X Z e t:=PW.pt h
def zb9 (i:Nat):TDE:=λdl S Q=>match dl[i]? with
 | some (some d)=>Q d S
 | _=>False
def dC (d:D):TDE:=λ_ S Q=>Q d S
theorem zrS {e:Expr}{i:Nat}(h:PE X e (tVar i)):PD X Z e (zb9 i):=zaK h λσ H Qv ⟨r,dl,S,Q,rs,rel,q,ret⟩=>by
 unfold zb9 at q
 split at q
 ·rename_i d e
  obtain⟨v,h1,h2⟩:=rs.2 i d e
  exact⟨v,h1,ret v H r d S Ext.refl rel h2 q⟩
 ·exact q.elim
theorem dv (i:Nat){x:Str}{pos:Pos}(hN:X.N[i]?=some x:=by rfl)(hv:Vis X.env.scope x:=by first | exact Or.inl rfl | exact Or.inr (Or.inl rfl) | exact Or.inr (Or.inr rfl))(hd:(x==("__debug__":Str))=false:=by decide)
  (hcd:(x==("__classdict__":Str))=false:=by decide):PD X Z (.Name x pos) (zb9 i):=zrS (znQ hN hv hd hcd)
theorem zl2 {e:Expr}{d:D}{v:V}(h:PE X e (tC v))(q:∀r H,Rp r H d v):PD X Z e (dC d):=zaK h λσ H Qv ⟨r,dl,S,Q,rs,rel,h,ret⟩=>ret v H r d S Ext.refl rel (q r H) h
theorem zae {i j pos}:PD X Z (.Constant (.int i) j pos) (dC (.int i)):=zl2 zvw λ_ _=>.int i
theorem zdl {b j pos}:PD X Z (.Constant (.bool b) j pos) (dC (.bl b)):=zl2 pe_bl λ_ _=>.bl b
theorem zai {x j pos}:PD X Z (.Constant (.str x) j pos) (dC (.str x)):=zl2 ztr λ_ _=>.str x
abbrev W2:=D→D→Sto→DK→Prop
abbrev W1:=D→Sto→DK→Prop
def upO (K:PySem.W.Frag)(Z:Zx)(w:W2):R2:=λx y H Qv=>∃r S dx dy Q,Rel K Z r S H∧Rp r H dx x∧Rp r H dy y∧w dx dy S Q∧Ret K Z r H Q Qv
def upU (K:PySem.W.Frag)(Z:Zx)(w:W1):V→Hp→VK→Prop:=λx H Qv=>∃r S dx Q,Rel K Z r S H∧Rp r H dx x∧w dx S Q∧Ret K Z r H Q Qv
def dOp (w:W2)(ta tb:TDE):TDE:=λdl S Q=>ta dl S λx S1=>tb dl S1 λy S2=>w x y S2 Q
def dUn (w:W1)(ta:TDE):TDE:=λdl S Q=>ta dl S λx S1=>w x S1 Q
variable {a b c:Expr}{ta tb tc:TDE}{pos:Pos}
theorem zkX {w:W2}{σ:St}{H:Hp}{Qv:VK}(h:up X.K Z (dOp w ta tb) σ H Qv):tOp (upO X.K Z w) (up X.K Z ta) (up X.K Z tb) σ H Qv:=by
 obtain⟨r,dl,S,Q,rs,rel,h,ret⟩:=h
 exact⟨r,dl,S,_,rs,rel,h,λv H1 r1 dx S1 e1 rel1 p1 h1=>⟨r1,dl,S1,_,rs.ext e1,rel1,h1,λv2 H2 r2 dy S2 e2 rel2 p2 h2=>⟨r2,S2,dx,dy,Q,rel2,p1.ext e2,p2,h2,ret.ext (e1.trans e2)⟩⟩⟩
theorem zaj {op:Operator}{w:W2}(ho:OpR X (binaryOp op) (upO X.K Z w))(ha:PD X Z a ta)(hb:PD X Z b tb):PD X Z (.BinOp a op b pos) (dOp w ta tb):=zaK (pe_op ho ha hb) λ_ _ _ h=>zkX h
theorem znE {op:UnaryOp}{w:W1}(ho:UnR X (unaryOp op) (upU X.K Z w))(ha:PD X Z a ta):PD X Z (.UnaryOp op a pos) (dUn w ta):=zaK (pe_un ho ha) λσ H Qv ⟨r,dl,S,Q,rs,rel,h,ret⟩=>
 ⟨r,dl,S,_,rs,rel,h,λv H1 r1 dx S1 e1 rel1 p1 h1=>⟨r1,S1,dx,Q,rel1,p1,h1,ret.ext e1⟩⟩
theorem zdU {op:CmpOp}{w:W2}(ho:OpR X (compareOp op) (upO X.K Z w))(ha:PD X Z a ta)(hb:PD X Z b tb)(hm:behindInMarks op b=false):PD X Z (.Compare a [op] [b] pos) (dOp w ta tb):=zaK (zpx ho ha hb hm) λ_ _ _ h=>zkX h
theorem zfX {f:Value→Value→Sem Value}{r r':R2}(h:OpR X f r)(g:∀x y H Q,r' x y H Q→r x y H Q):OpR X f r':=λpins s σ H x y v u Q I rx ry q=>h pins s σ H x y v u Q I rx ry (g x y H Q q)
theorem zsn {f:Value→Sem Value}{r r':V→Hp→VK→Prop}(h:UnR X f r)(g:∀x H Q,r' x H Q→r x H Q):UnR X f r':=λpins s σ H x v Q I rx q=>h pins s σ H x v Q I rx (g x H Q q)
theorem zgr {f:Value}{r r':List V→Hp→VK→Prop}(h:zbj X f r)(g:∀x H Q,r' x H Q→r x H Q):zbj X f r':=λpins s σ H xs us Q I rx q=>h pins s σ H xs us Q I rx (g xs H Q q)
def wI (C:Int→Int→Prop)(g:Int→Int→D):W2:=λx y S Q=>match x,y with
 | .int i,.int j=>C i j∧Q (g i j) S
 | _,_=>False
def wI0 (g:Int→Int→D):W2:=λx y S Q=>match x,y with
 | .int i,.int j=>Q (g i j) S
 | _,_=>False
theorem opD {f:Value→Value→Sem Value}{C:Int→Int→Prop}{g:Int→Int→V}{g':Int→Int→D}(h:OpR X f (rI C g))(hg:∀r H i j,Rp r H (g' i j) (g i j)):OpR X f (upO X.K Z (wI C g')):=
 zfX h λx y H Qv ⟨r,S,dx,dy,Q,rel,px,py,q,ret⟩=>by
  cases px <;> cases py <;> first
   | exact⟨_,_,rfl,rfl,q.1,ret _ _ _ _ _ Ext.refl rel (hg _ _ _ _) q.2⟩
   | exact(show False from q).elim
theorem zfn {f:Value→Value→Sem Value}{g:Int→Int→V}{g':Int→Int→D}(h:OpR X f (rI0 g))(hg:∀r H i j,Rp r H (g' i j) (g i j)):OpR X f (upO X.K Z (wI0 g')):=
 zfX h λx y H Qv ⟨r,S,dx,dy,Q,rel,px,py,q,ret⟩=>by
  cases px <;> cases py <;> first
   | exact⟨_,_,rfl,rfl,ret _ _ _ _ _ Ext.refl rel (hg _ _ _ _) q⟩
   | exact(show False from q).elim
abbrev wAdd:W2:=wI0 λi j=>.int (i+j)
abbrev wSub:W2:=wI0 λi j=>.int (i-j)
abbrev wMul:W2:=wI IntMulOk λi j=>.int (i*j)
def CFd (_ j:Int):Prop:=0<j∧j.natAbs.log2<9000
abbrev wFdiv:W2:=wI CFd λi j=>.int (i/j)
def CFn (_ j:Int):Prop:=j≠0∧j.natAbs.log2<9000
abbrev zsV:W2:=wI CFn λi j=>.int (i.fdiv j)
abbrev wMod:W2:=wI (λ_ j=>0<j) λi j=>.int (i%j)
abbrev wPow:W2:=wI CPow λi j=>.int (i^j.toNat)
theorem zeC:OpR X (binaryOp .Add) (upO X.K Z wAdd):=zfn zwJ λ_ _ _ _=>.int _
theorem zhq:OpR X (binaryOp .Sub) (upO X.K Z wSub):=zfn zvh λ_ _ _ _=>.int _
theorem zeX:OpR X (binaryOp .Mult) (upO X.K Z wMul):=opD (opI λ_ _ _ _ _ _ _ hc q=>mul_int q hc) λ_ _ _ _=>.int _
theorem zk1:OpR X (binaryOp .FloorDiv) (upO X.K Z wFdiv):=opD (opI λi j _ _ _ _ _ hc q=>floordiv_int (by have h:0<j:=hc.1; omega) (by have h:0<j:=hc.1; rw[Int.fdiv_eq_ediv_of_nonneg i (by omega)]; exact q) (.inl (PyProof.noPylong_of_log2 hc.2))) λ_ _ _ _=>.int _
theorem znz:OpR X (binaryOp .FloorDiv) (upO X.K Z zsV):=opD (opI λ_ _ _ _ _ _ _ hc q=>floordiv_int hc.1 q (.inl (PyProof.noPylong_of_log2 hc.2))) λ_ _ _ _=>.int _
theorem zeL:OpR X (binaryOp .Mod) (upO X.K Z wMod):=opD zq2 λ_ _ _ _=>.int _
theorem zra:OpR X (binaryOp .Pow) (upO X.K Z wPow):=opD zrp λ_ _ _ _=>.int _
abbrev wLt:W2:=wI0 λi j=>.bl (decide (i<j))
abbrev wLe:W2:=wI0 λi j=>.bl (decide (i≤j))
abbrev wGt:W2:=wI0 λi j=>.bl (decide (j<i))
abbrev wGe:W2:=wI0 λi j=>.bl (decide (j≤i))
theorem zgf:OpR X (compareOp .Lt) (upO X.K Z wLt):=zfn op_lt λ_ _ _ _=>.bl _
theorem znR:OpR X (compareOp .LtE) (upO X.K Z wLe):=zfn op_le λ_ _ _ _=>.bl _
theorem zkq:OpR X (compareOp .Gt) (upO X.K Z wGt):=zfn op_gt λ_ _ _ _=>.bl _
theorem do_ge:OpR X (compareOp .GtE) (upO X.K Z wGe):=zfn op_ge λ_ _ _ _=>.bl _
def wNeg:W1:=λx S Q=>match x with
 | .int i=>Q (.int (-i)) S
 | _=>False
theorem zmP:UnR X (unaryOp .USub) (upU X.K Z wNeg):=zsn zrb λx H Qv ⟨r,S,dx,Q,rel,px,q,ret⟩=>by
 cases px <;> first
  | exact⟨_,rfl,ret _ _ _ _ _ Ext.refl rel (.int _) q⟩
  | exact(show False from q).elim
end
def eqF:D→D→Option Bool
 | .non,.non=>some true
 | .bl i,.bl j=>some (i==j)
 | .int i,.int j=>some (decide (i=j))
 | .str i,.str j=>some (decide (i=j))
 | .non,.int _=>some false | .int _,.non=>some false | .non,.bl _=>some false | .bl _,.non=>some false | .non,.str _=>some false | .str _,.non=>some false
 | .int _,.str _=>some false | .str _,.int _=>some false | .bl _,.str _=>some false | .str _,.bl _=>some false
 | _,_=>none
def eqL (f:D→D→Option Bool):List D→List D→Option Bool
 | [],[]=>some true
 | x::xs,y::ys=>match f x y,eqL f xs ys with
  | some b,some c=>some (b&&c)
  | _,_=>none
 | _,_=>some false
def eqT (f:D→D→Option Bool):D→D→Option Bool
 | .tup xs,.tup ys=>eqL f xs ys
 | x,y=>eqF x y
abbrev eq1:D→D→Option Bool:=eqT eqF
abbrev eq2:D→D→Option Bool:=eqT eq1
def zd6 (n:Nat)(f:D→D→Option Bool):Prop:=∀(X:Cx) (pins:List (Addr×Obj)) (σ:St) (H:Hp) (s:Shared) (r:List Addr) (A:Around) (dx dy:D) (x y:V) (u v:Value) (b:Bool),
 Inv X pins σ H s→A.units+n<cLine→Rp r H dx x→Rp r H dy y→zal x u→zal y v→f dx dy=some b→SeqAt.EqAt A s u v b
def zga (f:D→D→Option Bool):Prop:=∀(r:List Addr) (H:Hp) (dx dy:D) (x:V) (b:Bool),Rp r H dx x→Rp r H dy x→f dx dy=some b→b=true
theorem zf2:zga eqF:=by
 intro r H dx dy x b px py e
 cases px <;> cases py <;> simp[eqF] at e <;> first | exact e.symm | exact e
theorem zou {f:D→D→Option Bool}(hf:zga f){r:List Addr}{H:Hp}:∀ {xs ys:List D} {vs:List V} {b:Bool},Rps r H xs vs→Rps r H ys vs→eqL f xs ys=some b→b=true
 | [],[],_,b,_,_,e=>by simp[eqL] at e; exact e
 | [],y::ys,vs,b,p,q,e=>by
  have h1:=p.unnil
  subst h1
  exact absurd q.1 (by simp)
 | x::xs,[],vs,b,p,q,e=>by
  have h1:=q.unnil
  subst h1
  exact absurd p.1 (by simp)
 | x::xs,y::ys,vs,b,p,q,e=>by
  obtain⟨v,vs',rfl,p1,p2⟩:=p.uncons
  obtain⟨q1,q2⟩:=q.tail
  unfold eqL at e
  split at e
  ·rename_i b1 c1 e1 e2
   have h1:=hf r H x y v b1 p1 q1 e1
   have h2:=zou hf p2 q2 e2
   subst h1; subst h2
   simp at e
   exact e
  ·cases e
theorem zom {f:D→D→Option Bool}(hf:zga f):zga (eqT f):=by
 intro r H dx dy x b px py e
 cases px with
 | tup e1 l1 f1=>
  cases py with
  | tup e2 l2 f2=>
   rw[e1] at e2; cases e2
   exact zou hf ⟨l1,f1⟩ ⟨l2,f2⟩ e
  | ref h=>simp[eqT,eqF] at e
  | exc h=>simp[eqT,eqF] at e
 | non=>exact zf2 r H _ _ _ b .non py (by cases py <;> exact e)
 | bl i=>exact zf2 r H _ _ _ b (.bl i) py (by cases py <;> exact e)
 | int i=>exact zf2 r H _ _ _ b (.int i) py (by cases py <;> exact e)
 | str i=>exact zf2 r H _ _ _ b (.str i) py (by cases py <;> exact e)
 | ref h=>cases py <;> simp[eqT,eqF] at e
 | exc h=>cases py <;> simp[eqT,eqF] at e
theorem zlI (n:Nat):zd6 n eqF:=by
 intro X pins σ H s r A dx dy x y u v b I hu px py rx ry e
 have fin:∀ {x y:V},zal x u→zal y v→zc5 x=true→zc5 y=true→eqV x y=b→SeqAt.EqAt A s u v b:=λrx ry fx fy e'=>by
  subst e'; exact zo9 rx ry fx fy
 cases px <;> cases py <;> simp[eqF] at e <;> refine fin rx ry rfl rfl ?_ <;> simp[eqV,e] <;> first | exact e | (subst e; simp) | skip
theorem zeD {X:Cx}{pins:List (Addr×Obj)}{σ:St}{H:Hp}{s:Shared}{a:Addr}{xs:List V}(I:Inv X pins σ H s)(h:H a=some (.tup xs)):∃its:List Value,zas xs its∧IsTup s.heap a its.toArray∧xs.length≤sizeLine:=I.tuple (SqT.of h)
def zcI (f:D→D→Option Bool)(xs ys:List D)(j:Nat):Bool:=match xs[j]?,ys[j]? with
 | some x,some y=>(f x y).getD false
 | _,_=>false
theorem zp9 {f:D→D→Option Bool}:∀ {xs ys:List D} {b:Bool},eqL f xs ys=some b→(∀(j:Nat) (x y:D),xs[j]?=some x→ys[j]?=some y→∃c,f x y=some c)∧((List.range (min xs.length ys.length)).all (zcI f xs ys)&&xs.length==ys.length)=b
 | [],[],b,e=>by simp[eqL] at e; subst e; simp
 | [],y::ys,b,e=>by simp[eqL] at e; subst e; simp
 | x::xs,[],b,e=>by simp[eqL] at e; subst e; simp
 | x::xs,y::ys,b,e=>by
  unfold eqL at e
  split at e
  ·rename_i b1 c1 e1 e2
   obtain⟨h1,h2⟩:=zp9 e2
   refine⟨λj p q hp hq=>?_,?_⟩
   ·cases j with
    | zero=>simp at hp hq; subst hp; subst hq; exact⟨b1,e1⟩
    | succ j=>exact h1 j p q (by simpa using hp) (by simpa using hq)
   ·have z:min (x::xs).length (y::ys).length=min xs.length ys.length+1:=by simp[Nat.succ_min_succ]
    rw[z,List.range_succ_eq_map,List.all_cons,List.all_map]
    have e0:zcI f (x::xs) (y::ys) 0=b1:=by simp[zcI,e1]
    have es:(zcI f (x::xs) (y::ys) ∘ Nat.succ)=zcI f xs ys:=by funext j; simp[zcI]
    rw[e0,es]
    have e3:((x::xs).length==(y::ys).length)=(xs.length==ys.length):=by simp
    rw[e3,Bool.and_assoc,h2]
    simp at e
    exact e
  ·cases e
theorem zih {n:Nat}{f:D→D→Option Bool}(hf:zd6 n f){X:Cx}{pins:List (Addr×Obj)}{σ:St}{H:Hp}{s:Shared}{r:List Addr}{A:Around}{xs ys:List D}{us vs:List V}{is js:List Value}{b:Bool}
  (I:Inv X pins σ H s)(hu:A.units+n<cLine)(p:Rps r H xs us)(q:Rps r H ys vs)(ri:zas us is)(rj:zas vs js)(e:eqL f xs ys=some b):
  (∀j (h1:j<is.toArray.size) (h2:j<js.toArray.size),SeqAt.EqAt A s is.toArray[j] js.toArray[j] (zcI f xs ys j))∧((List.range (min is.toArray.size js.toArray.size)).all (zcI f xs ys)&&is.toArray.size==js.toArray.size)=b:=by
 obtain⟨h1,h2⟩:=zp9 e
 have l1:is.toArray.size=xs.length:=by rw[Var,← ri.length,p.1]
 have l2:js.toArray.size=ys.length:=by rw[Var,← rj.length,q.1]
 refine⟨λj hj1 hj2=>?_,by rw[l1,l2]; exact h2⟩
 have k1:j<xs.length:=by omega
 have k2:j<ys.length:=by omega
 have g1:xs[j]?=some xs[j]:=by simp[k1]
 have g2:ys[j]?=some ys[j]:=by simp[k2]
 obtain⟨x,gx,px⟩:=p.get g1
 obtain⟨y,gy,py⟩:=q.get g2
 obtain⟨u,gu,ru⟩:=ri.get gx
 obtain⟨v,gv,rv⟩:=rj.get gy
 obtain⟨c,hc⟩:=h1 j _ _ g1 g2
 have eu:is.toArray[j]=u:=by
  have z:=Vac.mp gu
  simpa using z.2
 have ev:js.toArray[j]=v:=by
  have z:=Vac.mp gv
  simpa using z.2
 have ec:zcI f xs ys j=c:=by simp[zcI,g1,g2,hc]
 rw[eu,ev,ec]
 exact hf X pins σ H s r A _ _ x y u v c I hu px py ru rv hc
theorem zph {n:Nat}{f:D→D→Option Bool}(hf:zd6 n f)(hs:zga f):zd6 (n+1) (eqT f):=by
 intro X pins σ H s r A dx dy x y u v b I hu px py rx ry e
 have zaC:∀ {dx dy:D} {x y:V},Rp r H dx x→Rp r H dy y→zal x u→zal y v→eqF dx dy=some b→SeqAt.EqAt A s u v b:=λpx py rx ry e=>zlI (n+1) X pins σ H s r A _ _ _ _ u v b I hu px py rx ry e
 cases px with
 | @tup ds xs a e1 l1 f1=>
  cases py with
  | @tup es ys a' e2 l2 f2=>
   cases rx
   cases ry
   by_cases z:a=a'
   ·subst z
    have hb:=zom hs r H _ _ _ b (.tup e1 l1 f1) (.tup e2 l2 f2) e
    subst hb
    exact SeqAt.EqAt.same _
   ·obtain⟨is,ri,ti,_⟩:=zeD I e1
    obtain⟨js,rj,tj,_⟩:=zeD I e2
    obtain⟨g1,g2⟩:=zih (A:=A.in1) hf I (by show A.units+1+n<_; omega) ⟨l1,f1⟩ ⟨l2,f2⟩ ri rj e
    have q:=SeqAt.RcAt.tuples (A:=A) ti tj (by omega) g1
    rw[g2] at q
    exact SeqAt.EqAt.of_refs z q
  | ref h=>simp[eqT,eqF] at e
  | _=>simp[eqT,eqF] at e
 | non=>exact zaC .non py rx ry (by cases py <;> exact e)
 | bl i=>exact zaC (.bl i) py rx ry (by cases py <;> exact e)
 | int i=>exact zaC (.int i) py rx ry (by cases py <;> exact e)
 | str i=>exact zaC (.str i) py rx ry (by cases py <;> exact e)
 | ref h=>cases py <;> simp[eqT,eqF] at e
 | exc h=>cases py <;> simp[eqT,eqF] at e
theorem zpW (n:Nat):zd6 (n+1) eq1:=zph (zlI n) zf2
def wEq (f:D→D→Option Bool):W2:=λx y S Q=>match f x y with
 | some b=>Q (.bl b) S
 | none=>False
def wNe (f:D→D→Option Bool):W2:=λx y S Q=>match f x y with
 | some b=>Q (.bl (!b)) S
 | none=>False
section
variable {X:Cx}{Z:Zx}
theorem zoY {r:List Addr}{H:Hp}{dx dy:D}{x y:V}{b:Bool}(px:Rp r H dx x)(py:Rp r H dy y)(e:eqF dx dy=some b):zjJ x y=true∧decide (x=y)=b:=by
 cases px <;> cases py <;> simp[eqF] at e <;> simp[zjJ] <;> first | exact e | (subst e; simp) | skip
theorem zoL {n:Nat}{f:D→D→Option Bool}(hf:zd6 n f)(hu:X.A.units+1+n<cLine):OpR X (compareOp .Eq) (upO X.K Z (wEq (eqT f))):=by
 intro pins s σ H x y v u Qv I rx ry h
 obtain⟨r,S,dx,dy,Q,rel,px,py,q,ret⟩:=h
 unfold wEq at q
 split at q
 ·rename_i b e
  have zaC:∀ {dx dy:D} {x y:V},Rp r H dx x→Rp r H dy y→zal x v→zal y u→eqF dx dy=some b→wpAny (model X.prog X.w) X.A (compareOp .Eq v u) (EP X pins σ Qv) X.xe s:=λpx py rx ry e=>by
   obtain⟨h1,h2⟩:=zoY px py e
   refine zlW pins s σ H _ _ v u Qv I rx ry ⟨h1,?_⟩
   rw[h2]
   exact ret _ _ _ _ _ Ext.refl rel (.bl b) q
  cases px with
  | @tup ds xs a e1 l1 f1=>
   cases py with
   | @tup es ys a' e2 l2 f2=>
    cases rx
    cases ry
    obtain⟨is,ri,ti,_⟩:=zeD I e1
    obtain⟨js,rj,tj,_⟩:=zeD I e2
    obtain⟨g1,g2⟩:=zih (A:=X.A.in1) hf I (by show X.A.units+1+n<_; omega) ⟨l1,f1⟩ ⟨l2,f2⟩ ri rj e
    refine SeqAt.eq_tupleAt (A:=X.A) ti tj (by omega) g1 ?_
    rw[g2]
    exact⟨.bl b,H,I,rfl,ret _ _ _ _ _ Ext.refl rel (.bl b) q⟩
   | _=>simp[eqT,eqF] at e
  | non=>exact zaC .non py rx ry (by cases py <;> exact e)
  | bl i=>exact zaC (.bl i) py rx ry (by cases py <;> exact e)
  | int i=>exact zaC (.int i) py rx ry (by cases py <;> exact e)
  | str i=>exact zaC (.str i) py rx ry (by cases py <;> exact e)
  | ref h=>cases py <;> simp[eqT,eqF] at e
  | exc h=>cases py <;> simp[eqT,eqF] at e
 ·exact q.elim
theorem znf {n:Nat}{f:D→D→Option Bool}(hf:zd6 n f)(hu:X.A.units+1+n<cLine):OpR X (compareOp .NotEq) (upO X.K Z (wNe (eqT f))):=by
 intro pins s σ H x y v u Qv I rx ry h
 obtain⟨r,S,dx,dy,Q,rel,px,py,q,ret⟩:=h
 unfold wNe at q
 split at q
 ·rename_i b e
  have zaC:∀ {dx dy:D} {x y:V},Rp r H dx x→Rp r H dy y→zal x v→zal y u→eqF dx dy=some b→wpAny (model X.prog X.w) X.A (compareOp .NotEq v u) (EP X pins σ Qv) X.xe s:=λpx py rx ry e=>by
   obtain⟨h1,h2⟩:=zoY px py e
   refine op_ne pins s σ H _ _ v u Qv I rx ry ⟨h1,?_⟩
   rw[h2]
   exact ret _ _ _ _ _ Ext.refl rel (.bl (!b)) q
  cases px with
  | @tup ds xs a e1 l1 f1=>
   cases py with
   | @tup es ys a' e2 l2 f2=>
    cases rx
    cases ry
    obtain⟨is,ri,ti,_⟩:=zeD I e1
    obtain⟨js,rj,tj,_⟩:=zeD I e2
    obtain⟨g1,g2⟩:=zih (A:=X.A.in1) hf I (by show X.A.units+1+n<_; omega) ⟨l1,f1⟩ ⟨l2,f2⟩ ri rj e
    refine SeqAt.RcNeAt.tuples (A:=X.A) ti tj (by omega) g1 X.prog X.w _ _ ?_
    rw[g2]
    exact⟨.bl (!b),H,I,rfl,ret _ _ _ _ _ Ext.refl rel (.bl (!b)) q⟩
   | _=>simp[eqT,eqF] at e
  | non=>exact zaC .non py rx ry (by cases py <;> exact e)
  | bl i=>exact zaC (.bl i) py rx ry (by cases py <;> exact e)
  | int i=>exact zaC (.int i) py rx ry (by cases py <;> exact e)
  | str i=>exact zaC (.str i) py rx ry (by cases py <;> exact e)
  | ref h=>cases py <;> simp[eqT,eqF] at e
  | exc h=>cases py <;> simp[eqT,eqF] at e
 ·exact q.elim
theorem zaN {k:Nat}(hr:zaE k X.A):OpR X (compareOp .Eq) (upO X.K Z (wEq eq2)):=zoL (zpW 0) (by have:=hr.un; omega)
theorem zcv {k:Nat}(hr:zaE k X.A):OpR X (compareOp .NotEq) (upO X.K Z (wNe eq2)):=znf (zpW 0) (by have:=hr.un; omega)
end
section
variable {X:Cx}{Z:Zx}{a b c:Expr}{ta tb tc:TDE}{pos:Pos}{zbn:List Expr}
def zcR (t:TDE):TDT:=λdl S Q=>t dl S λd S'=>match d with
 | .bl k=>Q k S'
 | _=>False
theorem zgh {K:PySem.W.Frag}{Z:Zx}{r:List Addr}{H:Hp}{Q:Bool→Sto→Prop}{Qb:Bool→Hp→Prop}(h:∀b H' r' S',Ext r r' H H'→Rel K Z r' S' H'→Q b S'→Qb b H'):
  Ret K Z r H (λd S'=>match d with | .bl k=>Q k S' | _=>False) (λx H'=>∃k,x=.bl k∧Qb k H'):=λv H' r' d S' e rel p q=>by
 cases p with
 | bl k=>exact⟨k,rfl,h k H' r' S' e rel q⟩
 | _=>exact(show False from q).elim
theorem zay {op:CmpOp}{w:W2}(ho:OpR X (compareOp op) (upO X.K Z w))(ha:PD X Z a ta)(hb:PD X Z b tb)(hm:behindInMarks op b=false):PDT X Z (.Compare a [op] [b] pos) (zcR (dOp w ta tb)):=
 ze0 (zqM ho ha hb hm) λσ H Qb ⟨r,dl,S,Q,rs,rel,h,ret⟩=>zkX ⟨r,dl,S,_,rs,rel,h,zgh ret⟩
theorem zbt {e:Expr}{t:TDE}(h:PD X Z e t)(he:∀whole,isTrue e X.env whole=(do let v ← whole; standAt e.pos; holding [v] (truthy v)):=by intro _; rfl):PDT X Z e (zcR t):=
 ze0 (ztk h he) λσ H Qb ⟨r,dl,S,Q,rs,rel,h,ret⟩=>⟨r,dl,S,_,rs,rel,h,zgh ret⟩
def dNot (t:TDT):TDT:=λdl S Q=>t dl S λk S'=>Q (!k) S'
theorem zb4 {t:TDT}(ha:PDT X Z a t):PDT X Z (.UnaryOp .Not a pos) (dNot t):=
 ze0 (zuR ha) λσ H Qb ⟨r,dl,S,Q,rs,rel,h,ret⟩=>⟨r,dl,S,_,rs,rel,h,λk H' r' S' e rel' q=>ret (!k) H' r' S' e rel' q⟩
def dAnd (t u:TDT):TDT:=λdl S Q=>t dl S λk S1=>if k=true then u dl S1 Q else Q false S1
def dOr (t u:TDT):TDT:=λdl S Q=>t dl S λk S1=>if k=true then Q true S1 else u dl S1 Q
theorem zoQ {t:TDT}(ha:PDT X Z a t):PDW X Z (.BoolOp .And [a] pos) t:=ztx ha
theorem zc4 {t:TDT}(ha:PDT X Z a t):PDW X Z (.BoolOp .Or [a] pos) t:=zqB ha
theorem zpq {t u:TDT}(ha:PDT X Z a t)(hb:PDW X Z (.BoolOp .And (b::zbn) pos) u):PDW X Z (.BoolOp .And (a::b::zbn) pos) (dAnd t u):=
 znW (zr3 ha hb) λσ H Qb ⟨r,dl,S,Q,rs,rel,h,ret⟩=>⟨r,dl,S,_,rs,rel,h,λk H1 r1 S1 e1 rel1 q1=>by
  cases k with
  | true=>exact zbX ⟨r1,dl,S1,Q,rs.ext e1,rel1,(by simpa using q1),λk' H2 r2 S2 e2=>ret k' H2 r2 S2 (e1.trans e2)⟩
  | false=>exact zbw (ret false H1 r1 S1 e1 rel1 (by simpa using q1))⟩
theorem zb8 {t u:TDT}(ha:PDT X Z a t)(hb:PDW X Z (.BoolOp .Or (b::zbn) pos) u):PDW X Z (.BoolOp .Or (a::b::zbn) pos) (dOr t u):=
 znW (pw_or ha hb) λσ H Qb ⟨r,dl,S,Q,rs,rel,h,ret⟩=>⟨r,dl,S,_,rs,rel,h,λk H1 r1 S1 e1 rel1 q1=>by
  cases k with
  | true=>exact zbX (ret true H1 r1 S1 e1 rel1 (by simpa using q1))
  | false=>exact zbw ⟨r1,dl,S1,Q,rs.ext e1,rel1,(by simpa using q1),λk' H2 r2 S2 e2=>ret k' H2 r2 S2 (e1.trans e2)⟩⟩
def zm0 (ta tb:TDE):TDE:=λdl S Q=>ta dl S λx S1=>match x with
 | .bl k=>if k=true then tb dl S1 Q else Q (.bl false) S1
 | _=>False
def dOrV (ta tb:TDE):TDE:=λdl S Q=>ta dl S λx S1=>match x with
 | .bl k=>if k=true then Q (.bl true) S1 else tb dl S1 Q
 | _=>False
def zm9 (ta:TDE):TDE:=λdl S Q=>ta dl S λx S1=>match x with
 | .bl k=>Q (.bl (!k)) S1
 | _=>False
theorem zhU {op}{t:TDE}(h:PD X Z a t):PD X Z (.BoolOp op [a] pos) t:=zq4 h
theorem zii (ha:PD X Z a ta)(hb:PD X Z (.BoolOp .And (b::zbn) pos) tb):PD X Z (.BoolOp .And (a::b::zbn) pos) (zm0 ta tb):=
 zaK (zrI ha hb) λσ H Qv ⟨r,dl,S,Q,rs,rel,h,ret⟩=>⟨r,dl,S,_,rs,rel,h,λv H1 r1 d S1 e1 rel1 p q1=>by
  cases p with
  | bl k=>
   refine⟨k,rfl,?_⟩
   cases k with
   | true=>exact zbX ⟨r1,dl,S1,Q,rs.ext e1,rel1,(by simpa using q1),ret.ext e1⟩
   | false=>exact zbw (ret _ H1 r1 (.bl false) S1 e1 rel1 (.bl false) (by simpa using q1))
  | _=>exact(show False from q1).elim⟩
theorem znX (ha:PD X Z a ta):PD X Z (.UnaryOp .Not a pos) (zm9 ta):=
 zaK (zqE ha) λσ H Qv ⟨r,dl,S,Q,rs,rel,h,ret⟩=>⟨r,dl,S,_,rs,rel,h,λv H1 r1 d S1 e1 rel1 p q1=>by
  cases p with
  | bl k=>exact⟨k,rfl,ret _ H1 r1 (.bl (!k)) S1 e1 rel1 (.bl (!k)) q1⟩
  | _=>exact(show False from q1).elim⟩
def dIfE (t:TDT)(ta tb:TDE):TDE:=λdl S Q=>t dl S λk S1=>if k=true then ta dl S1 Q else tb dl S1 Q
theorem zqc {t:TDT}(hc:PDT X Z c t)(ha:PD X Z a ta)(hb:PD X Z b tb):PD X Z (.IfExp c a b pos) (dIfE t ta tb):=
 zaK (zws hc ha hb) λσ H Qv ⟨r,dl,S,Q,rs,rel,h,ret⟩=>⟨r,dl,S,_,rs,rel,h,λk H1 r1 S1 e1 rel1 q1=>by
  cases k with
  | true=>exact zbX ⟨r1,dl,S1,Q,rs.ext e1,rel1,(by simpa using q1),ret.ext e1⟩
  | false=>exact zbw ⟨r1,dl,S1,Q,rs.ext e1,rel1,(by simpa using q1),ret.ext e1⟩⟩
def zmF (w w':W2)(ta tb tc:TDE):TDE:=λdl S Q=>ta dl S λx S1=>tb dl S1 λy S2=>w x y S2 λz S3=>match z with
 | .bl k=>if k=true then tc dl S3 λu S4=>w' y u S4 Q else Q (.bl false) S3
 | _=>False
theorem ztu {w w':W2}{σ:St}{H:Hp}{Qv:VK}(h:up X.K Z (zmF w w' ta tb tc) σ H Qv):zm3 (upO X.K Z w) (upO X.K Z w') (up X.K Z ta) (up X.K Z tb) (up X.K Z tc) σ H Qv:=by
 obtain⟨r,dl,S,Q,rs,rel,h,ret⟩:=h
 refine⟨r,dl,S,_,rs,rel,h,λv H1 r1 dx S1 e1 rel1 p1 h1=>⟨r1,dl,S1,_,rs.ext e1,rel1,h1,λv2 H2 r2 dy S2 e2 rel2 p2 h2=>⟨r2,S2,dx,dy,_,rel2,p1.ext e2,p2,h2,λv3 H3 r3 dz S3 e3 rel3 p3 h3=>?_⟩⟩⟩
 cases p3 with
 | bl k=>
  refine⟨k,rfl,?_⟩
  cases k with
  | true=>exact zbX ⟨r3,dl,S3,_,rs.ext (e1.trans (e2.trans e3)),rel3,(by simpa using h3),λv4 H4 r4 du S4 e4 rel4 p4 h4=>⟨r4,S4,dy,du,Q,rel4,(p2.ext e3).ext e4,p4,h4,ret.ext (e1.trans (e2.trans (e3.trans e4)))⟩⟩
  | false=>exact zbw (ret _ H3 r3 (.bl false) S3 (e1.trans (e2.trans e3)) rel3 (.bl false) (by simpa using h3))
 | _=>exact(show False from h3).elim
theorem zuA {op op':CmpOp}{w w':W2}(ho:OpR X (compareOp op) (upO X.K Z w))(ho':OpR X (compareOp op') (upO X.K Z w'))(ha:PD X Z a ta)(hb:PD X Z b tb)(hc:PD X Z c tc)
  (hm:lastMarks [op,op'] [b,c]=false:=by with_unfolding_all rfl):PD X Z (.Compare a [op,op'] [b,c] pos) (zmF w w' ta tb tc):=zaK (zvg ho ho' ha hb hc hm) λ_ _ _ h=>ztu h
def zn1:D→Bool
 | .non=>true
 | _=>false
def wIsN:W2:=λx y S Q=>match y with
 | .non=>Q (.bl (zn1 x)) S
 | _=>False
def wNotN:W2:=λx y S Q=>match y with
 | .non=>Q (.bl (!zn1 x)) S
 | _=>False
variable {e:Expr}{es:List Expr}
def zc7:TDA:=λ_ S Q=>Q [] S
def zdV (ta:TDE)(tr:TDA):TDA:=λdl S Q=>ta dl S λx S1=>tr dl S1 λxs S2=>Q (x::xs) S2
theorem zad:PDA X Z [] zc7:=znp zh6 λσ H Qv ⟨r,dl,S,Q,rs,rel,h,ret⟩=>ret [] H r [] S Ext.refl rel Rps.nil h
theorem zaa {te:TDE}{t:TDA}(ha:PD X Z e te)(hr:PDA X Z es t)(hs:starEach (e::es) X.env=(false,eval e X.env)::starEach es X.env:=by rfl):PDA X Z (e::es) (zdV te t):=
 znp (zgi ha hr hs) λσ H Qv ⟨r,dl,S,Q,rs,rel,h,ret⟩=>⟨r,dl,S,_,rs,rel,h,λv H1 r1 d S1 e1 rel1 p1 h1=>⟨r1,dl,S1,_,rs.ext e1,rel1,h1,λvs H2 r2 ds S2 e2 rel2 p2 h2=>
  ret (v::vs) H2 r2 (d::ds) S2 (e1.trans e2) rel2 (Rps.cons (p1.ext e2) p2) h2⟩⟩
def dTup (t:TDA):TDE:=λdl S Q=>t dl S λds S1=>if ds.length≤1000 then Q (.tup ds) S1 else False
def dLst (t:TDA):TDE:=λdl S Q=>t dl S λds S1=>if ds.length≤1000 then Q (.ref S1.length) (S1++[.lst ds]) else False
theorem zhL {A:Prop}{p:Prop} [Decidable p] (h:if p then A else False):p∧A:=by
 split at h
 ·exact⟨by assumption,h⟩
 ·exact h.elim
theorem zbG {n:Nat}(h:n≤1000):n≤sizeLine:=VaF (zg5 h)
theorem zbl {x1}{t:TDA}(h:PDA X Z es t):PD X Z (.Tuple es x1 pos) (dTup t):=
 zaK (ztS h) λσ H Qv ⟨r,dl,S,Q,rs,rel,h,ret⟩=>⟨r,dl,S,_,rs,rel,h,λvs H1 r1 ds S1 e1 rel1 p1 h1=>by
  obtain⟨hl,h1⟩:=zhL h1
  refine⟨by rw[← p1.1]; exact zbG hl,λp hp=>?_⟩
  have x:Ext r1 r1 H1 (upd H1 p (.tup vs)):=⟨λ_ _ q=>q,λa xs q=>zcY hp _ _ q,λa c q=>zcY hp _ _ q⟩
  exact ret _ _ r1 (.tup ds) S1 (e1.trans x) (rel1.same (zcY hp)) ((p1.ext x).tupR zbP) h1⟩
theorem zcQ {r:List Addr}{p:Addr}{H:Hp}{n:Nat}(h:r.length=n):Rp (r++[p]) H (.ref n) (.ref p):=.ref (by subst h; simp)
theorem zbQ {t:TDA}(h:PDA X Z es t):PD X Z (.List es pos) (dLst t):=
 zaK (zvU h) λσ H Qv ⟨r,dl,S,Q,rs,rel,h,ret⟩=>⟨r,dl,S,_,rs,rel,h,λvs H1 r1 ds S1 e1 rel1 p1 h1=>by
  obtain⟨hl,h1⟩:=zhL h1
  refine⟨by rw[← p1.1]; exact zbG hl,λp hp=>?_⟩
  obtain⟨rel2,x⟩:=rel1.push hp p1
  exact ret _ _ _ (.ref S1.length) _ (e1.trans x) rel2 (zcQ rel1.len) h1⟩
def wIx:W2:=λx y S Q=>match x,y with
 | .tup xs,.int i=>match atI xs i with
  | some d=>Q d S
  | none=>False
 | .ref n,.int i=>match lAt S n with
  | some o=>match atI (zan o) i with
   | some d=>Q d S
   | none=>False
  | none=>False
 | _,_=>False
theorem zm2 {r:List Addr}{H:Hp}{ds:List D}{vs:List V}{i:Int}{d:D}(h:Rps r H ds vs)(e:atI ds i=some d):∃v,atI vs i=some v∧Rp r H d v:=by
  unfold atI at e ⊢
  rw[← h.1]
  cases q:ixN ds.length i with
  | none=>
   rw[q] at e
   cases e
  | some j=>
    rw[q] at e
    exact h.get e
theorem do_ix:IxR X (upO X.K Z wIx):=by
 intro value slice pins s σ H x y v u Qv I rx ry h hs
 obtain⟨r,S,dx,dy,Q,rel,px,py,q,ret⟩:=h
 cases px with
 | @tup ds xs a e1 l1 f1=>
  cases py with
  | int i=>
   have q':(match atI ds i with | some d=>Q d S | none=>False):=q
   split at q'
   ·rename_i d e
    obtain⟨w,hw,pw⟩:=zm2 ⟨l1,f1⟩ e
    exact zvz value slice pins s σ H _ _ v u Qv I rx ry ⟨a,xs,i,w,rfl,rfl,SqT.of e1,hw,ret w H r d S Ext.refl rel pw q'⟩ hs
   ·exact q'.elim
  | _=>exact(show False from q).elim
 | @ref n a e1=>
  cases py with
  | int i=>
   have q':(match lAt S n with | some o=>(match atI (zan o) i with | some d=>Q d S | none=>False) | none=>False):=q
   split at q'
   ·rename_i o eo
    obtain⟨eo,eL⟩:=zb5 eo
    obtain⟨a',ha,ob⟩:=rel.at eo
    rw[e1] at ha; cases ha
    obtain⟨xs,sq,pr⟩:=ob.list eL
    split at q'
    ·rename_i d e
     obtain⟨w,hw,pw⟩:=zm2 pr e
     exact zqy value slice pins s σ H _ _ v u Qv I rx ry ⟨a,xs,i,w,rfl,rfl,sq,hw,ret w H r d S Ext.refl rel pw q'⟩ hs
    ·exact q'.elim
   ·exact q'.elim
  | _=>exact(show False from q).elim
 | _=>exact(show False from q).elim
theorem zaq (ha:PD X Z a ta)(hb:PD X Z b tb)(hs:zl5 b):PD X Z (.Subscript a b pos) (dOp wIx ta tb):=zaK (pe_ix do_ix ha hb hs) λ_ _ _ h=>zkX h
end
theorem zoW {P:Program}{w:World}{H:Hp}{h:Heap}{a:Addr}:∀ {o:HO},za6 P w H h a o→∃ob,h.get? a=some ob
 | .lst _,x=>by obtain⟨_,_,_,_,e⟩:=x; exact⟨_,e⟩
 | .tup _,x=>by obtain⟨_,_,_,ob,e,_⟩:=x; exact⟨ob,e⟩
 | .dK _,x=>by obtain⟨_,_,_,_,ob,_,_,e,_⟩:=x; exact⟨ob,e⟩
 | .dT _,x=>by obtain⟨_,_,_,_,ob,_,_,e,_⟩:=x; exact⟨ob,e⟩
 | .set _ _,x=>by obtain⟨ob,_,_,_,e,_⟩:=x; exact⟨ob,e⟩
 | .ins _ _ _,x=>by obtain⟨_,_,_,e,_⟩:=x; exact⟨_,e⟩
 | .own _,x=>x
 | .xd _,x=>by obtain⟨_,⟨ob,_,_,e,_⟩,_⟩:=x; exact⟨ob,e⟩
 | .rng _ _,x=>by obtain⟨_,_,_,e⟩:=x; exact⟨_,e⟩
 | .frz ob _,x=>⟨ob,x.1⟩
 | .tbl _,x=>⟨_,x⟩
 | .met _ _,x=>⟨_,x⟩
 | .ext _,x=>x.2.1
structure Bk (fs:List Addr)(H H':Hp)(B h:Heap)(ea:Addr):Prop where
 trk:∀b u,H' b=some u→∃o,B.get? b=some o
 old:∀b o,h.get? b=some o→H b=none→b ∉ fs→B.get? b=some o
 all:∀b o,h.get? b=some o→b ∉ fs→∃o',B.get? b=some o'
 new:H' ea=none
def CXE (P:Program)(w:World):CXT:=λouter H s E e s'=>∃(ea c:Addr) (a0:Value) (B:Heap) (H':Hp),e=.ref ea∧s'.os=s.os∧AllBare s'.gens∧Un (frs outer) [] H H' s.heap s'.heap∧HOk P w H' s'.heap∧
 Heap.FlyingW B outer ea (.ref c) a0 s'.heap∧Bk (frs outer) H H' B s.heap ea∧E (.ref c) none H'
theorem zpr {P:Program}{w:World}{H':Hp}{B h h':Heap}(ok:HOk P w H' h)(trk:∀b u,H' b=some u→∃o,B.get? b=some o)(s1:B.StaysIn h)(s2:B.StaysIn h'):HOk P w H' h':=λa o e=>
 (ok a o e).stay (λb u hb q=>by
  have ht:∃z,H' b=some z:=by
   rcases hb with rfl | hb
   ·exact⟨o,e⟩
   ·exact⟨_,hb⟩
  obtain⟨z,hz⟩:=ht
  obtain⟨ob,eo⟩:=trk b z hz
  have:=s1 b ob eo
  rw[q] at this
  cases this
  exact s2 b u eo) (λ_ z=>z) λ_ _ z=>z
section
variable {X:Cx}{pins:List (Addr×Obj)}{σ:St}{H:Hp}{s:Shared}
theorem zj5 {b:Addr}(I:Inv X pins σ H s)(hs:X.stack=X.env::X.outer)(hf:X.env.frame=some X.env.locals):b∈frs X.stack↔b=X.env.locals∨b∈X.fs:=by
 rw[hs]
 unfold frs
 rw[List.filterMap_cons,hf]
 exact Vaa
theorem zsB {H':Hp}{B h':Heap}{s':Shared}{ea c:Addr}{a0:Value}(I:Inv X pins σ H s)(hex:X.ex=[])(hs:X.stack=X.env::X.outer)(hf:X.env.frame=some X.env.locals)
  (un:Un (frs X.stack) [] H H' s.heap s'.heap)(fl:Heap.FlyingW B (X.env::X.outer) ea (.ref c) a0 s'.heap)(fl':Heap.FlyingW B X.outer ea (.ref c) a0 h')(up:s'.heap.UpToSlots h')(bk:Bk (frs X.stack) H H' B s.heap ea):
  Un X.fs [] X.H₀ H' X.s₀.heap h'∧Bk X.fs X.H₀ H' B X.s₀.heap ea:=by
 have nx:∀b:Addr,b ∉ X.ex:=λb z=>by rw[hex] at z; exact absurd z (by simp)
 have nL:∀ {b:Addr} {o:Obj},X.s₀.heap.get? b=some o→b≠X.env.locals:=λ{b o} e=>Vam (Vak (Heap.lt_size e) I.ok.above)
 have nS:∀ {b:Addr} {o:Obj},X.s₀.heap.get? b=some o→b ∉ X.fs→b ∉ frs X.stack:=λ{b o} e hb z=>by
  rcases (zj5 I hs hf).mp z with z | z
  ·exact nL e z
  ·exact hb z
 have old:∀b o,X.s₀.heap.get? b=some o→X.H₀ b=none→b ∉ X.fs→B.get? b=some o:=λb o e n hb=>bk.old b o (I.base.keep b o e n hb (nx b)) (I.base.free b o e n (nx b)) (nS e hb)
 have slot:∀b o,X.s₀.heap.get? b=some o→X.H₀ b=none→b∈X.fs→∃sl,h'.get? b=some { o with slots:=sl }:=λb o e n hb=>by
  obtain⟨s1,e1⟩:=I.base.slot b o e n hb (nx b)
  have hm:b∈frs X.stack:=(zj5 I hs hf).mpr (.inr hb)
  obtain⟨s2,e2⟩:=un.slot b _ e1 (I.base.free b o e n (nx b)) hm (by simp)
  obtain⟨_,o3,e3,d3⟩:=fl.2.2.1.mem (show b∈(X.env::X.outer).filterMap (·.frame) by rw[← hs]; exact hm)
  rw[e2] at e3
  cases e3
  obtain⟨sl,e4⟩:=up b _ e2 d3
  exact⟨sl,e4⟩
 have all:∀b o,X.s₀.heap.get? b=some o→b ∉ X.fs→∃o',B.get? b=some o':=λb o e hb=>by
  obtain⟨o1,e1⟩:=I.base.there b o e (nx b)
  exact bk.all b o1 e1 (nS e hb)
 refine⟨⟨λb o e n hb _=>fl'.1 b o (old b o e n hb),λb o e n hb _=>slot b o e n hb,λb o e n _=>?_,λb o e _=>?_,λb xs e=>un.tups b xs (I.base.tups b xs e),λb ob u e=>un.frzs b ob u (I.base.frzs b ob u e),λb ps e=>?_⟩,⟨bk.trk,old,all,bk.new⟩⟩
 ·obtain⟨o1,e1⟩:=I.base.there b o e (nx b)
  exact un.free b o1 e1 (I.base.free b o e n (nx b)) (by simp)
 ·by_cases hb:b∈X.fs
  ·obtain⟨sl,e1⟩:=slot b o e (I.ok.frf b hb) hb
   exact⟨_,e1⟩
  ·obtain⟨o',e'⟩:=all b o e hb
   exact⟨o',fl'.1 _ _ e'⟩
 ·obtain⟨m1,e1⟩:=I.base.tbls b ps e
  obtain⟨m2,e2⟩:=un.tbls b _ e1
  exact⟨m1++m2,by rw[e2,Array.append_assoc]⟩
end
section
variable {P:Program}{w:World}{K:PySem.W.Frag}{mg:Str→Option Value}{base:Heap}{N:List Str}{qual:Str}{scope:Scope}{f:Addr}{cdv:Value}{A:Around}{outer:List Env}{s0:Shared}{H0:Hp}{E:XK}
theorem zrC:zeI (CXE P w) (zbi (CXE P w) P w K mg base N qual scope f cdv A outer s0 H0 E) E:=by
 intro pins σ H s e s' I hq
 obtain⟨ea,c,a0,B,H',rfl,os,bare,un,hok,fl,bk,q⟩:=hq
 refine wpAny_leaves_onW I.ok.frames rfl fl λh' fl' up=>?_
 obtain⟨h1,h2⟩:=zsB I rfl rfl rfl un fl fl' up bk
 exact⟨ea,c,a0,B,H',rfl,os.trans I.os,bare,h1,zpr hok bk.trk fl.1 fl'.1,fl',h2,q⟩
def zmz (X:Cx)(W:St→XK):Prop:=∀(pins:List (Addr×Obj)) (σ:St) (H:Hp) (s:Shared) (h':Heap) (e c:Addr) (vs:List Value),Inv X pins σ H s→Heap.MadeExcOf s.heap h' e (.ref c) vs→W σ (.ref c) none H→X.xe (.ref e) { s with heap:=h' }
theorem zv8:zmz (zbi (CXE P w) P w K mg base N qual scope f cdv A outer s0 H0 E) (λ_=>E):=by
 intro pins σ H s h' e c vs I hx q
 have inB:∀ {b:Addr} {o:Obj},s.heap.get? b=some o→b ∉ frs (zbi (CXE P w) P w K mg base N qual scope f cdv A outer s0 H0 E).stack→(PySem.W.hideAll s.heap (frs (zbi (CXE P w) P w K mg base N qual scope f cdv A outer s0 H0 E).stack)).get? b=some o:=λe hb=>PySem.W.hideAll_get _ e hb
 have hfr:s.heap.FunFrames (PySem.W.hideAll s.heap (frs (zbi (CXE P w) P w K mg base N qual scope f cdv A outer s0 H0 E).stack)) (zbi (CXE P w) P w K mg base N qual scope f cdv A outer s0 H0 E).stack:=
  PySem.W.funFrames_hide I.stack λenv he a hf=>List.mem_filterMap.mpr ⟨env,he,hf⟩
 have st:(PySem.W.hideAll s.heap (frs (zbi (CXE P w) P w K mg base N qual scope f cdv A outer s0 H0 E).stack)).StaysIn s.heap:=λb o z=>PySem.W.of_hideAll _ z
 have trk:∀b u,H b=some u→∃o,(PySem.W.hideAll s.heap (frs (zbi (CXE P w) P w K mg base N qual scope f cdv A outer s0 H0 E).stack)).get? b=some o:=λb u z=>by
  obtain⟨o,eo⟩:=zoW (I.hok b u z)
  exact⟨o,inB eo λhb=>by rw[I.stkFree b hb] at z; cases z⟩
 have he:H e=none:=by
  cases z:H e with
  | none=>rfl
  | some u=>
   obtain⟨o,eo⟩:=zoW (I.hok e u z)
   rw[hx.new] at eo; cases eo
 have bk:Bk (frs (zbi (CXE P w) P w K mg base N qual scope f cdv A outer s0 H0 E).stack) H H (PySem.W.hideAll s.heap (frs (zbi (CXE P w) P w K mg base N qual scope f cdv A outer s0 H0 E).stack)) s.heap e:=
  ⟨trk,λb o z _ hb=>inB z hb,λb o z hb=>⟨o,inB z hb⟩,he⟩
 refine wpAny_leaves_madeW I.ok.frames rfl st hfr hx λh2 t fl' _ _ up=>?_
 have un:Un (frs (zbi (CXE P w) P w K mg base N qual scope f cdv A outer s0 H0 E).stack) [] H H s.heap s.heap:=Un.refl
 have up':s.heap.UpToSlots h2:=(Heap.UpToSlots.of_keeps hx.keeps).trans up
 have nL:∀ {b:Addr} {o:Obj},s0.heap.get? b=some o→b ∉ frs outer→b ∉ frs (zbi (CXE P w) P w K mg base N qual scope f cdv A outer s0 H0 E).stack:=λ{b o} z hb y=>by
  rcases (zj5 I rfl rfl).mp y with y | y
  ·exact Vam (Vak (Heap.lt_size z) I.ok.above) y
  ·exact hb y
 have old:∀b o,s0.heap.get? b=some o→H0 b=none→b ∉ frs outer→(PySem.W.hideAll s.heap (frs (zbi (CXE P w) P w K mg base N qual scope f cdv A outer s0 H0 E).stack)).get? b=some o:=λb o z n hb=>inB (I.base.keep b o z n hb (by intro y; exact absurd (show b∈([]:List Addr) from y) (by simp))) (nL z hb)
 have all:∀b o,s0.heap.get? b=some o→b ∉ frs outer→∃o',(PySem.W.hideAll s.heap (frs (zbi (CXE P w) P w K mg base N qual scope f cdv A outer s0 H0 E).stack)).get? b=some o':=λb o z hb=>by
  obtain⟨o1,e1⟩:=I.base.there b o z (by intro y; exact absurd (show b∈([]:List Addr) from y) (by simp))
  exact⟨o1,inB e1 (nL z hb)⟩
 have slot:∀b o,s0.heap.get? b=some o→H0 b=none→b∈frs outer→∃sl,h2.get? b=some { o with slots:=sl }:=λb o z n hb=>by
  obtain⟨s1,e1⟩:=I.base.slot b o z n hb (by intro y; exact absurd (show b∈([]:List Addr) from y) (by simp))
  obtain⟨_,o3,e3,d3⟩:=hfr.mem (show b∈(zbi (CXE P w) P w K mg base N qual scope f cdv A outer s0 H0 E).stack.filterMap (·.frame) from (zj5 I rfl rfl).mpr (.inr hb))
  rw[e1] at e3
  cases e3
  obtain⟨sl,e4⟩:=up' b _ e1 d3
  exact⟨sl,e4⟩
 refine⟨e,c,.ref t,_,H,rfl,I.os,I.bare,⟨λb o z n hb _=>fl'.1 b o (old b o z n hb),λb o z n hb _=>slot b o z n hb,λb o z n _=>I.base.free b o z n (by intro y; exact absurd (show b∈([]:List Addr) from y) (by simp)),λb o z _=>?_,I.base.tups,I.base.frzs,I.base.tbls⟩,zpr I.hok trk st fl'.1,fl',⟨trk,old,all,he⟩,q⟩
 by_cases hb:b∈frs outer
 ·obtain⟨sl,e1⟩:=slot b o z (I.ok.frf b hb) hb
  exact⟨_,e1⟩
 ·obtain⟨o',e'⟩:=all b o z hb
  exact⟨o',fl'.1 _ _ e'⟩
end
structure Xc (K:PySem.W.Frag)(mg:Str→Option Value)(x:Str)(C:Addr)(bm:List Value)(nid:String):Prop where
 bound:mg x=some (.ref C)
 ex:PySem.W.excIn K C bm nid=true
theorem zv7 {K:PySem.W.Frag}{mg:Str→Option Value}{x:Str}{C:Addr}{bm:List Value}{nid:String}{h:Heap}(c:Xc K mg x C bm nid)(KX:K.In h):OwnCls x C bm nid mg h:=by
 obtain⟨b,q⟩:=c
 constructor
 ·exact b
 ·revert q
  unfold PySem.W.excIn
  intro q
  split at q
  case h_2=>cases q
  case h_1 dd cd sl look=>
   split at q
   case h_2=>cases q
   case h_1 C1 zbn z0 z1 z2 z3 nn z5 em es=>
    rw[Vay,Vay,Vay,Vay,Vay] at q
    obtain⟨⟨⟨⟨⟨q1,q2⟩,q3⟩,q4⟩,q5⟩,q6⟩:=q
    have r1:=beq_iff_eq.mp q1
    have r2:=beq_iff_eq.mp q2
    have r6:=beq_iff_eq.mp q6
    cases cd with
    | mk a1 a2 a3 a4 a5 a6 a7 a8 a9 a10 a11=>
     have em':a3=Value.ref C1::zbn:=em
     have r3:a11=false:=by simpa using q3
     have hsl:sl=#[z0,z1,z2,z3,some (Value.builtin nn),z5]:=by
      cases sl with
      | mk l=>exact congrArg Array.mk es
     subst r1 r2 em' r3 hsl
     exact⟨zbn,a4,a1,a5,a2,a6,a7,a8,a9,a10,dd,z0,z1,z2,z3,z5,_,KX _ _ look,Heap.Ns.of_isNs (PySem.W.isNs_of_in KX q5),PySem.W.nsMap_none_of_in KX q5 r6,PySem.W.tail_of_in KX q4⟩
abbrev WC:=List D→Sto→DK→Prop
abbrev Sd:=List D→Sto→DK→(Addr→Sto→Prop)→Prop
def upC (K:PySem.W.Frag)(Z:Zx)(w:WC):List V→Hp→VK→Prop:=λxs H Qv=>∃r S ds Q,Rel K Z r S H∧Rps r H ds xs∧w ds S Q∧Ret K Z r H Q Qv
def upF (K:PySem.W.Frag)(sd:Sd):Sp:=λvs H Qv E=>∃ex:Addr→Sto→Prop,upC K (Zc ex E) (λds S Q=>sd ds S Q ex) vs H Qv
def zjN (w:WC)(t:TDA):TDE:=λdl S Q=>t dl S λds S1=>w ds S1 Q
def zhN (ex:Ev→Addr→Sto→Prop)(sd:Sd)(t:TDA):TDE:=λdl S Q=>t dl S λds S1=>sd ds S1 Q (ex dl)
def zdk (X:Cx)(W:St→XK):Prop:=∀(pins:List (Addr×Obj)) (σ:St) (H:Hp) (s:Shared) (e:Value) (s':Shared),Inv X pins σ H s→CXE X.prog X.w X.stack H s (W σ) e s'→X.xe e s'
section
variable {X:Cx}{k:Nat}{f:Addr}{fd:FuncData}{ps:List Str}{sp:Sp}{W:St→XK}{x:Str}{p pos:Pos}{e:Expr}{es:List Expr}{t:TA}
theorem zmH {pins:List (Addr×Obj)}{σ:St}{H:Hp}{s:Shared}{Q:VK}{us:List Value}{vs:List V}(F:zbg X.prog X.w X.K X.mg X.base (CXE X.prog X.w) k f fd ps sp)(hr:zaE k X.A)(hb:zbJ X.K fd ps [])(hx:zdk X W)
  (I:Inv X pins σ H s)(r:zas vs us)(h:sp vs H Q (W σ)):wpAny (model X.prog X.w) X.A (call (.ref f) us) (EP X pins σ Q) X.xe s:=by
 have hl:us.length=ps.length:=by rw[← r.length]; exact F.len _ _ _ _ h
 have hb':=hb s us I.kIn (by rw[VaB]; exact hl)
 rw[VaB] at hb'
 refine wpAny_call (codeAny_mono (F.run X.A X.stack s H ⟨us,[]⟩ us vs Q (W σ) hr I.env0 hb' r h) λz s' hq=>?_)
 cases z with
 | error ev=>exact hx pins σ H s ev s' I hq
 | ok fl=>
  cases fl with
  | ret u=>exact I.after hq
  | _=>exact False.elim hq
theorem zs5 (F:zbg X.prog X.w X.K X.mg X.base (CXE X.prog X.w) k f fd ps sp)(hr:zaE k X.A)(hg:Gl X x)(hm:X.mg x=some (.ref f))(hk:PySem.W.keepIn X.K (.ref f)=true)(hb:zbJ X.K fd ps [])(hx:zdk X W)
  (ha:PA X (e::es) t)(hdb:(x==("__debug__":Str))=false)(he:starEach (e::es) X.env=(false,eval e X.env)::starEach es X.env)(hpl:(backTo pos (starEach es X.env)).any (·.1)=false):
  PE X (.Call (.Name x p) (e::es) [] pos) (λσ H Q=>t σ H λvs H1=>sp vs H1 Q (W σ)):=by
 intro pins s σ H Q I h
 refine wpAny_Call_Name_kw (zhe I hg hm ?_ hdb)
 exact PySem.W.callWith_K (h₀:=X.base) I.ok.mod.kin hk (thn (ha pos pins s σ H _ I h) λus s1 ⟨vs,H1,I1,r,q⟩=>⟨I1.kIn,zmH F hr hb hx I1 r q⟩) he hpl
end
section
variable {X:Cx}{Z:Zx}{x:Str}{p pos:Pos}{e:Expr}{es:List Expr}{t:TDA}{id T:String}{w:WC}
theorem zpB {σ:St}{H:Hp}{Qv:VK}(h:up X.K Z (zjN w t) σ H Qv):upA X.K Z t σ H λvs H1=>upC X.K Z w vs H1 Qv:=by
 obtain⟨r,dl,S,Q,rs,rel,h,ret⟩:=h
 exact⟨r,dl,S,_,rs,rel,h,λvs H1 r1 ds S1 e1 rel1 p1 h1=>⟨r1,S1,ds,Q,rel1,p1,h1,ret.ext e1⟩⟩
theorem zbB (hc:zbj X (.builtin id) (upC X.K Z w))(hg:Gl X x)(hm:X.mg x=none)(hv:bootBuiltins x=some (.builtin id))(ha:PDA X Z (e::es) t)(hn:x≠"__name__":=by decide)(hdb:(x==("__debug__":Str))=false:=by decide)
  (he:starEach (e::es) X.env=(false,eval e X.env)::starEach es X.env:=by rfl)(hpl:(backTo pos (starEach es X.env)).any (·.1)=false:=by rfl):PD X Z (.Call (.Name x p) (e::es) [] pos) (zjN w t):=
 zaK (zm8 hc hg hm hv ha hn hdb he hpl) λ_ _ _ h=>zpB h
theorem zbO (hc:zbj X (.type T) (upC X.K Z w))(hg:Gl X x)(hm:X.mg x=none)(hv:bootBuiltins x=some (.type T))(ha:PDA X Z (e::es) t)(hn:x≠"__name__":=by decide)(hdb:(x==("__debug__":Str))=false:=by decide)
  (he:starEach (e::es) X.env=(false,eval e X.env)::starEach es X.env:=by rfl)(hpl:(backTo pos (starEach es X.env)).any (·.1)=false:=by rfl):PD X Z (.Call (.Name x p) (e::es) [] pos) (zjN w t):=
 zaK (znj hc hg hm hv ha hn hdb he hpl) λ_ _ _ h=>zpB h
theorem zl1 {sd:Sd}{r:List Addr}{S:Sto}{H:Hp}{dl:Ev}{σ:St}{ds:List D}{vs:List V}{Q:DK}{Qv:VK}(rs:Rs r H dl σ)(rel:Rel X.K Z r S H)(p:Rps r H ds vs)(h:sd ds S Q (Z.ex dl))(ret:Ret X.K Z r H Q Qv):upF X.K sd vs H Qv (Z.w σ):=
 ⟨Z.ex dl,r,S,ds,Q,⟨rel.b,λ_ _ c H' r' S' x _ rb q=>rel.xw dl σ c H' r' S' x (rs.ext x) rb q⟩,p,h,λv H' r' d S' x rel' pv q=>ret v H' r' d S' x ⟨rel'.b,rel.xw.ext x⟩ pv q⟩
theorem ztY {k:Nat}{f:Addr}{fd:FuncData}{ps:List Str}{sd:Sd}(F:zbg X.prog X.w X.K X.mg X.base (CXE X.prog X.w) k f fd ps (upF X.K sd))(hr:zaE k X.A)(hg:Gl X x)(hm:X.mg x=some (.ref f))(hk:PySem.W.keepIn X.K (.ref f)=true)
  {ex:Ev→Addr→Sto→Prop}{W:St→XK}(hb:zbJ X.K fd ps [])(hx:zdk X W)(ha:PDA X ⟨ex,W⟩ (e::es) t)(hdb:(x==("__debug__":Str))=false:=by decide)(he:starEach (e::es) X.env=(false,eval e X.env)::starEach es X.env:=by rfl)
  (hpl:(backTo pos (starEach es X.env)).any (·.1)=false:=by rfl):PD X ⟨ex,W⟩ (.Call (.Name x p) (e::es) [] pos) (zhN ex sd t):=
 zaK (zs5 F hr hg hm hk hb hx ha hdb he hpl) λσ H Qv ⟨r,dl,S,Q,rs,rel,h,ret⟩=>⟨r,dl,S,_,rs,rel,h,λvs H1 r1 ds S1 e1 rel1 p1 h1=>zl1 (Z:=⟨ex,W⟩) (rs.ext e1) rel1 p1 h1 (ret.ext e1)⟩
def wAbs:WC:=λds S Q=>match ds with
 | [.int i]=>Q (.int (if i<0 then -i else i)) S
 | _=>False
theorem zlu:zbj X (.builtin "abs") (upC X.K Z wAbs):=zgr zvJ λxs H Qv ⟨r,S,ds,Q,rel,ps,q,ret⟩=>by
 unfold wAbs at q
 split at q
 ·rename_i i
  obtain⟨v,vs,rfl,p1,p2⟩:=ps.uncons
  have z:=p2.unnil
  subst z
  cases p1
  exact⟨i,rfl,ret _ _ _ _ _ Ext.refl rel (.int _) q⟩
 ·exact q.elim
def zo1:List D→Option (List Int)
 | []=>some []
 | .int i::r=>(zo1 r).map (i::·)
 | _::_=>none
def wBest (le:Int→Int→Prop)(two:Int→Int→Int):WC:=λds S Q=>match ds with
 | [.int i,.int j]=>Q (.int (two i j)) S
 | [.ref n]=>match lAt S n with
  | some o=>match zo1 (zan o) with
   | some xs=>xs≠[]∧∀m,m∈xs→(∀y∈xs,le y m)→Q (.int m) S
   | none=>False
  | none=>False
 | _=>False
def zf6:WC:=λds S Q=>match ds with
 | [.tup xs]=>Q (.int xs.length) S
 | [.ref n]=>match lAt S n with
  | some o=>Q (.int (zan o).length) S
  | none=>False
 | _=>False
theorem zbZ:zbj X (.builtin "len") (upC X.K Z zf6):=zgr zsr λxs H Qv ⟨r,S,ds,Q,rel,ps,q,ret⟩=>by
 unfold zf6 at q
 split at q
 ·rename_i ys
  obtain⟨v,vs,rfl,p1,p2⟩:=ps.uncons
  have z:=p2.unnil
  subst z
  obtain⟨a,zs,rfl,h1,h2⟩:=p1.untup
  exact⟨a,zs,rfl,.inr (SqT.of h1),by rw[← h2.1]; exact ret _ _ _ _ _ Ext.refl rel (.int _) q⟩
 ·rename_i n
  obtain⟨v,vs,rfl,p1,p2⟩:=ps.uncons
  have z:=p2.unnil
  subst z
  split at q
  ·rename_i o eo
   obtain⟨eo,eL⟩:=zb5 eo
   obtain⟨a,ha,ob⟩:=rel.at eo
   cases p1 with
   | ref h1=>
    rw[h1] at ha; cases ha
    obtain⟨ys,sq,pr⟩:=ob.list eL
    exact⟨_,ys,rfl,.inl sq,by rw[← pr.1]; exact ret _ _ _ _ _ Ext.refl rel (.int _) q⟩
  ·exact q.elim
 ·exact q.elim
def zfR (t T:String):Bool:=t==T||(t == "bool"&&T == "int")
def zpF (T:String)(te:TDE):TDE:=λdl S Q=>te dl S λd S1=>match d with
 | .ref _=>False
 | .exc _=>False
 | .non=>Q (.bl (zfR "NoneType" T)) S1
 | .bl _=>Q (.bl (zfR "bool" T)) S1
 | .int _=>Q (.bl (zfR "int" T)) S1
 | .str _=>Q (.bl (zfR "str" T)) S1
 | .tup _=>Q (.bl (zfR "tuple" T)) S1
def Kit (K:PySem.W.Frag)(T:String):Prop:=∀t∈["NoneType","bool","int","str","tuple"],PySem.W.kitOne K (.type t) (.type T)=some (zfR t T)
def rInst (K:PySem.W.Frag):List V→Hp→VK→Prop:=λxs H Qv=>∃x T t b,xs=[x,.ty T]∧zcw K H x t∧PySem.W.kitOne K t (.type T)=some b∧Qv (.bl b) H
theorem zsb:zbj X (.builtin "isinstance") (rInst X.K):=by
 intro pins s σ H xs us Q I r h
 obtain⟨x,T,t,b,rfl,ty,e,q⟩:=h
 obtain⟨u,w',rfl,r1,r2⟩:=vals2 r
 cases r2
 exact zrm I r1 ty e λtk=>⟨.bl b,H,I.tok tk,rfl,q⟩
theorem zf7 {T:String}{te:TDE}{y:Str}{p2:Pos}(KT:Kit X.K T)(hg:Gl X "isinstance")(hm:X.mg "isinstance"=none)(hg2:Gl X y)(hm2:X.mg y=none)(hv2:bootBuiltins y=some (.type T))(ha:PD X Z e te)
  (hv:bootBuiltins "isinstance"=some (.builtin "isinstance"):=by exact PyProof.Rows.Boot.«isinstance»)
  (hn2:y≠"__name__":=by decide)(hd2:(y==("__debug__":Str))=false:=by decide)(he2:starEach [e,.Name y p2] X.env=(false,eval e X.env)::starEach [.Name y p2] X.env:=by rfl)
  (he3:starEach [.Name y p2] X.env=(false,eval (.Name y p2) X.env)::starEach [] X.env:=by rfl)(hpl:(backTo pos (starEach [.Name y p2] X.env)).any (·.1)=false:=by rfl):
  PD X Z (.Call (.Name "isinstance" p) [e,.Name y p2] [] pos) (zpF T te):=
 zaK (zm8 zsb hg hm hv (zgi ha (zgi (zwm (v:=.ty T) hg2 hm2 hv2 rfl hn2 hd2) zh6 he3) he2) (by decide) (by decide) he2 hpl) λσ H Qv ⟨r,dl,S,Q,rs,rel,h,ret⟩=>
  ⟨r,dl,S,_,rs,rel,h,λv H1 r1 d S1 e1 rel1 p1 h1=>by
   cases p1 with
   | non=>exact⟨_,T,_,_,rfl,.non,KT _ (by simp),ret _ _ _ _ _ e1 rel1 (.bl _) h1⟩
   | bl b=>exact⟨_,T,_,_,rfl,.bl b,KT _ (by simp),ret _ _ _ _ _ e1 rel1 (.bl _) h1⟩
   | int b=>exact⟨_,T,_,_,rfl,.int b,KT _ (by simp),ret _ _ _ _ _ e1 rel1 (.bl _) h1⟩
   | str b=>exact⟨_,T,_,_,rfl,.str b,KT _ (by simp),ret _ _ _ _ _ e1 rel1 (.bl _) h1⟩
   | tup e2 _ _=>exact⟨_,T,_,_,rfl,.tup e2,KT _ (by simp),ret _ _ _ _ _ e1 rel1 (.bl _) h1⟩
   | ref _=>exact(show False from h1).elim
   | exc _=>exact(show False from h1).elim⟩
end
section
variable {X:Cx}{Z:Zx}{st:Stmt}{zbn:List Stmt}{t u:TDS}{e:Expr}{te:TDE}{pos:Pos}
def zma:TDS:=λE dl S=>E.nx dl S
def zbp (t u:TDS):TDS:=λE dl S=>t { nx:=λdl' S'=>u E dl' S',rt:=E.rt,bk:=E.bk,ct:=E.ct } dl S
theorem zaw:zcB X Z [] zma:=znd ztw λF σ H ⟨r,dl,S,E,rs,rel,h,ret⟩=>ret.nx σ H r dl S Ext.refl rs rel h
theorem zaf (h1:PDS X Z st t)(h2:zcB X Z zbn u):zcB X Z (st::zbn) (zbp t u):=
 znd (zsv h1 h2) λF σ H ⟨r,dl,S,E,rs,rel,h,ret⟩=>⟨r,dl,S,_,rs,rel,h,λσ' H' r' dl' S' x rs' rel' q=>⟨r',dl',S',E,rs',rel',q,ret.ext x⟩,ret.bk,ret.ct,ret.rt⟩
theorem zah (h1:PDS X Z st t):zcB X Z [st] t:=zw3 h1
def zpz (te:TDE):TDS:=λE dl S=>te dl S λ_ S1=>E.nx dl S1
theorem zbN (he:PD X Z e te)(hs:swapsWith e none pos.line X.env=pure false:=by rfl):PDS X Z (.Expr e pos) (zpz te):=
 zb2 (zqN he hs) λF σ H ⟨r,dl,S,E,rs,rel,h,ret⟩=>⟨r,dl,S,_,rs,rel,h,λv H1 r1 d S1 x rel1 p q=>ret.nx σ H1 r1 dl S1 x (rs.ext x) rel1 q⟩
def dRet (te:TDE):TDS:=λE dl S=>te dl S E.rt
theorem zao (he:PD X Z e te):PDS X Z (.Return (some e) pos) (dRet te):=
 zb2 (zrd he) λF σ H ⟨r,dl,S,E,rs,rel,h,ret⟩=>⟨r,dl,S,_,rs,rel,h,ret.rt⟩
def dRetN:TDS:=λE _ S=>E.rt .non S
def dIf (c:TDT)(t u:TDS):TDS:=λE dl S=>c dl S λk S1=>if k=true then t E dl S1 else u E dl S1
theorem zav {c:Expr}{a b:List Stmt}{tc:TDT}(hc:PDT X Z c tc)(ha:zcB X Z a t)(hb:zcB X Z b u):PDS X Z (.If c a b pos) (dIf tc t u):=
 zb2 (ps_if hc ha hb) λF σ H ⟨r,dl,S,E,rs,rel,h,ret⟩=>⟨r,dl,S,_,rs,rel,h,λk H1 r1 S1 x rel1 q=>by
  cases k with
  | true=>exact zbX ⟨r1,dl,S1,E,rs.ext x,rel1,(by simpa using q),ret.ext x⟩
  | false=>exact zbw ⟨r1,dl,S1,E,rs.ext x,rel1,(by simpa using q),ret.ext x⟩⟩
def zfr (i:Nat)(te:TDE):TDS:=λE dl S=>te dl S λd S1=>E.nx (dl.set i (some d)) S1
theorem zak {i:Nat}{x:Str}{pos':Pos}(hN:X.N.Nodup)(hi:X.N[i]?=some x)(hx:Loc X.env.scope x)(he:PD X Z e te)(hs:swapsWith e (some (.Name x pos')) pos.line X.env=pure false:=by rfl)
  (hf:X.fn x=true∨X.env.scope.names.lookup x=some .local:=by first | exact .inl rfl | exact .inr rfl | assumption):PDS X Z (.Assign [.Name x pos'] e pos) (zfr i te):=
 zb2 (zsL hN hi hx he hs hf) λF σ H ⟨r,dl,S,E,rs,rel,h,ret⟩=>⟨r,dl,S,_,rs,rel,h,λv H1 r1 d S1 x rel1 p q=>ret.nx _ H1 r1 _ S1 x ((rs.ext x).set i p) rel1 q⟩
def zxd (c:TDT)(tb:TDS):TDS:=λE dl S=>∃W:Nat→Ev→Sto→Prop,(∃m,W m dl S)∧∀m dl S,W m dl S→
 c dl S λk S1=>if k=true then tb { nx:=λdl' S'=>∃m',m'<m∧W m' dl' S',rt:=E.rt,bk:=E.nx,ct:=λdl' S'=>∃m',m'<m∧W m' dl' S' } dl S1 else E.nx dl S1
theorem zkh {c:Expr}{body:List Stmt}{tc:TDT}{tb:TDS}(hp:PassesOwn (model X.prog X.w) X.A X.env X.xe)(hc:PDT X Z c tc)(hb:zcB X Z body tb):PDS X Z (.While c body [] pos) (zxd tc tb):=
 zb2 (zva hp hc hb) λF σ H ⟨r,dl,S,E,rs,rel,⟨W,⟨m0,w0⟩,turn⟩,ret⟩=>by
  refine⟨λm σ' H'=>∃r' dl' S',Ext r r' H H'∧Rs r' H' dl' σ'∧Rel X.K Z r' S' H'∧W m dl' S',⟨m0,r,dl,S,Ext.refl,rs,rel,w0⟩,?_⟩
  rintro m σ1 H1 ⟨r1,dl1,S1,x1,rs1,rel1,w1⟩
  refine⟨r1,dl1,S1,_,rs1,rel1,turn m dl1 S1 w1,λk H2 r2 S2 x2 rel2 q2=>?_⟩
  cases k with
  | true=>
   refine zbX ⟨λσ' H'=>∃m',m'<m∧∃r' dl' S',Ext r r' H H'∧Rs r' H' dl' σ'∧Rel X.K Z r' S' H'∧W m' dl' S',λ_ _ z=>z,r2,dl1,S2,_,rs1.ext x2,rel2,(by simpa using q2),?_⟩
   have go:∀σ' H' r' dl' S',Ext r2 r' H2 H'→Rs r' H' dl' σ'→Rel X.K Z r' S' H'→(∃m',m'<m∧W m' dl' S')→∃m',m'<m∧∃r' dl' S',Ext r r' H H'∧Rs r' H' dl' σ'∧Rel X.K Z r' S' H'∧W m' dl' S':=
    λσ' H' r' dl' S' x rs' rel' ⟨m',hm,w'⟩=>⟨m',hm,r',dl',S',x1.trans (x2.trans x),rs',rel',w'⟩
   exact⟨go,λσ' H' r' dl' S' x rs' rel' q=>ret.nx σ' H' r' dl' S' (x1.trans (x2.trans x)) rs' rel' q,go,ret.rt.ext (x1.trans x2)⟩
  | false=>exact zbw (ret.nx σ1 H2 r2 dl1 S2 (x1.trans x2) (rs1.ext x2) rel2 (by simpa using q2))
def dFor (i:Nat)(tl:TDE)(tb:TDS):TDS:=λE dl S=>tl dl S λd S1=>match d with
 | .ref n=>(lAt S1 n).isSome=true∧∃W:Nat→Nat→Ev→Sto→Prop,(∃m,W 0 m dl S1)∧∀k m dl S,W k m dl S→match lAt S n with
  | some o=>match (zan o)[k]? with
   | some x=>tb { nx:=λdl' S'=>∃m',m'<m∧W (k+1) m' dl' S',rt:=E.rt,bk:=E.nx,ct:=λdl' S'=>∃m',m'<m∧W (k+1) m' dl' S' } (dl.set i (some x)) S
   | none=>E.nx dl S
  | none=>False
 | _=>False
theorem zg8 {i:Nat}{x:Str}{pos':Pos}{iter:Expr}{body:List Stmt}{tl:TDE}{tb:TDS}(hp:PassesOwn (model X.prog X.w) X.A X.env X.xe)(hc:X.calm=true)(hN:X.N.Nodup)(hi:X.N[i]?=some x)(hx:Loc X.env.scope x)
  (hl:PD X Z iter tl)(hb:zcB X Z body tb)(hf:X.fn x=true∨X.env.scope.names.lookup x=some .local:=by first | exact .inl rfl | exact .inr rfl | assumption)
  (hs:∀y,foldedSetIterable iter X.env y=pure y:=by intro _; rfl):PDS X Z (.For (.Name x pos') iter body [] pos) (dFor i tl tb):=
 zb2 (zmG hp hc (zpO hl) (ziV hN hi hx hf) hb hs) λF σ H ⟨r,dl,S,E,rs,rel,h,ret⟩=>by
  refine⟨r,dl,S,_,rs,rel,h,λv H1 r1 d S1 x1 rel1 p1 q1=>?_⟩
  cases p1 with
  | @ref n a hn=>
   obtain⟨hsome,W,⟨m0,w0⟩,turn⟩:=q1
   have sql:∀ {r':List Addr} {S':Sto} {H':Hp} {o:Ob},Ext r1 r' H1 H'→Rel X.K Z r' S' H'→lAt S' n=some o→∃xs,SqL X.K H' a xs∧Rps r' H' (zan o) xs:=λ{r' S' H' o} x' rel' eo=>by
    obtain⟨eo,eL⟩:=zb5 eo
    obtain⟨a',ha,ob⟩:=rel'.at eo
    rw[x'.adr n a hn] at ha; cases ha
    exact ob.list eL
   obtain⟨o1,eo1⟩:=Option.isSome_iff_exists.mp hsome
   obtain⟨xs1,sq1,_⟩:=sql Ext.refl rel1 eo1
   refine⟨a,rfl,⟨xs1,sq1⟩,λk m σ' H'=>∃r' dl' S',Ext r1 r' H1 H'∧Rs r' H' dl' σ'∧Rel X.K Z r' S' H'∧W k m dl' S',⟨m0,r1,dl,S1,Ext.refl,rs.ext x1,rel1,w0⟩,?_⟩
   rintro k m σ2 H2 ⟨r2,dl2,S2,x2,rs2,rel2,w2⟩
   have q:=turn k m dl2 S2 w2
   split at q
   ·rename_i o eo
    obtain⟨xs,sq,pr⟩:=sql x2 rel2 eo
    split at q
    ·rename_i y ey
     obtain⟨v,hv,pv⟩:=pr.get ey
     have go:∀ {r3:List Addr} {H3:Hp},Ext r2 r3 H2 H3→∀σ' H' r' dl' S',Ext r3 r' H3 H'→Rs r' H' dl' σ'→Rel X.K Z r' S' H'→(∃m',m'<m∧W (k+1) m' dl' S')→∃m',m'<m∧∃r' dl' S',Ext r1 r' H1 H'∧Rs r' H' dl' σ'∧Rel X.K Z r' S' H'∧W (k+1) m' dl' S':=
      λ{r3 H3} x3 σ' H' r' dl' S' x rs' rel' ⟨m',hm,w'⟩=>⟨m',hm,r',dl',S',x2.trans (x3.trans x),rs',rel',w'⟩
     refine .inr ⟨⟨xs,v,sq,hv⟩,λσ' H'=>∃m',m'<m∧∃r' dl' S',Ext r1 r' H1 H'∧Rs r' H' dl' σ'∧Rel X.K Z r' S' H'∧W (k+1) m' dl' S',λ_ _ z=>z,λv' H' y'=>?_⟩
     obtain⟨eH,y'⟩:=y'
     subst eH
     have ev:v'=v:=by
      have z:=y' xs sq
      rw[hv] at z; exact(Option.some.inj z).symm
     subst ev
     exact⟨r2,_,S2,_,rs2.set i pv,rel2,q,go Ext.refl,λσ' H' r' dl' S' x rs' rel' z=>ret.nx σ' H' r' dl' S' (x1.trans (x2.trans x)) rs' rel' z,go Ext.refl,ret.rt.ext (x1.trans x2)⟩
    ·rename_i ey
     have hlen:(zan o).length≤k:=List.getElem?_eq_none_iff.mp ey
     exact .inl ⟨⟨xs,sq,by rw[← pr.1]; exact hlen⟩,ret.nx σ2 H2 r2 dl2 S2 (x1.trans x2) rs2 rel2 q⟩
   ·exact q.elim
  | _=>exact(show False from q1).elim
def dForR (i:Nat)(ta:TDA)(tb:TDS):TDS:=λE dl S=>ta dl S λds S1=>match ds with
 | [.int j]=>(-(2^62)≤j∧j<2^62)∧∃W:Nat→Ev→Sto→Prop,W 0 dl S1∧∀k dl S,W k dl S→
   if k<j.toNat then tb { nx:=λdl' S'=>W (k+1) dl' S',rt:=E.rt,bk:=E.nx,ct:=λdl' S'=>W (k+1) dl' S' } (dl.set i (some (.int k))) S else E.nx dl S
 | _=>False
theorem zon {i:Nat}{x:Str}{pos2 pos' p:Pos}{a:Expr}{body:List Stmt}{ta:TDA}{tb:TDS}(hp:PassesOwn (model X.prog X.w) X.A X.env X.xe)(hc:X.calm=true)(hN:X.N.Nodup)(hi:X.N[i]?=some x)(hx:Loc X.env.scope x)
  (hg:Gl X "range")(hm:X.mg "range"=none)(ha:PDA X Z [a] ta)(hb:zcB X Z body tb)(hf:X.fn x=true∨X.env.scope.names.lookup x=some .local:=by first | exact .inl rfl | exact .inr rfl | assumption)
  (hs:∀y,foldedSetIterable (.Call (.Name "range" p) [a] [] pos) X.env y=pure y:=by intro _; rfl)(hst:starEach [a] X.env=[(false,eval a X.env)]:=by rfl):
  PDS X Z (.For (.Name x pos') (.Call (.Name "range" p) [a] [] pos) body [] pos2) (dForR i ta tb):=
 zb2 (zmG hp hc (zoX hg hm ha hst) (ziV hN hi hx hf) hb hs) λF σ H ⟨r,dl,S,E,rs,rel,h,ret⟩=>by
  refine⟨r,dl,S,_,rs,rel,h,λvs H1 r1 ds S1 x1 rel1 p1 q1=>?_⟩
  split at q1
  ·rename_i j
   obtain⟨v,vs',rfl,p2,p3⟩:=p1.uncons
   have z:=p3.unnil
   subst z
   cases p2
   obtain⟨⟨b1,b2⟩,W,w0,turn⟩:=q1
   refine⟨j,rfl,b1,b2,λk m σ' H'=>m=j.toNat-k∧∃r' dl' S',Ext r1 r' H1 H'∧Rs r' H' dl' σ'∧Rel X.K Z r' S' H'∧W k dl' S',⟨j.toNat,by simp,r1,dl,S1,Ext.refl,rs.ext x1,rel1,w0⟩,?_⟩
   rintro k m σ2 H2 ⟨em,r2,dl2,S2,x2,rs2,rel2,w2⟩
   have q:=turn k dl2 S2 w2
   split at q
   ·rename_i hk
    have go:∀σ' H' r' dl' S',Ext r2 r' H2 H'→Rs r' H' dl' σ'→Rel X.K Z r' S' H'→W (k+1) dl' S'→∃r' dl' S',Ext r1 r' H1 H'∧Rs r' H' dl' σ'∧Rel X.K Z r' S' H'∧W (k+1) dl' S':=
     λσ' H' r' dl' S' x rs' rel' w'=>⟨r',dl',S',x2.trans x,rs',rel',w'⟩
    have pk:Rp r2 H2 (.int (k:Int)) (.int (0+(k:Int))):=by rw[Int.zero_add]; exact .int _
    refine .inr ⟨hk,λσ' H'=>∃r' dl' S',Ext r1 r' H1 H'∧Rs r' H' dl' σ'∧Rel X.K Z r' S' H'∧W (k+1) dl' S',λσ' H' z=>⟨j.toNat-(k+1),by omega,rfl,z⟩,λv' H' y'=>?_⟩
    obtain⟨eH,y'⟩:=y'
    subst eH
    subst y'
    exact⟨r2,_,S2,_,rs2.set i pk,rel2,q,go,λσ' H' r' dl' S' x rs' rel' z=>ret.nx σ' H' r' dl' S' (x1.trans (x2.trans x)) rs' rel' z,go,ret.rt.ext (x1.trans x2)⟩
   ·rename_i hk
    exact .inl ⟨by show j.toNat≤k; omega,ret.nx σ2 H2 r2 dl2 S2 (x1.trans x2) rs2 rel2 q⟩
  ·exact q1.elim
end
def zdx (N:List Str)(ds:List D):Ev:=ds.map some++List.replicate (N.length-ds.length) none
theorem zpm {r:List Addr}{H:Hp}{N:List Str}{ds:List D}{vs:List V}(h:Rps r H ds vs):Rs r H (zdx N ds) (L2.zdn N vs):=by
  refine⟨by simp[zdx,L2.zdn,h.1],λi d e=>?_⟩
  unfold zdx at e
  by_cases hi:i<ds.length
  · rw[Vah (by simpa using hi),Vao] at e
    cases q:ds[i]? with
    | none=>
   rw[q] at e
   cases e
    | some z=>
      rw[q] at e
      cases e
      obtain⟨v,hv,pv⟩:=h.get q
      refine⟨v,?_,pv⟩
      unfold L2.zdn
      rw[Vah (by simpa [h.1] using hi),Vao,hv]
      rfl
  · rw[VaE (by simpa using hi),List.getElem?_replicate] at e
    split at e <;> cases e
section
variable {P:Program}{w:World}{K:PySem.W.Frag}{mg:Str→Option Value}{base:Heap}
abbrev Z0:Zx:=Zc (λ_ _=>False) (λ_ _ _=>False)
theorem za9 {X:Cx}:zdk X Z0.w:=λ_ _ _ _ _ _ _ h=>by
 obtain⟨_,_,_,_,_,_,_,_,_,_,_,_,q⟩:=h
 exact q.elim
theorem zaQ {x qual:Str}{st:Stmt}{f:Addr}{fd:FuncData}{N ps:List Str}{k:Nat}{sd:Sd}(F:Fun K x qual st f fd)(Sc:zaB N ps (zau st))(len:∀ds S Q ex,sd ds S Q ex→ds.length=ps.length)
  (hbody:∀(cdv:Value) (A:Around) (outer:List Env) (s:Shared) (H:Hp) (E:XK),zaE k (A.deeper (envOfC qual (zau st) s.heap.objs.size f cdv))→
   ∃t,zcB (zbi (CXE P w) P w K mg base N qual (zau st) f cdv A outer s H E).nox Z0 (zdO st) t∧∀ds S Q ex,sd ds S Q ex→t { nx:=λ_ S'=>Q .non S',rt:=Q } (zdx N ds) S):zbg P w K mg base (CXE P w) (k+1) f fd ps (upF K sd):=by
 obtain⟨oc,od,kV,doc,pm,an,cdv,ct,osl,rfl,lk,hcd⟩:=F.ex
 refine zow lk hcd Sc (λvs H Q E h=>?_) λA outer s H vs Q E hr h=>?_
 ·obtain⟨ex,r,S,ds,Q',rel,p,q,ret⟩:=h
  rw[← p.1]
  exact len ds S Q' ex q
 ·obtain⟨ex,r,S,ds,Q',rel,p,q,ret⟩:=h
  obtain⟨t,ht,hq⟩:=hbody cdv A outer s H E hr
  have back:∀ {H':Hp} {r':List Addr} {S':Sto},Ext r r' H H'→Rel K Z0 r' S' H'→Rel K (Zc ex E) r' S' H':=λx rel'=>⟨rel'.b,rel.xw.ext x⟩
  refine⟨upS K Z0 t,ht.nox,r,zdx N ds,S,_,zpm p,⟨rel.b,λ_ _ _ _ _ _ _ _ _ z=>z.elim⟩,hq ds S Q' ex q,?_,?_,?_,?_⟩
  ·intro σ' H' r' dl' S' x _ rel' z
   exact ret .non H' r' .non S' x (back x rel') .non z
  ·intro σ' H' r' dl' S' x _ rel' z
   exact z
  ·intro σ' H' r' dl' S' x _ rel' z
   exact z
  ·intro v H' r' d S' x rel' p' z
   exact ret v H' r' d S' x (back x rel') p' z
theorem zcZ {x qual:Str}{st:Stmt}{f:Addr}{fd:FuncData}{N ps:List Str}{k:Nat}{sd:Sd}(F:Fun K x qual st f fd)(Sc:zaB N ps (zau st))(len:∀ds S Q ex,sd ds S Q ex→ds.length=ps.length)
  (hbody:∀(cdv:Value) (A:Around) (outer:List Env) (s:Shared) (H:Hp) (E:XK) (ex:Addr→Sto→Prop),zaE k (A.deeper (envOfC qual (zau st) s.heap.objs.size f cdv))→
   zdk (zbi (CXE P w) P w K mg base N qual (zau st) f cdv A outer s H E) (λ_=>E)→zmz (zbi (CXE P w) P w K mg base N qual (zau st) f cdv A outer s H E) (λ_=>E)→
   ∃t,zcB (zbi (CXE P w) P w K mg base N qual (zau st) f cdv A outer s H E) (Zc ex E) (zdO st) t∧∀ds S Q,sd ds S Q ex→t { nx:=λ_ S'=>Q .non S',rt:=Q } (zdx N ds) S):zbg P w K mg base (CXE P w) (k+1) f fd ps (upF K sd):=by
 obtain⟨oc,od,kV,doc,pm,an,cdv,ct,osl,rfl,lk,hcd⟩:=F.ex
 refine zow lk hcd Sc (λvs H Q E h=>?_) λA outer s H vs Q E hr h=>?_
 ·obtain⟨ex,r,S,ds,Q',rel,p,q,ret⟩:=h
  rw[← p.1]
  exact len ds S Q' ex q
 ·obtain⟨ex,r,S,ds,Q',rel,p,q,ret⟩:=h
  obtain⟨t,ht,hq⟩:=hbody cdv A outer s H E ex hr zrC zv8
  refine⟨upS K (Zc ex E) t,ht,r,zdx N ds,S,_,zpm p,rel,hq ds S Q' q,?_,?_,?_,ret⟩
  ·intro σ' H' r' dl' S' x _ rel' z
   exact ret .non H' r' .non S' x rel' .non z
  ·intro σ' H' r' dl' S' x _ rel' z
   exact z
  ·intro σ' H' r' dl' S' x _ rel' z
   exact z
end
open PySem
def Sz (n:Nat)(i:Int):Prop:=i.natAbs<2^n
theorem Sz.mono {m n:Nat}{i:Int}(h:Sz m i)(hn:m≤n):Sz n i:=Vak h (VaX (by decide) hn)
theorem Sz.bits {n:Nat}{i:Int}(h:Sz n i):Builtin.Int.intBits i≤n:=by
 unfold Builtin.Int.intBits
 split
 ·exact VaG _
 ·rename_i hz
  have hp:i.natAbs≠0:=by
   intro z
   have z2:i=0:=by omega
   simp[z2] at hz
  have:=(Nat.log2_lt hp).mpr h
  omega
theorem zev {m n:Nat}{i j:Int}(hi:Sz m i)(hj:Sz n j)(hm:m≤1048576:=by decide)(hn:n≤1048576:=by decide):IntMulOk i j:=by
 have e20:(2:Nat)^20=1048576:=by decide
 exact IntMulOk.of_bits (Vax hi.bits (by omega)) (Vax hj.bits (by omega))
theorem Sz.of {n:Nat}{i:Int}(m:Nat)(h:i.natAbs≤m)(hm:m<2^n:=by decide):Sz n i:=Nat.lt_of_le_of_lt h hm
theorem Sz.neg {m:Nat}{i:Int}(hi:Sz m i):Sz m (-i):=by
 unfold Sz at *
 rw[Int.natAbs_neg]; exact hi
theorem Sz.log {n:Nat}{i:Int}(h:Sz n i)(hi:i≠0)(hn:n≤9000:=by decide):i.natAbs.log2<9000:=by
 have:=(Nat.log2_lt (by omega:i.natAbs≠0)).mpr h
 omega
theorem Sz.fd {n:Nat}{i:Int}(h:Sz n i)(hi:0<i)(hn:n≤9000:=by decide):0<i∧i.natAbs.log2<9000:=⟨hi,h.log (by omega) hn⟩
theorem zgV {a b:Int}(hb:0<b):0≤a%b∧a%b<b:=⟨Int.emod_nonneg _ (by omega),Int.emod_lt_of_pos _ hb⟩
theorem p40:((10:Int)^(40:Int).toNat)=10^40:=rfl
theorem p41:((10:Int)^(41:Int).toNat)=10^41:=rfl
theorem p20:((10:Int)^(20:Int).toNat)=10^20:=rfl
example (x:Int):-(10^40)≤x%(2*10^40+1)-10^40:=by omega
example (x:Int):x%(2*10^40+1)-10^40≤10^40:=by omega
example (x:Int) (h:-(10^40)≤x) (h2:x≤2*10^41):Sz 140 x:=Sz.of (2*10^41) (by omega)
theorem zvI (a b:Int):Int.gcd b (a%b)=Int.gcd a b:=by
 rw[Int.emod_def,show a-b*(a/b)=a-(a/b)*b by rw[Int.mul_comm],Int.gcd_sub_mul_right_right,Int.gcd_comm]
def zbY (i:Int):Int:=if i<0 then -i else i
theorem zmb (i:Int):0≤zbY i:=by unfold zbY; split <;> omega
theorem zvs (a b:Int):Int.gcd (zbY a) (zbY b)=Int.gcd a b:=by
 have h:∀i:Int,(zbY i).natAbs=i.natAbs:=λi=>by unfold zbY; split <;> omega
 unfold Int.gcd
 rw[h,h]
theorem zpk {T B d:Int}(hB:B≠0)(hd:d=(if B<0 then -((Int.gcd T B:Nat):Int) else ((Int.gcd T B:Nat):Int))):
  d≠0∧T.fdiv d*d=T∧B.fdiv d*d=B∧1≤B.fdiv d∧Int.gcd (T.fdiv d) (B.fdiv d)=1∧T.fdiv d*B=T*B.fdiv d:=by
 have g0:0<Int.gcd T B:=Nat.pos_of_ne_zero λz=>hB (Int.gcd_eq_zero_iff.mp z).2
 have dT:((Int.gcd T B:Nat):Int) ∣ T:=Int.gcd_dvd_left T B
 have dB:((Int.gcd T B:Nat):Int) ∣ B:=Int.gcd_dvd_right T B
 have hne:d≠0:=by
  rw[hd]; split <;> omega
 have eT:d ∣ T:=by rw[hd]; split <;> first | exact Int.neg_dvd.mpr dT | exact dT
 have eB:d ∣ B:=by rw[hd]; split <;> first | exact Int.neg_dvd.mpr dB | exact dB
 have fT:T.fdiv d=T/d:=Int.fdiv_eq_ediv_of_dvd eT
 have fB:B.fdiv d=B/d:=Int.fdiv_eq_ediv_of_dvd eB
 have mT:T.fdiv d*d=T:=by rw[fT]; exact Int.ediv_mul_cancel eT
 have mB:B.fdiv d*d=B:=by rw[fB]; exact Int.ediv_mul_cancel eB
 have gg:Int.gcd (T.fdiv d) (B.fdiv d)=1:=by
  have z:=Int.gcd_ediv_gcd_ediv_gcd g0
  rw[fT,fB,hd]
  split
  ·rw[Int.ediv_neg,Int.ediv_neg,Int.neg_gcd,Int.gcd_neg]; exact z
  ·exact z
 have pos:1≤B.fdiv d:=by
  by_cases hb:B<0
  ·have dn:d<0:=by rw[hd,if_pos hb]; omega
   by_cases q:B.fdiv d≤0
   ·have:=Int.mul_nonneg_of_nonpos_of_nonpos q (Int.le_of_lt dn)
    omega
   ·omega
  ·have dp:0<d:=by rw[hd,if_neg hb]; omega
   by_cases q:B.fdiv d≤0
   ·have:=Int.mul_nonneg (show 0≤-(B.fdiv d) by omega) (Int.le_of_lt dp)
    rw[Int.neg_mul] at this
    omega
   ·omega
 refine⟨hne,mT,mB,pos,gg,?_⟩
 calc T.fdiv d*B=T.fdiv d*(B.fdiv d*d):=by rw[mB]
  _=T.fdiv d*d*B.fdiv d:=by grind
  _=T*B.fdiv d:=by rw[mT]
theorem zkV {T d:Int}(hne:d≠0)(mT:T.fdiv d*d=T):(T.fdiv d).natAbs≤T.natAbs:=by
 have h:(T.fdiv d).natAbs*d.natAbs=T.natAbs:=by rw[← Int.natAbs_mul,mT]
 have hd:1≤d.natAbs:=by omega
 calc (T.fdiv d).natAbs=(T.fdiv d).natAbs*1:=by omega
  _≤(T.fdiv d).natAbs*d.natAbs:=Nat.mul_le_mul_left _ hd
  _=T.natAbs:=h
section
variable {X:Cx}{Z:Zx}
def wIf (C:Int→Int→Bool)(g:Int→Int→D):W2:=λx y S Q=>match x,y with
 | .int i,.int j=>if C i j=true then Q (g i j) S else False
 | _,_=>False
theorem opIf {f:Value→Value→Sem Value}{C:Int→Int→Prop}{C':Int→Int→Bool}{g:Int→Int→D}(h:OpR X f (upO X.K Z (wI C g)))(hc:∀i j,C' i j=true→C i j):OpR X f (upO X.K Z (wIf C' g)):=
 zfX h λx y H Qv ⟨r,S,dx,dy,Q,rel,px,py,q,ret⟩=>⟨r,S,dx,dy,Q,rel,px,py,by
  unfold wIf at q
  split at q
  ·obtain⟨h1,h2⟩:=zhL q
   exact⟨hc _ _ h1,h2⟩
  ·exact q.elim,ret⟩
def zg7 (_ j:Int):Bool:=decide (0<j)&&decide (j<1073741824)
abbrev zrQ:W2:=wIf zg7 λi j=>.int (i/j)
abbrev wModL:W2:=wIf zg7 λi j=>.int (i%j)
def powB (i j:Int):Bool:=decide (0≤j)&&decide (j≤1000)&&decide (-1000<i)&&decide (i<1000)
abbrev wPowL:W2:=wIf powB λi j=>.int (i^j.toNat)
theorem zn8 {i j:Int}(h:zg7 i j=true):0<j∧j<1073741824:=by
 unfold zg7 at h
 simpa using h
theorem zdg:OpR X (binaryOp .FloorDiv) (upO X.K Z zrQ):=opIf zk1 λi j h=>by
 obtain⟨h1,h2⟩:=zn8 h
 refine⟨h1,?_⟩
 have:j.natAbs.log2<30:=(Nat.log2_lt (by omega)).mpr (by omega)
 omega
theorem zbS:OpR X (binaryOp .Mod) (upO X.K Z wModL):=opIf zeL λi j h=>(zn8 h).1
theorem znZ:OpR X (binaryOp .Pow) (upO X.K Z wPowL):=opIf zra λi j h=>by
 unfold powB at h
 simp at h
 refine⟨h.1.1.1,by have:=h.1.1.2; omega,?_⟩
 have h3:=h.1.2
 have h4:=h.2
 have big:(18446744073709551616:Nat)=2^64:=by decide
 omega
structure Df (K:PySem.W.Frag)(mg:Str→Option Value)(x:Str)(st:Stmt)(ps:List Str) where
 f:Addr
 fd:FuncData
 F:Fun K x x st f fd
 m:mg x=some (.ref f)
 b:zbJ K fd ps []
structure Fk (P:Program)(w:World)(K:PySem.W.Frag)(mg:Str→Option Value)(base:Heap)(k:Nat)(x:Str)(ps:List Str)(sd:Sd) where
 f:Addr
 fd:FuncData
 ok:zbg P w K mg base (CXE P w) k f fd ps (upF K sd)
 m:mg x=some (.ref f)
 kp:PySem.W.keepIn K (.ref f)=true
 b:zbJ K fd ps []
def Df.mk' {P:Program}{w:World}{K:PySem.W.Frag}{mg:Str→Option Value}{base:Heap}{k:Nat}{x:Str}{st:Stmt}{ps:List Str}{sd:Sd}(d:Df K mg x st ps)(h:zbg P w K mg base (CXE P w) k d.f d.fd ps (upF K sd)):Fk P w K mg base k x ps sd:=
 ⟨d.f,d.fd,h,d.m,d.F.kp,d.b⟩
theorem zbE {x:Str}{p pos:Pos}{e:Expr}{es:List Expr}{t:TDA}{k:Nat}{ps:List Str}{sd:Sd}{ex:Ev→Addr→Sto→Prop}{W:St→XK}(G:Fk X.prog X.w X.K X.mg X.base k x ps sd)(hr:zaE k X.A)(hx:zdk X W)(hg:Gl X x)(ha:PDA X ⟨ex,W⟩ (e::es) t)
  (hdb:(x==("__debug__":Str))=false:=by decide)(he:starEach (e::es) X.env=(false,eval e X.env)::starEach es X.env:=by rfl)(hpl:(backTo pos (starEach es X.env)).any (·.1)=false:=by rfl):
  PD X ⟨ex,W⟩ (.Call (.Name x p) (e::es) [] pos) (zhN ex sd t):=ztY G.ok hr hg G.m G.kp G.b hx ha hdb he hpl
end
def zfw:Sd:=λds S Q _=>∃ns:List Int,ds=[.ref 0]∧S=[.frz (ns.map D.int)]∧ns.length≤63∧∀S',Q (.bl true) S'
theorem zuW:∀ds S Q ex,zfw ds S Q ex→ds.length=1:=λds S Q ex h=>by
 obtain⟨ns,rfl,_⟩:=h
 rfl
theorem zuh {K:PySem.W.Frag}{H:Hp}{a:Addr}{xs:List V}(hO:zhA H)(h:SqL K H a xs):SqF K H a xs:=by
 rcases h with (h | ⟨o,h⟩) | h
 ·rcases hO a with z | ⟨o,ys,z⟩
  ·rw[h] at z; cases z
  ·rw[h] at z; cases z
 ·exact .inl ⟨o,h⟩
 ·exact .inr h
theorem zw5 {r:List Addr}{H:Hp}(ns:List Int):Rps r H (ns.map D.int) (ns.map V.int):=by
 refine⟨by simp,λi d v h1 h2=>?_⟩
 rw[Vao] at h1 h2
 cases q:ns[i]? with
 | none=>rw[q] at h1; cases h1
 | some z=>
  rw[q] at h1 h2
  cases h1
  cases h2
  exact .int z
theorem zrz {K:PySem.W.Frag}{H:Hp}{a:Addr}{ns:List Int}(hl:ns.length≤63)(hO:zhA H)(hS:SqL K H a (ns.map V.int)):upF K zfw [.ref a] H (λv _=>v=.bl true) λ_ _ _=>False:=by
 refine⟨λ_ _=>False,[a],[.frz (ns.map D.int)],[.ref 0],λd _=>d=.bl true,⟨⟨rfl,λn b o h1 h2=>?_,λn m b xs ys h1 h2 h3 h4 o1 o2=>?_⟩,λ_ _ _ _ _ _ _ _ _ z=>z.elim⟩,Rps.cons (.ref rfl) Rps.nil,⟨ns,rfl,rfl,hl,λ_=>rfl⟩,λv H' r' d S' e rel p q=>?_⟩
 ·cases n with
  | zero=>
   simp at h1 h2
   subst h1; subst h2
   exact⟨_,zuh hO hS,zw5 ns⟩
  | succ n=>simp at h1
 ·cases n with
  | zero=>
   simp at h3
   subst h3
   cases o1
  | succ n=>simp at h1
 ·subst q
  cases p
  rfl
theorem zul {l:PySem.W.OpenLaw}{q:Program}{loose:List Str}{XP:(Str→Option Value)→Heap→Prop}{YP:World→Heap→Prop}{d:DefRec}{K:Params→PySem.W.Frag}{x:Str}(k:Nat)(hn:l.most=some 63)(hdf:d.params.defaults=[])(hr:zaE k callerA)
  (hY:∀(w:World) (h:Heap),YP w h→(K w.params).In h)
  (F:∀(w:World) (mg:Str→Option Value) (fa:Addr) (h:Heap),(K w.params).In h→h.Ns mainGlobals mg→mg d.name=some (.ref fa)→
   ∃fd:FuncData,(∀(s:Shared) (u:Value),BindsTo s fd ⟨[u],[]⟩ [(x,u)])∧∀base:Heap,(K w.params).In base→base.Ns mainGlobals mg→zbg l.prog w (K w.params) mg base (CXE l.prog w) k fa fd [x] (upF (K w.params) zfw)):
  PySem.W.WalkO q loose XP YP l.row.toRowW d [] (λf vs=>PySem.call f vs):=
 L2.zsl (n:=63) (k:=k) (x:=x) (CX:=λw=>CXE l.prog w) (sp:=λw=>upF (K w.params) zfw) hn (by decide) hdf hr hY F (λ_ _ a ns hl hO hS=>zrz hl hO hS) λ_ _ _ _ _ ⟨_,_,_,_,_,_,_,_,_,_,_,_,z⟩=>z
theorem zj3 (K:PySem.W.Frag)(T:String)(h:T∈["int","bool","tuple","str"]):Kit K T:=by
 intro t ht
 simp only[Vaa,Vad,or_false] at h ht
 rcases h with rfl | rfl | rfl | rfl <;> rcases ht with rfl | rfl | rfl | rfl | rfl <;> kernel_rfl
theorem ifT {c:Bool}{A B:Prop}(h:c=true)(a:A):if c=true then A else B:=by rw[if_pos h]; exact a
theorem ifF {c:Bool}{A B:Prop}(h:c=false)(b:B):if c=true then A else B:=by rw[h]; exact zbw b
theorem ifP {c A B:Prop} [Decidable c] (h:c)(a:A):if c then A else B:=by rw[if_pos h]; exact a
theorem ifD {c:Prop} [Decidable c] {A B:Prop}(h1:c→A)(h2:¬ c→B):if decide c=true then A else B:=by
 by_cases h:c
 ·rw[decide_eq_true h]; exact zbX (h1 h)
 ·rw[decide_eq_false h]; exact zbw (h2 h)
theorem zvN {i n:Nat}{tb:TDS}{E:zbM}{dl:Ev}{S:Sto}{o:Ob}(P:D→Prop)(hS:S[n]?=some o)(hi:i<dl.length)(hP:∀x∈zan o,P x)
  (hb:∀(x:D) (nx ct:Ev→Sto→Prop),P x→nx (dl.set i (some x)) S→tb { nx:=nx,rt:=E.rt,bk:=E.nx,ct:=ct } (dl.set i (some x)) S)(he:∀v:Option D,E.nx (dl.set i v) S)(hL:zcb o=some o:=by rfl):
  (lAt S n).isSome=true∧∃W:Nat→Nat→Ev→Sto→Prop,(∃m,W 0 m dl S)∧∀k m dl S,W k m dl S→match lAt S n with
  | some o=>match (zan o)[k]? with
   | some x=>tb { nx:=λdl' S'=>∃m',m'<m∧W (k+1) m' dl' S',rt:=E.rt,bk:=E.nx,ct:=λdl' S'=>∃m',m'<m∧W (k+1) m' dl' S' } (dl.set i (some x)) S
   | none=>E.nx dl S
  | none=>False:=by
 refine⟨by rw[zbd hS hL]; rfl,λk m dl' S'=>S'=S∧m+k=(zan o).length∧∃v,dl'=dl.set i v,⟨(zan o).length,rfl,by omega,dl[i],by simp⟩,?_⟩
 rintro k m dl' S' ⟨rfl,hm,v,rfl⟩
 rw[zbd hS hL]
 show (match (zan o)[k]? with
   | some x=>tb { nx:=λdl' S''=>∃m',m'<m∧(S''=S'∧m'+(k+1)=(zan o).length∧∃v,dl'=dl.set i v),rt:=E.rt,bk:=E.nx,ct:=λdl' S''=>∃m',m'<m∧(S''=S'∧m'+(k+1)=(zan o).length∧∃v,dl'=dl.set i v) } ((dl.set i v).set i (some x)) S'
   | none=>E.nx (dl.set i v) S')
 split
 ·rename_i x hx
  have hk:k<(zan o).length:=(Vac.mp hx).1
  rw[List.set_set]
  exact hb x _ _ (hP x (Vas hx)) ⟨m-1,by omega,rfl,by omega,some x,rfl⟩
 ·exact he v
open PySem L2
open PySem L2
theorem ifN {c:Prop} [Decidable c] {A B:Prop}(h1:¬ c→A)(h2:c→B):if (!decide c)=true then A else B:=by
 by_cases h:c
 ·rw[decide_eq_true h]; exact L2.zbw (h2 h)
 ·rw[decide_eq_false h]; exact L2.zbX (h1 h)
section
variable {X:Cx}{Z:Zx}
def zuN (ex:Ev→Addr→Sto→Prop)(c:Addr)(t:TDA):TDS:=λ_ dl S=>t dl S λds S1=>if ds.length≤1000 then ex dl c S1 else False
theorem zcE {x:Str}{C:Addr}{bm:List Value}{nid B inid:String}{np cpos pos:Pos}{e:Expr}{es:List Expr}{t:TDA}(c:Xc X.K X.mg x C bm nid)(FB:ExcBaseFacts B nid inid bm){ex:Ev→Addr→Sto→Prop}{W:St→XK}(hx:zmz X W)(hh:X.A.handled=none)(hg:Gl X x)
  (ha:PDA X ⟨ex,W⟩ (e::es) t)(he:starEach (e::es) X.env=(false,eval e X.env)::starEach es X.env:=by rfl)(hpl:(backTo cpos (starEach es X.env)).any (·.1)=false:=by rfl)(hd:(x==("__debug__":Str))=false:=by decide):
  PDS X ⟨ex,W⟩ (.Raise (some (.Call (.Name x np) (e::es) [] cpos)) none pos) (zuN ex C t):=by
 intro pins s σ H F I h
 obtain⟨r,dl,S,E,rs,rel,h,ret⟩:=h
 obtain⟨ml,Nn,cn,cq,cb,cdc,csn,csu,cab,cco,cdd,u0,u1,u2,u3,u5,mN,hC,hN,hni,T⟩:=(zv7 c I.ok.mod.kin).obj
 refine wpAny_Raise_call_subT (C:=C) (nm:=cn) (q:=cq) (N:=Nn) (bs:=cb) (bm:=ml) (hdct:=cdc) (sn:=csn) (sub:=csu) (ab:=cab) (col:=cco) (dd:=cdd) (k0:=u0) (k1:=u1) (k2:=u2) (k3:=u3) (k5:=u5)
  FB (mN:=mN) (T.hasType FB.hasBase) hh (by rw[he]; show (false||(backTo cpos (starEach es X.env)).any (·.1))=false; rw[hpl]; rfl) hni (zhe I hg c.bound ⟨rfl,?_⟩ hd)
 have ha':=ha cpos pins s σ H (λvs H1=>vs.length≤sizeLine∧W σ (.ref C) none H1) I ⟨r,dl,S,_,rs,rel,h,λvs H1 r1 ds S1 e1 rel1 p1 h1=>by
  obtain⟨hl,h1⟩:=zhL h1
  exact⟨by rw[← p1.1]; exact zbG hl,rel1.xw dl σ C H1 r1 S1 Ext.refl (rs.ext e1) rel1.b h1⟩⟩
 rw[he] at ha' ⊢
 refine Calls.evalArgs_plain (wpAny_mono ha' (λus s2 h2=>?_) λ_ _ y=>y)
 obtain⟨vs,H1,I1,rv,hz,hw⟩:=h2
 have keep:∀b o,X.base.get? b=some o→s2.heap.get? b=some o:=λb o z=>(I1.bs b o z).1
 refine⟨rfl,by rw[← rv.length]; exact hz,keep _ _ hC,hN.keeps keep,T.keeps keep,λh' ea hm=>?_⟩
 exact hx pins σ H1 s2 h' ea C us I1 hm hw
end
section
variable {X:Cx}{k:Nat}{f:Addr}{fd:FuncData}{ps:List Str}{sp:Sp}{W:St→XK}{x:Str}{p pos:Pos}{e:Expr}{es:List Expr}{t:TA}
end
section
variable {X:Cx}{Z:Zx}{x:Str}{p pos:Pos}{e:Expr}{es:List Expr}{t:TDA}
end
section
variable {P:Program}{w:World}{K:PySem.W.Frag}{mg:Str→Option Value}{base:Heap}
end
section
variable {X:Cx}{Z:Zx}
theorem znF {r:List Addr}{H:Hp}{a:Addr}{o:HO}(h:H a=none):Ext r r H (upd H a o):=⟨λ_ _ q=>q,λ_ _ q=>zcY h _ _ q,λ_ _ q=>zcY h _ _ q⟩
open PySem.W in
end
abbrev VE:List Value:=[.type "ValueError",.type "Exception",.type "BaseException",.type "object"]
structure Ec (K:PySem.W.Frag)(mg:Str→Option Value)(x:Str) where
 c:Addr
 xc:Xc K mg x c VE "ValueError.__new__"
end L3
namespace L3
open PySem PySem.Spec PyProof.Rows L2
inductive Sco (n:Nat):D→Prop
 | non:Sco n .non
 | bl (b:Bool):Sco n (.bl b)
 | int (i:Int):Sco n (.int i)
 | str (x:Str):Sco n (.str x)
 | tup {ds:List D}:(∀d∈ds,Sco n d)→Sco n (.tup ds)
 | ref {m:Nat}:m<n→Sco n (.ref m)
 | exc (c:Addr):Sco n (.exc c)
theorem Rp.sco {r:List Addr}{H:Hp}{d:D}{v:V}(h:Rp r H d v):Sco r.length d:=by
 induction h with
 | non=>exact .non
 | bl b=>exact .bl b
 | int i=>exact .int i
 | str x=>exact .str x
 | @tup ds xs a _ l _ ih=>
  refine .tup λd hd=>?_
  obtain⟨i,hi,e⟩:=List.mem_iff_getElem.mp hd
  exact ih i d xs[i] (by simp[hi,e]) (by simp[l ▸ hi])
 | ref h=>exact .ref (Vac.mp h).1
 | exc _=>exact .exc _
theorem Rp.low {r r':List Addr}{H:Hp}{d:D}{v:V}(h:Rp r' H d v)(low:∀m a,m<r.length→r'[m]?=some a→r[m]?=some a)(s:Sco r.length d):Rp r H d v:=by
 induction h with
 | non=>exact .non
 | bl b=>exact .bl b
 | int i=>exact .int i
 | str x=>exact .str x
 | tup e l f ih=>
  cases s with
  | tup s=>exact .tup e l λi d v h1 h2=>ih i d v h1 h2 (s d (Vas h1))
 | ref h=>
  cases s with
  | ref s=>exact .ref (low _ _ s h)
 | exc h=>exact .exc h
def Pre (S S':Sto):Prop:=∀(n:Nat) (o:Ob),S[n]?=some o→S'[n]?=some o
theorem Pre.refl {S:Sto}:Pre S S:=λ_ _ h=>h
theorem Pre.push {S S':Sto}{o:Ob}(h:Pre S S'):Pre S (S'++[o]):=λn u e=>by
 have z:=h n u e
 rw[Vah (Vac.mp z).1]; exact z
theorem znB {r r':List Addr}{H H':Hp}(e:Ext r r' H H'):∀m a,m<r.length→r'[m]?=some a→r[m]?=some a:=λm a hm h=>by
 have z:r[m]?=some r[m]:=by simp[hm]
 rw[e.adr _ _ z] at h
 rw[z]; exact h
theorem zaM.low {K:PySem.W.Frag}{r r':List Addr}{S S':Sto}{H H':Hp}(h:zaM K r S H)(e:Ext r r' H H')(h':zaM K r' S' H')(p:Pre S S'):zaM K r S H':=by
 have rl:∀ {ds:List D} {xs ys:List V},Rps r H ds xs→Rps r' H' ds ys→Rps r H' ds ys:=λ{ds xs ys} a b=>⟨b.1,λi d v h1 h2=>by
  obtain⟨v0,_,q⟩:=a.get h1
  exact(b.2 i d v h1 h2).low (znB e) q.sco⟩
 refine⟨h.len,λn a o h1 h2=>?_,λn m a xs ys h1 h2 h3 h4 o1 o2=>h'.nd n m a xs ys (e.adr _ _ h1) (e.adr _ _ h2) (p _ _ h3) (p _ _ h4) o1 o2⟩
 have q:=h.ob n a o h1 h2
 have q':=h'.ob n a o (e.adr _ _ h1) (p _ _ h2)
 cases o with
 | lst ds=>
  obtain⟨xs,_,a1⟩:=q
  obtain⟨ys,b0,b1⟩:=q'
  exact⟨ys,b0,rl a1 b1⟩
 | frz ds=>
  obtain⟨xs,_,a1⟩:=q
  obtain⟨ys,b0,b1⟩:=q'
  exact⟨ys,b0,rl a1 b1⟩
 | ins C fs=>
  obtain⟨_,_,_,a1⟩:=q
  obtain⟨dx,fs',b0,b1⟩:=q'
  exact⟨dx,fs',b0,b1.1,rl a1.2 b1.2⟩
 | dct kvs=>
  obtain⟨_,_,a1⟩:=q
  obtain⟨ks,b0,b1⟩:=q'
  exact⟨ks,b0,b1.1,rl a1.2 b1.2⟩
 | dck kvs=>
  obtain⟨_,_,a1⟩:=q
  obtain⟨ks,b0,b1⟩:=q'
  exact⟨ks,b0,b1.1,rl a1.2 b1.2⟩
 | tpl ws=>exact q'
def Gc (S:Sto)(Q:DK):DK:=λd S'=>Pre S S'∧Sco S.length d∧Q d S
def GcX (S:Sto)(ex:Addr→Sto→Prop):Addr→Sto→Prop:=λc S'=>Pre S S'∧ex c S
theorem Ret.gc {K:PySem.W.Frag}{Z Z':Zx}{r:List Addr}{S:Sto}{H:Hp}{Q:DK}{Qv:VK}(h:Ret K Z r H Q Qv)(rel:Rel K Z r S H):Ret K Z' r H (Gc S Q) Qv:=λv H' r' d S' e rel' p q=>by
 obtain⟨pre,sc,q⟩:=q
 have e':Ext r r H H':=⟨λ_ _ z=>z,e.tup,e.xc⟩
 rw[← rel.len] at sc
 exact h v H' r d S e' ⟨rel.b.low e rel'.b pre,rel.xw.ext e'⟩ (p.low (znB e) sc) q
theorem zeQ.gc {K:PySem.W.Frag}{ex:Addr→Sto→Prop}{E:XK}{r:List Addr}{S:Sto}{H:Hp}(rel:Rel K (Zc ex E) r S H):zeQ K (Zc (GcX S ex) E) r H:=λdl σ c H' r' S' e _ rb q=>by
 obtain⟨pre,q⟩:=q
 have e':Ext r r H H':=⟨λ_ _ z=>z,e.tup,e.xc⟩
 exact rel.xw [] [] c H' r S e' ⟨rfl,λi d z=>by simp at z⟩ (rel.b.low e rb pre) q
section
variable {P:Program}{w:World}{K:PySem.W.Frag}{mg:Str→Option Value}{base:Heap}
def gcS (sd:Sd):Sd:=λds S Q ex=>∃Q0 ex0,Q=Gc S Q0∧ex=GcX S ex0∧sd ds S Q0 ex0
theorem zmZ {CX:CXT}{k:Nat}{f:Addr}{fd:FuncData}{ps:List Str}{sd:Sd}(h:zbg P w K mg base CX k f fd ps (upF K (gcS sd))):zbg P w K mg base CX k f fd ps (upF K sd):=by
 have imp:∀vs H Q E,upF K sd vs H Q E→upF K (gcS sd) vs H Q E:=λvs H Qv E ⟨ex,r,S,ds,Q,rel,p,q,ret⟩=>
  ⟨GcX S ex,r,S,ds,Gc S Q,⟨rel.b,zeQ.gc rel⟩,p,⟨Q,ex,rfl,rfl,q⟩,ret.gc rel⟩
 obtain⟨h1,h2⟩:=h
 exact⟨λvs H Q E q=>h1 vs H Q E (imp vs H Q E q),λA outer s H args us vs Q E hr e0 hb rv q=>h2 A outer s H args us vs Q E hr e0 hb rv (imp vs H Q E q)⟩
end
theorem zpy {sd:Sd}{n:Nat}(len:∀ds S Q ex,sd ds S Q ex→ds.length=n):∀ds S Q ex,gcS sd ds S Q ex→ds.length=n:=λds S Q ex h=>by
 obtain⟨Q0,ex0,_,_,h⟩:=h
 exact len _ _ _ _ h
structure zd0 (sc around:Scope)(x:Str)(caps:List Str):Prop where
 kind:sc.kind=.function
 nocell:∀y∈sc.names,y.2≠.cell
 own:∀y∈sc.names,y.2=.local→sc.names.lookup y.1=some .local
 loc:sc.names.lookup x=some .local
 cap:∀y∈caps,sc.names.lookup y=some .free
 out:∀y∈sc.names,y.2=.free→around.names.lookup y.1=some .cell
theorem zmO {α:Type}{y:Str}{v:α}:∀ {l:List (Str×α)},l.lookup y=some v→(y,v)∈l
 | [],h=>by simp at h
 | (n,k)::r,h=>by
  cases e:y==n with
  | true=>
   rw[Vae,e] at h
   have z:k=v:=Option.some.inj h
   have z2:y=n:=by simpa using e
   rw[z,z2]; exact Vau
  | false=>
   rw[Vae,e] at h
   exact Vap _ (zmO h)
theorem zlA {env:Env}:∀(l:List (Str×NameKind)) (acc:List (Str×Addr)),(∀y∈l,y.2=.free→∃c,env.cells.lookup y.1=some c)→(∀x c,acc.lookup x=some c→env.cells.lookup x=some c)→
  ∃cl,(forIn l acc λx r=>(if (x.2==NameKind.free)=true then do let a ← cellOf env x.1; pure (ForInStep.yield ((x.1,a)::r)) else pure (ForInStep.yield r):Sem (ForInStep (List (Str×Addr)))))=pure cl∧
   (∀x c,cl.lookup x=some c→env.cells.lookup x=some c)∧(∀y∈l,y.2=.free→cl.lookup y.1=env.cells.lookup y.1)∧∀x c,acc.lookup x=some c→∃c',cl.lookup x=some c'
 | [],acc,_,ha=>⟨acc,by simp,ha,λy hy=>(by cases hy),λx c e=>⟨c,e⟩⟩
 | (n,k)::r,acc,h,ha=>by
  cases hk:(k==NameKind.free) with
  | false=>
   obtain⟨cl,h1,h2,h3,h4⟩:=zlA r acc (λy hy=>h y (Vap _ hy)) ha
   refine⟨cl,?_,h2,λy hy hf=>?_,h4⟩
   ·rw[List.forIn_cons]; simp[hk]; simpa using h1
   ·have hy':=Vaa.mp hy
    rcases hy' with rfl | hy
    ·rw[show k=NameKind.free from hf] at hk; exact absurd hk (by decide)
    ·exact h3 y hy hf
  | true=>
   have hf:k=NameKind.free:=by simpa using hk
   obtain⟨c,hc⟩:=h (n,k) Vau hf
   obtain⟨cl,h1,h2,h3,h4⟩:=zlA r ((n,c)::acc) (λy hy=>h y (Vap _ hy)) (λx c' e=>by
    cases q:x==n with
    | true=>
     rw[Vae,q] at e
     have z:x=n:=by simpa using q
     rw[z,hc]; exact e
    | false=>
     rw[Vae,q] at e
     exact ha x c' e)
   refine⟨cl,?_,h2,λy hy hf=>?_,λx c' e=>?_⟩
   ·have ec:cellOf env n=pure c:=by unfold cellOf; rw[hc]
    rw[List.forIn_cons]; simp[hk,ec]; simpa using h1
   ·have hy':=Vaa.mp hy
    rcases hy' with rfl | hy
    ·obtain⟨c',e⟩:=h4 n c (by simp)
     rw[e]; exact(h2 _ _ e).symm
    ·exact h3 y hy hf
   ·refine h4 x (if x==n then c else c') ?_
    cases q:x==n with
    | true=>simp[Vae,q]
    | false=>simp[Vae,q,e]
theorem zrw {sc:Scope}{env:Env}(h:∀y∈sc.names,y.2=.free→∃c,env.cells.lookup y.1=some c):
  ∃cl,closureFor sc env=pure cl∧(∀x c,cl.lookup x=some c→env.cells.lookup x=some c)∧∀y∈sc.names,y.2=.free→cl.lookup y.1=env.cells.lookup y.1:=by
 obtain⟨cl,h1,h2,h3,_⟩:=zlA sc.names [] h (λx c e=>by simp at e)
 refine⟨cl,?_,h2,h3⟩
 unfold closureFor
 simp only[bind_pure]
 exact h1
theorem zoH {env:Env}:∀ {names:List (Str×NameKind)} {x:Str},names.lookup x=some .free→
  (names.map λ(n,k)=>if (k==NameKind.free&&env.scope.kind==.function&&env.kindOf n==some .cell) then (n,NameKind.cell) else (n,k)).lookup x=some .cell∨
  (names.map λ(n,k)=>if (k==NameKind.free&&env.scope.kind==.function&&env.kindOf n==some .cell) then (n,NameKind.cell) else (n,k)).lookup x=some .free
 | [],_,h=>by simp at h
 | (n,k)::r,x,h=>by
  have ih:=@zoH env r x
  rw[Vaj]
  cases hx:x==n with
  | true=>
   rw[Vae,hx] at h
   have hk:k=.free:=Option.some.inj h
   subst hk
   dsimp only
   split
   ·left; simp[Vae,hx]
   ·right; simp[Vae,hx]
  | false=>
   rw[Vae,hx] at h
   dsimp only
   split
   ·simp only[Vae,hx]; exact ih h
   ·simp only[Vae,hx]; exact ih h
theorem zpt {env:Env}:∀ {names:List (Str×NameKind)} {x:Str},(∀y∈names,y.2≠.cell)→
  ((names.map λ(n,k)=>if (k==NameKind.free&&env.scope.kind==.function&&env.kindOf n==some .cell) then (n,NameKind.cell) else (n,k)).lookup x=some .cell∨
  (names.map λ(n,k)=>if (k==NameKind.free&&env.scope.kind==.function&&env.kindOf n==some .cell) then (n,NameKind.cell) else (n,k)).lookup x=some .free)→names.lookup x=some .free
 | [],_,_,h=>by simp at h
 | (n,k)::r,x,hc,h=>by
  have ih:=@zpt env r x λy hy=>hc y (Vap _ hy)
  rw[Vaj] at h
  cases hx:x==n with
  | true=>
   rw[Vae,hx]
   dsimp only at h
   split at h
   ·rename_i q
    simp only[Vay] at q
    have hk:k=.free:=by simpa using q.1.1
    rw[hk]
   ·simp only[Vae,hx] at h
    rcases h with h | h
    ·exact absurd (Option.some.inj h) (hc (n,k) Vau)
    ·exact h
  | false=>
   rw[Vae,hx]
   dsimp only at h
   split at h
   ·simp only[Vae,hx] at h; exact ih h
   ·simp only[Vae,hx] at h; exact ih h
abbrev Cx.comp (X:Cx)(sc:Scope)(N:List Str)(cl:List (Str×Addr))(C:Addr)(s0:Shared)(H0:Hp)(fp:List Addr)(pn:List (Addr×Obj)):Cx:=
 { X with N:=N,env:=compEnvC sc cl C X.env,s₀:=s0,H₀:=H0,outer:=X.stack,stack:=X.stack,ex:=fp,fn:=λ_=>false,pn:=pn,xe:=λ_ _=>False }
def zb3 (caps:List Nat)(σ:St):St:=caps.map λj=>(σ[j]?).join
def zdJ (caps:List Nat)(dl:Ev):Ev:=caps.map λj=>(dl[j]?).join
def zf9 (caps:List Nat)(wi:TI)(tc:TT)(te:TE):TE:=λσ H Q=>wi σ H λJ H1=>∀D,H1 D=none→∃W:Nat→Nat→Hp→Prop,(∃m,W 0 m (upd H1 D (.lst [])))∧∀i m H,W i m H→
 (J.stop i H∧Q (.ref D) H)∨(J.go i H∧∀x H',J.yld i H x H'→tc (some x::zb3 caps σ) H' λb H2=>if b=true then te (some x::zb3 caps σ) H2 λy H3=>∃ys,H3 D=some (.lst ys)∧ys.length<sizeLine∧∃m',m'<m∧W (i+1) m' (upd H3 D (.lst (ys++[y])))
  else ∃m',m'<m∧W (i+1) m' H2)
def PTs (Y:Cx)(ifs:List Expr)(tc:TT):Prop:=∀(pins:List (Addr×Obj)) (s:Shared) (σ:St) (H:Hp) (Q:Bool→Hp→Prop),Inv Y pins σ H s→tc σ H Q→
 wpAny (model Y.prog Y.w) Y.A (forIn ifs true λc r=>if r=true then do let ok ← isTrue c Y.env (eval c Y.env); pure (ForInStep.yield ok) else pure (ForInStep.yield r)) (TP Y pins σ Q) Y.xe s
theorem zvl {Y:Cx}:PTs Y [] (λ_ H Q=>Q true H):=λ_ _ _ H _ I h=>wpAny_tests_nil ⟨H,I,h⟩
section
variable {X:Cx}{pins:List (Addr×Obj)}{σ:St}{H:Hp}{s:Shared}
theorem zs8 {sc:Scope}{x:Str}{N:List Str}{caps:List Nat}{cl:List (Str×Addr)}{fp:List Addr}{h1:Heap}{m:Str→Option Value}{tk:Nat}(I:Inv X pins σ H s)(cs:zd0 sc X.env.scope x N)
  (hN:∀(j:Nat) (y:Str),N[j]?=some y→∃i,caps[j]?=some i∧X.N[i]?=some y)(hlen:caps.length=N.length)
  (c1:∀x c,cl.lookup x=some c→X.env.cells.lookup x=some c)(c2:∀y∈sc.names,y.2=.free→cl.lookup y.1=X.env.cells.lookup y.1)
  (hf:∀b∈fp,zce X pins H b)(hfo:∀b∈fp,b<s.heap.objs.size)(hns:h1.Ns s.heap.objs.size m)(hk:∀b o,s.heap.get? b=some o→h1.get? b=some o):
  Inv (Cx.comp X sc (x::N) cl s.heap.objs.size s H fp (X.pn++pins)) [] (none::zb3 caps σ) H { s with heap:=h1,toks:=tk }:=by
 have stk:∀b∈frs X.stack,b=X.env.locals∨b∈X.fs:=λb hb=>Vaa.mp (I.stkSub b hb)
 refine⟨⟨I.ok.mod,cs.kind,I.ok.glob,I.ok.blt,Vab _,λa b c h1 h2=>I.ok.inj a b c (c1 _ _ h1) (c1 _ _ h2),λy hy=>?_,λ_ _ z=>Bool.noConfusion z,I.ok.hd,I.ok.frames,.inl rfl,λb hb=>⟨Vam (hfo b hb),λy c e=>(hf b hb).2.2.2.2.1 y c (c1 _ _ e)⟩,
  I.bs,Vax I.ok.bsz I.sz,λb o e hb=>?_,λb hb z=>?_,I.stack,I.stkFree⟩,rfl,I.bare,Un.kept hk,⟨m,hns,λi y v e1 e2 e3=>?_⟩,λy c e=>?_,I.hok.fresh (Vab _),λy c e=>I.freeC y c (c1 _ _ e),λp hp=>?_,I.hok.kept hk,?_⟩
 ·have hfr:sc.names.lookup y=some .free:=zpt cs.nocell hy
  have hm:=zmO hfr
  obtain⟨c,e⟩:=I.ok.has y (.inl (cs.out _ hm rfl))
  exact⟨c,(c2 _ hm rfl).trans e⟩
 ·rcases (hf b hb).2.2.2.1 with z | z
  ·exact I.ok.noex b o e z
  ·exact absurd (Vak (Heap.lt_size (I.ok.bs b o e).1) z) (VaC _)
 ·rcases stk b z with z | z
  ·exact(hf b hb).2.1 z
  ·exact(hf b hb).2.2.1 z
 ·cases i with
  | zero=>simp at e2
  | succ i=>
   have e1':N[i]?=some y:=by simpa using e1
   obtain⟨j,hj,hy⟩:=hN i y e1'
   have e2':σ[j]?=some (some v):=by
    simp only[List.getElem?_cons_succ,zb3,Vao,hj,Option.map_some,Option.some.injEq] at e2
    cases q:σ[j]? with
    | none=>rw[q] at e2; cases e2
    | some o=>rw[q] at e2; simp at e2; rw[e2]
   have hfr:sc.names.lookup y=some .free:=cs.cap y (Vas e1')
   have hm:=zmO hfr
   have hce:X.env.scope.names.lookup y=some .cell:=cs.out _ hm rfl
   obtain⟨m0,_,hl⟩:=I.loc
   obtain⟨u,r,l⟩:=hl j y v hy e2' (.inr (.inl hce))
   refine⟨u,r,.inr ⟨zoH hfr,?_⟩⟩
   rcases l with ⟨k,_⟩ | ⟨_,c,ec,hcell⟩
   ·rw[show X.env.kindOf y=some .cell from hce] at k; cases k
   ·exact⟨c,(c2 _ hm rfl).trans ec,hcell.keeps hk⟩
 ·obtain⟨v,z⟩:=I.cell y c (c1 _ _ e)
  exact⟨v,z.keeps hk⟩
 ·have hp':p∈X.pn++pins:=by simpa using hp
  obtain⟨p1,p2,p3,p4,p5⟩:=I.pin p hp'
  refine⟨hk _ _ p1,p2,Vam (Heap.lt_size p1),λz=>?_,p5⟩
  rcases stk _ z with z | z
  ·exact p3 z
  ·exact p4 z
 ·simp[zb3,hlen]
end
section
variable {X:Cx}{elt iter:Expr}{x:Str}{px pos:Pos}{ifs:List Expr}{sc:Scope}{N:List Str}{caps:List Nat}{wi:TI}{tc:TT}{te:TE}
structure zqs (X:Cx)(pins:List (Addr×Obj))(σ:St)(C:Addr)(Q:VK)(D:Addr)(s':Shared):Prop where
 q:∃H',Inv X pins σ H' s'∧Q (.ref D) H'∧H' C=none
 ns:∃m,s'.heap.Ns C m
 loc:C≠X.env.locals
 old:X.s₀.heap.objs.size≤C
 cell:∀x c,X.env.cells.lookup x=some c→c≠C
 pin:∀p∈X.pn++pins,p.1≠C
theorem zpP {use:Option (Value→Sem Unit)}{Qr:Value→Shared→Prop}(hc:X.calm=true)(cs:zd0 sc X.env.scope x N)(hN:∀(j:Nat) (y:Str),N[j]?=some y→∃i,caps[j]?=some i∧X.N[i]?=some y)(hlen:caps.length=N.length)(hnd:(x::N).Nodup)
  (hi:PI X (.Name x px) iter wi)(ht:∀cl C s0 H0 fp pn,PTs (Cx.comp X sc (x::N) cl C s0 H0 fp pn) ifs tc)(he:∀cl C s0 H0 fp pn,PE (Cx.comp X sc (x::N) cl C s0 H0 fp pn) elt te)
  (hs:∀y,foldedSetIterable iter X.env y=pure y)
  {pins:List (Addr×Obj)}{s:Shared}{σ:St}{H:Hp}{Q:VK}{p2:Pos}(I:Inv X pins σ H s)(h:zf9 caps wi tc te σ H Q)
  (fin:∀D C s',zqs X pins σ C Q D s'→compPost (model X.prog X.w) X.A X.xe use Qr (.ref D) C (.ok .next) s'):
  wpAny (model X.prog X.w) X.A (comprehension (.ListComp elt [⟨.Name x px,iter,ifs,0⟩] sc pos) sc X.env p2 (newList []) false (eval iter X.env) use) Qr X.xe s:=by
 obtain⟨cl,k1,k2,k3⟩:=zrw (sc:=sc) (env:=X.env) λy hy hf=>I.ok.has y.1 (.inl (cs.out y hy hf))
 refine wpAny_comprehension_free rfl hs k1 cs.kind cs.own (thn (hi pins s σ H _ I h) λv s1 h1=>thn h1 λitv s2 h2=>?_)
 obtain⟨it,fp,tn,J,H2,e,I2,T,st2,f2,body⟩:=h2
 subst e
 have hfo:∀b∈fp,b<s2.heap.objs.size:=λb hb=>by
  obtain⟨o,e,_⟩:=T.obj _ _ st2 b hb
  exact Heap.lt_size e
 have hD:H2 s2.heap.objs.size=none:=I2.hok.fresh (Vab _)
 obtain⟨W,⟨m0,w0⟩,turn⟩:=body _ hD
 refine wpAny_newObj_type ?_
 have I3:Inv X pins σ (upd H2 s2.heap.objs.size (.lst [])) { s2 with heap:=s2.heap.push { cls:=.type "list",dict:=none,data:=.seq ([]:List Value).toArray },toks:=s2.toks }:=
  I2.laid (t':=s2.toks) (λb u e=>Heap.get?_push_of_some _ e) (Vab _) ⟨VaG _,[],0,.nil,Heap.get?_push_size _ rfl⟩
 generalize hs3:({ s2 with heap:=s2.heap.push { cls:=.type "list",dict:=none,data:=.seq ([]:List Value).toArray },toks:=s2.toks }:Shared)=s3 at I3
 have es3:({ s2 with heap:=s2.heap.push { cls:=.type "list",dict:=none,data:=.seq ([]:List Value).toArray } }:Shared)=s3:=hs3
 try rw[es3]
 have f3:∀b∈fp,zce X pins (upd H2 s2.heap.objs.size (.lst [])) b:=λb hb=>⟨by rw[za2 (Vam (hfo b hb))]; exact(f2 b hb).1,(f2 b hb).2⟩
 have up3:∀b o,s2.heap.get? b=some o→s3.heap.get? b=some o:=λb o e=>by rw[← hs3]; exact Heap.get?_push_of_some _ e
 have st3:tn 0 s3.heap:=T.keep _ _ _ st2 λb _ o e=>up3 b o e
 have hfo3:∀b∈fp,b<s3.heap.objs.size:=λb hb=>by
  obtain⟨o,e,_⟩:=T.obj _ _ st3 b hb
  exact Heap.lt_size e
 refine wpAny_newFunctionEnv cs.nocell (λy hy=>by simp at hy) (λh4 ns4 sb4=>?_) cs.kind
 have hk4:∀b o,s3.heap.get? b=some o→h4.get? b=some o:=λb o e=>(sb4.2 b (Vam (Heap.lt_size e))).trans (Heap.get?_push_of_some _ e)
 have I4:=zs8 (tk:=s3.toks+([]:List (Str×Value)).length) I3 cs hN hlen k2 k3 f3 hfo3 ns4 hk4
 generalize hs4:({ s3 with heap:=h4,toks:=s3.toks+([]:List (Str×Value)).length }:Shared)=s4 at I4 ⊢
 have eh4:s4.heap=h4:=by rw[← hs4]
 have st4:tn 0 s4.heap:=by rw[eh4]; exact T.keep _ _ _ st3 λb _ o e=>hk4 b o e
 have fY:∀ {H':Hp},(∀b∈fp,H' b=none)→∀b∈fp,zce (Cx.comp X sc (x::N) cl s3.heap.objs.size s3 (upd H2 s2.heap.objs.size (.lst [])) fp (X.pn++pins)) [] H' b:=λhn b hb=>by
  obtain⟨_,z2,z3,z4,z5,z6⟩:=f3 b hb
  refine⟨hn b hb,Vam (hfo3 b hb),λz=>?_,.inl hb,λy c e=>z5 y c (k2 _ _ e),λp hp=>z6 p (by simpa using hp)⟩
  rcases Vaa.mp (I3.stkSub b z) with z | z
  ·exact z2 z
  ·exact z3 z
 have locY:(Cx.comp X sc (x::N) cl s3.heap.objs.size s3 (upd H2 s2.heap.objs.size (.lst [])) fp (X.pn++pins)).env.scope.names.lookup x=some .local:=lookup_relabel_local cs.loc
 have loop:codeAny (model X.prog X.w) X.A (.compLoop (.ListComp elt [⟨.Name x px,iter,ifs,0⟩] sc pos) 0 (.ref it) (.ref s2.heap.objs.size) (compEnvC sc cl s3.heap.objs.size X.env))
   (compPost (model X.prog X.w) X.A X.xe use Qr (.ref s2.heap.objs.size) s3.heap.objs.size) s4:=by
  refine codeAny_compLoop_tests (λn s'=>∃i o H',Inv (Cx.comp X sc (x::N) cl s3.heap.objs.size s3 (upd H2 s2.heap.objs.size (.lst [])) fp (X.pn++pins)) [] (o::zb3 caps σ) H' s'∧tn i s'.heap∧(∀b∈fp,H' b=none)∧W i n H') ?_ m0
   ⟨0,none,_,I4,st4,λb hb=>(f3 b hb).1,w0⟩
  rintro n s5 ⟨i,o,H5,I5,st5,fr5,w5⟩
  rcases turn i n H5 w5 with ⟨stop,q⟩ | ⟨go,step⟩
  ·refine thn (T.done (Cx.comp X sc (x::N) cl s3.heap.objs.size s3 (upd H2 s2.heap.objs.size (.lst [])) fp (X.pn++pins)) rfl rfl rfl hc i [] s5 _ H5 _ I5 (fY fr5) st5 stop) λr s6 ⟨hr,I6⟩=>?_
   subst hr
   refine fin _ _ _ ⟨⟨H5,I3.call' I6.os I6.base I6.hok I6.bare (λb hb=>?_),q,I6.free⟩,?_,Nat.ne_of_gt I3.lt,I3.sz,λy c e z=>?_,λp hp z=>?_⟩
   ·obtain⟨_,z2,z3,z4,z5,z6⟩:=f3 b hb
    exact⟨z4,z2,z5,z6⟩
   ·obtain⟨m,hm,_⟩:=I6.loc
    exact⟨m,hm⟩
   ·obtain⟨v,hv⟩:=I3.cell y c e
    exact absurd (z ▸ hv.lt) (VaC _)
   ·exact absurd (z ▸ Heap.lt_size (I3.pin p hp).1) (VaC _)
  ·refine thn (T.item (Cx.comp X sc (x::N) cl s3.heap.objs.size s3 (upd H2 s2.heap.objs.size (.lst [])) fp (X.pn++pins)) rfl rfl rfl hc i [] s5 _ H5 _ I5 (fY fr5) st5 go) λr s6 ⟨u,hr,h6⟩=>?_
   subst hr
   show wpAny _ _ (letOwnedTupleGo (.Name x px) (.ref it) u >>= λ_=>assign (.Name x px) (compEnvC sc cl s3.heap.objs.size X.env) u) _ _ s6
   refine wpAny_bind (thn h6 λ_ s7 ⟨y,H7,I7,r7,y7,st7,fr7⟩=>?_)
   have I7':=I7.pinned (fY fr7) (T.obj _ _ st7)
   refine wpAny_mono (ziV (X:=Cx.comp X sc (x::N) cl s3.heap.objs.size s3 (upd H2 s2.heap.objs.size (.lst [])) fp (X.pn++pins)) (pos:=px) hnd (i:=0) rfl (.inl locY) (.inr locY) _ s7 _ H7 y u (λσ8 H8=>σ8=some y::zb3 caps σ∧H8=H7) I7' r7 ⟨rfl,rfl⟩) (λ_ s8 ⟨σ8,H8,I8,e8,e8'⟩=>?_) λ_ _ z=>z.elim
   subst e8
   subst e8'
   have stay:∀ {H':Hp} {s':Shared},Inv (Cx.comp X sc (x::N) cl s3.heap.objs.size s3 (upd H2 s2.heap.objs.size (.lst [])) fp (X.pn++pins)) ([]++zgG fp s7.heap) (some y::zb3 caps σ) H' s'→∀m',m'<n→W (i+1) m' H'→
     ∃m,m<n∧∃i o H',Inv (Cx.comp X sc (x::N) cl s3.heap.objs.size s3 (upd H2 s2.heap.objs.size (.lst [])) fp (X.pn++pins)) [] (o::zb3 caps σ) H' s'∧tn i s'.heap∧(∀b∈fp,H' b=none)∧W i m H':=λ{H' s'} J m' hm w'=>by
    refine⟨m',hm,i+1,some y,H',J.unpinned,T.keep _ _ _ st7 λb hb o e=>(J.pin (b,o) (Vav _ (Vav _ (zj2 hb e)))).1,λb hb=>?_,w'⟩
    obtain⟨o,e,d⟩:=T.obj _ _ st7 b hb
    exact(J.pin (b,o) (Vav _ (Vav _ (zj2 hb e)))).2.1
   refine wpAny_mono (ht _ _ _ _ _ _ _ s8 _ H8 _ I8 (step y H8 y7)) (λb s9 ⟨H9,I9,q9⟩=>?_) λ_ _ z=>z.elim
   cases b with
   | false=>
    rw[if_neg Van] at q9 ⊢
    obtain⟨m',hm,w9⟩:=q9
    exact stay I9 m' hm w9
   | true=>
    rw[if_pos rfl] at q9 ⊢
    refine wpAny_mono (he _ _ _ _ _ _ _ s9 _ H9 _ I9 q9) (λu2 s10 ⟨z,H10,I10,r10,q10⟩=>?_) λ_ _ z=>z.elim
    obtain⟨ys,hD10,hlt,m',hm,w10⟩:=q10
    refine wpAny_mono (zna (X:=(Cx.comp X sc (x::N) cl s3.heap.objs.size s3 (upd H2 s2.heap.objs.size (.lst [])) fp (X.pn++pins))) _ s10 _ H10 (.ref s2.heap.objs.size) [z] (.ref s2.heap.objs.size) [u2] (λ_ H'=>H'=upd H10 s2.heap.objs.size (.lst (ys++[z]))) I10 rfl (.cons r10 .nil) ⟨_,ys,z,rfl,rfl,hD10,hlt,rfl⟩) (λ_ s11 ⟨_,H11,I11,_,e11⟩=>?_) λ_ _ z=>z.elim
    subst e11
    exact stay I11 m' hm w10
 exact codeAny_compStart_list loop (T.self _ 0 s4 _ _ st4 loop)
theorem zkF {X:Cx}{caps:List Nat}{N:List Str}(h:caps.map (λi=>X.N[i]?)=N.map some):(∀(j:Nat) (y:Str),N[j]?=some y→∃i,caps[j]?=some i∧X.N[i]?=some y)∧caps.length=N.length:=by
 refine⟨λj y e=>?_,by simpa using congrArg List.length h⟩
 have z:(caps.map (λi=>X.N[i]?))[j]?=some (some y):=by rw[h,Vao,e]; rfl
 rw[Vao] at z
 cases q:caps[j]? with
 | none=>rw[q] at z; cases z
 | some i=>rw[q] at z; exact⟨i,rfl,by simpa using z⟩
theorem zwW (hc:X.calm=true)(cs:zd0 sc X.env.scope x N)(hN:caps.map (λi=>X.N[i]?)=N.map some)(hnd:(x::N).Nodup)
  (hi:PI X (.Name x px) iter wi)(ht:∀cl C s0 H0 fp pn,PTs (Cx.comp X sc (x::N) cl C s0 H0 fp pn) ifs tc)(he:∀cl C s0 H0 fp pn,PE (Cx.comp X sc (x::N) cl C s0 H0 fp pn) elt te)
  (hs:∀y,foldedSetIterable iter X.env y=pure y:=by intro _; rfl):PE X (.ListComp elt [⟨.Name x px,iter,ifs,0⟩] sc pos) (zf9 caps wi tc te):=by
 intro pins s σ H Q I h
 rw[eval_ListComp]
 refine zpP (use:=none) hc cs (zkF hN).1 (zkF hN).2 hnd hi ht he hs I h λD C s' f=>?_
 obtain⟨⟨H',I',q,hC⟩,⟨m,ns⟩,l,o,c,p⟩:=f
 exact⟨m,ns,λh' sb=>⟨.ref D,H',I'.turned (t':=s'.toks) (λb ob hb e=>(sb.2 b hb).trans e) hC l (.inr o) c p,rfl,q⟩⟩
theorem zn4 {i:Nat}{y:Str}{py spos:Pos}(hc:X.calm=true)(cs:zd0 sc X.env.scope x N)(hN:caps.map (λi=>X.N[i]?)=N.map some)(hnd:(x::N).Nodup)
  (hi:PI X (.Name x px) iter wi)(ht:∀cl C s0 H0 fp pn,PTs (Cx.comp X sc (x::N) cl C s0 H0 fp pn) ifs tc)(he:∀cl C s0 H0 fp pn,PE (Cx.comp X sc (x::N) cl C s0 H0 fp pn) elt te)
  (hNd:X.N.Nodup)(hy:X.N[i]?=some y)(hl:X.env.scope.names.lookup y=some .local)
  (hsw:swapsWith (.ListComp elt [⟨.Name x px,iter,ifs,0⟩] sc pos) (some (.Name y py)) spos.line X.env=pure true)
  (hs:∀y,foldedSetIterable iter X.env y=pure y:=by intro _; rfl):PS X (.Assign [.Name y py] (.ListComp elt [⟨.Name x px,iter,ifs,0⟩] sc pos) spos) (λE σ H=>zf9 caps wi tc te σ H λv H1=>E.nx (σ.set i (some v)) H1):=by
 intro pins s σ H E I h
 rw[exec_Assign_Name_used (hs:=hsw)]
 refine wpAny_bind (wpAny_standAt ?_); refine wpAny_bind ?_; show wpAny _ _ (comprehension _ sc X.env _ (newList []) false (eval iter X.env) (some (assign (.Name y py) X.env)) >>= λ_=>pure ()) _ _ s
 refine wpAny_bind (thn (zpP (use:=some (assign (.Name y py) X.env)) (Qr:=λ_ s'=>SP X pins E .next s') hc cs (zkF hN).1 (zkF hN).2 hnd hi ht he hs I h λD C s' f=>?_) λ_ s' hq=>wpAny_pure (wpAny_pure hq))
 obtain⟨⟨H',I',q,hC⟩,⟨m,ns⟩,l,o,c,p⟩:=f
 refine wpAny_assign_Name (zpo (v:=.ref D) I' hNd hy (.inl hl) rfl (λs'' I'' ⟨a,sb,ha⟩=>⟨m,ns.sameBut sb ?_,λh' sb'=>⟨_,H',I''.turned (t':=s''.toks) (λb ob hb e=>(sb'.2 b hb).trans e) hC l (.inr o) c p,q⟩⟩) (.inr hl))
 rcases ha with rfl | ha
 ·exact l
 ·exact Ne.symm (c _ _ ha)
end
section
variable {X:Cx}{Z:Zx}{elt iter:Expr}{x:Str}{px pos:Pos}{ifs:List Expr}{sc ar:Scope}{N:List Str}{caps:List Nat}
theorem zuG {r:List Addr}{H:Hp}{dl:Ev}{σ:St}{d:D}{v:V}(h:Rs r H dl σ)(p:Rp r H d v):Rs r H (some d::zdJ caps dl) (some v::zb3 caps σ):=by
 refine⟨by simp[zdJ,zb3],λi e hi=>?_⟩
 cases i with
 | zero=>simp at hi; subst hi; exact⟨v,rfl,p⟩
 | succ i=>
  simp only[List.getElem?_cons_succ,zdJ,Vao] at hi
  cases q:caps[i]? with
  | none=>rw[q] at hi; cases hi
  | some j=>
   rw[q] at hi
   simp only[Option.map_some,Option.some.injEq] at hi
   have hj:dl[j]?=some (some e):=by
    cases q2:dl[j]? with
    | none=>rw[q2] at hi; cases hi
    | some o=>rw[q2] at hi; simp at hi; rw[hi]
   obtain⟨w,h1,h2⟩:=h.2 j e hj
   refine⟨w,?_,h2⟩
   simp only[List.getElem?_cons_succ,zb3,Vao,q,Option.map_some,h1,Option.join_some]
def zkW (Y:Cx)(ifs:List Expr)(t:TDT):Prop:=PTs Y ifs (upT Y.K Z0 t)
def zes:TDT:=λ_ S Q=>Q true S
theorem zlD {Y:Cx}:zkW Y [] zes:=λpins s σ H Qb I ⟨r,dl,S,Q,rs,rel,q,ret⟩=>zvl pins s σ H Qb I (ret true H r S Ext.refl rel q)
def ze6 (caps:List Nat)(tc:TDT)(te:TDE)(k:Nat)(dl:Ev)(d:D)(S:Sto)(nx:Sto→Prop):Prop:=
 tc (some d::zdJ caps dl) S λb S1=>if b=true then te (some d::zdJ caps dl) S1 λy S2=>match S2[k]? with
  | some (.lst ys)=>ys.length<1000∧nx (S2.set k (.lst (ys++[y])))
  | _=>False
 else nx S1
@[irreducible] def zhW (caps:List Nat)(tl:TDE)(tc:TDT)(te:TDE):TDE:=λdl S Q=>tl dl S λd S1=>match d with
 | .ref n=>(lAt S1 n).isSome=true∧∃W:Nat→Nat→Sto→Prop,(∃m,W 0 m (S1++[.lst []]))∧∀k m S2,W k m S2→match lAt S2 n with
  | some o=>match (zan o)[k]? with
   | some y=>ze6 caps tc te S1.length dl y S2 λS3=>∃m',m'<m∧W (k+1) m' S3
   | none=>Q (.ref S1.length) S2
  | none=>False
 | _=>False
@[irreducible] def zin (caps:List Nat)(ta:TDA)(tc:TDT)(te:TDE):TDE:=λdl S Q=>ta dl S λds S1=>match ds with
 | [.int j]=>(-(2^62)≤j∧j<2^62)∧∃W:Nat→Sto→Prop,W 0 (S1++[.lst []])∧∀k S2,W k S2→
   if k<j.toNat then ze6 caps tc te S1.length dl (.int k) S2 λS3=>W (k+1) S3 else Q (.ref S1.length) S2
 | _=>False
theorem zlv {tc:TDT}{te:TDE}{r2:List Addr}{H2:Hp}{S1 S2:Sto}{dl:Ev}{σ:St}{D0:Addr}{d:D}{v:V}{nx:Sto→Prop}{Nx:Hp→Prop}(rs:Rs r2 H2 dl σ)(ha:r2[S1.length]?=some D0)(rb:zaM X.K r2 S2 H2)(p:Rp r2 H2 d v)
  (h:ze6 caps tc te S1.length dl d S2 nx)(hn:∀r' S' H',Ext r2 r' H2 H'→zaM X.K r' S' H'→nx S'→Nx H'):
  upT X.K Z0 tc (some v::zb3 caps σ) H2 λb H3=>if b=true then up X.K Z0 te (some v::zb3 caps σ) H3 λy H4=>∃ys,H4 D0=some (.lst ys)∧ys.length<sizeLine∧Nx (upd H4 D0 (.lst (ys++[y]))) else Nx H3:=by
 have rsY:Rs r2 H2 (some d::zdJ caps dl) (some v::zb3 caps σ):=zuG rs p
 refine⟨r2,_,S2,_,rsY,⟨rb,λ_ _ _ _ _ _ _ _ _ z=>z.elim⟩,h,λb H3 r3 S3 x3 rel3 q3=>?_⟩
 cases b with
 | false=>rw[if_neg Van] at q3 ⊢; exact hn r3 S3 H3 x3 rel3.b q3
 | true=>
  rw[if_pos rfl] at q3 ⊢
  refine⟨r3,_,S3,_,rsY.ext x3,rel3,q3,λz H4 r4 dz S4 x4 rel4 p4 q4=>?_⟩
  split at q4
  ·rename_i ys eys
   obtain⟨hl,q4⟩:=q4
   have ha4:r4[S1.length]?=some D0:=x4.adr _ _ (x3.adr _ _ ha)
   obtain⟨zs,hD4,pz⟩:=rel4.b.ob _ _ _ ha4 eys
   obtain⟨rel5,x5⟩:=rel4.b.set ha4 eys (pz.snoc p4)
   exact⟨zs,hD4,by rw[← pz.1]; exact zg5 (VaF hl),hn r4 _ _ (x3.trans (x4.trans x5)) rel5 q4⟩
  ·exact q4.elim
theorem zhE {r:List Addr}{D0:Addr}{n:Nat}(h:r.length=n):(r++[D0])[n]?=some D0:=by subst h; simp
theorem zrn {tl:TDE}{tc:TDT}{te:TDE}{σ:St}{H:Hp}{Qv:VK}(h:up X.K Z (zhW caps tl tc te) σ H Qv):zf9 caps (zn7 X.K (up X.K Z tl)) (upT X.K Z0 tc) (up X.K Z0 te) σ H Qv:=by
 obtain⟨r,dl,S,Q,rs,rel,h,ret⟩:=h
 unfold zhW at h
 refine⟨r,dl,S,_,rs,rel,h,λv H1 r1 d S1 x1 rel1 p1 q1=>?_⟩
 cases p1 with
 | @ref n a hn=>
  obtain⟨hsome,W,⟨m0,w0⟩,turn⟩:=q1
  have sql:∀ {r':List Addr} {S':Sto} {H':Hp} {o:Ob},Ext r1 r' H1 H'→zaM X.K r' S' H'→lAt S' n=some o→∃xs,SqL X.K H' a xs∧Rps r' H' (zan o) xs:=λ{r' S' H' o} x' rel' eo=>by
   obtain⟨eo,eL⟩:=zb5 eo
   obtain⟨a',ha,ob⟩:=rel'.at eo
   rw[x'.adr n a hn] at ha; cases ha
   exact ob.list eL
  obtain⟨o1,eo1⟩:=Option.isSome_iff_exists.mp hsome
  obtain⟨xs1,sq1,_⟩:=sql Ext.refl rel1.b eo1
  refine⟨a,rfl,⟨xs1,sq1⟩,λD0 hD=>?_⟩
  obtain⟨rel2,x2⟩:=rel1.b.push (ds:=[]) (xs:=[]) hD Rps.nil
  refine⟨λk m H'=>∃r' S',Ext (r1++[D0]) r' (upd H1 D0 (.lst [])) H'∧zaM X.K r' S' H'∧W k m S',⟨m0,_,_,Ext.refl,rel2,w0⟩,?_⟩
  rintro k m H2 ⟨r2,S2,x3,rb2,w2⟩
  have ha2:r2[S1.length]?=some D0:=x3.adr _ _ (zhE rel1.len)
  have q:=turn k m S2 w2
  split at q
  ·rename_i o eo
   obtain⟨xs,sq,pr⟩:=sql (x2.trans x3) rb2 eo
   split at q
   ·rename_i y ey
    obtain⟨v,hv,pv⟩:=pr.get ey
    refine .inr ⟨⟨xs,v,sq,hv⟩,λv' H' y'=>?_⟩
    obtain⟨eH,y'⟩:=y'
    subst eH
    have ev:v'=v:=by
     have z:=y' xs sq
     rw[hv] at z; exact(Option.some.inj z).symm
    subst ev
    have z:=zlv (Nx:=λH'=>∃m',m'<m∧∃r' S',Ext (r1++[D0]) r' (upd H1 D0 (.lst [])) H'∧zaM X.K r' S' H'∧W (k+1) m' S') (rs.ext (x1.trans (x2.trans x3))) ha2 rb2 pv q λr' S' H' x' rb' ⟨m',hm,w'⟩=>⟨m',hm,r',S',x3.trans x',rb',w'⟩
    exact z
   ·rename_i ey
    have hlen:(zan o).length≤k:=List.getElem?_eq_none_iff.mp ey
    exact .inl ⟨⟨xs,sq,by rw[← pr.1]; exact hlen⟩,ret _ H2 r2 _ S2 (x1.trans (x2.trans x3)) ⟨rb2,rel.xw.ext (x1.trans (x2.trans x3))⟩ (.ref ha2) q⟩
  ·exact q.elim
 | _=>exact(show False from q1).elim
theorem zvM {ta:TDA}{tc:TDT}{te:TDE}{σ:St}{H:Hp}{Qv:VK}(h:up X.K Z (zin caps ta tc te) σ H Qv):zf9 caps (zp5 (upA X.K Z ta)) (upT X.K Z0 tc) (up X.K Z0 te) σ H Qv:=by
 obtain⟨r,dl,S,Q,rs,rel,h,ret⟩:=h
 unfold zin at h
 refine⟨r,dl,S,_,rs,rel,h,λvs H1 r1 ds S1 x1 rel1 p1 q1=>?_⟩
 split at q1
 ·rename_i j
  obtain⟨v,vs',rfl,p2,p3⟩:=p1.uncons
  have z:=p3.unnil
  subst z
  cases p2
  obtain⟨⟨b1,b2⟩,W,w0,turn⟩:=q1
  refine⟨j,rfl,b1,b2,λD0 hD=>?_⟩
  obtain⟨rel2,x2⟩:=rel1.b.push (ds:=[]) (xs:=[]) hD Rps.nil
  refine⟨λk m H'=>m=j.toNat-k∧∃r' S',Ext (r1++[D0]) r' (upd H1 D0 (.lst [])) H'∧zaM X.K r' S' H'∧W k S',⟨j.toNat,by simp,_,_,Ext.refl,rel2,w0⟩,?_⟩
  rintro k m H2 ⟨em,r2,S2,x3,rb2,w2⟩
  have ha2:r2[S1.length]?=some D0:=x3.adr _ _ (zhE rel1.len)
  have q:=turn k S2 w2
  split at q
  ·rename_i hk
   refine .inr ⟨hk,λv' H' y'=>?_⟩
   obtain⟨eH,y'⟩:=y'
   subst eH
   subst y'
   have pk:Rp r2 H' (.int (k:Int)) (.int (0+(k:Int))):=by rw[Int.zero_add]; exact .int _
   have z:=zlv (Nx:=λH'=>∃m',m'<m∧m'=j.toNat-(k+1)∧∃r' S',Ext (r1++[D0]) r' (upd H1 D0 (.lst [])) H'∧zaM X.K r' S' H'∧W (k+1) S') (rs.ext (x1.trans (x2.trans x3))) ha2 rb2 pk q
    λr' S' H' x' rb' w'=>⟨j.toNat-(k+1),by omega,rfl,r',S',x3.trans x',rb',w'⟩
   exact z
  ·rename_i hk
   exact .inl ⟨by show j.toNat≤k; omega,ret _ H2 r2 _ S2 (x1.trans (x2.trans x3)) ⟨rb2,rel.xw.ext (x1.trans (x2.trans x3))⟩ (.ref ha2) q⟩
 ·exact q1.elim
theorem zpL {t:TE}{td:TDE}{i:Nat}{F:zd2}{σ:St}{H:Hp}(imp:∀Qv,up X.K Z td σ H Qv→t σ H Qv)(h:upS X.K Z (λE dl S=>td dl S λd S1=>E.nx (dl.set i (some d)) S1) F σ H):t σ H λv H1=>F.nx (σ.set i (some v)) H1:=by
 obtain⟨r,dl,S,E,rs,rel,h,ret⟩:=h
 exact imp _ ⟨r,dl,S,_,rs,rel,h,λv H1 r1 d S1 x rel1 p q=>ret.nx _ H1 r1 _ S1 x ((rs.ext x).set i p) rel1 q⟩
theorem zrk {tl:TDE}{tc:TDT}{te:TDE}{i:Nat}{y:Str}{py spos:Pos}(har:X.env.scope=ar)(hc:X.calm=true)(cs:zd0 sc ar x N)(hN:caps.map (λi=>X.N[i]?)=N.map some)(hnd:(x::N).Nodup)(hNd:X.N.Nodup)(hy:X.N[i]?=some y)(hlo:ar.names.lookup y=some .local)
  (hl:PD X Z iter tl)(ht:∀cl C s0 H0 fp pn,zkW (Cx.comp X sc (x::N) cl C s0 H0 fp pn) ifs tc)(he:∀cl C s0 H0 fp pn,PD (Cx.comp X sc (x::N) cl C s0 H0 fp pn) Z0 elt te)
  (hsw:swapsWith (.ListComp elt [⟨.Name x px,iter,ifs,0⟩] sc pos) (some (.Name y py)) spos.line X.env=pure true:=by rfl)
  (hs:∀y,foldedSetIterable iter X.env y=pure y:=by intro _; rfl):PDS X Z (.Assign [.Name y py] (.ListComp elt [⟨.Name x px,iter,ifs,0⟩] sc pos) spos) (zfr i (zhW caps tl tc te)):=by
 subst har
 exact zb2 (zn4 hc cs hN hnd (tc:=upT X.K Z0 tc) (te:=up X.K Z0 te) (zpO hl) ht he hNd hy hlo hsw hs) λF σ H h=>zpL (λ_ h=>zrn h) h
theorem ztl {ta:TDA}{tc:TDT}{te:TDE}{a:Expr}{p pos2:Pos}{i:Nat}{y:Str}{py spos:Pos}(har:X.env.scope=ar)(hc:X.calm=true)(cs:zd0 sc ar x N)(hN:caps.map (λi=>X.N[i]?)=N.map some)(hnd:(x::N).Nodup)(hNd:X.N.Nodup)(hy:X.N[i]?=some y)
  (hlo:ar.names.lookup y=some .local)(hg:Gl X "range")(hm:X.mg "range"=none)(ha:PDA X Z [a] ta)
  (ht:∀cl C s0 H0 fp pn,zkW (Cx.comp X sc (x::N) cl C s0 H0 fp pn) ifs tc)(he:∀cl C s0 H0 fp pn,PD (Cx.comp X sc (x::N) cl C s0 H0 fp pn) Z0 elt te)
  (hsw:swapsWith (.ListComp elt [⟨.Name x px,.Call (.Name "range" p) [a] [] pos2,ifs,0⟩] sc pos) (some (.Name y py)) spos.line X.env=pure true:=by rfl)
  (hs:∀y,foldedSetIterable (.Call (.Name "range" p) [a] [] pos2) X.env y=pure y:=by intro _; rfl)(hst:starEach [a] X.env=[(false,eval a X.env)]:=by rfl):
  PDS X Z (.Assign [.Name y py] (.ListComp elt [⟨.Name x px,.Call (.Name "range" p) [a] [] pos2,ifs,0⟩] sc pos) spos) (zfr i (zin caps ta tc te)):=by
 subst har
 exact zb2 (zn4 hc cs hN hnd (tc:=upT X.K Z0 tc) (te:=up X.K Z0 te) (zoX hg hm ha hst) ht he hNd hy hlo hsw hs) λF σ H h=>zpL (λ_ h=>zvM h) h
@[irreducible] def zeV (to te:TDE):TDE:=λdl S Q=>to dl S λx S1=>match x with
 | .ref n=>match S1[n]? with
  | some (.lst _)=>te dl S1 λy S2=>match S2[n]? with
   | some (.lst xs)=>if xs.length<1000 then Q .non (S2.set n (.lst (xs++[y]))) else False
   | _=>False
  | _=>False
 | _=>False
theorem zdD {o e:Expr}{to te:TDE}{apos cpos:Pos}(ho:PD X Z o to)(he:PD X Z e te)(hbase:attributeBase o "append" X.env (eval o X.env)=eval o X.env:=by rfl)
  (hfew:((backTo cpos (starEach [e] X.env)).all (λx=>!x.1)&&(backToKw cpos (keywordEach [] X.env)).all (λx=>x.1.isSome)
  &&decide (([e]:List Expr).length+([]:List Keyword).length+(if ([]:List Keyword).isEmpty then 0 else 1)<30))=true:=by rfl)
  (hline:(apos.endLine==cpos.line)=true:=by rfl)(hst:starEach [e] X.env=[(false,eval e X.env)]:=by rfl):
  PD X Z (.Call (.Attribute o "append" apos) [e] [] cpos) (zeV to te):=
 zaK (ze3 PySem.F.plainAttrs_list PySem.F.slot_list_append PySem.F.type_list_append zna ho (zgi he zh6 hst) hbase hfew hline hst rfl) λσ H Qv h=>by
  obtain⟨r,dl,S,Q,rs,rel,h,ret⟩:=h
  unfold zeV at h
  refine⟨r,dl,S,_,rs,rel,h,λv H1 r1 d S1 x1 rel1 p1 h1=>?_⟩
  cases p1 with
  | @ref n a hn=>
   dsimp only at h1
   split at h1
   ·rename_i xs0 e0
    obtain⟨a',ha,ob⟩:=rel1.at e0
    rw[hn] at ha; cases ha
    obtain⟨ys,hH,_⟩:=ob
    refine⟨.inl ⟨rfl,ys,SqL.of hH⟩,r1,dl,S1,_,rs.ext x1,rel1,h1,λv2 H2 r2 d2 S2 x2 rel2 p2 h2=>?_⟩
    split at h2
    ·rename_i xs1 e1
     obtain⟨hlt,h2⟩:=zhL h2
     have ha2:=x2.adr n a hn
     obtain⟨zs,hH2,pz⟩:=rel2.b.ob n a _ ha2 e1
     obtain⟨rel3,x3⟩:=rel2.set ha2 e1 (pz.snoc p2)
     exact⟨a,zs,v2,rfl,rfl,hH2,by rw[← pz.1]; exact zg5 (VaF hlt),ret .non _ r2 .non _ (x1.trans (x2.trans x3)) rel3 .non h2⟩
    ·exact h2.elim
   ·exact h1.elim
  | _=>exact(show False from h1).elim
def zkN:WC:=λds S Q=>match ds with
 | [.tup xs]=>Q (.ref S.length) (S++[.lst xs])
 | [.ref n]=>match lAt S n with
  | some o=>Q (.ref S.length) (S++[.lst (zan o)])
  | none=>False
 | _=>False
theorem zeZ:zbj X (.type "list") (upC X.K Z zkN):=zgr zsw λxs H Qv ⟨r,S,ds,Q,rel,ps,q,ret⟩=>by
 unfold zkN at q
 split at q
 ·rename_i ys
  obtain⟨v,vs,rfl,p1,p2⟩:=ps.uncons
  have z:=p2.unnil
  subst z
  obtain⟨a,zs,rfl,h1,h2⟩:=p1.untup
  refine⟨a,zs,rfl,.inr (SqT.of h1),λl hl=>?_⟩
  obtain⟨rel2,x⟩:=rel.push hl h2
  exact ret _ _ _ (.ref S.length) _ x rel2 (zcQ rel.len) q
 ·rename_i n
  obtain⟨v,vs,rfl,p1,p2⟩:=ps.uncons
  have z:=p2.unnil
  subst z
  split at q
  ·rename_i o eo
   obtain⟨eo,eL⟩:=zb5 eo
   obtain⟨a,ha,ob⟩:=rel.at eo
   cases p1 with
   | ref h1=>
    rw[h1] at ha; cases ha
    obtain⟨ys,sq,pr⟩:=ob.list eL
    refine⟨_,ys,rfl,.inl sq,λl hl=>?_⟩
    obtain⟨rel2,x⟩:=rel.push hl pr
    exact ret _ _ _ (.ref S.length) _ x rel2 (zcQ rel.len) q
  ·exact q.elim
 ·exact q.elim
def zcJ:List D→Option (List Bool)
 | []=>some []
 | .bl b::r=>(zcJ r).map (b::·)
 | _::_=>none
def zig (g:List Bool→Bool):WC:=λds S Q=>match ds with
 | [.ref n]=>match lAt S n with
  | some o=>match zcJ (zan o) with
   | some bs=>Q (.bl (g bs)) S
   | none=>False
  | none=>False
 | _=>False
theorem zpi {r:List Addr}{H:Hp}:∀ {ds:List D} {bs:List Bool} {vs:List V} {us:List Value},zcJ ds=some bs→Rps r H ds vs→zas vs us→us=bs.map Value.bool
 | [],bs,vs,us,e,p,q=>by
  have z:=p.unnil
  subst z
  cases q
  simp[zcJ] at e
  subst e
  rfl
 | d::ds,bs,vs,us,e,p,q=>by
  obtain⟨v,vs',rfl,p1,p2⟩:=p.uncons
  cases d with
  | bl b=>
   cases p1
   cases q with
   | cons q1 q2=>
    have q1':_=Value.bool b:=q1
    subst q1'
    simp only[zcJ,VaR] at e
    obtain⟨ms,e1,rfl⟩:=e
    rw[zpi e1 p2 q2]
    rfl
  | _=>simp[zcJ] at e
theorem zu7 {bs:List Bool}:(List.range bs.length).all (λi=>bs.getD i false)=bs.all id:=by
 rw[VaO]
 rw[List.all_eq_true,List.all_eq_true]
 refine⟨λh b hb=>?_,λh i hi=>?_⟩
 ·obtain⟨i,hi,e⟩:=List.mem_iff_getElem.mp hb
  have hb':=h i (VaU.mpr hi)
  simpa [hi,e] using hb'
 ·have hi':i<bs.length:=VaU.mp hi
  have:=h bs[i] (VaQ hi')
  simpa [hi'] using this
theorem zta {prog:Program}{w:World}{A:Around}{bs:List Bool}:TruthOf prog w A (λi v=>(bs.map Value.bool).toArray[i]?=some v) λi=>bs.getD i false:=λi v s Q E hP hQ=>by
  have e:(bs.map Value.bool)[i]?=some v:=by simpa using hP
  rw[Vao] at e
  cases q:bs[i]? with
  | none=>
   rw[q] at e
   cases e
  | some b=>
    rw[q] at e
    have z:Value.bool b=v:=by simpa using e
    subst z
    have z2:bs.getD i false=b:=by simp[Vai,q]
    have hQ':Q (bs.getD i false) s:=hQ
    rw[z2] at hQ'
    exact wpAny_truthy_bool hQ'
theorem zs3 {n:Nat}{a:Addr}{o:Ob}{bs:List Bool}{pins:List (Addr×Obj)}{σ:St}{H:Hp}{s:Shared}{r:List Addr}{S:Sto}{Q:DK}{Qv:VK}{E:Value→Shared→Prop}{g:List Bool→Bool}(G:List Nat→(Nat→Bool)→Bool)
  (hG:G (List.range bs.length) (λi=>bs.getD i false)=g bs)(hc:X.calm=true)(I:Inv X pins σ H s)(rel:Rel X.K Z r S H)(hn:r[n]?=some a)(eo:lAt S n=some o)(eb:zcJ (zan o)=some bs)(q:Q (.bl (g bs)) S)(ret:Ret X.K Z r H Q Qv):
  wpAny (model X.prog X.w) X.A.in1 (pyIter (.ref a)) (λit s₂=>∃I fp wr n P' St tr,it=.ref I∧Walks X.prog X.w X.A.in1 I fp wr n P' St∧St 0 s₂.heap∧TruthOf X.prog X.w X.A.in1 P' tr∧
   ∀h' tk,(∀b o,b ∉ wr→s₂.heap.get? b=some o→h'.get? b=some o)→EP X pins σ Qv (.bool (G (List.range n) tr)) { s₂ with heap:=h',toks:=tk }) E s:=by
 obtain⟨eo,eL⟩:=zb5 eo
 obtain⟨a',ha,ob⟩:=rel.at eo
 rw[hn] at ha; cases ha
 obtain⟨ys,sq,pr⟩:=ob.list eL
 obtain⟨its,ri,pl,hz⟩:=I.list sq
 have eits:=zpi eb pr ri
 subst eits
 refine wpAny_pyIter_list pl.isList ?_
 have hne:a≠s.heap.objs.size:=Vam (by
  obtain⟨ob,e,_⟩:=pl.isList
  exact Heap.lt_size e)
 refine⟨s.heap.objs.size,_,_,_,_,_,λi=>bs.getD i false,rfl,Walks.list (show X.A.in1.handled=none from I.ok.hd hc) _ a hne (bs.map Value.bool).toArray,⟨⟨_,Heap.get?_push_size _ rfl,rfl,rfl⟩,pl.isList.at λo e=>Heap.get?_push_of_some _ e⟩,zta,λh' tk hk=>?_⟩
 have ez:(bs.map Value.bool).toArray.size=bs.length:=by simp
 rw[ez,hG]
 refine⟨.bl (g bs),H,I.kept λb o e=>hk b o (λz=>?_) (Heap.get?_push_of_some _ e),rfl,ret _ _ _ _ _ Ext.refl rel (.bl _) q⟩
 have z':b=s.heap.objs.size:=by simpa using z
 exact absurd (z' ▸ Heap.lt_size e) (VaC _)
theorem zr0 {id:String}{g:List Bool→Bool}(rule:∀(pins:List (Addr×Obj)) (σ:St) (H:Hp) (s:Shared) (r:List Addr) (S:Sto) (Q:DK) (Qv:VK) (n:Nat) (a:Addr) (o:Ob) (bs:List Bool),Inv X pins σ H s→Rel X.K Z r S H→r[n]?=some a→lAt S n=some o→zcJ (zan o)=some bs→
   Q (.bl (g bs)) S→Ret X.K Z r H Q Qv→wpAny (model X.prog X.w) X.A (call (.builtin id) [.ref a]) (EP X pins σ Qv) X.xe s):zbj X (.builtin id) (upC X.K Z (zig g)):=by
 intro pins s σ H xs us Qv I rv h
 obtain⟨r,S,ds,Q,rel,ps,q,ret⟩:=h
 unfold zig at q
 split at q
 ·rename_i n
  obtain⟨v,vs,rfl,p1,p2⟩:=ps.uncons
  have z:=p2.unnil
  subst z
  split at q
  ·rename_i o eo
   split at q
   ·rename_i bs eb
    cases p1 with
    | ref h1=>
     obtain⟨u,rfl,ru⟩:=zcm rv
     cases ru
     exact rule pins σ H s r S Q Qv n _ o bs I rel h1 eo eb q ret
   ·exact q.elim
  ·exact q.elim
 ·exact q.elim
theorem zqX (hc:X.calm=true):zbj X (.builtin "all") (upC X.K Z (zig λbs=>bs.all id)):=
 zr0 λ_ _ _ _ _ _ _ _ _ _ _ _ I rel h1 eo eb q ret=>call_all_walk (zs3 (g:=λbs=>bs.all id) (λl f=>l.all f) zu7 hc I rel h1 eo eb q ret)
@[irreducible] def irr (w:WC):WC:=w
@[irreducible] def zbT (w:W2):W2:=w
theorem zff (w:WC):irr w=w:=by unfold irr; rfl
theorem zca (w:W2):zbT w=w:=by unfold zbT; rfl
theorem zaU {f:Value}{w:WC}(h:zbj X f (upC X.K Z w)):zbj X f (upC X.K Z (irr w)):=by rw[zff]; exact h
theorem zaX {a b:Expr}{ta tb:TDE}(ha:PD X Z a ta)(hb:PD X Z b tb)(hs:zl5 b):PD X Z (.Subscript a b pos) (dOp (zbT wIx) ta tb):=by rw[zca]; exact zaq ha hb hs
theorem zax (S:Sto)(o:Ob):(S++[o])[S.length]?=some o:=by simp
theorem zr5 {S:Sto}{o u:Ob}{n:Nat}(h:S[n]?=some o):(S++[u])[n]?=some o:=by
 rw[Vah (Vac.mp h).1]; exact h
theorem zrx {tl te:TDE}{dl:Ev}{S S1:Sto}{Q:DK}{n:Nat}{o:Ob}(g:D→D)(htl:∀K:DK,K (.ref n) S1→tl dl S K)(h1:S1[n]?=some o)(hl:(zan o).length≤1000)
  (ht:∀x∈zan o,∀(S2:Sto) (K:DK),Pre S1 S2→K (g x) S2→te (some x::zdJ caps dl) S2 K)(hq:Q (.ref S1.length) (S1++[.lst ((zan o).map g)]))(hL:zcb o=some o:=by rfl):zhW caps tl zes te dl S Q:=by
 unfold zhW
 refine htl _ ⟨by rw[zbd h1 hL]; rfl,λk m S2=>S2=S1++[.lst (((zan o).take k).map g)]∧m+k=(zan o).length,⟨(zan o).length,by simp,by omega⟩,?_⟩
 rintro k m S2 ⟨rfl,hm⟩
 rw[zbd (zr5 h1) hL]
 dsimp only
 split
 ·rename_i x hx
  have hk:k<(zan o).length:=(Vac.mp hx).1
  unfold ze6 zes
  simp only[if_true]
  refine ht x (Vas hx) _ _ Pre.refl.push ?_
  rw[zax]
  refine⟨by simp; omega,m-1,by omega,?_,by omega⟩
  have e:(zan o).take (k+1)=(zan o).take k++[x]:=by rw[List.take_succ,hx]; rfl
  rw[e,Vaz,List.set_append_right _ _ (Vab _)]
  simp
 ·rename_i hx
  have hk:(zan o).length≤k:=List.getElem?_eq_none_iff.mp hx
  rw[List.take_of_length_le hk]
  exact hq
theorem zst {o:Ob}{bs:List Bool}(h:zcJ (zan o)=some bs):zcb o=some o:=by
 cases o <;> first | rfl | cases h
theorem zqS {g:List Bool→Bool}{n:Nat}{S:Sto}{o:Ob}{bs:List Bool}{Q:DK}(h:S[n]?=some o)(hb:zcJ (zan o)=some bs)(hq:Q (.bl (g bs)) S):irr (zig g) [.ref n] S Q:=by
 rw[zff]
 unfold zig
 simp only[zbd h (zst hb),hb]
 exact hq
theorem zeS {n:Nat}{S:Sto}{o:Ob}{Q:DK}(h:lAt S n=some o)(hq:Q (.ref S.length) (S++[.lst (zan o)])):irr zkN [.ref n] S Q:=by
 rw[zff]
 unfold zkN
 simp only[h]
 exact hq
theorem zeE {to te:TDE}{dl:Ev}{S S1:Sto}{Q:DK}{n:Nat}{xs:List D}{y:D}(hto:∀K:DK,K (.ref n) S1→to dl S K)(h:S1[n]?=some (.lst xs))(hte:∀K:DK,K y S1→te dl S1 K)(hl:xs.length<1000)(hq:Q .non (S1.set n (.lst (xs++[y])))):zeV to te dl S Q:=by
 unfold zeV
 refine hto _ ?_
 simp only[h]
 refine hte _ ?_
 simp only[h]
 exact ifP hl hq
end
end L3
namespace L3
open PySem PySem.Spec PyProof.Rows L2 PySem.W Builtin Builtin.ObjectAttr Builtin.Getset_descriptor
structure Nx (K:Frag)(D:Addr):Prop where
 ga:findIn K (.ref D) "__getattribute__"=some (some (.builtin "BaseException.__getattribute__"))
 hk:findIn K (.ref D) "__getattr__"=some none
 ha:findIn K (.ref D) "__class__"=some (some (.builtin "object.__class__"))
 hn:specialIn K (.builtin "object.__class__") "__get__"=some (some (.builtin "getset_descriptor.__get__"))
 ht:takesIn K (.builtin "object.__class__")=some true
 hm:mroIn K D (.type "object")=some true
 hb:mroIn K D (.type "BaseException")=some true
section
variable {X:Cx}{Z:Zx}
end
def eqN:Nat→D→D→Option Bool
 | 0=>eqF
 | k+1=>eqT (eqN k)
theorem zoR:∀k,zga (eqN k)
 | 0=>zf2
 | k+1=>zom (zoR k)
theorem zfM:∀k,zd6 k (eqN k)
 | 0=>zlI 0
 | k+1=>zph (zfM k) (zoR k)
def zdT (k:Nat)(S:Sto):D→D→Option Bool
 | .ref n,.ref m=>match lAt S n,lAt S m with
  | some o,some o'=>eqL (eqN k) (zan o) (zan o')
  | _,_=>none
 | x,y=>eqN (k+1) x y
def zeY (k:Nat):W2:=λx y S Q=>match zdT k S x y with
 | some b=>Q (.bl b) S
 | none=>False
def zfa (k:Nat):W2:=λx y S Q=>match zdT k S x y with
 | some b=>Q (.bl (!b)) S
 | none=>False
section
variable {X:Cx}{Z:Zx}
theorem zu0 {k n m:Nat}{a a':Addr}{o o':Ob}{b:Bool}{pins:List (Addr×Obj)}{σ:St}{H:Hp}{s:Shared}{r:List Addr}{S:Sto}(I:Inv X pins σ H s)(rel:Rel X.K Z r S H)(hn:r[n]?=some a)(hm:r[m]?=some a')(eo:lAt S n=some o)(eo':lAt S m=some o')
  (e:eqL (eqN k) (zan o) (zan o')=some b)(hu:X.A.units+1+k<cLine):SeqAt.RcAt X.A s (.ref a) (.ref a') b:=by
 obtain⟨eo,eL⟩:=zb5 eo
 obtain⟨eo',eL'⟩:=zb5 eo'
 obtain⟨z,hz,ob⟩:=rel.at eo
 rw[hn] at hz; cases hz
 obtain⟨z,hz,ob'⟩:=rel.at eo'
 rw[hm] at hz; cases hz
 obtain⟨xs,sq,pr⟩:=ob.list eL
 obtain⟨ys,sq',pr'⟩:=ob'.list eL'
 obtain⟨is,ri,pl,_⟩:=I.list sq
 obtain⟨js,rj,pl',_⟩:=I.list sq'
 obtain⟨g1,g2⟩:=zih (A:=X.A.in1) (zfM k) I (by show X.A.units+1+k<_; omega) pr pr' ri rj e
 by_cases hs:is.toArray.size=js.toArray.size
 ·have q:=SeqAt.RcAt.lists (A:=X.A) pl.isList pl'.isList hs (by omega) g1
  have e2:(List.range is.toArray.size).all (zcI (eqN k) (zan o) (zan o'))=b:=by
   rw[← g2,← hs,Nat.min_self]; simp
  rw[e2] at q
  exact q
 ·have q:=SeqAt.RcAt.lists_lengths (A:=X.A) pl.isList pl'.isList (by simpa using hs) (by omega)
  have e2:b=false:=by
   rw[← g2,show (is.toArray.size==js.toArray.size)=false by simpa using hs,Bool.and_false]
  rw[e2]
  exact q
theorem ztO (k:Nat){j:Nat}(hr:zaE j X.A)(hu:X.A.units+1+k<cLine):OpR X (compareOp .Eq) (upO X.K Z (zeY k)):=by
 intro pins s σ H x y v u Qv I rx ry h
 obtain⟨r,S,dx,dy,Q,rel,px,py,q,ret⟩:=h
 have zaC:∀ {dx dy:D} {x y:V},Rp r H dx x→Rp r H dy y→zal x v→zal y u→zdT k S dx dy=eqN (k+1) dx dy→zeY k dx dy S Q→wpAny (model X.prog X.w) X.A (compareOp .Eq v u) (EP X pins σ Qv) X.xe s:=λpx py rx ry e q=>by
  refine zoL (Z:=Z) (zfM k) hu pins s σ H _ _ v u Qv I rx ry ⟨r,S,_,_,Q,rel,px,py,?_,ret⟩
  unfold zeY at q
  rw[e] at q
  exact q
 cases px with
 | @ref n a hn=>
  cases py with
  | @ref m a' hm=>
   cases rx
   cases ry
   unfold zeY zdT at q
   dsimp only at q
   split at q
   ·rename_i b e
    split at e
    ·rename_i o o' eo eo'
     exact zu0 I rel hn hm eo eo' e hu X.prog X.w X.xe _ ⟨.bl b,H,I,rfl,ret _ _ _ _ _ Ext.refl rel (.bl b) q⟩
    ·cases e
   ·exact q.elim
  | non=>exact zaC (.ref hn) .non rx ry rfl q
  | bl i=>exact zaC (.ref hn) (.bl i) rx ry rfl q
  | int i=>exact zaC (.ref hn) (.int i) rx ry rfl q
  | str i=>exact zaC (.ref hn) (.str i) rx ry rfl q
  | tup a b c=>exact zaC (.ref hn) (.tup a b c) rx ry rfl q
  | exc a=>exact zaC (.ref hn) (.exc a) rx ry rfl q
 | non=>exact zaC .non py rx ry rfl q
 | bl i=>exact zaC (.bl i) py rx ry rfl q
 | int i=>exact zaC (.int i) py rx ry rfl q
 | str i=>exact zaC (.str i) py rx ry rfl q
 | tup a b c=>exact zaC (.tup a b c) py rx ry rfl q
 | exc a=>exact zaC (.exc a) py rx ry rfl q
def zb1 (f:D→D→Option Bool):List D→D→Option Bool
 | [],_=>some false
 | y::ys,x=>match f y x,zb1 f ys x with
  | some b,some c=>some (b||c)
  | _,_=>none
def wIn (k:Nat)(neg:Bool):W2:=λx y S Q=>match y with
 | .ref n=>match lAt S n with
  | some o=>match zb1 (eqN k) (zan o) x with
   | some b=>Q (.bl (if neg then !b else b)) S
   | none=>False
  | none=>False
 | _=>False
theorem zuj {v v':V}{u:Value}(h:zal v u)(h':zal v' u):v=v':=by
 cases v <;> cases v' <;> simp[L2.zal] at h h' <;> first
  | rfl
  | (subst h; simp at h'; subst h'; rfl)
  | (obtain⟨t,rfl⟩:=h; simp at h'; subst h'; rfl)
  | (obtain⟨t,rfl⟩:=h; simp at h')
  | (subst h; simp at h')
  | skip
theorem zhB {r:List Addr}{H:Hp}{d d' x:D}{v:V}{b b':Bool}(p:Rp r H d v)(p':Rp r H d' v)(e:eqF d x=some b)(e':eqF d' x=some b'):b=b':=by
 have z:d=d':=by
  cases p <;> cases p' <;> first
   | rfl
   | (cases x <;> simp[eqF] at e)
   | (cases x <;> simp[eqF] at e')
 subst z
 rw[e] at e'
 exact Option.some.inj e'
theorem znm {f:D→D→Option Bool}{r:List Addr}{H:Hp}(hf:∀(d d' x:D) (v:V) (b b':Bool),Rp r H d v→Rp r H d' v→f d x=some b→f d' x=some b'→b=b'):
  ∀ {ds ds' zs:List D} {vs:List V} {b b':Bool},Rps r H ds vs→Rps r H ds' vs→eqL f ds zs=some b→eqL f ds' zs=some b'→b=b'
 | [],ds',zs,vs,b,b',p,p',e,e'=>by
  have z:=p.unnil
  subst z
  cases ds' with
  | nil=>rw[e] at e'; exact Option.some.inj e'
  | cons y ys=>exact absurd p'.1 (by simp)
 | d::ds,ds',zs,vs,b,b',p,p',e,e'=>by
  obtain⟨v,vs',rfl,p1,p2⟩:=p.uncons
  cases ds' with
  | nil=>exact absurd p'.1 (by simp)
  | cons d' ds'=>
   obtain⟨q1,q2⟩:=p'.tail
   cases zs with
   | nil=>
    simp only[eqL,Option.some.injEq] at e e'
    exact e.symm.trans e'
   | cons z zs=>
    unfold eqL at e e'
    split at e
    ·rename_i b1 c1 a1 a2
     split at e'
     ·rename_i b2 c2 a3 a4
      have h1:=hf d d' z v b1 b2 p1 q1 a1 a3
      have h2:=znm hf p2 q2 a2 a4
      subst h1 h2
      simp only[Option.some.injEq] at e e'
      exact e.symm.trans e'
     ·cases e'
    ·cases e
theorem zpl:∀(k:Nat) {r:List Addr} {H:Hp} (d d' x:D) (v:V) (b b':Bool),Rp r H d v→Rp r H d' v→eqN k d x=some b→eqN k d' x=some b'→b=b'
 | 0,r,H,d,d',x,v,b,b',p,p',e,e'=>zhB p p' e e'
 | k+1,r,H,d,d',x,v,b,b',p,p',e,e'=>by
  cases p with
  | tup h1 l1 f1=>
   cases p' with
   | tup h2 l2 f2=>
    rw[h1] at h2; cases h2
    cases x with
    | tup zs=>exact znm (λd d' x v b b'=>zpl k d d' x v b b') ⟨l1,f1⟩ ⟨l2,f2⟩ e e'
    | _=>simp[eqN,eqT,eqF] at e
   | ref h=>cases x <;> simp[eqN,eqT,eqF] at e'
   | exc h=>cases x <;> simp[eqN,eqT,eqF] at e'
  | non=>exact zhB (x:=x) .non p' (by cases x <;> exact e) (by cases p' <;> cases x <;> exact e')
  | bl i=>exact zhB (x:=x) (.bl i) p' (by cases x <;> exact e) (by cases p' <;> cases x <;> exact e')
  | int i=>exact zhB (x:=x) (.int i) p' (by cases x <;> exact e) (by cases p' <;> cases x <;> exact e')
  | str i=>exact zhB (x:=x) (.str i) p' (by cases x <;> exact e) (by cases p' <;> cases x <;> exact e')
  | ref h=>cases x <;> simp[eqN,eqT,eqF] at e
  | exc h=>cases x <;> simp[eqN,eqT,eqF] at e
theorem znb {f:D→D→Option Bool}{x:D}:∀ {ys:List D} {b:Bool},zb1 f ys x=some b→(∀y∈ys,∃c,f y x=some c)∧(b=true↔∃y∈ys,f y x=some true)
 | [],b,e=>by
  simp only[zb1,Option.some.injEq] at e
  subst e
  simp
 | y::ys,b,e=>by
  unfold zb1 at e
  split at e
  ·rename_i b1 c1 e1 e2
   obtain⟨h1,h2⟩:=znb e2
   simp only[Option.some.injEq] at e
   subst e
   refine⟨λz hz=>?_,?_⟩
   ·rcases Vaa.mp hz with rfl | hz'
    ·exact⟨b1,e1⟩
    ·exact h1 z hz'
   ·rw[Bool.or_eq_true,h2]
    refine⟨λq=>?_,λ⟨z,hz,q⟩=>?_⟩
    ·rcases q with q | ⟨z,hz,q⟩
     ·exact⟨y,Vau,by rw[e1,q]⟩
     ·exact⟨z,Vap _ hz,q⟩
    ·rcases Vaa.mp hz with rfl | hz'
     ·left
      rw[e1] at q
      exact Option.some.inj q
     ·exact .inr ⟨z,hz',q⟩
  ·cases e
theorem zlF {k:Nat}{pins:List (Addr×Obj)}{σ:St}{H:Hp}{s:Shared}{r:List Addr}{A:Around}{ds:List D}{vs:List V}{us:List Value}{dx:D}{x:V}{u:Value}{b:Bool}(I:Inv X pins σ H s)(hu:A.units+k<cLine)
  (p:Rps r H ds vs)(rv:zas vs us)(px:Rp r H dx x)(rx:zal x u)(e:zb1 (eqN k) ds dx=some b):∃g:Value→Bool,(∀y,y∈us.toArray→SeqAt.EqAt A s y u (g y))∧us.toArray.any g=b:=by
 obtain⟨h1,h2⟩:=znb e
 have at_:∀y∈us,∃d v,d∈ds∧Rp r H d v∧zal v y:=λy hy=>by
  obtain⟨j,hj,ej⟩:=List.mem_iff_getElem.mp hy
  have hv:j<vs.length:=by rw[rv.length]; exact hj
  have gv:vs[j]?=some vs[j]:=by simp[hv]
  obtain⟨w,gw,rw'⟩:=rv.get gv
  obtain⟨d,gd,pd⟩:=p.get' gv
  have ew:w=y:=by
   rw[Vaw hj,ej] at gw
   exact(Option.some.inj gw).symm
  subst ew
  exact⟨d,_,Vas gd,pd,rw'⟩
 classical
 refine⟨λy=>decide (∃d v,d∈ds∧Rp r H d v∧zal v y∧eqN k d dx=some true),λy hy=>?_,?_⟩
 ·obtain⟨d,v,hd,pd,rd⟩:=at_ y (by simpa using hy)
  obtain⟨c,hc⟩:=h1 d hd
  have same:decide (∃d v,d∈ds∧Rp r H d v∧zal v y∧eqN k d dx=some true)=c:=by
   cases c with
   | true=>exact decide_eq_true ⟨d,v,hd,pd,rd,hc⟩
   | false=>
    refine decide_eq_false λ⟨d',v',_,pd',rd',hc'⟩=>?_
    have ev:=zuj rd rd'
    subst ev
    exact absurd (zpl k d d' dx v false true pd pd' hc hc') (by decide)
  show SeqAt.EqAt A s y u (decide _)
  rw[same]
  exact zfM k X pins σ H s r A d dx v x y u c I hu pd px rd rx hc
 ·rw[VaO,h2,List.any_toArray,List.any_eq_true]
  refine⟨λ⟨y,hy,q⟩=>?_,λ⟨d,hd,q⟩=>?_⟩
  ·obtain⟨d,v,hd,_,_,q'⟩:=of_decide_eq_true q
   exact⟨d,hd,q'⟩
  ·obtain⟨j,hj,ej⟩:=List.mem_iff_getElem.mp hd
   have gd:ds[j]?=some d:=by simp[hj,ej]
   obtain⟨v,gv,pv⟩:=p.get gd
   obtain⟨w,gw,rw'⟩:=rv.get gv
   exact⟨w,Vas gw,decide_eq_true ⟨d,v,hd,pv,rw',q⟩⟩
theorem do_in (k:Nat)(hu:X.A.units+1+k<cLine):OpR X (compareOp .In) (upO X.K Z (wIn k false)):=by
 intro pins s σ H x y v u Qv I rx ry h
 obtain⟨r,S,dx,dy,Q,rel,px,py,q,ret⟩:=h
 cases py with
 | @ref n a hn=>
  unfold wIn at q
  dsimp only at q
  split at q
  ·rename_i o eo
   split at q
   ·rename_i b eb
    cases ry
    obtain⟨eo,eL⟩:=zb5 eo
    obtain⟨a',ha,ob⟩:=rel.at eo
    rw[hn] at ha; cases ha
    obtain⟨ys,sq,pr⟩:=ob.list eL
    obtain⟨us,ru,pl,_⟩:=I.list sq
    obtain⟨g,g1,g2⟩:=zlF (A:=X.A.in1) I (by show X.A.units+1+k<_; omega) pr ru px rx eb
    refine SeqAt.in_listAt g pl.isList g1 ?_
    rw[g2]
    exact⟨.bl b,H,I,rfl,ret _ _ _ _ _ Ext.refl rel (.bl b) q⟩
   ·exact q.elim
  ·exact q.elim
 | _=>exact(show False from q).elim
theorem zrL (k:Nat)(hu:X.A.units+1+k<cLine):OpR X (compareOp .NotIn) (upO X.K Z (wIn k true)):=by
 intro pins s σ H x y v u Qv I rx ry h
 obtain⟨r,S,dx,dy,Q,rel,px,py,q,ret⟩:=h
 cases py with
 | @ref n a hn=>
  unfold wIn at q
  dsimp only at q
  split at q
  ·rename_i o eo
   split at q
   ·rename_i b eb
    cases ry
    obtain⟨eo,eL⟩:=zb5 eo
    obtain⟨a',ha,ob⟩:=rel.at eo
    rw[hn] at ha; cases ha
    obtain⟨ys,sq,pr⟩:=ob.list eL
    obtain⟨us,ru,pl,_⟩:=I.list sq
    obtain⟨g,g1,g2⟩:=zlF (A:=X.A.in1) I (by show X.A.units+1+k<_; omega) pr ru px rx eb
    refine SeqAt.notIn_listAt g pl.isList g1 ?_
    rw[g2]
    exact⟨.bl (!b),H,I,rfl,ret _ _ _ _ _ Ext.refl rel (.bl (!b)) q⟩
   ·exact q.elim
  ·exact q.elim
 | _=>exact(show False from q).elim
end
section
variable {X:Cx}{Z:Zx}{pos:Pos}
def zh8:List Nat→List D→Ev→Ev
 | i::is,d::ds,dl=>zh8 is ds (dl.set i (some d))
 | _,_,dl=>dl
def zkl:List Nat→List V→St→St
 | i::is,v::vs,σ=>zkl is vs (σ.set i (some v))
 | _,_,σ=>σ
theorem zm5 {r:List Addr}{H:Hp}:∀ {is:List Nat} {ds:List D} {vs:List V} {dl:Ev} {σ:St},Rs r H dl σ→Rps r H ds vs→Rs r H (zh8 is ds dl) (zkl is vs σ)
 | [],ds,vs,dl,σ,h,p=>by cases ds <;> cases vs <;> exact h
 | i::is,[],vs,dl,σ,h,p=>by
  have z:=p.unnil
  subst z
  exact h
 | i::is,d::ds,vs,dl,σ,h,p=>by
  obtain⟨v,vs',rfl,p1,p2⟩:=p.uncons
  show Rs r H (zh8 is ds (dl.set i (some d))) (zkl is vs' (σ.set i (some v)))
  exact zm5 (Rs.set i h p1) p2
inductive Nms (X:Cx):List Expr→List Nat→Prop
 | nil:Nms X [] []
 | cons {x:Str} {p:Pos} {i:Nat} {es:List Expr} {is:List Nat}:X.N[i]?=some x→Loc X.env.scope x→(X.fn x=true∨X.env.scope.names.lookup x=some .local)→Nms X es is→Nms X (.Name x p::es) (i::is)
def gAll (is:List Nat):TGs:=λvs σ H Q=>vs.length=is.length∧Q (zkl is vs σ) H
theorem zp2 (hN:X.N.Nodup):∀ {es:List Expr} {is:List Nat},Nms X es is→PGs X es (gAll is)
 | _,_,.nil=>λpins s σ H vs us Q I r h=>by
  obtain⟨e,h⟩:=h
  have z:vs=[]:=by simpa using e
  subst z
  exact zwU pins s σ H [] us Q I r ⟨rfl,h⟩
 | _,_,.cons (x:=x) (p:=p) (es:=es) (is:=is) h1 h2 h3 t=>λpins s σ H vs us Q I r h=>by
  obtain⟨e,h⟩:=h
  cases vs with
  | nil=>simp at e
  | cons v vs=>exact zvr (ziV hN h1 h2 h3) (zp2 hN t) rfl pins s σ H (v::vs) us Q I r ⟨v,vs,rfl,by simpa using e,h⟩
def zi9:W2:=λx y S Q=>match x,y with
 | .str i,.str j=>(i.length+j.length≤1000)∧Q (.str (i++j)) S
 | _,_=>False
theorem zbF:OpR X (binaryOp .Add) (upO X.K Z zi9):=zfX zuf λx y H Qv ⟨r,S,dx,dy,Q,rel,px,py,q,ret⟩=>by
 cases px <;> cases py <;> first
  | exact⟨_,_,rfl,rfl,zbG q.1,ret _ _ _ _ _ Ext.refl rel (.str _) q.2⟩
  | exact(show False from q).elim
def wIxS:W2:=λx y S Q=>match x,y with
 | .str z,.int i=>∃c,(0≤i∧i<2^63∧i<z.length)∧z.cps[i.toNat]?=some c∧Q (.str ⟨#[c]⟩) S
 | _,_=>False
theorem zoA {a b:Expr}{ta tb:TDE}(ha:PD X Z a ta)(hb:PD X Z b tb)(hs:zoF b):PD X Z (.Subscript a b pos) (dOp wIxS ta tb):=
 zaK (zwv ha hb hs) λσ H Qv h=>by
  obtain⟨r,dl,S,Q,rs,rel,h,ret⟩:=h
  refine⟨r,dl,S,_,rs,rel,h,λv H1 r1 dx S1 e1 rel1 p1 h1=>⟨r1,dl,S1,_,rs.ext e1,rel1,h1,λv2 H2 r2 dy S2 e2 rel2 p2 h2=>?_⟩⟩
  cases p1 with
  | str z=>
   cases p2 with
   | int i=>
    obtain⟨c,⟨b1,b2,b3⟩,hc,q⟩:=h2
    exact⟨z,i,c,rfl,rfl,b1,b2,b3,hc,ret _ _ _ _ _ (e1.trans e2) rel2 (.str _) q⟩
   | _=>exact(show False from h2).elim
  | _=>exact(show False from h2).elim
end
open PySem L2
theorem zw4 (S:Sto)(o u:Ob):(S++[o]).set S.length u=S++[u]:=by simp
theorem zpV {to te:TDE}{dl:Ev}{S T:Sto}{Q:DK}{xs:List D}{y:D}(hto:∀K:DK,K (.ref S.length) (S++[.lst xs])→to dl T K)(hte:∀K:DK,K y (S++[.lst xs])→te dl (S++[.lst xs]) K)(hl:xs.length<1000)(hq:Q .non (S++[.lst (xs++[y])])):zeV to te dl T Q:=
 zeE hto (zax _ _) hte hl (by rw[zw4]; exact hq)
section
variable {X:Cx}{Z:Zx}
end
section
variable {X:Cx}{Z:Zx}{pos:Pos}
def zn5:WC:=λds S Q=>match ds with
 | [.str x]=>x.length≤1000∧Q (.int x.length) S
 | _=>False
theorem zq7:zbj X (.builtin "len") (upC X.K Z zn5):=zgr zxn λxs H Qv ⟨r,S,ds,Q,rel,ps,q,ret⟩=>by
 unfold zn5 at q
 split at q
 ·obtain⟨v,vs,rfl,p1,p2⟩:=ps.uncons
  have z:=p2.unnil
  subst z
  cases p1
  exact⟨_,rfl,zbG q.1,ret _ _ _ _ _ Ext.refl rel (.int _) q.2⟩
 ·exact q.elim
def wInS:W2:=λx y S Q=>match x,y with
 | .str i,.str j=>∃c,i=⟨#[c]⟩∧Q (.bl (decide (c∈j.cps.toList))) S
 | _,_=>False
theorem zu4:OpR X (compareOp .In) (upO X.K Z wInS):=zfX zsf λx y H Qv ⟨r,S,dx,dy,Q,rel,px,py,q,ret⟩=>by
  cases px <;> cases py <;> first
    | (obtain⟨c,rfl,q⟩:=q
       exact⟨_,_,rfl,rfl,by rw[StrLaws.found_one]; exact ret _ _ _ _ _ Ext.refl rel (.bl _) q⟩)
    | exact(show False from q).elim
theorem zlm {x z:Str}{t:Tok}{p:Pos}(hm:X.mg x=some (.str z t))(hg:Gl X x)(hd:(x==("__debug__":Str))=false:=by decide):PD X Z (.Name x p) (dC (.str z)):=
 zaK (zfs hg hm (v:=.str z) ⟨t,rfl⟩ hd) λσ H Qv ⟨r,dl,S,Q,rs,rel,h,ret⟩=>ret _ H r (.str z) S Ext.refl rel (.str z) h
theorem zdy {x:Str}{i:Int}{t:Tok}{p:Pos}(hm:X.mg x=some (.int i t))(hg:Gl X x)(hd:(x==("__debug__":Str))=false:=by decide):PD X Z (.Name x p) (dC (.int i)):=
 zaK (zfs hg hm (v:=.int i) ⟨t,rfl⟩ hd) λσ H Qv ⟨r,dl,S,Q,rs,rel,h,ret⟩=>ret _ H r (.int i) S Ext.refl rel (.int i) h
def GT (K:PySem.W.Frag)(mg:Str→Option Value)(x:Str)(ws:List Str):Prop:=
 ∃(a:Addr) (o:Obj) (its:Array Value) (n:Nat),mg x=some (.ref a)∧K.lookup a=some o∧o.cls=.type "tuple"∧o.data=.seq its n∧its.size≤sizeLine∧zas (ws.map V.str) its.toList
theorem zlV (w:Str):∀ws:List Str,inV (.str w) (ws.map V.str)=ws.any (·==w)
 | []=>rfl
 | a::r=>by
  have ih:=zlV w r
  unfold inV at ih ⊢
  rw[Vaj,VaN,VaN,ih]
  rfl
theorem zlO:∀ws:List Str,(ws.map V.str).all zc5=true
 | []=>rfl
 | a::r=>by
  rw[Vaj,List.all_cons,zlO r]
  rfl
def zum (ws:List Str)(ta:TDE):TDE:=λdl S Q=>ta dl S λd S1=>match d with
 | .str w=>Q (.bl (!ws.any (·==w))) S1
 | _=>False
theorem zq0 {a:Expr}{ta:TDE}{x:Str}{ws:List Str}{p:Pos}(hG:GT X.K X.mg x ws)(hg:Gl X x)(ha:PD X Z a ta)(hd:(x==("__debug__":Str))=false:=by decide):PD X Z (.Compare a [.NotIn] [.Name x p] pos) (zum ws ta):=by
 obtain⟨b,o,its,n,hm,hk,hc,hdt,hz,hv⟩:=hG
 refine zaK (zpx zsM ha (zfs (v:=.ref b) hg hm rfl hd) rfl) λσ H Qv ⟨r,dl,S,Q,rs,rel,h,ret⟩=>⟨r,dl,S,_,rs,rel,h,λv H1 r1 d S1 e1 rel1 p1 q1=>?_⟩
 cases p1 with
 | str w=>
  refine⟨b,ws.map V.str,rfl,.inr (.inr ⟨o,its,n,hk,hc,hdt,hz,hv⟩),rfl,zlO ws,?_⟩
  show Qv (.bl (!inV (.str w) (ws.map V.str))) H1
  rw[zlV]
  exact ret _ H1 r1 (.bl _) S1 e1 rel1 (.bl _) q1
 | _=>exact(show False from q1).elim
def Its (z:Str):It:=⟨λi _=>i<z.cps.size,λi H x H'=>H'=H∧∃c,z.cps[i]?=some c∧x=.str ⟨#[c]⟩,λi _=>i=z.cps.size⟩
theorem zol {P:Program}{w:World}{K:PySem.W.Frag}{tg:Expr}{nm:String}{z:Str}{t:Tok}(it:Addr)
  (W:∀A':Around,A'.handled=none→Walks P w A' it [it] [it] z.cps.size (SignAt z) (λi h=>h.IsStrIter it nm z t i))
  (slf:∀(A:Around) (i:Nat) (s:Shared) (Q:Value→Shared→Prop) (E:Value→Shared→Prop),s.heap.IsStrIter it nm z t i→Q (.ref it) s→wpAny (model P w) A (pyIter (.ref it)) Q E s)
  (hn:["enumerate","zip","dict_itemiterator","dict_reverseitemiterator","odict_iterator","itertools.zip_longest","itertools.pairwise"].contains nm=false):
  zg9 P w K tg (Its z) [it] it (λi h=>h.IsStrIter it nm z t i) where
 mem:=by simp
 obj:=λi h st b hb=>by
  have e:b=it:=by simpa using hb
  subst e
  obtain⟨o,e,c,d⟩:=st
  exact⟨o,e,λv y=>by rw[d] at y; cases y⟩
 keep:=λi h h' st k=>by
  obtain⟨o,e,c,d⟩:=st
  exact⟨o,k it (by simp) o e,c,d⟩
 item:=by
  intro X hP hw hK hc i pins s σ H E I hf st hg
  subst hP hw hK
  obtain⟨f0,f1,f2,f3,f4,f5⟩:=hf it (by simp)
  refine(W X.A (I.ok.hd hc)).item i s _ _ hg st λv h' tk hv st' kk=>?_
  obtain⟨c,u,hcp,rfl⟩:=hv
  have I1:Inv X pins σ H { s with heap:=h',toks:=tk }:=I.turned (λb o hb e=>kk b o (by simpa using hb) e) f0 f1 f3 f4 f5
  obtain⟨o,e,c1,d⟩:=id st'
  exact⟨_,rfl,zmg (s:={ s with heap:=h',toks:=tk }) e c1 d hn ⟨.str ⟨#[c]⟩,H,I1,⟨u,rfl⟩,⟨rfl,c,hcp,rfl⟩,st',λb hb=>(hf b hb).1⟩⟩
 done:=by
  intro X hP hw hK hc i pins s σ H E I hf st hg
  subst hP hw hK
  obtain⟨f0,f1,f2,f3,f4,f5⟩:=hf it (by simp)
  have hi:i=z.cps.size:=hg
  subst hi
  exact(W X.A (I.ok.hd hc)).done s _ _ st λh' tk kk=>⟨rfl,I.turned (t':=tk) (λb o hb e=>kk b o (by simpa using hb) e) f0 f1 f3 f4 f5⟩
 self:=λA i s Q E st h=>slf A i s Q E st h
def iStr (tl:TE):TI:=λσ H R=>tl σ H λx H1=>∃z,x=.str z∧R (Its z) H1
theorem zvD {tg l:Expr}{tl:TE}(hl:PE X l tl):PI X tg l (iStr tl):=by
 intro pins s σ H R I h
 refine thn (hl pins s σ H _ I h) λv s1 ⟨x,H1,I1,r1,q1⟩=>?_
 obtain⟨z,e,q⟩:=q1
 subst e
 obtain⟨t,rfl⟩:=r1
 have fp:∀b∈[s1.heap.objs.size],zce X pins H1 b:=λb hb=>by
  have e:b=s1.heap.objs.size:=by simpa using hb
  subst e
  exact I1.fpOk (Vab _) (I1.hok.fresh (Vab _))
 cases ha:z.cps.all (·<128)
 ·exact wpAny_pyIter_wide ha ⟨s1.heap.objs.size,[s1.heap.objs.size],_,_,H1,rfl,I1.kept (t':=s1.toks) λb o e=>Heap.get?_push_of_some _ e,zol _ (λA' hA=>Walks.strWide hA _ z t) (λA i s Q E st h=>wpAny_pyIter_striter_wide st h) (by decide),⟨_,Heap.get?_push_size _ rfl,rfl,rfl⟩,fp,q⟩
 ·exact wpAny_pyIter_ascii ha ⟨s1.heap.objs.size,[s1.heap.objs.size],_,_,H1,rfl,I1.kept (t':=s1.toks) λb o e=>Heap.get?_push_of_some _ e,zol _ (λA' hA=>Walks.strAscii hA _ z t) (λA i s Q E st h=>wpAny_pyIter_striter_ascii st h) (by decide),⟨_,Heap.get?_push_size _ rfl,rfl,rfl⟩,fp,q⟩
end
section
variable {X:Cx}{Z:Zx}{elt iter:Expr}{x:Str}{px pos:Pos}{ifs:List Expr}{sc ar:Scope}{N:List Str}{caps:List Nat}
@[irreducible] def zhv (caps:List Nat)(tl:TDE)(tc:TDT)(te:TDE):TDE:=λdl S Q=>tl dl S λd S1=>match d with
 | .str z=>∃W:Nat→Sto→Prop,W 0 (S1++[.lst []])∧∀k S2,W k S2→match z.cps[k]? with
  | some c=>ze6 caps tc te S1.length dl (.str ⟨#[c]⟩) S2 λS3=>W (k+1) S3
  | none=>k=z.cps.size∧Q (.ref S1.length) S2
 | _=>False
theorem zqJ {tl:TDE}{tc:TDT}{te:TDE}{σ:St}{H:Hp}{Qv:VK}(h:up X.K Z (zhv caps tl tc te) σ H Qv):zf9 caps (iStr (up X.K Z tl)) (upT X.K Z0 tc) (up X.K Z0 te) σ H Qv:=by
 obtain⟨r,dl,S,Q,rs,rel,h,ret⟩:=h
 unfold zhv at h
 refine⟨r,dl,S,_,rs,rel,h,λv H1 r1 d S1 x1 rel1 p1 q1=>?_⟩
 cases p1 with
 | str z=>
  obtain⟨W,w0,turn⟩:=q1
  refine⟨z,rfl,λD0 hD=>?_⟩
  obtain⟨rel2,x2⟩:=rel1.b.push (ds:=[]) (xs:=[]) hD Rps.nil
  refine⟨λk m H'=>m=z.cps.size-k∧∃r' S',Ext (r1++[D0]) r' (upd H1 D0 (.lst [])) H'∧zaM X.K r' S' H'∧W k S',⟨z.cps.size,by simp,_,_,Ext.refl,rel2,w0⟩,?_⟩
  rintro k m H2 ⟨em,r2,S2,x3,rb2,w2⟩
  have ha2:r2[S1.length]?=some D0:=x3.adr _ _ (zhE rel1.len)
  have q:=turn k S2 w2
  split at q
  ·rename_i c hc
   have hk:k<z.cps.size:=by
    by_cases y:k<z.cps.size
    ·exact y
    ·rw[Array.getElem?_eq_none (by omega)] at hc; cases hc
   refine .inr ⟨hk,λv' H' y'=>?_⟩
   obtain⟨eH,c',hc',y'⟩:=y'
   subst eH
   subst y'
   have ec:c'=c:=by rw[hc] at hc'; exact(Option.some.inj hc').symm
   subst ec
   have z:=zlv (Nx:=λH'=>∃m',m'<m∧m'=z.cps.size-(k+1)∧∃r' S',Ext (r1++[D0]) r' (upd H1 D0 (.lst [])) H'∧zaM X.K r' S' H'∧W (k+1) S') (rs.ext (x1.trans (x2.trans x3))) ha2 rb2 (.str ⟨#[c']⟩) q
    λr' S' H' x' rb' w'=>⟨z.cps.size-(k+1),by omega,rfl,r',S',x3.trans x',rb',w'⟩
   exact z
  ·obtain⟨hk,q⟩:=q
   exact .inl ⟨hk,ret _ H2 r2 _ S2 (x1.trans (x2.trans x3)) ⟨rb2,rel.xw.ext (x1.trans (x2.trans x3))⟩ (.ref ha2) q⟩
 | _=>exact(show False from q1).elim
theorem ztA {tl:TDE}{tc:TDT}{te:TDE}(har:X.env.scope=ar)(hc:X.calm=true)(cs:zd0 sc ar x N)(hN:caps.map (λi=>X.N[i]?)=N.map some)(hnd:(x::N).Nodup)(hl:PD X Z iter tl)
  (ht:∀cl C s0 H0 fp pn,zkW (Cx.comp X sc (x::N) cl C s0 H0 fp pn) ifs tc)(he:∀cl C s0 H0 fp pn,PD (Cx.comp X sc (x::N) cl C s0 H0 fp pn) Z0 elt te)
  (hs:∀y,foldedSetIterable iter X.env y=pure y:=by intro _; rfl):PD X Z (.ListComp elt [⟨.Name x px,iter,ifs,0⟩] sc pos) (zhv caps tl tc te):=by
 subst har
 exact zaK (zwW hc cs hN hnd (tc:=upT X.K Z0 tc) (te:=up X.K Z0 te) (zvD hl) ht he hs) λ_ _ _ h=>zqJ h
theorem zwM {tl te:TDE}{dl:Ev}{S S1:Sto}{Q:DK}{z:Str}(g:Nat→D)(htl:∀K:DK,K (.str z) S1→tl dl S K)(hl:z.cps.size≤1000)
  (ht:∀c∈z.cps.toList,∀(S2:Sto) (K:DK),Pre S1 S2→K (g c) S2→te (some (.str ⟨#[c]⟩)::zdJ caps dl) S2 K)(hq:Q (.ref S1.length) (S1++[.lst (z.cps.toList.map g)])):zhv caps tl zes te dl S Q:=by
 unfold zhv
 refine htl _ ⟨λk S2=>S2=S1++[.lst ((z.cps.toList.take k).map g)]∧k≤z.cps.size,⟨by simp,by omega⟩,?_⟩
 rintro k S2 ⟨rfl,hk⟩
 split
 ·rename_i c hc
  have hk':k<z.cps.size:=by
   by_cases y:k<z.cps.size
   ·exact y
   ·rw[Array.getElem?_eq_none (by omega)] at hc; cases hc
  have hl':z.cps.toList[k]?=some c:=by simpa using hc
  unfold ze6 zes
  simp only[if_true]
  refine ht c (Vas hl') _ _ Pre.refl.push ?_
  rw[zax]
  refine⟨by simp; omega,?_,by omega⟩
  have e:z.cps.toList.take (k+1)=z.cps.toList.take k++[c]:=by rw[List.take_succ,hl']; rfl
  rw[e,Vaz,List.set_append_right _ _ (Vab _)]
  simp
 ·rename_i hc
  have hk':k=z.cps.size:=by
   by_cases y:k<z.cps.size
   ·rw[Array.getElem?_eq_getElem y] at hc; cases hc
   ·omega
  refine⟨hk',?_⟩
  rw[hk',List.take_of_length_le (by simp)]
  exact hq
theorem zrF {ta:TDA}{te:TDE}{dl:Ev}{S S1:Sto}{Q:DK}{j:Int}(g:Nat→D)(hta:∀K:List D→Sto→Prop,K [.int j] S1→ta dl S K)(hj:0≤j∧j≤1000)
  (ht:∀k:Nat,k<j.toNat→∀(S2:Sto) (K:DK),Pre S1 S2→K (g k) S2→te (some (.int k)::zdJ caps dl) S2 K)(hq:Q (.ref S1.length) (S1++[.lst ((List.range j.toNat).map g)])):zin caps ta zes te dl S Q:=by
 unfold zin
 refine hta _ ⟨⟨by omega,by omega⟩,λk S2=>S2=S1++[.lst ((List.range k).map g)]∧k≤j.toNat,⟨by simp,by omega⟩,?_⟩
 rintro k S2 ⟨rfl,hk⟩
 split
 ·rename_i hk'
  unfold ze6 zes
  simp only[if_true]
  refine ht k hk' _ _ Pre.refl.push ?_
  rw[zax]
  refine⟨by simp; omega,?_,by omega⟩
  rw[List.range_succ,Vaz,List.set_append_right _ _ (Vab _)]
  simp
 ·have e:k=j.toNat:=by omega
  subst e
  exact hq
end
section
variable {X:Cx}{Z:Zx}{pos:Pos}
def zcP:List D→Option (List Str)
 | []=>some []
 | .str x::r=>(zcP r).map (x::·)
 | _=>none
theorem zlQ {r:List Addr}{H:Hp}:∀ {ds:List D} {vs:List V} {us:List Value} {zs:List Str},zcP ds=some zs→Rps r H ds vs→zas vs us→StrsAre us zs
 | [],vs,us,zs,e,p,q=>by
  have z:=p.unnil
  subst z
  cases q
  simp only[zcP,Option.some.injEq] at e
  subst e
  exact .nil
 | d::ds,vs,us,zs,e,p,q=>by
  obtain⟨v,vs',rfl,p1,p2⟩:=p.uncons
  cases p1 with
  | str x=>
   cases q with
   | cons q1 q2=>
    obtain⟨t,rfl⟩:=q1
    simp only[zcP,VaR] at e
    obtain⟨ms,e1,rfl⟩:=e
    exact .cons x t (zlQ e1 p2 q2)
  | _=>simp[zcP] at e
def zaC (zs:List Str):Str:=⟨(zs.flatMap λz=>z.cps.toList).toArray⟩
theorem zse (sep:Str)(h:sep.length=0):∀zs:List Str,Txt.join sep zs=zaC zs:=by
 have e:sep.cps=#[]:=by
  unfold Str.length at h
  exact Array.eq_empty_of_size_eq_zero h
 have key:∀(zs:List Str) (a:Array Nat),zs.foldl (λacc p=>acc++sep.cps++p.cps) a=a++(zs.flatMap λz=>z.cps.toList).toArray:=by
  intro zs
  induction zs with
  | nil=>intro a; simp
  | cons z zs ih=>
   intro a
   rw[List.foldl_cons,ih,e,List.flatMap_cons]
   exact Array.ext' (by simp)
 intro zs
 show Builtin.Str.glued sep zs=zaC zs
 unfold Builtin.Str.glued zaC
 cases zs with
 | nil=>rfl
 | cons z zs=>
  rw[List.drop_one,List.tail_cons,List.headD_cons,key,List.flatMap_cons]
  simp
abbrev TDO:=Ev→Sto→(Option Int→Sto→Prop)→Prop
def upP (K:PySem.W.Frag)(Z:Zx)(t:TDO):TO:=λσ H Q=>∃(r:List Addr) (dl:Ev) (S:Sto) (Q':Option Int→Sto→Prop),Rs r H dl σ∧Rel K Z r S H∧t dl S Q'∧∀o H' r' S',Ext r r' H H'→Rel K Z r' S' H'→Q' o S'→Q o H'
def PDO (X:Cx)(Z:Zx)(e:Option Expr)(t:TDO):Prop:=PO X e (upP X.K Z t)
def zoC:TDO:=λ_ S Q=>Q none S
def zn2 (t:TDE):TDO:=λdl S Q=>t dl S λd S1=>match d with
 | .int i=>Q (some i) S1
 | _=>False
theorem zns {e:Option Expr}{t t':TO}(h:PO X e t)(g:∀σ H Q,t' σ H Q→t σ H Q):PO X e t':=λpins s σ H Q I q=>h pins s σ H Q I (g σ H Q q)
theorem zdf:PDO X Z none zoC:=zns zvf λσ H Q ⟨r,dl,S,Q',rs,rel,h,ret⟩=>ret none H r S Ext.refl rel h
theorem zci {e:Expr}{t:TDE}(he:PD X Z e t):PDO X Z (some e) (zn2 t):=zns (zxq he) λσ H Q ⟨r,dl,S,Q',rs,rel,h,ret⟩=>⟨r,dl,S,_,rs,rel,h,λv H1 r1 d S1 e1 rel1 p1 q1=>by
 cases p1 with
 | int i=>exact⟨i,rfl,ret (some i) H1 r1 S1 e1 rel1 q1⟩
 | _=>exact(show False from q1).elim⟩
def dSlS (te:TDE)(tl th:TDO):TDE:=λdl S Q=>te dl S λd S1=>tl dl S1 λl S2=>th dl S2 λu S3=>match d with
 | .str z=>z.length≤1000∧Q (.str (StrLaws.sliceText z l u)) S3
 | _=>False
theorem zqp:SlR X (λx lo hi H Q=>∃z,x=.str z∧z.length≤1000∧Q (.str (StrLaws.sliceText z lo hi)) H):=by
 intro pins s σ H x v vl vu lo hi sl Q I rx hs pl pu h
 obtain⟨z,rfl,hz,q⟩:=h
 obtain⟨t,rfl⟩:=rx
 refine⟨"str",_,PySem.F.slot_str_getitem.lookup,typeIs_str s z t,?_⟩
 have part:∀ {v:Value} {o:Option Int},IsPart v o→∃p:Option (Int×Tok),v=partValue p∧p.map (·.1)=o:=λ{v o} p=>by
  cases p with
  | none=>exact⟨none,rfl,rfl⟩
  | int i t=>exact⟨some (i,t),rfl,rfl⟩
 obtain⟨l,rfl,el⟩:=part pl
 obtain⟨u,rfl,eu⟩:=part pu
 refine wpAny_getItem_str_slice (l:=l) (u:=u) (st:=none) hs rfl ?_
 have e:(sliceMade z t l u none).post (EP X pins σ Q) s:=by
  unfold StrLaws.sliceText at q
  unfold sliceMade slicePicked
  rw[el,eu]
  split
  ·rename_i c
   rw[if_pos (show ((1:Int)==1&&(Builtin.Str.strSliceIndices lo hi 1 z.length).length==z.length)=true from c)] at q
   exact⟨.str z,H,I,⟨t,rfl⟩,q⟩
  ·rename_i c
   rw[if_neg (show ¬ ((1:Int)==1&&(Builtin.Str.strSliceIndices lo hi 1 z.length).length==z.length)=true from c)] at q
   refine⟨?_,.str _,H,I.tok _,⟨_,rfl⟩,q⟩
   have h1:=indices_len_le lo hi z.length
   have h2:=List.length_filterMap_le (λx=>z.cps[x]?) (Builtin.Str.strSliceIndices lo hi 1 z.length)
   have h3:z.length≤sizeLine:=zbG hz
   show (List.filterMap (λx=>z.cps[x]?) (Builtin.Str.strSliceIndices lo hi 1 z.length)).toArray.size≤sizeLine
   rw[Var]
   exact Vax h2 (Vax h1 h3)
 exact e
theorem zgZ {e:Expr}{te:TDE}{lo hi:Option Expr}{tl th:TDO}{p2:Pos}(he:PD X Z e te)(hl:PDO X Z lo tl)(hu:PDO X Z hi th):PD X Z (.Subscript e (.Slice lo hi none p2) pos) (dSlS te tl th):=
 zaK (zmV zqp he hl hu) λσ H Qv ⟨r,dl,S,Q,rs,rel,h,ret⟩=>⟨r,dl,S,_,rs,rel,h,λv H1 r1 d S1 e1 rel1 p1 q1=>⟨r1,dl,S1,_,rs.ext e1,rel1,q1,λl H2 r2 S2 e2 rel2 q2=>⟨r2,dl,S2,_,rs.ext (e1.trans e2),rel2,q2,λu H3 r3 S3 e3 rel3 q3=>by
  cases p1 with
  | str z=>exact⟨z,rfl,q3.1,ret _ H3 r3 _ S3 (e1.trans (e2.trans e3)) rel3 (.str _) q3.2⟩
  | _=>exact(show False from q3).elim⟩⟩⟩
end
section
variable {X:Cx}{Z:Zx}
end
section
variable {X:Cx}{Z:Zx}
theorem zxe {k:Nat}(hr:zaE k X.A):OpR X (compareOp .In) (upO X.K Z (zbT (wIn 0 false))):=by rw[zca]; exact do_in 0 (by have:=hr.un; omega)
end
theorem ifB {c:Bool}{A B:Prop}(h1:c=true→A)(h2:c=false→B):if c=true then A else B:=by
 cases c with
 | true=>exact zbX (h1 rfl)
 | false=>exact zbw (h2 rfl)
theorem zpX {α:Type}(f:α→Bool):∀l:List α,zcJ (l.map λc=>D.bl (f c))=some (l.map f)
 | []=>rfl
 | a::r=>by
  rw[Vaj,Vaj,zcJ,zpX f r]
  rfl
theorem zls (w:Str):∀ws:List Str,zb1 (eqN 0) (ws.map D.str) (.str w)=some (ws.any (·==w))
 | []=>rfl
 | a::r=>by
  have e:eqN 0 (.str a) (.str w)=some (a==w):=by
   show some (decide (a=w))=_
   exact congrArg some (by rw[VaO,decide_eq_true_iff,beq_iff_eq])
  rw[Vaj,zb1,e,zls w r]
  rfl
theorem zaR {n:Nat}{S:Sto}{o:Ob}{Q:DK}{i:Int}{d:D}(ho:S[n]?=some o)(hd:atI (zan o) i=some d)(hq:Q d S)(hL:zcb o=some o:=by rfl):zbT wIx (.ref n) (.int i) S Q:=by
 rw[zca]
 unfold wIx
 simp only[zbd ho hL,hd]
 exact hq
def zaO (f:Str)(v:D):List (Str×D)→List (Str×D)
 | []=>[(f,v)]
 | p::r=>if p.1=f then (f,v)::r else p::zaO f v r
theorem FR.lookup {r:List Addr}{H:Hp}{f:Str}:∀ {fs:List (Str×D)} {fs':List (Str×V)},FR r H fs fs'→(∀d,fs.lookup f=some d→∃v,fs'.lookup f=some v∧Rp r H d v)∧(fs.lookup f=none→fs'.lookup f=none)
 | [],fs',h=>by
  have e:fs'=[]:=by
   have:=h.1
   simpa using this.symm
  subst e
  exact⟨λd z=>by simp at z,λ_=>rfl⟩
 | p::fs,[],h=>by
  have:=h.1
  simp at this
 | p::fs,q::fs',h=>by
  obtain⟨h1,h2⟩:=h
  simp only[Vaj,List.cons.injEq] at h1
  obtain⟨p1,p2⟩:=h2.tail
  obtain⟨i1,i2⟩:=FR.lookup (f:=f) (fs:=fs) (fs':=fs') ⟨h1.2,p2⟩
  obtain⟨pk,pv⟩:=p
  obtain⟨qk,qv⟩:=q
  have ek:pk=qk:=h1.1
  subst ek
  by_cases z:f=pk
  ·subst z
   simp only[List.lookup_cons_self]
   exact⟨λd hd=>⟨qv,rfl,by cases hd; exact p1⟩,λhd=>by cases hd⟩
  ·have zb:(f==pk)=false:=by simpa using z
   simp only[Vae,zb]
   exact⟨i1,i2⟩
theorem FR.put {r:List Addr}{H:Hp}{f:Str}{d:D}{v:V}(q:Rp r H d v):∀ {fs:List (Str×D)} {fs':List (Str×V)},FR r H fs fs'→FR r H (zaO f d fs) (zbv f v fs')
 | [],fs',h=>by
  have e:fs'=[]:=by
   have:=h.1
   simpa using this.symm
  subst e
  exact⟨rfl,Rps.cons q Rps.nil⟩
 | p::fs,[],h=>by
  have:=h.1
  simp at this
 | p::fs,p'::fs',h=>by
  obtain⟨h1,h2⟩:=h
  simp only[Vaj,List.cons.injEq] at h1
  obtain⟨p1,p2⟩:=h2.tail
  have ih:=FR.put (f:=f) q (fs:=fs) (fs':=fs') ⟨h1.2,p2⟩
  obtain⟨pk,pv⟩:=p
  obtain⟨qk,qv⟩:=p'
  have ek:pk=qk:=h1.1
  subst ek
  unfold zaO zbv
  by_cases z:pk=f
  ·rw[if_pos z,if_pos z]
   exact⟨by simp[h1.2,z],Rps.cons q p2⟩
  ·rw[if_neg z,if_neg z]
   exact⟨by simp[ih.1],Rps.cons p1 ih.2⟩
section
variable {X:Cx}{Z:Zx}{pos:Pos}
def zb6 (C:Addr)(S:Sto):D→Option (Nat×List (Str×D))
 | .ref n=>match S[n]? with
  | some (.ins C' fs)=>if C'=C then some (n,fs) else none
  | _=>none
 | _=>none
theorem zgU {C:Addr}{S:Sto}{d:D}{n:Nat}{fs:List (Str×D)}(h:zb6 C S d=some (n,fs)):d=.ref n∧S[n]?=some (.ins C fs):=by
 unfold zb6 at h
 split at h
 ·split at h
  ·rename_i m _ C' fs' e
   split at h
   ·rename_i ec
    subst ec
    simp only[Option.some.injEq,Prod.mk.injEq] at h
    obtain⟨rfl,rfl⟩:=h
    exact⟨rfl,e⟩
   ·cases h
  ·cases h
 ·cases h
@[irreducible] def zh1 (C:Addr)(f:Str)(to:TDE):TDE:=λdl S Q=>to dl S λd S1=>match zb6 C S1 d with
 | some (_,fs)=>match fs.lookup f with
  | some v=>Q v S1
  | none=>False
 | none=>False
theorem zaY {C:Addr}{f:Str}{o:Expr}{to:TDE}(c:Cls X.K C)(n:zbr X.K C f)(ho:PD X Z o to)(hb:attributeBase o f X.env (eval o X.env)=eval o X.env:=by rfl):PD X Z (.Attribute o f pos) (zh1 C f to):=
 zaK (zv0 ho hb) λσ H Qv ⟨r,dl,S,Q,rs,rel,h,ret⟩=>by unfold zh1 at h; exact⟨r,dl,S,_,rs,rel,h,λv H1 r1 d S1 e1 rel1 p1 q1=>by
  split at q1
  ·rename_i m fs ei
   obtain⟨rfl,eS⟩:=zgU ei
   split at q1
   ·rename_i w ew
    obtain⟨a,ha,ob⟩:=rel1.at eS
    obtain⟨dx,fs',eH,fr⟩:=ob
    cases p1 with
    | ref hr=>
     rw[hr] at ha; cases ha
     obtain⟨u,hu,pu⟩:=fr.lookup.1 w ew
     exact⟨a,C,dx,fs',u,rfl,eH,c,n,hu,ret u H1 r1 w S1 e1 rel1 pu q1⟩
   ·exact q1.elim
  ·exact q1.elim⟩
@[irreducible] def zfE (C:Addr)(f:Str)(to te:TDE):TDS:=λE dl S=>te dl S λv S1=>to dl S1 λd S2=>match zb6 C S2 d with
 | some (n,fs)=>fs.length<1000∧E.nx dl (S2.set n (.ins C (zaO f v fs)))
 | none=>False
theorem zcx {C:Addr}{f:Str}{o e:Expr}{to te:TDE}{p2:Pos}(c:Cls X.K C)(n:zbr X.K C f)(ho:PD X Z o to)(he:PD X Z e te)
  (hs:swapsWith e (some (.Attribute o f p2)) pos.line X.env=pure false:=by rfl):PDS X Z (.Assign [.Attribute o f p2] e pos) (zfE C f to te):=
 zb2 (zvT ho he hs) λF σ H ⟨r,dl,S,E,rs,rel,h,ret⟩=>by unfold zfE at h; exact⟨r,dl,S,_,rs,rel,h,λv H1 r1 dv S1 e1 rel1 p1 q1=>⟨r1,dl,S1,_,rs.ext e1,rel1,q1,λw H2 r2 d S2 e2 rel2 p2' q2=>by
  split at q2
  ·rename_i m fs ei
   obtain⟨rfl,eS⟩:=zgU ei
   obtain⟨hl,q2⟩:=q2
   obtain⟨a,ha,ob⟩:=rel2.at eS
   obtain⟨dx,fs',eH,fr⟩:=id ob
   cases p2' with
   | ref hr=>
    rw[hr] at ha; cases ha
    have hlen:fs'.length=fs.length:=by
     have:=congrArg List.length fr.1
     simpa using this.symm
    obtain⟨rb,x⟩:=rel2.b.setO (o':=.ins C (zaO f dv fs)) (u:=.ins C dx (zbv f v fs')) hr eS rfl rfl λx=>⟨dx,_,zbP,(fr.put (p1.ext e2)).ext x⟩
    exact⟨a,C,dx,fs',rfl,eH,c,n,by omega,ret.nx _ _ r2 _ _ (e1.trans (e2.trans x)) (rs.ext (e1.trans (e2.trans x))) ⟨rb,rel2.xw.ext x⟩ q2⟩
  ·exact q2.elim⟩⟩
@[irreducible] def zf1 (C:Addr)(m:Str)(ex:Ev→Addr→Sto→Prop)(sd:Sd)(to:TDE)(t:TDA):TDE:=λdl S Q=>to dl S λd S1=>match zb6 C S1 d with
 | some (_,fs)=>fs.lookup m=none∧t dl S1 λds S2=>sd (d::ds) S2 Q (ex dl)
 | none=>False
theorem zwa {C:Addr}{m:Str}{f:Addr}{fd:FuncData}{k:Nat}{ps:List Str}{sp:Sp}{W:St→XK}{o e:Expr}{es:List Expr}{ta:TE}{t:TA}{apos:Pos}{pl:Sem Bool}(he:PE X o ta)(c:Cls X.K C)(hm:zfe X.K C m f)
  (F:zbg X.prog X.w X.K X.mg X.base (CXE X.prog X.w) k f fd ps sp)(hr:zaE k X.A)(hb:zbJ X.K fd ps [])(hx:zdk X W)(ha:PA X (e::es) t)(hst:starEach (e::es) X.env=(false,eval e X.env)::starEach es X.env)(hpl:(backTo pos (starEach es X.env)).any (·.1)=false)
  (ht:eval (.Call (.Attribute o m apos) (e::es) [] pos) X.env=(do
   let ov ← eval o X.env
   standAt apos.atName
   let (f,first) ← holding [ov] (getMethod ov m pl)
   callWith pos f first (backTo pos (starEach (e::es) X.env)) (backToKw pos (keywordEach [] X.env)))):
  PE X (.Call (.Attribute o m apos) (e::es) [] pos) (λσ H Q=>ta σ H λx H1=>∃a dx fs,x=.ref a∧H1 a=some (.ins C dx fs)∧fs.lookup m=none∧t σ H1 λvs H2=>sp (x::vs) H2 Q (W σ)):=by
 intro pins s σ H Q I h
 refine PySem.W.methodCall_KW (pl:=pl) (thn (he pins s σ H _ I h) λu s1 ⟨x,H1,I1,rx,a,dx,fs,ex,ea,l,q⟩=>?_) ht
 subst ex
 obtain rfl:u=Value.ref a:=rx
 refine zpY I1 ea c hm l ?_
 exact PySem.W.callWith_K (first:=[.ref a]) (h₀:=X.base) I.ok.mod.kin hm.kp (thn (ha pos pins s1 σ H1 _ I1 q) λus s2 ⟨vs,H2,I2,r,q2⟩=>⟨I2.kIn,zmH (us:=.ref a::us) (vs:=.ref a::vs) F hr hb hx I2 (.cons rfl r) q2⟩) hst hpl
theorem zqT {C:Addr}{m:Str}{f:Addr}{fd:FuncData}{k:Nat}{ps:List Str}{sp:Sp}{W:St→XK}{o:Expr}{ta:TE}{apos:Pos}{pl:Sem Bool}(he:PE X o ta)(c:Cls X.K C)(hm:zfe X.K C m f)
  (F:zbg X.prog X.w X.K X.mg X.base (CXE X.prog X.w) k f fd ps sp)(hr:zaE k X.A)(hb:zbJ X.K fd ps [])(hx:zdk X W)
  (ht:eval (.Call (.Attribute o m apos) [] [] pos) X.env=(do
   let ov ← eval o X.env
   standAt apos.atName
   let (f,first) ← holding [ov] (getMethod ov m pl)
   callWith pos f first (backTo pos (starEach [] X.env)) (backToKw pos (keywordEach [] X.env)))):
  PE X (.Call (.Attribute o m apos) [] [] pos) (λσ H Q=>ta σ H λx H1=>∃a dx fs,x=.ref a∧H1 a=some (.ins C dx fs)∧fs.lookup m=none∧sp [x] H1 Q (W σ)):=by
 intro pins s σ H Q I h
 refine PySem.W.methodCall_KW (pl:=pl) (thn (he pins s σ H _ I h) λu s1 ⟨x,H1,I1,rx,a,dx,fs,ex,ea,l,q⟩=>?_) ht
 subst ex
 obtain rfl:u=Value.ref a:=rx
 refine zpY I1 ea c hm l ?_
 exact PySem.W.callWith_K0 (first:=[.ref a]) I1.kIn hm.kp (zmH (us:=[.ref a]) (vs:=[.ref a]) F hr hb hx I1 (.cons rfl .nil) q)
theorem zpn {C:Addr}{r:List Addr}{S:Sto}{H:Hp}{d:D}{v:V}{n:Nat}{fs:List (Str×D)}(rel:zaM X.K r S H)(p:Rp r H d v)(h:zb6 C S d=some (n,fs)):∃a dx fs',v=.ref a∧r[n]?=some a∧H a=some (.ins C dx fs')∧FR r H fs fs':=by
 obtain⟨rfl,eS⟩:=zgU h
 obtain⟨a,ha,dx,fs',eH,fr⟩:=rel.at eS
 cases p with
 | ref hr=>
  rw[hr] at ha; cases ha
  exact⟨a,dx,fs',rfl,hr,eH,fr⟩
theorem zbz {C:Addr}{m:Str}{f:Addr}{fd:FuncData}{k:Nat}{ps:List Str}{sd:Sd}{o e:Expr}{es:List Expr}{to:TDE}{t:TDA}{apos:Pos}{pl:Sem Bool}{ex:Ev→Addr→Sto→Prop}{W:St→XK}(ho:PD X ⟨ex,W⟩ o to)(c:Cls X.K C)(hm:zfe X.K C m f)
  (F:zbg X.prog X.w X.K X.mg X.base (CXE X.prog X.w) k f fd ps (upF X.K sd))(hr:zaE k X.A)(hb:zbJ X.K fd ps [])(hx:zdk X W)(ha:PDA X ⟨ex,W⟩ (e::es) t)
  (hst:starEach (e::es) X.env=(false,eval e X.env)::starEach es X.env:=by rfl)(hpl:(backTo pos (starEach es X.env)).any (·.1)=false:=by rfl)
  (ht:eval (.Call (.Attribute o m apos) (e::es) [] pos) X.env=(do
   let ov ← eval o X.env
   standAt apos.atName
   let (f,first) ← holding [ov] (getMethod ov m pl)
   callWith pos f first (backTo pos (starEach (e::es) X.env)) (backToKw pos (keywordEach [] X.env))):=by rfl):PD X ⟨ex,W⟩ (.Call (.Attribute o m apos) (e::es) [] pos) (zf1 C m ex sd to t):=
 zaK (zwa ho c hm F hr hb hx ha hst hpl ht) λσ H Qv ⟨r,dl,S,Q,rs,rel,h,ret⟩=>by unfold zf1 at h; exact⟨r,dl,S,_,rs,rel,h,λv H1 r1 d S1 e1 rel1 p1 q1=>by
  split at q1
  ·rename_i n fs ei
   obtain⟨hl,q1⟩:=q1
   obtain⟨a,dx,fs',rfl,hr1,eH,fr⟩:=zpn rel1.b p1 ei
   exact⟨a,dx,fs',rfl,eH,fr.lookup.2 hl,r1,dl,S1,_,rs.ext e1,rel1,q1,λvs H2 r2 ds S2 e2 rel2 p2 q2=>zl1 (Z:=⟨ex,W⟩) (rs.ext (e1.trans e2)) rel2 (Rps.cons (p1.ext e2) p2) q2 (ret.ext (e1.trans e2))⟩
  ·exact q1.elim⟩
theorem zbq {C:Addr}{m:Str}{f:Addr}{fd:FuncData}{k:Nat}{ps:List Str}{sd:Sd}{o:Expr}{to:TDE}{apos:Pos}{pl:Sem Bool}{ex:Ev→Addr→Sto→Prop}{W:St→XK}(ho:PD X ⟨ex,W⟩ o to)(c:Cls X.K C)(hm:zfe X.K C m f)
  (F:zbg X.prog X.w X.K X.mg X.base (CXE X.prog X.w) k f fd ps (upF X.K sd))(hr:zaE k X.A)(hb:zbJ X.K fd ps [])(hx:zdk X W)
  (ht:eval (.Call (.Attribute o m apos) [] [] pos) X.env=(do
   let ov ← eval o X.env
   standAt apos.atName
   let (f,first) ← holding [ov] (getMethod ov m pl)
   callWith pos f first (backTo pos (starEach [] X.env)) (backToKw pos (keywordEach [] X.env))):=by rfl):PD X ⟨ex,W⟩ (.Call (.Attribute o m apos) [] [] pos) (zf1 C m ex sd to zc7):=
 zaK (zqT ho c hm F hr hb hx ht) λσ H Qv ⟨r,dl,S,Q,rs,rel,h,ret⟩=>by unfold zf1 at h; exact⟨r,dl,S,_,rs,rel,h,λv H1 r1 d S1 e1 rel1 p1 q1=>by
  split at q1
  ·rename_i n fs ei
   obtain⟨hl,q1⟩:=q1
   obtain⟨a,dx,fs',rfl,hr1,eH,fr⟩:=zpn rel1.b p1 ei
   exact⟨a,dx,fs',rfl,eH,fr.lookup.2 hl,zl1 (Z:=⟨ex,W⟩) (rs.ext e1) rel1 (Rps.cons p1 Rps.nil) q1 (ret.ext e1)⟩
  ·exact q1.elim⟩
def znU (C:Addr)(ex:Addr→Sto→Prop)(sd:Sd)(t:TDA):TDE:=λdl S Q=>t dl S λds S1=>sd (.ref S1.length::ds) (S1++[.ins C []]) (λd S2=>d=.non∧Q (.ref S1.length) S2) ex
theorem znn {C x dx:Addr}{r:List Addr}{S:Sto}{H:Hp}(rel:Rel X.K Z r S H)(h1:H x=none)(h2:H dx=none)(h3:dx≠x):
  Rel X.K Z (r++[x]) (S++[.ins C []]) (upd (upd H dx (.own x)) x (.ins C dx []))∧Ext r (r++[x]) H (upd (upd H dx (.own x)) x (.ins C dx [])):=by
 obtain⟨rb,e⟩:=rel.b.pushO (o:=.ins C []) (H':=upd (upd H dx (.own x)) x (.ins C dx [])) h1 (λb u q=>by rw[za2 (zdL q h1),za2 (zdL q h2)]; exact q) λ_=>⟨dx,[],zbP,FR.nil⟩
 exact⟨⟨rb,rel.xw.ext e⟩,e⟩
theorem znV {C x:Addr}{r r':List Addr}{n:Nat}{H H':Hp}{Z:Zx}{K:PySem.W.Frag}{Q:DK}{Qv:VK}(ret:Ret K Z r H Q Qv)(e:Ext r r' H H')(hx:r'[n]?=some x):
  Ret K Z r' H' (λd S2=>d=.non∧Q (.ref n) S2) (λv H2=>v=.non∧Qv (.ref x) H2):=λv H2 r2 d S2 e2 rel2 p2 q2=>by
 obtain⟨rfl,q2⟩:=q2
 cases p2
 exact⟨rfl,ret _ H2 r2 (.ref n) S2 (e.trans e2) rel2 (.ref (e2.adr _ _ hx)) q2⟩
theorem zlS {C f:Addr}{fd:FuncData}{k:Nat}{ps:List Str}{sd:Sd}{ex:Addr→Sto→Prop}{W:XK}{x:Str}{p:Pos}(M:Mk X.K C f)
  (F:zbg X.prog X.w X.K X.mg X.base (CXE X.prog X.w) k f fd ps (upF X.K sd))(hr:zaE (k+1) X.A)(hg:Gl X x)(hm:X.mg x=some (.ref C))(hb:zbJ X.K fd ps [])(hx:zeI (CXE X.prog X.w) X W)
  (hdb:(x==("__debug__":Str))=false:=by decide):PD X (Zc ex W) (.Call (.Name x p) [] [] pos) (znU C ex sd zc7):=
 zaK (zuv M F hr hg hm hb .nil hx hdb) λσ H Qv ⟨r,dl,S,Q,rs,rel,h,ret⟩=>λx dx n1 n2 n3=>by
  obtain⟨rel2,e2⟩:=znn (C:=C) rel n1 n2 n3
  exact⟨ex,_,_,[.ref S.length],_,rel2,Rps.cons (zcQ rel.len) Rps.nil,h,znV (C:=C) ret e2 (zhE rel.len)⟩
theorem zui {C f:Addr}{fd:FuncData}{k:Nat}{ps:List Str}{sd:Sd}{ex:Addr→Sto→Prop}{W:XK}{x:Str}{p:Pos}{e:Expr}{es:List Expr}{t:TDA}(M:Mk X.K C f)
  (F:zbg X.prog X.w X.K X.mg X.base (CXE X.prog X.w) k f fd ps (upF X.K sd))(hr:zaE (k+1) X.A)(hg:Gl X x)(hm:X.mg x=some (.ref C))(hb:zbJ X.K fd ps [])(hx:zeI (CXE X.prog X.w) X W)(ha:PDA X (Zc ex W) (e::es) t)
  (hdb:(x==("__debug__":Str))=false:=by decide)(he:starEach (e::es) X.env=(false,eval e X.env)::starEach es X.env:=by rfl)(hpl:(backTo pos (starEach es X.env)).any (·.1)=false:=by rfl):
  PD X (Zc ex W) (.Call (.Name x p) (e::es) [] pos) (znU C ex sd t):=
 zaK (zxb M F hr hg hm hb .nil hx ha hdb he hpl) λσ H Qv ⟨r,dl,S,Q,rs,rel,h,ret⟩=>⟨r,dl,S,_,rs,rel,h,λvs H1 r1 ds S1 e1 rel1 p1 q1=>λx dx n1 n2 n3=>by
  obtain⟨rel2,e2⟩:=znn (C:=C) rel1 n1 n2 n3
  show upF X.K sd (.ref x::(vs++[])) _ _ W
  rw[VaB]
  exact⟨ex,_,_,.ref S1.length::ds,_,rel2,Rps.cons (zcQ rel1.len) (p1.ext e2),q1,znV (C:=C) ret (e1.trans e2) (zhE rel1.len)⟩⟩
end
def zdN:List D→Option (List Key)
 | []=>some []
 | .int i::r=>(zdN r).map (.inl i::·)
 | .str x::r=>(zdN r).map (.inr x::·)
 | _=>none
def zel:D→Option (List Key)
 | .tup ds=>zdN ds
 | _=>none
theorem zlr {r:List Addr}{H:Hp}:∀ {ds:List D} {xs:List V} {ks:List Key},zdN ds=some ks→Rps r H ds xs→xs=ks.map kV
 | [],xs,ks,e,p=>by
  have z:=p.unnil
  subst z
  simp only[zdN,Option.some.injEq] at e
  subst e
  rfl
 | d::ds,xs,ks,e,p=>by
  obtain⟨v,vs,rfl,p1,p2⟩:=p.uncons
  cases p1 with
  | int i=>
   simp only[zdN,VaR] at e
   obtain⟨ms,e1,rfl⟩:=e
   rw[zlr e1 p2]
   rfl
  | str x=>
   simp only[zdN,VaR] at e
   obtain⟨ms,e1,rfl⟩:=e
   rw[zlr e1 p2]
   rfl
  | _=>simp[zdN] at e
theorem zoS {r:List Addr}{H:Hp}{d:D}{v:V}{k:List Key}(p:Rp r H d v)(e:zel d=some k):∃b,v=.ref b∧H b=some (.tup (k.map kV)):=by
 cases p with
 | tup h l f=>
  have z:=zlr (show zdN _=some k from e) ⟨l,f⟩
  subst z
  exact⟨_,rfl,h⟩
 | _=>simp[zel] at e
section
variable {κ:Type} [DecidableEq κ]
def zbm (kvs:List (κ×D))(k:κ):Option D:=(kvs.find? λkv=>decide (kv.1=k)).map (·.2)
def zcf (kvs:List (κ×D))(k:κ)(v:D):List (κ×D):=
 if (kvs.any λkv=>decide (kv.1=k))=true then kvs.map (λkv=>if kv.1=k then (kv.1,v) else kv) else kvs++[(k,v)]
theorem FR.split {r:List Addr}{H:Hp}{p:κ×D}{fs:List (κ×D)}{gs:List (κ×V)}(h:FR r H (p::fs) gs):∃q gs',gs=q::gs'∧p.1=q.1∧Rp r H p.2 q.2∧FR r H fs gs':=by
 cases gs with
 | nil=>
  have:=h.1
  simp at this
 | cons q gs'=>
  obtain⟨h1,h2⟩:=h
  simp only[Vaj,List.cons.injEq] at h1
  obtain⟨p1,p2⟩:=h2.tail
  exact⟨q,gs',rfl,h1.1,p1,h1.2,p2⟩
theorem FR.unnil {r:List Addr}{H:Hp}{gs:List (κ×V)}(h:FR r H ([]:List (κ×D)) gs):gs=[]:=by
 have:=h.1
 simpa using this.symm
theorem FR.cons {r:List Addr}{H:Hp}{k:κ}{d:D}{v:V}{fs:List (κ×D)}{gs:List (κ×V)}(p:Rp r H d v)(h:FR r H fs gs):FR r H ((k,d)::fs) ((k,v)::gs):=⟨by simp[h.1],Rps.cons p h.2⟩
theorem FR.val {r:List Addr}{H:Hp}{k:κ}:∀ {fs:List (κ×D)} {gs:List (κ×V)},FR r H fs gs→(∀d,zbm fs k=some d→∃v,zco gs k=some v∧Rp r H d v)∧(zbm fs k=none→zco gs k=none)
 | [],gs,h=>by
  have z:=h.unnil
  subst z
  exact⟨(λd e=>by cases e),λ_=>rfl⟩
 | p::fs,gs,h=>by
  obtain⟨q,gs',rfl,e,pr,t⟩:=h.split
  obtain⟨i1,i2⟩:=FR.val (k:=k) t
  by_cases z:p.1=k
  ·have z':q.1=k:=e.symm.trans z
   rw[zlj z']
   have zd:zbm (p::fs) k=some p.2:=by simp[zbm,VaM,z]
   rw[zd]
   exact⟨λd hd=>⟨q.2,rfl,by cases hd; exact pr⟩,λhd=>by cases hd⟩
  ·have z':¬ q.1=k:=λy=>z (e.trans y)
   rw[zlf z']
   have zd:zbm (p::fs) k=zbm fs k:=by simp[zbm,VaM,z]
   rw[zd]
   exact⟨i1,i2⟩
theorem FR.putK {r:List Addr}{H:Hp}{k:κ}{d:D}{v:V}{fs:List (κ×D)}{gs:List (κ×V)}(p:Rp r H d v)(h:FR r H fs gs):FR r H (zcf fs k d) (putK gs k v):=by
 have any:∀ {fs:List (κ×D)} {gs:List (κ×V)},FR r H fs gs→(fs.any λkv=>decide (kv.1=k))=(gs.any λkv=>decide (kv.1=k)):=by
  intro fs
  induction fs with
  | nil=>intro gs h; have z:=h.unnil; subst z; rfl
  | cons q fs ih=>
   intro gs h
   obtain⟨q',gs',rfl,e,_,t⟩:=h.split
   rw[VaN,VaN,ih t,e]
 have mp:∀ {fs:List (κ×D)} {gs:List (κ×V)},FR r H fs gs→FR r H (fs.map λkv=>if kv.1=k then (kv.1,d) else kv) (gs.map λkv=>if kv.1=k then (kv.1,v) else kv):=by
  intro fs
  induction fs with
  | nil=>intro gs h; have z:=h.unnil; subst z; exact FR.nil
  | cons q fs ih=>
   intro gs h
   obtain⟨q',gs',rfl,e,pr,t⟩:=h.split
   rw[Vaj,Vaj]
   obtain⟨qk,qd⟩:=q
   obtain⟨qk',qv⟩:=q'
   have e':qk=qk':=e
   subst e'
   by_cases z:qk=k
   ·rw[if_pos z,if_pos z]; exact FR.cons p (ih t)
   ·rw[if_neg z,if_neg z]; exact FR.cons pr (ih t)
 have ap:∀ {fs:List (κ×D)} {gs:List (κ×V)},FR r H fs gs→FR r H (fs++[(k,d)]) (gs++[(k,v)]):=by
  intro fs
  induction fs with
  | nil=>intro gs h; have z:=h.unnil; subst z; exact FR.cons p FR.nil
  | cons q fs ih=>
   intro gs h
   obtain⟨q',gs',rfl,e,pr,t⟩:=h.split
   obtain⟨qk,qd⟩:=q
   obtain⟨qk',qv⟩:=q'
   have e':qk=qk':=e
   subst e'
   exact FR.cons pr (ih t)
 unfold zcf L2.putK
 rw[any h]
 split
 ·exact mp h
 ·exact ap h
end
section
variable {X:Cx}{Z:Zx}{pos:Pos}
def ze9 (S:Sto):D→Option (Nat×List (List Key×D))
 | .ref n=>match S[n]? with
  | some (.dct kvs)=>some (n,kvs)
  | _=>none
 | _=>none
theorem zno {S:Sto}{d:D}{n:Nat}{kvs:List (List Key×D)}(h:ze9 S d=some (n,kvs)):d=.ref n∧S[n]?=some (.dct kvs):=by
 unfold ze9 at h
 split at h
 ·split at h
  ·rename_i e
   simp only[Option.some.injEq,Prod.mk.injEq] at h
   obtain⟨rfl,rfl⟩:=h
   exact⟨rfl,e⟩
  ·cases h
 ·cases h
def atD (S:Sto)(d y:D):Option (Option D):=match ze9 S d,zel y with
 | some (_,kvs),some k=>some (zbm kvs k)
 | _,_=>none
theorem zng {r:List Addr}{S:Sto}{H:Hp}{d y:D}{x v:V}{o:Option D}(rel:zaM X.K r S H)(pd:Rp r H d x)(py:Rp r H y v)(h:atD S d y=some o):
  ∃a o',x=.ref a∧zcd H a v o'∧(∀z,o=some z→∃w,o'=some w∧Rp r H z w)∧(o=none→o'=none):=by
 unfold atD at h
 split at h
 ·rename_i n kvs k e1 e2
  obtain⟨rfl,eS⟩:=zno e1
  obtain⟨a,ha,kvs',eH,fr⟩:=rel.at eS
  obtain⟨b,rfl,eb⟩:=zoS py e2
  cases pd with
  | ref hr=>
   rw[hr] at ha; cases ha
   have hv:=Option.some.inj h
   subst hv
   exact⟨a,_,rfl,zcd.t eH eb,λz hz=>fr.val.1 z hz,λhz=>fr.val.2 hz⟩
 ·cases h
@[irreducible] def zkK (td ty:TDE):TDE:=λdl S Q=>td dl S λd S1=>ty dl S1 λy S2=>match atD S2 d y with
 | some (some v)=>Q v S2
 | _=>False
theorem zwP {o i:Expr}{td ty:TDE}{k:Nat}(hu:zaE k X.A)(ho:PD X Z o td)(hi:PD X Z i ty)(hs:zgm i):PD X Z (.Subscript o i pos) (zkK td ty):=
 zaK (zpM (by have:=hu.un; omega) ho hi hs) λσ H Qv ⟨r,dl,S,Q,rs,rel,h,ret⟩=>by unfold zkK at h; exact⟨r,dl,S,_,rs,rel,h,λx H1 r1 d S1 e1 rel1 p1 q1=>⟨r1,dl,S1,_,rs.ext e1,rel1,q1,λv H2 r2 y S2 e2 rel2 p2 q2=>by
  split at q2
  ·rename_i w e
   obtain⟨a,o',rfl,g,g1,_⟩:=zng rel2.b (p1.ext e2) p2 e
   obtain⟨u,rfl,pu⟩:=g1 w rfl
   exact⟨a,u,rfl,g,ret u H2 r2 w S2 (e1.trans e2) rel2 pu q2⟩
  ·exact q2.elim⟩⟩
@[irreducible] def zhj (ty td:TDE):TDE:=λdl S Q=>ty dl S λy S1=>td dl S1 λd S2=>match atD S2 d y with
 | some o=>Q (.bl o.isSome) S2
 | none=>False
theorem zuU {ty td:TDE}{σ:St}{H:Hp}{Qv:VK}(h:up X.K Z (zhj ty td) σ H Qv):tDIn (up X.K Z ty) (up X.K Z td) σ H Qv:=by
 obtain⟨r,dl,S,Q,rs,rel,h,ret⟩:=h
 unfold zhj at h
 refine⟨r,dl,S,_,rs,rel,h,λv H1 r1 y S1 e1 rel1 p1 q1=>⟨r1,dl,S1,_,rs.ext e1,rel1,q1,λx H2 r2 d S2 e2 rel2 p2 q2=>?_⟩⟩
 split at q2
 ·rename_i o e
  obtain⟨a,o',rfl,g,g1,g2⟩:=zng rel2.b p2 (p1.ext e2) e
  have ei:o'.isSome=o.isSome:=by
   cases o with
   | none=>rw[g2 rfl]; rfl
   | some z=>obtain⟨w,rfl,_⟩:=g1 z rfl; rfl
  exact⟨a,o',rfl,g,by rw[ei]; exact ret _ H2 r2 (.bl _) S2 (e1.trans e2) rel2 (.bl _) q2⟩
 ·exact q2.elim
theorem zrD {o i:Expr}{td ty:TDE}{k:Nat}(hu:zaE k X.A)(hi:PD X Z i ty)(ho:PD X Z o td)(hm:behindInMarks .In o=false:=by rfl):PDT X Z (.Compare i [.In] [o] pos) (zcR (zhj ty td)):=
 ze0 (zkt (zp4 (by have:=hu.un; omega) hi ho) hm) λσ H Qb ⟨r,dl,S,Q,rs,rel,h,ret⟩=>zuU ⟨r,dl,S,_,rs,rel,h,zgh ret⟩
@[irreducible] def zkn (td ty tv:TDE):TDS:=λE dl S=>tv dl S λv S1=>td dl S1 λd S2=>ty dl S2 λy S3=>match ze9 S3 d,zel y with
 | some (n,kvs),some k=>kvs.length<1000∧E.nx dl (S3.set n (.dct (zcf kvs k v)))
 | _,_=>False
theorem zrM {o i e:Expr}{td ty tv:TDE}{k:Nat}{p2:Pos}(hu:zaE k X.A)(ho:PD X Z o td)(hi:PD X Z i ty)(hv:PD X Z e tv)(hs:swapsWith e (some (.Subscript o i p2)) pos.line X.env=pure false:=by rfl):PDS X Z (.Assign [.Subscript o i p2] e pos) (zkn td ty tv):=
 zb2 (zpZ (by have:=hu.un; omega) ho hi hv hs) λF σ H ⟨r,dl,S,E,rs,rel,h,ret⟩=>by unfold zkn at h; exact⟨r,dl,S,_,rs,rel,h,λv H1 r1 dv S1 e1 rel1 p1 q1=>⟨r1,dl,S1,_,rs.ext e1,rel1,q1,λx H2 r2 d S2 e2 rel2 p2' q2=>
  ⟨r2,dl,S2,_,rs.ext (e1.trans e2),rel2,q2,λy H3 r3 dy S3 e3 rel3 p3 q3=>by
   split at q3
   ·rename_i n kvs k' c1 c2
    obtain⟨hl,q3⟩:=q3
    obtain⟨rfl,eS⟩:=zno c1
    obtain⟨a,ha,kvs',eH,fr⟩:=rel3.at eS
    obtain⟨b,rfl,eb⟩:=zoS p3 c2
    cases p2' with
    | ref hr=>
     have hr3:=e3.adr _ _ hr
     rw[hr3] at ha; cases ha
     have hlen:kvs'.length=kvs.length:=by
      have:=congrArg List.length fr.1
      simpa using this.symm
     obtain⟨rb,xx⟩:=rel3.b.setO (o':=.dct (zcf kvs k' dv)) (u:=.dT (L2.putK kvs' k' v)) hr3 eS rfl rfl λxx=>⟨_,zbP,(fr.putK (p1.ext (e2.trans e3))).ext xx⟩
     exact⟨a,_,rfl,zdY.t eH eb (by rw[hlen]; exact zg5 (VaF hl)),ret.nx _ _ r3 _ _ (e1.trans (e2.trans (e3.trans xx))) (rs.ext (e1.trans (e2.trans (e3.trans xx)))) ⟨rb,rel3.xw.ext xx⟩ q3⟩
   ·exact q3.elim⟩⟩⟩
def zoN:TDE:=λ_ S Q=>Q (.ref S.length) (S++[.dct []])
theorem zs9:PD X Z (.Dict [] [] pos) zoN:=zaK zrZ λσ H Qv ⟨r,dl,S,Q,rs,rel,h,ret⟩=>λp hp=>by
 obtain⟨rb,e⟩:=rel.b.pushO (o:=.dct []) (H':=upd H p (.dT [])) hp (zcY hp) λ_=>⟨[],zbP,FR.nil⟩
 exact ret _ _ _ (.ref S.length) _ e ⟨rb,rel.xw.ext e⟩ (zcQ rel.len) h
end
def zdF:D→Option Key
 | .int i=>some (.inl i)
 | .str x=>some (.inr x)
 | _=>none
theorem zpb {r:List Addr}{H:Hp}{d:D}{v:V}{k:Key}(p:Rp r H d v)(e:zdF d=some k):v=kV k:=by
 cases p with
 | int i=>cases e; rfl
 | str x=>cases e; rfl
 | _=>cases e
section
variable {X:Cx}{Z:Zx}{pos:Pos}
def zde (S:Sto):D→Option (Nat×List (Key×D))
 | .ref n=>match S[n]? with
  | some (.dck kvs)=>some (n,kvs)
  | _=>none
 | _=>none
theorem zof {S:Sto}{d:D}{n:Nat}{kvs:List (Key×D)}(h:zde S d=some (n,kvs)):d=.ref n∧S[n]?=some (.dck kvs):=by
 unfold zde at h
 split at h
 ·split at h
  ·rename_i e
   simp only[Option.some.injEq,Prod.mk.injEq] at h
   obtain⟨rfl,rfl⟩:=h
   exact⟨rfl,e⟩
  ·cases h
 ·cases h
def atK (S:Sto)(d y:D):Option (Option D):=match zde S d,zdF y with
 | some (_,kvs),some k=>some (zbm kvs k)
 | _,_=>none
theorem zlw {r:List Addr}{S:Sto}{H:Hp}{d y:D}{x v:V}{o:Option D}(rel:zaM X.K r S H)(pd:Rp r H d x)(py:Rp r H y v)(h:atK S d y=some o):
  ∃a o',x=.ref a∧zcd H a v o'∧(∀z,o=some z→∃w,o'=some w∧Rp r H z w)∧(o=none→o'=none):=by
 unfold atK at h
 split at h
 ·rename_i n kvs k e1 e2
  obtain⟨rfl,eS⟩:=zof e1
  obtain⟨a,ha,kvs',eH,fr⟩:=rel.at eS
  obtain rfl:=zpb py e2
  cases pd with
  | ref hr=>
   rw[hr] at ha; cases ha
   have hv:=Option.some.inj h
   subst hv
   exact⟨a,_,rfl,zcd.k eH,λz hz=>fr.val.1 z hz,λhz=>fr.val.2 hz⟩
 ·cases h
@[irreducible] def zkI (td ty:TDE):TDE:=λdl S Q=>td dl S λd S1=>ty dl S1 λy S2=>match atK S2 d y with
 | some (some v)=>Q v S2
 | _=>False
theorem zrT {o i:Expr}{td ty:TDE}{k:Nat}(hu:zaE k X.A)(ho:PD X Z o td)(hi:PD X Z i ty)(hs:zgm i):PD X Z (.Subscript o i pos) (zkI td ty):=
 zaK (zpM (by have:=hu.un; omega) ho hi hs) λσ H Qv ⟨r,dl,S,Q,rs,rel,h,ret⟩=>by unfold zkI at h; exact⟨r,dl,S,_,rs,rel,h,λx H1 r1 d S1 e1 rel1 p1 q1=>⟨r1,dl,S1,_,rs.ext e1,rel1,q1,λv H2 r2 y S2 e2 rel2 p2 q2=>by
  split at q2
  ·rename_i w e
   obtain⟨a,o',rfl,g,g1,_⟩:=zlw rel2.b (p1.ext e2) p2 e
   obtain⟨u,rfl,pu⟩:=g1 w rfl
   exact⟨a,u,rfl,g,ret u H2 r2 w S2 (e1.trans e2) rel2 pu q2⟩
  ·exact q2.elim⟩⟩
@[irreducible] def zgM (ty td:TDE):TDE:=λdl S Q=>ty dl S λy S1=>td dl S1 λd S2=>match atK S2 d y with
 | some o=>Q (.bl o.isSome) S2
 | none=>False
theorem zvL {ty td:TDE}{σ:St}{H:Hp}{Qv:VK}(h:up X.K Z (zgM ty td) σ H Qv):tDIn (up X.K Z ty) (up X.K Z td) σ H Qv:=by
 obtain⟨r,dl,S,Q,rs,rel,h,ret⟩:=h
 unfold zgM at h
 refine⟨r,dl,S,_,rs,rel,h,λv H1 r1 y S1 e1 rel1 p1 q1=>⟨r1,dl,S1,_,rs.ext e1,rel1,q1,λx H2 r2 d S2 e2 rel2 p2 q2=>?_⟩⟩
 split at q2
 ·rename_i o e
  obtain⟨a,o',rfl,g,g1,g2⟩:=zlw rel2.b p2 (p1.ext e2) e
  have ei:o'.isSome=o.isSome:=by
   cases o with
   | none=>rw[g2 rfl]; rfl
   | some z=>obtain⟨w,rfl,_⟩:=g1 z rfl; rfl
  exact⟨a,o',rfl,g,by rw[ei]; exact ret _ H2 r2 (.bl _) S2 (e1.trans e2) rel2 (.bl _) q2⟩
 ·exact q2.elim
theorem zxl {o i:Expr}{td ty:TDE}{k:Nat}(hu:zaE k X.A)(hi:PD X Z i ty)(ho:PD X Z o td)(hm:behindInMarks .In o=false:=by rfl):PDT X Z (.Compare i [.In] [o] pos) (zcR (zgM ty td)):=
 ze0 (zkt (zp4 (by have:=hu.un; omega) hi ho) hm) λσ H Qb ⟨r,dl,S,Q,rs,rel,h,ret⟩=>zvL ⟨r,dl,S,_,rs,rel,h,zgh ret⟩
@[irreducible] def ziY (td ty tv:TDE):TDS:=λE dl S=>tv dl S λv S1=>td dl S1 λd S2=>ty dl S2 λy S3=>match zde S3 d,zdF y with
 | some (n,kvs),some k=>kvs.length<1000∧E.nx dl (S3.set n (.dck (zcf kvs k v)))
 | _,_=>False
theorem zpe {o i e:Expr}{td ty tv:TDE}{k:Nat}{p2:Pos}(hu:zaE k X.A)(ho:PD X Z o td)(hi:PD X Z i ty)(hv:PD X Z e tv)(hs:swapsWith e (some (.Subscript o i p2)) pos.line X.env=pure false:=by rfl):PDS X Z (.Assign [.Subscript o i p2] e pos) (ziY td ty tv):=
 zb2 (zpZ (by have:=hu.un; omega) ho hi hv hs) λF σ H ⟨r,dl,S,E,rs,rel,h,ret⟩=>by unfold ziY at h; exact⟨r,dl,S,_,rs,rel,h,λv H1 r1 dv S1 e1 rel1 p1 q1=>⟨r1,dl,S1,_,rs.ext e1,rel1,q1,λx H2 r2 d S2 e2 rel2 p2' q2=>
  ⟨r2,dl,S2,_,rs.ext (e1.trans e2),rel2,q2,λy H3 r3 dy S3 e3 rel3 p3 q3=>by
   split at q3
   ·rename_i n kvs k' c1 c2
    obtain⟨hl,q3⟩:=q3
    obtain⟨rfl,eS⟩:=zof c1
    obtain⟨a,ha,kvs',eH,fr⟩:=rel3.at eS
    obtain rfl:=zpb p3 c2
    cases p2' with
    | ref hr=>
     have hr3:=e3.adr _ _ hr
     rw[hr3] at ha; cases ha
     have hlen:kvs'.length=kvs.length:=by
      have:=congrArg List.length fr.1
      simpa using this.symm
     obtain⟨rb,xx⟩:=rel3.b.setO (o':=.dck (zcf kvs k' dv)) (u:=.dK (L2.putK kvs' k' v)) hr3 eS rfl rfl λxx=>⟨_,zbP,(fr.putK (p1.ext (e2.trans e3))).ext xx⟩
     exact⟨a,_,rfl,zdY.k eH (by rw[hlen]; exact zg5 (VaF hl)),ret.nx _ _ r3 _ _ (e1.trans (e2.trans (e3.trans xx))) (rs.ext (e1.trans (e2.trans (e3.trans xx)))) ⟨rb,rel3.xw.ext xx⟩ q3⟩
   ·exact q3.elim⟩⟩⟩
def zny:TDE:=λ_ S Q=>Q (.ref S.length) (S++[.dck []])
theorem zss:PD X Z (.Dict [] [] pos) zny:=zaK zsW λσ H Qv ⟨r,dl,S,Q,rs,rel,h,ret⟩=>λp hp=>by
 obtain⟨rb,e⟩:=rel.b.pushO (o:=.dck []) (H':=upd H p (.dK [])) hp (zcY hp) λ_=>⟨[],zbP,FR.nil⟩
 exact ret _ _ _ (.ref S.length) _ e ⟨rb,rel.xw.ext e⟩ (zcQ rel.len) h
@[irreducible] def zhO (ty td:TDE):TDE:=λdl S Q=>ty dl S λy S1=>td dl S1 λd S2=>match atK S2 d y with
 | some o=>Q (.bl (!o.isSome)) S2
 | none=>False
theorem zuK {ty td:TDE}{σ:St}{H:Hp}{Qv:VK}(h:up X.K Z (zhO ty td) σ H Qv):znq (up X.K Z ty) (up X.K Z td) σ H Qv:=by
 obtain⟨r,dl,S,Q,rs,rel,h,ret⟩:=h
 unfold zhO at h
 refine⟨r,dl,S,_,rs,rel,h,λv H1 r1 y S1 e1 rel1 p1 q1=>⟨r1,dl,S1,_,rs.ext e1,rel1,q1,λx H2 r2 d S2 e2 rel2 p2 q2=>?_⟩⟩
 split at q2
 ·rename_i o e
  obtain⟨a,o',rfl,g,g1,g2⟩:=zlw rel2.b p2 (p1.ext e2) e
  have ei:o'.isSome=o.isSome:=by
   cases o with
   | none=>rw[g2 rfl]; rfl
   | some z=>obtain⟨w,rfl,_⟩:=g1 z rfl; rfl
  exact⟨a,o',rfl,g,by rw[ei]; exact ret _ H2 r2 (.bl _) S2 (e1.trans e2) rel2 (.bl _) q2⟩
 ·exact q2.elim
theorem zxm {o i:Expr}{td ty:TDE}{k:Nat}(hu:zaE k X.A)(hi:PD X Z i ty)(ho:PD X Z o td)(hm:behindInMarks .NotIn o=false:=by rfl):PDT X Z (.Compare i [.NotIn] [o] pos) (zcR (zhO ty td)):=
 ze0 (zkt (zsS (by have:=hu.un; omega) hi ho) hm) λσ H Qb ⟨r,dl,S,Q,rs,rel,h,ret⟩=>zuK ⟨r,dl,S,_,rs,rel,h,zgh ret⟩
theorem zdd {st:Stmt}:PDS X Z st (λ_ _ _=>False):=zb2 (t:=λ_ _ _=>False) (λ_ _ _ _ _ _ h=>h.elim) λF σ H ⟨r,dl,S,E,rs,rel,h,ret⟩=>h.elim
theorem zqo {ty td:TDE}{dl:Ev}{S S2:Sto}{Q:DK}{n:Nat}{kvs:List (Key×D)}{y:D}{k:Key}(hy:∀K:DK,K y S2→ty dl S K)(hd:∀K:DK,K (.ref n) S2→td dl S2 K)(h:S2[n]?=some (.dck kvs))(hk:zdF y=some k)(hq:Q (.bl (zbm kvs k).isSome) S2):zgM ty td dl S Q:=by
 unfold zgM
 refine hy _ (hd _ ?_)
 simp only[atK,zde,h,hk]
 exact hq
theorem zti {ty td:TDE}{dl:Ev}{S S2:Sto}{Q:DK}{n:Nat}{kvs:List (Key×D)}{y:D}{k:Key}(hy:∀K:DK,K y S2→ty dl S K)(hd:∀K:DK,K (.ref n) S2→td dl S2 K)(h:S2[n]?=some (.dck kvs))(hk:zdF y=some k)(hq:Q (.bl (!(zbm kvs k).isSome)) S2):zhO ty td dl S Q:=by
 unfold zhO
 refine hy _ (hd _ ?_)
 simp only[atK,zde,h,hk]
 exact hq
theorem ztQ {ty td:TDE}{dl:Ev}{S S2:Sto}{Q:DK}{n:Nat}{kvs:List (Key×D)}{y v:D}{k:Key}(hd:∀K:DK,K (.ref n) S2→td dl S K)(hy:∀K:DK,K y S2→ty dl S2 K)(h:S2[n]?=some (.dck kvs))(hk:zdF y=some k)(hv:zbm kvs k=some v)(hq:Q v S2):zkI td ty dl S Q:=by
 unfold zkI
 refine hd _ (hy _ ?_)
 simp only[atK,zde,h,hk,hv]
 exact hq
end
section
variable {X:Cx}{Z:Zx}{pos:Pos}
def za4 (xs:List D)(lo hi:Option Int):List D:=(xs.drop (HT.sIx xs.length 0 lo)).take (HT.sIx xs.length xs.length hi-HT.sIx xs.length 0 lo)
theorem Rps.drop {r:List Addr}{H:Hp}{ds:List D}{vs:List V}(h:Rps r H ds vs)(k:Nat):Rps r H (ds.drop k) (vs.drop k):=
 ⟨by simp[h.1],λi d v h1 h2=>h.2 (k+i) d v (by simpa using h1) (by simpa using h2)⟩
theorem Rps.take {r:List Addr}{H:Hp}{ds:List D}{vs:List V}(h:Rps r H ds vs)(k:Nat):Rps r H (ds.take k) (vs.take k):=by
 refine⟨by simp[h.1],λi d v h1 h2=>?_⟩
 rw[List.getElem?_take] at h1 h2
 split at h1
 ·rw[if_pos (by assumption)] at h2
  exact h.2 i d v h1 h2
 ·cases h1
theorem Rps.cut {r:List Addr}{H:Hp}{ds:List D}{vs:List V}(h:Rps r H ds vs)(lo hi:Option Int):Rps r H (za4 ds lo hi) (zfP vs lo hi):=by
 unfold za4 zfP
 rw[h.1]
 exact(h.drop _).take _
@[irreducible] def zkL (te:TDE)(tl th:TDO):TDE:=λdl S Q=>te dl S λd S1=>tl dl S1 λl S2=>th dl S2 λu S3=>match d with
 | .ref n=>match lAt S3 n with
  | some o=>Q (.ref S3.length) (S3++[.lst (za4 (zan o) l u)])
  | none=>False
 | _=>False
theorem zeN {e:Expr}{te:TDE}{lo hi:Option Expr}{tl th:TDO}{p2:Pos}(he:PD X Z e te)(hl:PDO X Z lo tl)(hu:PDO X Z hi th):PD X Z (.Subscript e (.Slice lo hi none p2) pos) (zkL te tl th):=
 zaK (zmV zrv he hl hu) λσ H Qv ⟨r,dl,S,Q,rs,rel,h,ret⟩=>by
  unfold zkL at h
  refine⟨r,dl,S,_,rs,rel,h,λv H1 r1 d S1 e1 rel1 p1 q1=>⟨r1,dl,S1,_,rs.ext e1,rel1,q1,λl H2 r2 S2 e2 rel2 q2=>⟨r2,dl,S2,_,rs.ext (e1.trans e2),rel2,q2,λu H3 r3 S3 e3 rel3 q3=>?_⟩⟩⟩
  cases p1 with
  | @ref n a hn=>
   dsimp only at q3
   split at q3
   ·rename_i o eo
    obtain⟨eo,eL⟩:=zb5 eo
    obtain⟨a',ha,ob⟩:=rel3.at eo
    rw[e3.adr _ _ (e2.adr _ _ hn)] at ha; cases ha
    obtain⟨xs,sq,pr⟩:=ob.list eL
    refine⟨a,xs,rfl,sq,λp hp=>?_⟩
    obtain⟨rel4,x⟩:=rel3.push hp (pr.cut l u)
    exact ret _ _ _ (.ref S3.length) _ (e1.trans (e2.trans (e3.trans x))) rel4 (zcQ rel3.len) q3
   ·exact q3.elim
  | _=>exact(show False from q3).elim
theorem zeG {te:TDE}{tl th:TDO}{dl:Ev}{S S3:Sto}{Q:DK}{n:Nat}{o:Ob}{lo hi:Option Int}(h:∀K:DK,K (.ref n) S3→te dl S K)(hl:∀K:Option Int→Sto→Prop,K lo S3→tl dl S3 K)(hh:∀K:Option Int→Sto→Prop,K hi S3→th dl S3 K)(ho:S3[n]?=some o)
  (hq:Q (.ref S3.length) (S3++[.lst (za4 (zan o) lo hi)]))(hL:zcb o=some o:=by rfl):zkL te tl th dl S Q:=by
 unfold zkL
 refine h _ (hl _ (hh _ ?_))
 simp only[zbd ho hL]
 exact hq
end
section
variable {X:Cx}{Z:Zx}{pos:Pos}
end
section
variable {X:Cx}{pins:List (Addr×Obj)}{σ:St}{H:Hp}{s:Shared}{h':Heap}
theorem zub {t':Nat}{ch:List Addr}{T:Addr}{xs:List V}{vals:Array Value}(I:Inv X pins σ H s)(k:∀b o,b ∉ ch→s.heap.get? b=some o→h'.get? b=some o)(hch:∀b∈ch,zce X pins H b)
  (hT:s.heap.objs.size≤T)(ht:h'.IsTuple T vals)(rv:zas xs vals.toList)(hl:xs.length≤sizeLine):Inv X pins σ (upd H T (.tup xs)) { s with heap:=h',toks:=t' }:=by
 have hTn:H T=none:=I.hok.fresh hT
 have old:∀ {b:Addr} {o:Obj},s.heap.get? b=some o→b≠T:=λ{b o} e z=>absurd (Vak (Heap.lt_size e) hT) (by rw[z]; exact VaC _)
 have trk:∀b u,H b=some u→b ∉ ch:=λb u e z=>by
  rw[(hch b z).1] at e; cases e
 have up:∀b u,H b=some u→(upd H T (.tup xs)) b=some u:=zcY hTn
 refine I.step (g':=s.gens) (d':=s.drawn) (ch:=ch) (λb hb=>?_) (λb o _ _ hc e _=>k b o hc e) (λb o _ _ hc e _=>⟨o.slots,k b o hc e⟩) (λb o _ e n=>by rw[za2 (old e)]; exact n)
  (λb o hc e=>⟨o,k b o hc e⟩) (λb ys e=>up _ _ e) (λb o u e=>up _ _ e) (λb ps e=>⟨#[],by rw[up _ _ e]; simp⟩) (λm hm=>?_) (λb u e=>?_) I.bare
 ·obtain⟨_,f1,_,f3,f4,f5⟩:=hch b hb
  exact⟨f3,f1,f4,f5⟩
 ·obtain⟨o,es,ep,ho,r⟩:=hm
  exact⟨o,es,ep,k _ o (λz=>(hch _ z).2.1 rfl) ho,r⟩
 ·by_cases hb:b=T
  ·subst hb
   rw[zbP] at e
   cases e
   exact⟨hl,vals.toList,rv,by rw[Array.toArray_toList]; exact ht⟩
  ·rw[za2 hb] at e
   refine(I.hok b u e).stay (λc v hc q=>k c v ?_ q) (λd z=>up _ _ z) λd ys z=>up _ _ z
   rcases hc with z | z
   ·rw[z]; exact trk b u e
   ·exact trk c _ z
theorem zoz {t':Nat}{ch:List Addr}(I:Inv X pins σ H s)(k:∀b o,b ∉ ch→s.heap.get? b=some o→h'.get? b=some o)(hch:∀b∈ch,zce X pins H b):Inv X pins σ H { s with heap:=h',toks:=t' }:=by
 have trk:∀b u,H b=some u→b ∉ ch:=λb u e z=>by
  rw[(hch b z).1] at e; cases e
 refine I.step (g':=s.gens) (d':=s.drawn) (ch:=ch) (λb hb=>?_) (λb o _ _ hc e _=>k b o hc e) (λb o _ _ hc e _=>⟨o.slots,k b o hc e⟩) (λb o _ e n=>n)
  (λb o hc e=>⟨o,k b o hc e⟩) (λb ys e=>e) (λb o u e=>e) (λb ps e=>⟨#[],by rw[e]; simp⟩) (λm hm=>?_) (λb u e=>?_) I.bare
 ·obtain⟨_,f1,_,f3,f4,f5⟩:=hch b hb
  exact⟨f3,f1,f4,f5⟩
 ·obtain⟨o,es,ep,ho,r⟩:=hm
  exact⟨o,es,ep,k _ o (λz=>(hch _ z).2.1 rfl) ho,r⟩
 ·refine(I.hok b u e).stay (λc v hc q=>k c v ?_ q) (λd z=>z) λd ys z=>z
  rcases hc with z | z
  ·rw[z]; exact trk b u e
  ·exact trk c _ z
end
def Ite (K:PySem.W.Frag)(a:Addr):It:=
 ⟨λi H=>∃xs x,SqL K H a xs∧xs[i]?=some x,λi H x H'=>∃T v,x=.ref T∧H T=none∧H'=upd H T (.tup [.int (i:Int),v])∧∀xs,SqL K H a xs→xs[i]?=some v,λi H=>∃xs,SqL K H a xs∧xs.length=i⟩
theorem zxr {P:Program}{w:World}{K:PySem.W.Frag}{elts:List Expr}{kk:Nat}{tp:Pos}(a e it:Addr)(hei:e≠it)(hae:a≠e)(hai:a≠it):
  zg9 P w K (.Tuple elts kk tp) (Ite K a) [e,it] e (λi h=>(∃old,IsEnum h e it i old)∧h.IsListIter it a i) where
 mem:=by simp
 obj:=λi h st b hb=>by
  obtain⟨⟨old,he⟩,o,e1,c,d⟩:=st
  have hb':b=e∨b=it:=by simpa using hb
  rcases hb' with rfl | rfl
  ·exact⟨_,he,λv z=>by cases z⟩
  ·exact⟨o,e1,λv z=>by rw[d] at z; cases z⟩
 keep:=λi h h' st k=>by
  obtain⟨⟨old,he⟩,hit⟩:=st
  exact⟨⟨old,k e (by simp) _ he⟩,hit.at λo x=>k it (by simp) o x⟩
 item:=by
  intro X hP hw hK hc i pins s σ H E I hf st hg
  subst hP hw hK
  obtain⟨xs,x,hq,hx⟩:=hg
  obtain⟨its,rv,p,hz⟩:=I.list hq
  obtain⟨u,hu,ru⟩:=rv.get hx
  have hi:i<its.toArray.size:=by
   have:=(Vac.mp hu).1
   simpa using this
  have W:=WalksT.enumerate (prog:=X.prog) (w:=X.w) (A:=X.A) (I.ok.hd hc) e it a hei hae hai its.toArray
  refine W.item i s _ _ hi ⟨st.1,st.2,p.isList⟩ λT vals h' tk hP hT ht mid k1=>?_
  obtain⟨t,y,hy,rfl⟩:=hP
  have ey:y=u:=by
   have z:its[i]?=some y:=by simpa using hy
   rw[hu] at z; exact(Option.some.inj z).symm
  subst ey
  have hw:∀b∈[e,it],zce X pins H b:=hf
  have I1:Inv X pins σ (upd H T (.tup [.int (i:Int),x])) { s with heap:=h',toks:=tk }:=zub I k1 hw hT ht (.cons ⟨t,rfl⟩ (.cons ru .nil)) (show 2≤sizeLine from zbG (by decide))
  have neT:∀b∈[e,it],b≠T:=λb hb z=>W.apart i T h' mid (z ▸ hb)
  have hf1:∀b∈[e,it],zce X pins (upd H T (.tup [.int (i:Int),x])) b:=λb hb=>⟨by rw[za2 (neT b hb)]; exact(hf b hb).1,(hf b hb).2⟩
  refine⟨.ref T,rfl,W.go elts kk tp i T _ _ _ mid λh2 st2 k2=>?_⟩
  have I2:Inv X pins σ (upd H T (.tup [.int (i:Int),x])) { s with heap:=h2,toks:=tk }:=zoz (s:={ s with heap:=h',toks:=tk }) (t':=tk) I1 k2 hf1
  exact⟨.ref T,_,I2,rfl,⟨T,x,rfl,I.hok.fresh hT,rfl,λys hy=>by rw[I.list_inj hy hq]; exact hx⟩,⟨st2.1,st2.2.1⟩,λb hb=>(hf1 b hb).1⟩
 done:=by
  intro X hP hw hK hc i pins s σ H E I hf st hg
  subst hP hw hK
  obtain⟨xs,hq,hx⟩:=hg
  obtain⟨its,rv,p,hz⟩:=I.list hq
  have W:=WalksT.enumerate (prog:=X.prog) (w:=X.w) (A:=X.A) (I.ok.hd hc) e it a hei hae hai its.toArray
  have hi:i=its.toArray.size:=by rw[Var,← rv.length]; exact hx.symm
  subst hi
  exact W.done s _ _ ⟨st.1,st.2,p.isList⟩ λh' tk k1=>⟨rfl,zoz (t':=tk) I k1 hf⟩
 self:=λA i s Q E st h=>by
  obtain⟨⟨old,he⟩,_⟩:=st
  exact wpAny_pyIter_enum he h
section
variable {X:Cx}
def iEnum (K:PySem.W.Frag)(ta:TA):TI:=λσ H R=>ta σ H λvs H1=>∃a,vs=[.ref a]∧(∃xs,SqL K H1 a xs)∧R (Ite K a) H1
theorem zrO {a:Expr}{ta:TA}{p pos tp:Pos}{elts:List Expr}{kk:Nat}(hg:Gl X "enumerate")(hm:X.mg "enumerate"=none)(hv:bootBuiltins "enumerate"=some (.type "enumerate"))(ha:PA X [a] ta)(hs:starEach [a] X.env=[(false,eval a X.env)]:=by rfl):
  PI X (.Tuple elts kk tp) (.Call (.Name "enumerate" p) [a] [] pos) (iEnum X.K ta):=by
 intro pins s σ H R I h
 refine Call_ (zhu I hg hm hv (PyProof.Rows.callWith_type1 (thn (ha pos pins s σ H _ I h) λus s1 ⟨vs,H1,I1,r1,q1⟩=>?_) hs rfl))
 obtain⟨l,e,⟨xs,hq⟩,q⟩:=q1
 subst e
 cases r1 with
 | cons r rr=>
  cases rr
  cases r
  obtain⟨its,rv,pl,hz⟩:=I1.list hq
  have hll:l<s1.heap.objs.size:=by
   obtain⟨o,e,_⟩:=pl.isList
   exact Heap.lt_size e
  refine call_enumerate_list pl.isList λh' he hit hsz hk=>?_
  have I2:Inv X pins σ H1 { s1 with heap:=h' }:=I1.kept (t':=s1.toks) hk
  refine wpAny_pyIter_enum he ⟨s1.heap.objs.size+1,[s1.heap.objs.size+1,s1.heap.objs.size],_,_,H1,rfl,I2,zxr l _ _ (Nat.succ_ne_self _) (Vam (Nat.lt_succ_of_lt hll)) (Vam hll),⟨⟨_,he⟩,hit⟩,λb hb=>?_,q⟩
  have hb':b=s1.heap.objs.size+1∨b=s1.heap.objs.size:=by simpa using hb
  rcases hb' with rfl | rfl
  ·exact I1.fpOk (Nat.le_succ _) (I1.hok.fresh (Nat.le_succ _))
  ·exact I1.fpOk (Vab _) (I1.hok.fresh (Vab _))
end
section
variable {X:Cx}
end
section
variable {X:Cx}{Z:Zx}{pos:Pos}
@[irreducible] def zlk (is:List Nat)(ta:TDA)(tb:TDS):TDS:=λE dl S=>ta dl S λds S1=>match ds with
 | [.ref n]=>(lAt S1 n).isSome=true∧∃W:Nat→Nat→Ev→Sto→Prop,(∃m,W 0 m dl S1)∧∀k m dl S,W k m dl S→match lAt S n with
  | some o=>match (zan o)[k]? with
   | some x=>tb { nx:=λdl' S'=>∃m',m'<m∧W (k+1) m' dl' S',rt:=E.rt,bk:=E.nx,ct:=λdl' S'=>∃m',m'<m∧W (k+1) m' dl' S' } (zh8 is [.int (k:Int),x] dl) S
   | none=>k=(zan o).length∧E.nx dl S
  | none=>False
 | _=>False
theorem zqg {r r':List Addr}{S':Sto}{H':Hp}{n:Nat}{a:Addr}{o:Ob}(hn:r'[n]?=some a)(rel:zaM X.K r' S' H')(eo:lAt S' n=some o):∃xs,SqL X.K H' a xs∧Rps r' H' (zan o) xs:=by
 obtain⟨eo,eL⟩:=zb5 eo
 obtain⟨a',ha,ob⟩:=rel.at eo
 rw[hn] at ha; cases ha
 exact ob.list eL
theorem zsT {iter:Expr}{body:List Stmt}{es:List Expr}{kk:Nat}{tp p pos2:Pos}{is:List Nat}{ta:TDA}{tb:TDS}(hp:PassesOwn (model X.prog X.w) X.A X.env X.xe)(hc:X.calm=true)(hN:X.N.Nodup)(hn:Nms X es is)(h2:is.length=2)
  (hg:Gl X "enumerate")(hm:X.mg "enumerate"=none)(hv:bootBuiltins "enumerate"=some (.type "enumerate"))(ha:PDA X Z [iter] ta)(hb:zcB X Z body tb)
  (hlen:(assignEach es X.env).length=is.length:=by rfl)(hst:(assignEach es X.env).findIdx? (·.1)=none:=by rfl)(hse:starEach [iter] X.env=[(false,eval iter X.env)]:=by rfl)
  (hs:∀y,foldedSetIterable (.Call (.Name "enumerate" p) [iter] [] pos2) X.env y=pure y:=by intro _; rfl):PDS X Z (.For (.Tuple es kk tp) (.Call (.Name "enumerate" p) [iter] [] pos2) body [] pos) (zlk is ta tb):=
 zb2 (zmG hp hc (zrO hg hm hv ha hse) (zs4 hc (zp2 hN hn) hlen hst) hb hs) λF σ H ⟨r,dl,S,E,rs,rel,h,ret⟩=>by
  unfold zlk at h
  refine⟨r,dl,S,_,rs,rel,h,λvs H1 r1 ds S1 x1 rel1 p1 q1=>?_⟩
  split at q1
  ·rename_i n
   obtain⟨v,vs',rfl,p2,p3⟩:=p1.uncons
   have z:=p3.unnil
   subst z
   cases p2 with
   | @ref n a hr=>
    obtain⟨hsome,W,⟨m0,w0⟩,turn⟩:=q1
    obtain⟨o1,eo1⟩:=Option.isSome_iff_exists.mp hsome
    obtain⟨xs1,sq1,_⟩:=zqg (r:=r1) hr rel1.b eo1
    refine⟨a,rfl,⟨xs1,sq1⟩,λk m σ' H'=>∃r' dl' S',Ext r1 r' H1 H'∧Rs r' H' dl' σ'∧Rel X.K Z r' S' H'∧W k m dl' S',⟨m0,r1,dl,S1,Ext.refl,rs.ext x1,rel1,w0⟩,?_⟩
    rintro k m σ2 H2 ⟨r2,dl2,S2,x2,rs2,rel2,w2⟩
    have q:=turn k m dl2 S2 w2
    split at q
    ·rename_i o eo
     obtain⟨xs,sq,pr⟩:=zqg (r:=r2) (x2.adr _ _ hr) rel2.b eo
     split at q
     ·rename_i y ey
      obtain⟨v,hvv,pv⟩:=pr.get ey
      refine .inr ⟨⟨xs,v,sq,hvv⟩,λσ' H'=>∃m',m'<m∧∃r' dl' S',Ext r1 r' H1 H'∧Rs r' H' dl' σ'∧Rel X.K Z r' S' H'∧W (k+1) m' dl' S',λ_ _ z=>z,λv' H' y'=>?_⟩
      obtain⟨T,w,rfl,hT,rfl,hw⟩:=y'
      have ew:w=v:=by
       have z:=hw xs sq
       rw[hvv] at z; exact(Option.some.inj z).symm
      subst ew
      have x3:Ext r2 r2 H2 (upd H2 T (.tup [.int (k:Int),w])):=znF hT
      have pp:Rps r2 (upd H2 T (.tup [.int (k:Int),w])) [.int (k:Int),y] [.int (k:Int),w]:=Rps.cons (.int _) (Rps.cons (pv.ext x3) Rps.nil)
      have rel3:=rel2.same (zcY (o:=.tup [.int (k:Int),w]) hT)
      have go:∀σ' H' r' dl' S',Ext r2 r' (upd H2 T (.tup [.int (k:Int),w])) H'→Rs r' H' dl' σ'→Rel X.K Z r' S' H'→(∃m',m'<m∧W (k+1) m' dl' S')→∃m',m'<m∧∃r' dl' S',Ext r1 r' H1 H'∧Rs r' H' dl' σ'∧Rel X.K Z r' S' H'∧W (k+1) m' dl' S':=
       λσ' H' r' dl' S' x rs' rel' ⟨m',hm,w'⟩=>⟨m',hm,r',dl',S',x2.trans (x3.trans x),rs',rel',w'⟩
      refine⟨T,[.int (k:Int),w],rfl,SqT.of zbP,by rw[h2]; rfl,by rw[h2]; rfl,r2,_,S2,_,zm5 (rs2.ext x3) pp,rel3,q,⟨go,λσ' H' r' dl' S' x rs' rel' z=>ret.nx σ' H' r' dl' S' (x1.trans (x2.trans (x3.trans x))) rs' rel' z,go,ret.rt.ext (x1.trans (x2.trans x3))⟩⟩
     ·obtain⟨hk,q⟩:=q
      exact .inl ⟨⟨xs,sq,by rw[← pr.1]; exact hk.symm⟩,ret.nx σ2 H2 r2 dl2 S2 (x1.trans x2) rs2 rel2 q⟩
    ·exact q.elim
  ·exact q1.elim
end
section
variable {X:Cx}{Z:Zx}{pos:Pos}
def wInT (k:Nat)(neg:Bool):W2:=λx y S Q=>match y with
 | .tup ys=>match zb1 (eqN k) ys x with
  | some b=>Q (.bl (if neg then !b else b)) S
  | none=>False
 | _=>False
theorem zoJ {k j:Nat}(hr:zaE j X.A)(hk:k≤3):OpR X (compareOp .In) (upO X.K Z (wInT k false)):=by
 intro pins s σ H x y v u Qv I rx ry h
 obtain⟨r,S,dx,dy,Q,rel,px,py,q,ret⟩:=h
 have hun:=hr.un
 cases py with
 | @tup ds xs a e1 l1 f1=>
  have q':(match zb1 (eqN k) ds dx with | some b=>Q (.bl b) S | none=>False):=q
  split at q'
  ·rename_i b eb
   cases ry
   obtain⟨is,ri,ti,_⟩:=zeD I e1
   obtain⟨g,g1,g2⟩:=zlF (A:=X.A.in1) I (by show X.A.units+1+k<_; omega) ⟨l1,f1⟩ ri px rx eb
   refine SeqAt.in_tupleAt g ti g1 ?_
   rw[g2]
   exact⟨.bl b,H,I,rfl,ret _ _ _ _ _ Ext.refl rel (.bl b) q'⟩
  ·exact q'.elim
 | _=>exact(show False from q).elim
end
structure Dm (K:PySem.W.Frag)(C:Addr)(m qual:Str)(st:Stmt)(ps:List Str) where
 f:Addr
 fd:FuncData
 F:Fun K m qual st f fd
 m:zfe K C m f
 b:zbJ K fd ps []
structure Fm (P:Program)(w:World)(K:PySem.W.Frag)(mg:Str→Option Value)(base:Heap)(k:Nat)(C:Addr)(x:Str)(ps:List Str)(sd:Sd) where
 f:Addr
 fd:FuncData
 ok:zbg P w K mg base (CXE P w) k f fd ps (upF K sd)
 m:zfe K C x f
 b:zbJ K fd ps []
def Dm.mk' {P:Program}{w:World}{K:PySem.W.Frag}{mg:Str→Option Value}{base:Heap}{k:Nat}{C:Addr}{x qual:Str}{st:Stmt}{ps:List Str}{sd:Sd}(d:Dm K C x qual st ps)(h:zbg P w K mg base (CXE P w) k d.f d.fd ps (upF K sd)):Fm P w K mg base k C x ps sd:=
 ⟨d.f,d.fd,h,d.m,d.b⟩
theorem zmp {P:Program}{w:World}{X:Cx}:zeI (CXE P w) X (λ_ _ _=>False):=λ_ _ _ _ _ _ _ h=>by
 obtain⟨_,_,_,_,_,_,_,_,_,_,_,_,q⟩:=h
 exact q.elim
section
variable {X:Cx}{Z:Zx}
theorem zuX {k:Nat}(hr:zaE k X.A):OpR X (compareOp .NotIn) (upO X.K Z (zbT (wIn 1 true))):=by rw[zca]; exact zrL 1 (by have:=hr.un; omega)
theorem zpD {k:Nat}(hr:zaE k X.A):OpR X (compareOp .Eq) (upO X.K Z (zbT (zeY 1))):=by rw[zca]; exact ztO 1 hr (by have:=hr.un; omega)
end
section
variable {X:Cx}{Z:Zx}{pos:Pos}
theorem zwI {k n m:Nat}{a a':Addr}{o o':Ob}{b:Bool}{pins:List (Addr×Obj)}{σ:St}{H:Hp}{s:Shared}{r:List Addr}{S:Sto}(I:Inv X pins σ H s)(rel:Rel X.K Z r S H)(hn:r[n]?=some a)(hm:r[m]?=some a')(eo:lAt S n=some o)(eo':lAt S m=some o')
  (e:eqL (eqN k) (zan o) (zan o')=some b)(hu:X.A.units+1+k<cLine):SeqAt.RcNeAt X.A s (.ref a) (.ref a') (!b):=by
 obtain⟨eo,eL⟩:=zb5 eo
 obtain⟨eo',eL'⟩:=zb5 eo'
 obtain⟨z,hz,ob⟩:=rel.at eo
 rw[hn] at hz; cases hz
 obtain⟨z,hz,ob'⟩:=rel.at eo'
 rw[hm] at hz; cases hz
 obtain⟨xs,sq,pr⟩:=ob.list eL
 obtain⟨ys,sq',pr'⟩:=ob'.list eL'
 obtain⟨is,ri,pl,_⟩:=I.list sq
 obtain⟨js,rj,pl',_⟩:=I.list sq'
 obtain⟨g1,g2⟩:=zih (A:=X.A.in1) (zfM k) I (by show X.A.units+1+k<_; omega) pr pr' ri rj e
 by_cases hs:is.toArray.size=js.toArray.size
 ·have q:=SeqAt.RcNeAt.lists (A:=X.A) pl.isList pl'.isList hs (by omega) g1
  have e2:(List.range is.toArray.size).all (zcI (eqN k) (zan o) (zan o'))=b:=by
   rw[← g2,← hs,Nat.min_self]; simp
  rw[e2] at q
  exact q
 ·have q:=SeqAt.RcNeAt.lists_lengths (A:=X.A) pl.isList pl'.isList (by simpa using hs) (by omega)
  have e2:b=false:=by
   rw[← g2,show (is.toArray.size==js.toArray.size)=false by simpa using hs,Bool.and_false]
  rw[e2]
  exact q
theorem ztz (k:Nat){j:Nat}(hr:zaE j X.A)(hu:X.A.units+1+k<cLine):OpR X (compareOp .NotEq) (upO X.K Z (zfa k)):=by
 intro pins s σ H x y v u Qv I rx ry h
 obtain⟨r,S,dx,dy,Q,rel,px,py,q,ret⟩:=h
 have zaC:∀ {dx dy:D} {x y:V},Rp r H dx x→Rp r H dy y→zal x v→zal y u→zdT k S dx dy=eqN (k+1) dx dy→zfa k dx dy S Q→wpAny (model X.prog X.w) X.A (compareOp .NotEq v u) (EP X pins σ Qv) X.xe s:=λpx py rx ry e q=>by
  refine znf (Z:=Z) (zfM k) hu pins s σ H _ _ v u Qv I rx ry ⟨r,S,_,_,Q,rel,px,py,?_,ret⟩
  unfold zfa at q
  rw[e] at q
  exact q
 cases px with
 | @ref n a hn=>
  cases py with
  | @ref m a' hm=>
   cases rx
   cases ry
   unfold zfa zdT at q
   dsimp only at q
   split at q
   ·rename_i b e
    split at e
    ·rename_i o o' eo eo'
     exact zwI I rel hn hm eo eo' e hu X.prog X.w X.xe _ ⟨.bl (!b),H,I,rfl,ret _ _ _ _ _ Ext.refl rel (.bl (!b)) q⟩
    ·cases e
   ·exact q.elim
  | non=>exact zaC (.ref hn) .non rx ry rfl q
  | bl i=>exact zaC (.ref hn) (.bl i) rx ry rfl q
  | int i=>exact zaC (.ref hn) (.int i) rx ry rfl q
  | str i=>exact zaC (.ref hn) (.str i) rx ry rfl q
  | tup a b c=>exact zaC (.ref hn) (.tup a b c) rx ry rfl q
  | exc a=>exact zaC (.ref hn) (.exc a) rx ry rfl q
 | non=>exact zaC .non py rx ry rfl q
 | bl i=>exact zaC (.bl i) py rx ry rfl q
 | int i=>exact zaC (.int i) py rx ry rfl q
 | str i=>exact zaC (.str i) py rx ry rfl q
 | tup a b c=>exact zaC (.tup a b c) py rx ry rfl q
 | exc a=>exact zaC (.exc a) py rx ry rfl q
theorem zpp {k:Nat}(hr:zaE k X.A):OpR X (compareOp .NotEq) (upO X.K Z (zbT (zfa 1))):=by rw[zca]; exact ztz 1 hr (by have:=hr.un; omega)
def zkd:W2:=λx y S Q=>match x,y with
 | .ref n,.ref m=>match S[n]?,S[m]? with
  | some (.lst xs),some (.lst ys)=>xs.length+ys.length≤1000∧Q (.ref S.length) (S++[.lst (xs++ys)])
  | _,_=>False
 | _,_=>False
theorem Rps.app {r:List Addr}{H:Hp}:∀ {ds es:List D} {xs ys:List V},Rps r H ds xs→Rps r H es ys→Rps r H (ds++es) (xs++ys)
 | [],es,xs,ys,p,q=>by
  have z:=p.unnil
  subst z
  exact q
 | d::ds,es,xs,ys,p,q=>by
  obtain⟨v,vs,rfl,p1,p2⟩:=p.uncons
  exact Rps.cons p1 (p2.app q)
theorem zlG:OpR X (binaryOp .Add) (upO X.K Z (zbT zkd)):=by
 rw[zca]
 exact zfX zsd λx y H Qv ⟨r,S,dx,dy,Q,rel,px,py,q,ret⟩=>by
  unfold zkd at q
  split at q
  ·rename_i n m
   split at q
   ·rename_i xs ys e1 e2
    obtain⟨hl,q⟩:=q
    cases px with
    | @ref _ a hn=>
     cases py with
     | @ref _ a' hm=>
      obtain⟨z,hz,ob⟩:=rel.at e1
      rw[hn] at hz; cases hz
      obtain⟨z,hz,ob'⟩:=rel.at e2
      rw[hm] at hz; cases hz
      obtain⟨us,h1,p1⟩:=ob
      obtain⟨vs,h2,p2⟩:=ob'
      refine⟨a,a',us,vs,rfl,rfl,h1,h2,?_,λp hp=>?_⟩
      ·rw[← p1.1,← p2.1]; exact zbG hl
      ·obtain⟨rel4,x⟩:=rel.push hp (p1.app p2)
       exact ret _ _ _ (.ref S.length) _ x rel4 (zcQ rel.len) q
   ·exact q.elim
  ·exact q.elim
theorem zeg {n m:Nat}{S:Sto}{Q:DK}{xs ys:List D}(h1:S[n]?=some (.lst xs))(h2:S[m]?=some (.lst ys))(hl:xs.length+ys.length≤1000)(hq:Q (.ref S.length) (S++[.lst (xs++ys)])):zbT zkd (.ref n) (.ref m) S Q:=by
 rw[zca]
 unfold zkd
 simp only[h1,h2]
 exact⟨hl,hq⟩
structure Kx (K:PySem.W.Frag)(C:Addr):Prop where
 cl:Cls K C
 ha:PySem.W.findIn K (.ref C) "__class__"=some (some (.builtin "object.__class__"))
 hn:PySem.W.specialIn K (.builtin "object.__class__") "__get__"=some (some (.builtin "getset_descriptor.__get__"))
 ht:PySem.W.takesIn K (.builtin "object.__class__")=some true
 hm:PySem.W.mroIn K C (.type "object")=some true
def KT (K:PySem.W.Frag)(cv:Value)(ans:List (Addr×Bool)):Prop:=∀C b,(C,b)∈ans→PySem.W.kitOne K (.ref C) cv=some b∧Kx K C
end
section
variable {X:Cx}{Z:Zx}
def zmh:WC:=λds S Q=>match ds with
 | [.int i]=>i.natAbs.log2<1920∧Q (.str (Str.ofString (toString i))) S
 | _=>False
theorem zqF:zbj X (.type "str") (λxs H Q=>∃i:Int,xs=[.int i]∧i.natAbs.log2<1920∧Q (.str (Str.ofString (toString i))) H):=by
 intro pins s σ H xs us Q I r h
 obtain⟨i,rfl,hi,q⟩:=h
 obtain⟨u,rfl,rx⟩:=zcm r
 obtain⟨t,rfl⟩:=rx
 exact PySem.P.str_of_int hi ⟨.str _,H,I.tok _,⟨_,rfl⟩,q⟩
theorem ze4:zbj X (.type "str") (upC X.K Z zmh):=zgr zqF λxs H Qv ⟨r,S,ds,Q,rel,ps,q,ret⟩=>by
 unfold zmh at q
 split at q
 ·rename_i i
  obtain⟨v,vs,rfl,p1,p2⟩:=ps.uncons
  have z:=p2.unnil
  subst z
  cases p1
  exact⟨i,rfl,q.1,ret _ _ _ _ _ Ext.refl rel (.str _) q.2⟩
 ·exact q.elim
theorem ze2 {i:Int}{S:Sto}{Q:DK}(h:i.natAbs.log2<1920)(hq:Q (.str (Str.ofString (toString i))) S):irr zmh [.int i] S Q:=by rw[zff]; exact⟨h,hq⟩
def zlq:WC:=λds S Q=>match ds with
 | [.str x]=>∃n,PySem.intText? x=some n∧x.length≤640∧Q (.int n) S
 | _=>False
theorem ztK:zbj X (.type "int") (λxs H Q=>∃x n,xs=[.str x]∧PySem.intText? x=some n∧x.length≤640∧Q (.int n) H):=by
 intro pins s σ H xs us Q I r h
 obtain⟨x,n,rfl,hn,hl,q⟩:=h
 obtain⟨u,rfl,rx⟩:=zcm r
 obtain⟨t,rfl⟩:=rx
 exact PySem.W.KIN.call_text hn hl ⟨.int n,H,I.tok _,⟨_,rfl⟩,q⟩
theorem zkp:zbj X (.type "int") (upC X.K Z zlq):=zgr ztK λxs H Qv ⟨r,S,ds,Q,rel,ps,q,ret⟩=>by
 unfold zlq at q
 split at q
 ·rename_i x
  obtain⟨n,q1,q2,q3⟩:=q
  obtain⟨v,vs,rfl,p1,p2⟩:=ps.uncons
  have z:=p2.unnil
  subst z
  cases p1
  exact⟨x,n,rfl,q1,q2,ret _ _ _ _ _ Ext.refl rel (.int _) q3⟩
 ·exact q.elim
theorem ziL {x:Str}{n:Int}{S:Sto}{Q:DK}(h:PySem.intText? x=some n)(hl:x.length≤640)(hq:Q (.int n) S):irr zlq [.str x] S Q:=by rw[zff]; exact⟨n,h,hl,hq⟩
@[irreducible] def zcy (w:Str→D→Sto→DK→Prop)(to:TDE)(t:TDA):TDE:=λdl S Q=>to dl S λd S1=>match d with
 | .str x=>t dl S1 λds S2=>match ds with
  | [y]=>w x y S2 Q
  | _=>False
 | _=>False
def zo3:Str→D→Sto→DK→Prop:=λx y S Q=>match y with
 | .int i=>(0≤i∧i≤1000)∧Q (.str (Txt.zfill x i)) S
 | _=>False
def zms:Str→D→Sto→DK→Prop:=λx y S Q=>match y with
 | .str z=>Q (.bl (Txt.startswith x z)) S
 | _=>False
def znl:Str→D→Sto→DK→Prop:=λx y S Q=>match y with
 | .str z=>(z.length≠0∧x.length≤1000)∧Q (.tup [.str (Txt.partition x z).1,.str (Txt.partition x z).2.1,.str (Txt.partition x z).2.2]) S
 | _=>False
theorem zjE {w:Str→D→Sto→DK→Prop}{to:TDE}{t:TDA}{dl:Ev}{S S1 S2:Sto}{Q:DK}{x:Str}{y:D}(hto:∀K:DK,K (.str x) S1→to dl S K)(ht:∀K:List D→Sto→Prop,K [y] S2→t dl S1 K)(hq:w x y S2 Q):zcy w to t dl S Q:=by
 unfold zcy
 exact hto _ (ht _ hq)
theorem zv1:MtR X "str.zfill" (λx xs H Q=>∃z i,x=.str z∧xs=[.int i]∧(0≤i∧i≤1000)∧Q (.str (Txt.zfill z i)) H):=by
 intro pins s σ H x xs v us Q I rx rv h
 obtain⟨z,i,rfl,rfl,hi,q⟩:=h
 obtain⟨t,rfl⟩:=rx
 obtain⟨u,rfl,ru⟩:=zcm rv
 obtain⟨t2,rfl⟩:=ru
 refine PySem.W.KXw.zfill (y:=Txt.zfill z i) rfl ?_ λt' k=>⟨.str _,H,I.kept (t':=k) λb o e=>e,⟨t',rfl⟩,q⟩
 have l:i.toNat≤sizeLine:=zbG (by omega)
 unfold PadOk fitsSsize Builtin.Str.tooLong
 rw[Vay,Bool.not_eq_true',Bool.not_eq_true',decide_eq_false (show ¬ i < -(2^63:Int) by omega),decide_eq_false (show ¬ i≥(2^63:Int) by omega),decide_eq_false (by omega)]
 exact⟨rfl,rfl⟩
theorem zry:MtR X "str.startswith" (λx xs H Q=>∃z y,x=.str z∧xs=[.str y]∧Q (.bl (Txt.startswith z y)) H):=by
 intro pins s σ H x xs v us Q I rx rv h
 obtain⟨z,y,rfl,rfl,q⟩:=h
 obtain⟨t,rfl⟩:=rx
 obtain⟨u,rfl,ru⟩:=zcm rv
 obtain⟨t2,rfl⟩:=ru
 exact PySem.SC.startswith ⟨.bl _,H,I,rfl,q⟩
theorem zsg:MtR X "str.partition" (λx xs H Q=>∃z y,x=.str z∧xs=[.str y]∧(y.length≠0∧z.length≤1000)∧∀p,H p=none→Q (.ref p) (upd H p (.tup [.str (Txt.partition z y).1,.str (Txt.partition z y).2.1,.str (Txt.partition z y).2.2]))):=by
 intro pins s σ H x xs v us Q I rx rv h
 obtain⟨z,y,rfl,rfl,⟨hy,hz⟩,q⟩:=h
 obtain⟨t,rfl⟩:=rx
 obtain⟨u,rfl,ru⟩:=zcm rv
 obtain⟨t2,rfl⟩:=ru
 refine call_meets PySem.F.slot_str_partition (typeIs_str _ _ _) PySem.F.entry_str_partition (PySem.F.args_str_partition_2 _ _) (meets_str_partition z y t t2 (by simpa using hy) (zbG hz)) ?_
 have q':=q
 unfold Txt.partition at q'
 revert q'
 cases Builtin.Str.occurrences z y 0 z.length 1 with
 | nil=>
  intro q'
  refine⟨.ref s.heap.objs.size,_,I.laid (o:=.tup [.str z,.str Str.empty,.str Str.empty]) (λb ob e=>Heap.get?_push_of_some _ e) (Vab _) ?_,rfl,q' _ (I.hok.fresh (Vab _))⟩
  exact⟨zbG (by simp),_,.cons ⟨_,rfl⟩ (.cons ⟨_,rfl⟩ (.cons ⟨_,rfl⟩ .nil)),IsTup.new _ _⟩
 | cons i r=>
  intro q'
  refine⟨.ref s.heap.objs.size,_,I.laid (o:=.tup [.str (Builtin.Str.strSub z 0 i),.str y,.str (Builtin.Str.strSub z (i+y.length) z.length)]) (λb ob e=>Heap.get?_push_of_some _ e) (Vab _) ?_,rfl,q' _ (I.hok.fresh (Vab _))⟩
  exact⟨zbG (by simp),_,.cons ⟨_,rfl⟩ (.cons ⟨_,rfl⟩ (.cons ⟨_,rfl⟩ .nil)),IsTup.new _ _⟩
theorem zre {o e:Expr}{to:TDE}{t:TDA}{apos cpos:Pos}(ho:PD X Z o to)(ha:PDA X Z [e] t)(hbase:attributeBase o "zfill" X.env (eval o X.env)=eval o X.env:=by rfl)
  (hfew:((backTo cpos (starEach [e] X.env)).all (λx=>!x.1)&&(backToKw cpos (keywordEach [] X.env)).all (λx=>x.1.isSome)
  &&decide ([e].length+([]:List Keyword).length+(if ([]:List Keyword).isEmpty then 0 else 1)<30))=true:=by rfl)
  (hline:(apos.endLine==cpos.line)=true:=by rfl)(hs:starEach [e] X.env=(false,eval e X.env)::starEach [] X.env:=by rfl)(hplain:(backTo cpos (starEach [] X.env)).any (·.1)=false:=by rfl):
  PD X Z (.Call (.Attribute o "zfill" apos) [e] [] cpos) (zcy zo3 to t):=
 zaK (ze3 (T:="str") PySem.F.plainAttrs_str PySem.F.slot_str_zfill PySem.F.type_str_zfill zv1 ho ha hbase hfew hline hs hplain) λσ H Qv ⟨r,dl,S,Q,rs,rel,h,ret⟩=>by
  unfold zcy at h
  refine⟨r,dl,S,_,rs,rel,h,λv H1 r1 d S1 e1 rel1 p1 q1=>?_⟩
  cases p1 with
  | str x=>
   refine⟨rfl,r1,dl,S1,_,rs.ext e1,rel1,q1,λvs H2 r2 ds S2 e2 rel2 p2 q2=>?_⟩
   split at q2
   ·rename_i y
    obtain⟨v2,vs',rfl,p3,p4⟩:=p2.uncons
    have z:=p4.unnil
    subst z
    unfold zo3 at q2
    split at q2
    ·rename_i i
     cases p3
     exact⟨x,i,rfl,rfl,q2.1,ret _ H2 r2 _ S2 (e1.trans e2) rel2 (.str _) q2.2⟩
    ·exact q2.elim
   ·exact q2.elim
  | _=>exact(show False from q1).elim
theorem zuE {o e:Expr}{to:TDE}{t:TDA}{apos cpos:Pos}(ho:PD X Z o to)(ha:PDA X Z [e] t)(hbase:attributeBase o "startswith" X.env (eval o X.env)=eval o X.env:=by rfl)
  (hfew:((backTo cpos (starEach [e] X.env)).all (λx=>!x.1)&&(backToKw cpos (keywordEach [] X.env)).all (λx=>x.1.isSome)
  &&decide ([e].length+([]:List Keyword).length+(if ([]:List Keyword).isEmpty then 0 else 1)<30))=true:=by rfl)
  (hline:(apos.endLine==cpos.line)=true:=by rfl)(hs:starEach [e] X.env=(false,eval e X.env)::starEach [] X.env:=by rfl)(hplain:(backTo cpos (starEach [] X.env)).any (·.1)=false:=by rfl):
  PD X Z (.Call (.Attribute o "startswith" apos) [e] [] cpos) (zcy zms to t):=
 zaK (ze3 (T:="str") PySem.F.plainAttrs_str PySem.F.slot_str_startswith PySem.F.type_str_startswith zry ho ha hbase hfew hline hs hplain) λσ H Qv ⟨r,dl,S,Q,rs,rel,h,ret⟩=>by
  unfold zcy at h
  refine⟨r,dl,S,_,rs,rel,h,λv H1 r1 d S1 e1 rel1 p1 q1=>?_⟩
  cases p1 with
  | str x=>
   refine⟨rfl,r1,dl,S1,_,rs.ext e1,rel1,q1,λvs H2 r2 ds S2 e2 rel2 p2 q2=>?_⟩
   split at q2
   ·rename_i y
    obtain⟨v2,vs',rfl,p3,p4⟩:=p2.uncons
    have z:=p4.unnil
    subst z
    unfold zms at q2
    split at q2
    ·rename_i i
     cases p3
     exact⟨x,i,rfl,rfl,ret _ H2 r2 _ S2 (e1.trans e2) rel2 (.bl _) q2⟩
    ·exact q2.elim
   ·exact q2.elim
  | _=>exact(show False from q1).elim
theorem ztT {o e:Expr}{to:TDE}{t:TDA}{apos cpos:Pos}(ho:PD X Z o to)(ha:PDA X Z [e] t)(hbase:attributeBase o "partition" X.env (eval o X.env)=eval o X.env:=by rfl)
  (hfew:((backTo cpos (starEach [e] X.env)).all (λx=>!x.1)&&(backToKw cpos (keywordEach [] X.env)).all (λx=>x.1.isSome)
  &&decide ([e].length+([]:List Keyword).length+(if ([]:List Keyword).isEmpty then 0 else 1)<30))=true:=by rfl)
  (hline:(apos.endLine==cpos.line)=true:=by rfl)(hs:starEach [e] X.env=(false,eval e X.env)::starEach [] X.env:=by rfl)(hplain:(backTo cpos (starEach [] X.env)).any (·.1)=false:=by rfl):
  PD X Z (.Call (.Attribute o "partition" apos) [e] [] cpos) (zcy znl to t):=
 zaK (ze3 (T:="str") PySem.F.plainAttrs_str PySem.F.slot_str_partition PySem.F.type_str_partition zsg ho ha hbase hfew hline hs hplain) λσ H Qv ⟨r,dl,S,Q,rs,rel,h,ret⟩=>by
  unfold zcy at h
  refine⟨r,dl,S,_,rs,rel,h,λv H1 r1 d S1 e1 rel1 p1 q1=>?_⟩
  cases p1 with
  | str x=>
   refine⟨rfl,r1,dl,S1,_,rs.ext e1,rel1,q1,λvs H2 r2 ds S2 e2 rel2 p2 q2=>?_⟩
   split at q2
   ·rename_i y
    obtain⟨v2,vs',rfl,p3,p4⟩:=p2.uncons
    have z:=p4.unnil
    subst z
    unfold znl at q2
    split at q2
    ·rename_i i
     cases p3
     refine⟨x,i,rfl,rfl,q2.1,λp hp=>?_⟩
     have x3:Ext r2 r2 H2 (upd H2 p (.tup [.str (Txt.partition x i).1,.str (Txt.partition x i).2.1,.str (Txt.partition x i).2.2])):=znF hp
     have pp:Rps r2 (upd H2 p (.tup [.str (Txt.partition x i).1,.str (Txt.partition x i).2.1,.str (Txt.partition x i).2.2])) [.str (Txt.partition x i).1,.str (Txt.partition x i).2.1,.str (Txt.partition x i).2.2] [.str (Txt.partition x i).1,.str (Txt.partition x i).2.1,.str (Txt.partition x i).2.2]:=Rps.cons (.str _) (Rps.cons (.str _) (Rps.cons (.str _) Rps.nil))
     exact ret _ _ r2 _ S2 (e1.trans (e2.trans x3)) (rel2.same (zcY hp)) (.tup zbP pp.1 pp.2) q2.2
    ·exact q2.elim
   ·exact q2.elim
  | _=>exact(show False from q1).elim
end
theorem zt1:typeLookup (.type "list_reverseiterator") "__len__"=pure none:=by rw[typeLookup_type,builtinLookup_eq_fast]; kernel_rfl
theorem zsu:typeLookup (.type "list_reverseiterator") "__length_hint__"=pure (some (.builtin "list_reverseiterator.__length_hint__")):=by rw[typeLookup_type,builtinLookup_eq_fast]; kernel_rfl
section
variable {n:Nat}{I:Addr}{fp wr:List Addr}{P:Nat→Value→Prop}{St:Nat→Shared→Prop}{prog:Program}{w:World}{A:Around}{s:Shared}{E:Value→Shared→Prop}{G:Array GenState→Array GenState→Prop}
theorem zs1 {Q:List Value→Shared→Prop}(W:WalksS prog w A.in1 I fp wr G n P St)(hT:∀i s,St i s→s.TypeIs (.ref I) "list_reverseiterator")(hst:St 0 s)(hfp:∀b∈fp,b<s.heap.objs.size)(hI:I∈fp)
  (hQ:∀s' acc,Moved wr G s s'→s.heap.objs.size≤s'.heap.objs.size→ItemsOf P acc n→Q acc.toList s')(hn:n≤sizeLine):wpAny (model prog w) A (collect (.ref I)) Q E s:=by
 have off:s.heap.objs.size ∉ fp:=λz=>absurd (hfp _ z) (VaC _)
 have offI:s.heap.objs.size≠I:=λz=>off (by rw[z]; exact hI)
 have neS:Builtin.List.listSameRef (.ref s.heap.objs.size) (.ref I)=false:=by simp[Builtin.List.listSameRef,offI]
 unfold collect
 refine wpAny_bind (wpAny_runValue (codeAny_builtin PySem.F.entry_proto_collect ?_))
 rewrite [Around.under_plainId PySem.F.plain_proto_collect _]
 refine wpAny_bind (wpAny_newObj_type ?_) (m:=newList [])
 refine wpAny_pure ⟨plainId_quiet PySem.F.plain_list_iadd _,codeAny_builtin PySem.F.entry_list_iadd ?_⟩
 rewrite [Around.under_plainId PySem.F.plain_list_iadd _]
 have st1:=W.frame 0 s (s.heap.push { cls:=.type "list",data:=.seq ([]:List Value).toArray }) s.toks hst (Vab _) (λb _ o e=>Heap.get?_push_of_some _ e)
 have new1:(s.heap.push { cls:=.type "list",data:=.seq ([]:List Value).toArray }).get? s.heap.objs.size=some { cls:=.type "list",data:=.seq ([]:List Value).toArray }:=Heap.get?_push_size _ (by rfl)
 change wpAny _ A.in1 (Builtin.List.listExtendWith (.ref s.heap.objs.size) (.ref I) (.ref s.heap.objs.size)) _ _ _
 unfold Builtin.List.listExtendWith; refine wpAny_bind (wpAny_typeOf (hT 0 _ st1) ?_)
 rw[if_neg (by rw[neS]; decide)]
 refine wpAny_bind (W.self 0 _ _ _ st1 (wpAny_bind (wpAny_holding ?_)))
 unfold Builtin.List.listLengthHint; refine wpAny_bind (wpAny_specialOf (hT 0 _ st1) zt1 ?_)
 change wpAny _ A.in1 (specialOf (Value.ref I) (Str.ofString "__length_hint__") >>= _) _ _ _
 refine wpAny_bind (wpAny_specialOf (hT 0 _ st1) zsu ?_)
 generalize hid:("list_reverseiterator.__length_hint__":String)=nm
 wp_delta
 have two:splitId nm=some ("list_reverseiterator","__length_hint__"):=by subst hid; decide +kernel
 rw[two]
 subst hid
 refine wpAny_bind (wpAny_isInstance (T:="list_reverseiterator") (b:=true) (hT 0 _ st1) (by rw[isSubtype_type]; kernel_rfl) ?_)
 refine wpAny_pure ?_
 rw[if_neg (by decide)]
 refine wpAny_pure ⟨plainId_quiet PySem.F.plain_extend_loop _,codeAny_extend_loopS W hn _ off _ n 0 _ _ _ rfl (VaG _) st1 new1 (ItemsOf.nil P) λs' acc' c' hm hS' hacc=>?_⟩
 refine wpAny_bind (m:=load s.heap.objs.size) (wpAny_load hS' ?_)
 exact wpAny_pure (hQ s' acc' (Moved.drop_new (o:={ cls:=.type "list",data:=.seq ([]:List Value).toArray }) (tk:=s.toks) hm (Vab _)) (VaF (Heap.lt_size hS')) hacc)
theorem zrl {x:Str}{t:Tok}{Q:Value→Shared→Prop}(W:WalksS prog w A.in1.in1 I fp wr G n P St)(hT:∀i s,St i s→s.TypeIs (.ref I) "list_reverseiterator")(hst:St 0 s)(hfp:∀b∈fp,b<s.heap.objs.size)(hI:I∈fp)(hstr:∀i v,P i v→∃y u,v=Value.str y u)
  (hq:∀s' (l:List (Str×Tok)),Moved wr G s s'→s.heap.objs.size≤s'.heap.objs.size→ItemsOf P (strValues l).toArray n→JoinOk x (l.map (·.1))=true∧∀t' k,Q (.str (Txt.join x (l.map (·.1))) t') { s' with toks:=k })(hsz:n≤sizeLine):wpAny (model prog w) A (call (.builtin "str.join") [.str x t,.ref I]) Q E s:=by
 refine wpAny_call (codeAny_call_builtin PySem.F.slot_str_join.plain PySem.F.entry_str_join (PySem.F.slot_str_join.check _ _ _ _ _ _ _ _ (typeIs_str _ _ _) (PySem.F.args_str_join_2 _ _) ?_))
 rw[join_tree_other]; refine wpAny_bind (wpAny_typeOf (hT 0 s hst) ?_)
 show wpAny _ A.in1 ((pyIter (.ref I)).tryCatch _ >>= λit=>collect it >>= λxs=>joinTail x xs) _ _ s
 refine wpAny_bind (wpAny_tryCatch (W.of_in1.self 0 s _ _ hst (wpAny_bind (zs1 W hT hst hfp hI (λs' acc hm hm2 hacc=>?_) hsz))))
 obtain⟨l,hl⟩:=exists_strValues acc.toList λv0 hv0=>by
  obtain⟨k0,hk0,rfl⟩:=Array.mem_iff_getElem.mp (Array.mem_toList_iff.mp hv0)
  exact hstr k0 _ (hacc.2 k0 _ (Array.getElem?_eq_getElem hk0))
 rw[← hl]
 obtain⟨hok,hpost⟩:=hq s' l hm hm2 (by rw[hl]; simpa using hacc)
 have fits:Builtin.Str.tooLong ((l.map (·.1)).toArray.foldl (·+·.length+x.length) 0)=false:=by
  unfold JoinOk at hok
  simpa using hok
 have gv:Gives (joinTail x (strValues l)) (joinMade x l):=by
  have z:=gives_joinTail x l fits
  cases l with
  | nil=>exact z
  | cons p r=>
   cases r with
   | nil=>exact z
   | cons q r'=>exact z
 exact gv prog w A (wants Q E) s' (post_join l ⟨joinFit_length fits,hpost⟩)
end
def ziS (B:Nat)(p l:Addr)(n:Nat):HO:=.ext λh=>h.IsRevIter p l ((n:Int)-1)∧B≤p
def zea (H:Hp)(p:Addr):Hp:=λa=>if a=p then none else H a
theorem zhn {H:Hp}{p a:Addr}(h:a≠p):zea H p a=H a:=if_neg h
theorem zsE {H:Hp}{p:Addr}:zea H p p=none:=if_pos rfl
section
variable {X:Cx}{Z:Zx}
theorem zur:zbj X (.type "reversed") (λxs H Q=>∃l ys,xs=[.ref l]∧H l=some (.lst ys)∧∀p,H p=none→Q (.ref p) (upd H p (ziS X.s₀.heap.objs.size p l ys.length))):=by
 intro pins s σ H xs us Q I r h
 obtain⟨l,ys,rfl,hH,q⟩:=h
 obtain⟨u,rfl,rx⟩:=zcm r
 cases rx
 obtain⟨z,its,n,rv,hl,e⟩:=I.lstM hH
 have il:s.heap.IsList l its.toArray:=⟨_,e,rfl,n,rfl⟩
 refine call_reversed_list il ?_
 have en:((its.toArray.size:Nat):Int)-1=((ys.length:Nat):Int)-1:=by rw[Var,rv.length]
 rw[en]
 refine⟨.ref s.heap.objs.size,_,I.laid (t':=s.toks) (o:=ziS X.s₀.heap.objs.size s.heap.objs.size l ys.length) (λb ob e=>Heap.get?_push_of_some _ e) (Vab _) ?_,rfl,q _ (I.hok.fresh (Vab _))⟩
 exact⟨⟨⟨_,Heap.get?_push_size _ rfl,rfl,rfl⟩,I.sz⟩,⟨_,Heap.get?_push_size _ rfl⟩,λh1 h2 x k=>⟨x.1.at λo e=>k o e,x.2⟩⟩
theorem zwE (hc:X.calm=true):MtR X "str.join" (λx xs H Q=>∃sep p l ys zs,x=.str sep∧xs=[.ref p]∧H p=some (ziS X.s₀.heap.objs.size p l ys.length)∧H l=some (.lst ys)∧(∀us,zas ys us→StrsAre us zs)∧sep.length=0∧(∀z∈zs,z.length≤200)∧zs.length≤5∧Q (.str (zaC zs.reverse)) (zea H p)):=by
 intro pins s σ H x xs v us Q I rx rv h
 obtain⟨sep,p,l,ys,zs,rfl,rfl,hp,hl,st,h0,hB,hn,q⟩:=h
 obtain⟨t,rfl⟩:=rx
 obtain⟨u,rfl,ru⟩:=zcm rv
 cases ru
 obtain⟨z,its,n,rv,hz,e⟩:=I.lstM hl
 have sr:=st its rv
 have il:s.heap.IsList l its.toArray:=⟨_,e,rfl,n,rfl⟩
 have ok:za6 X.prog X.w H s.heap p (ziS X.s₀.heap.objs.size p l ys.length):=I.hok p _ hp
 obtain⟨⟨ir,above⟩,⟨op,ep⟩,_⟩:=ok
 have ne:l≠p:=zh7 hl hp (by intro z; cases z)
 have ln:its.length=ys.length:=rv.length.symm
 have W:=(Walks.listRev (prog:=X.prog) (w:=X.w) (A:=X.A.in1.in1) (I.ok.hd hc) p l ne its.toArray).toS
 have s0:(0:Nat)≤its.toArray.size∧s.heap.IsRevIter p l ((its.toArray.size:Int)-1-((0:Nat):Int))∧s.heap.IsList l its.toArray:=⟨VaG _,by
  have e2:((its.toArray.size:Nat):Int)-1-((0:Nat):Int)=((ys.length:Nat):Int)-1:=by rw[Var,ln]; omega
  rw[e2]; exact ir,il⟩
 refine zrl W (λi s st=>st.2.1.typeIs) s0 (λb hb=>?_) (by simp) (λi v hv=>?_) (λs' ls hm hm2 hi=>?_) (by rw[Var]; omega)
 ·have z:b=p∨b=l:=by simpa using hb
  rcases z with rfl | rfl
  ·exact Heap.lt_size ep
  ·exact Heap.lt_size e
 ·have hv':its[its.length-1-i]?=some v:=by simpa using hv
  obtain⟨y,u,rfl,_⟩:=sr.item _ _ hv'
  exact⟨y,u,rfl⟩
 ·have lz:zs.length=its.length:=sr.len_eq.symm
  have ll:ls.length=its.length:=by
   have z:=hi.1
   simpa [strValues] using z
  have em:ls.map (·.1)=zs.reverse:=by
   refine List.ext_getElem? λj=>?_
   by_cases hj:j<ls.length
   ·have e1:=Vaw hj
    have e2:(strValues ls).toArray[j]?=some (.str ls[j].1 ls[j].2):=by simp[strValues,hj]
    have e3:=hi.2 j _ e2
    have e4:its[its.length-1-j]?=some (.str ls[j].1 ls[j].2):=by simpa using e3
    obtain⟨y,u,ey,e5⟩:=sr.item _ _ e4
    cases ey
    rw[Vao,e1,List.getElem?_reverse (by omega),lz,e5]
    rfl
   ·rw[List.getElem?_eq_none (by simp; omega),List.getElem?_eq_none (by simp; omega)]
  rw[em]
  refine⟨?_,λt' k=>?_⟩
  ·have sum:∀(ws:List Str) (a:Nat),(∀z∈ws,z.length≤200)→ws.foldl (λn z=>n+z.length+sep.length) a≤a+200*ws.length:=λws=>by
    induction ws with
    | nil=>intro a _; simp
    | cons z ws ih=>
     intro a hw
     have h1:=hw z (by simp)
     have h2:=ih (a+z.length+sep.length) (λy hy=>hw y (by simp[hy]))
     simp only[Vaq,List.foldl_cons]
     omega
   have b:=sum zs.reverse 0 (λz hz=>hB z (by simpa using hz))
   unfold JoinOk Builtin.Str.tooLong
   rw[List.foldl_toArray,decide_eq_false (Nat.not_lt.mpr (Vax b (zbG (by rw[List.length_reverse]; omega))))]
   rfl
  ·rw[zse sep h0]
   obtain⟨h',g',d',k',o'⟩:=s'
   obtain⟨m1,m2,m3,m4,m5⟩:=hm
   dsimp only at m2 m3 m4
   subst m2 m3 m4
   have np:∀b u,H b=some u→(∀φ,u≠HO.ext φ)→b≠p:=λb u e n z=>by
    subst z
    rw[hp] at e
    cases e
    exact n _ rfl
   have I1:Inv X pins σ (zea H p) { s with heap:=s.heap,toks:=s.toks }:=I.un ⟨λb o e _ _ _=>e,λb o e _ _ _=>⟨o.slots,e⟩,λb o _ n _=>by
     unfold zea
     split
     ·rfl
     ·exact n,λb o e _=>⟨o,e⟩,λb xs e=>by rw[zhn (np b _ e λφ=>by simp)]; exact e,λb o u e=>by rw[zhn (np b _ e λφ=>by simp)]; exact e,λb qs e=>⟨#[],by rw[zhn (np b _ e λφ=>by simp),e]; simp⟩⟩ (λb u e=>by
     unfold zea at e
     split at e
     ·cases e
     ·rename_i hb
      exact(I.hok b u e).stay (λ_ _ _ q=>q) (λc e2=>by rw[zhn (np c _ e2 λφ=>by simp)]; exact e2) (λc xs e2=>by rw[zhn (np c _ e2 λφ=>by simp)]; exact e2))
   have pl:p≠X.env.locals:=λz=>by
    have:=I.free
    rw[← z,hp] at this
    cases this
   have I2:=I1.turned (it:=p) (h':=h') (t':=k) (λb o hb e=>m1 b o (by simpa using hb) e) zsE pl (.inr above) (λx c e z=>by
     have:=I.freeC x c e
     rw[z,hp] at this
     cases this) (λq hq z=>by
     have:=(I.pin q hq).2.1
     rw[z,hp] at this
     cases this)
   exact⟨.str (zaC zs.reverse),_,I2,⟨t',rfl⟩,q⟩
theorem zsa {H:Hp}{p:Addr}{o:HO}(h:H p=none):zea (upd H p o) p=H:=by
 funext a
 unfold zea
 split
 ·rename_i e
  rw[e,h]
 ·rename_i e
  exact za2 e
@[irreducible] def zjt (to te:TDE):TDE:=λdl S Q=>to dl S λd S1=>match d with
 | .str sep=>te dl S1 λx S2=>match x with
  | .ref n=>match S2[n]? with
   | some (.lst ds)=>∃zs,zcP ds=some zs∧sep.length=0∧(∀z∈zs,z.length≤200)∧zs.length≤5∧Q (.str (zaC zs.reverse)) S2
   | _=>False
  | _=>False
 | _=>False
theorem zrj {to te:TDE}{dl:Ev}{S S1 S2:Sto}{Q:DK}{sep:Str}{n:Nat}{ds:List D}{zs:List Str}(hto:∀K:DK,K (.str sep) S1→to dl S K)(hte:∀K:DK,K (.ref n) S2→te dl S1 K)(h:S2[n]?=some (.lst ds))(hz:zcP ds=some zs)(h0:sep.length=0)(hB:∀z∈zs,z.length≤200)(hn:zs.length≤5)(hq:Q (.str (zaC zs.reverse)) S2):zjt to te dl S Q:=by
 unfold zjt
 refine hto _ (hte _ ?_)
 simp only[h]
 exact⟨zs,hz,h0,hB,hn,hq⟩
theorem zqk {o e:Expr}{to te:TDE}{apos cpos p pos2:Pos}(hc:X.calm=true)(hg:Gl X "reversed")(hm:X.mg "reversed"=none)(hv:bootBuiltins "reversed"=some (.type "reversed"))(ho:PD X Z o to)(he:PD X Z e te)
  (hbase:attributeBase o "join" X.env (eval o X.env)=eval o X.env:=by rfl)
  (hfew:((backTo cpos (starEach [.Call (.Name "reversed" p) [e] [] pos2] X.env)).all (λx=>!x.1)&&(backToKw cpos (keywordEach [] X.env)).all (λx=>x.1.isSome)
  &&decide (([.Call (.Name "reversed" p) [e] [] pos2]:List Expr).length+([]:List Keyword).length+(if ([]:List Keyword).isEmpty then 0 else 1)<30))=true:=by rfl)
  (hline:(apos.endLine==cpos.line)=true:=by rfl)(hs:starEach [.Call (.Name "reversed" p) [e] [] pos2] X.env=(false,eval (.Call (.Name "reversed" p) [e] [] pos2) X.env)::starEach [] X.env:=by rfl)(hplain:(backTo cpos (starEach [] X.env)).any (·.1)=false:=by rfl)
  (hs2:starEach [e] X.env=(false,eval e X.env)::starEach [] X.env:=by rfl)(hpl2:(backTo pos2 (starEach [] X.env)).any (·.1)=false:=by rfl):
  PD X Z (.Call (.Attribute o "join" apos) [.Call (.Name "reversed" p) [e] [] pos2] [] cpos) (zjt to te):=
 zaK (ze3 (T:="str") PySem.F.plainAttrs_str PySem.F.slot_str_join PySem.F.type_str_join (zwE hc) ho (zgi (znj zur hg hm hv (zgi he zh6 hs2) (by decide) (by decide) hs2 hpl2) zh6 hs) hbase hfew hline hs hplain) λσ H Qv ⟨r,dl,S,Q,rs,rel,h,ret⟩=>by
  unfold zjt at h
  refine⟨r,dl,S,_,rs,rel,h,λv H1 r1 d S1 e1 rel1 p1 q1=>?_⟩
  cases p1 with
  | str sep=>
   refine⟨rfl,r1,dl,S1,_,rs.ext e1,rel1,q1,λv2 H2 r2 x S2 e2 rel2 p2 q2=>?_⟩
   cases p2 with
   | @ref n a hn=>
    dsimp only at q2
    split at q2
    ·rename_i ds eS
     obtain⟨zs,z1,z2,z3,z4,q⟩:=q2
     obtain⟨ys,eH,pr⟩:=rel2.b.ob n a _ hn eS
     refine⟨a,ys,rfl,eH,λb hb=>?_⟩
     have nb:a≠b:=zdL eH hb
     refine⟨sep,b,a,ys,zs,rfl,rfl,zbP,by rw[za2 nb]; exact eH,λus ru=>zlQ z1 pr ru,z2,z3,z4,?_⟩
     rw[zsa hb]
     exact ret _ H2 r2 _ S2 (e1.trans e2) rel2 (.str _) q
    ·exact q2.elim
   | _=>exact(show False from q2).elim
  | _=>exact(show False from q1).elim
end
section
variable {X:Cx}{pins:List (Addr×Obj)}{σ:St}{H:Hp}{s:Shared}
end
section
variable {X:Cx}{elt iter:Expr}{elts:List Expr}{kk:Nat}{tp:Pos}{pos:Pos}{sc:Scope}{own N:List Str}{caps:List Nat}{wi:TI}{gt:TG}{te:TE}
end
section
variable {X:Cx}{Z:Zx}{elt:Expr}{pos:Pos}{sc ar:Scope}{N:List Str}{caps:List Nat}
end
section
variable {X:Cx}{Z:Zx}{pos:Pos}
end
section
variable {X:Cx}{Z:Zx}
end
section
variable {X:Cx}{Z:Zx}{pos:Pos}
theorem zkP:∀ {us:List Value} {ms:List Int},IntsAre us ms→zas (ms.map V.int) us
 | _,_,.nil=>.nil
 | _,_,.cons n t h=>.cons ⟨t,rfl⟩ (zkP h)
end
section
variable {X:Cx}{Z:Zx}{elt:Expr}{pos:Pos}{sc ar:Scope}{N:List Str}{caps:List Nat}
end
section
variable {X:Cx}{Z:Zx}{pos:Pos}
end
section
variable {n:Nat}{I:Addr}{fp wr:List Addr}{P:Nat→Value→Prop}{St:Nat→Shared→Prop}{prog:Program}{w:World}{A:Around}{s:Shared}{E:Value→Shared→Prop}{G:Array GenState→Array GenState→Prop}
end
section
variable {X:Cx}{Z:Zx}{pos:Pos}
end
section
variable {X:Cx}{Z:Zx}{pos:Pos}
end
section
variable {X:Cx}{Z:Zx}{elt iter:Expr}{elts:List Expr}{kk:Nat}{tp pos:Pos}{sc ar:Scope}{own N:List Str}{caps:List Nat}{wi:TI}{gt:TG}
end
section
variable {X:Cx}{Z:Zx}
end
section
variable {X:Cx}{Z:Zx}{pos:Pos}
end
end L3
namespace L2
open PySem PySem.Spec PyProof.Rows
section
variable {X:Cx}{tg:Expr}
end
end L2
namespace L3
open PySem PySem.Spec PyProof.Rows L2
section
variable {X:Cx}{Z:Zx}{pos:Pos}
end
end L3
set_option Elab.async false
set_option linter.all false
set_option maxRecDepth 100000
set_option maxHeartbeats 40000000
namespace Mine
open PySem PySem.Spec PyProof.Rows L2 L3
theorem fsc {N P:List Str}{sc:Scope}(a:sc.kind=.function:=by rfl)(b:sc.isCoroutine=false:=by rfl)(c:sc.isGenerator=false:=by rfl)(d:N.Nodup:=by decide +kernel)(e:N.take P.length=P:=by rfl)(f:∀x∈P,sc.names.lookup x=some .local∨sc.names.lookup x=some .cell:=by decide +kernel)(g:∀y∈sc.names,y.2≠.free:=by decide +kernel):zaB N P sc:=⟨a,b,c,d,e,f,g⟩
theorem csc {sc ar:Scope}{x:Str}{caps:List Str}(a:sc.kind=.function:=by rfl)(b:∀y∈sc.names,y.2≠.cell:=by decide +kernel)(c:∀y∈sc.names,y.2=.local→sc.names.lookup y.1=some .local:=by decide +kernel)(d:sc.names.lookup x=some .local:=by rfl)(e:∀y∈caps,sc.names.lookup y=some .free:=by decide +kernel)(f:∀y∈sc.names,y.2=.free→ar.names.lookup y.1=some .cell:=by decide +kernel):zd0 sc ar x caps:=⟨a,b,c,d,e,f⟩
abbrev Ln (sp:Sd)(n:Nat):Prop:=∀ds S Q ex,sp ds S Q ex→ds.length=n
theorem zaL {X:Cx}{x:Str}{p pos:Pos}{e:Expr}{es:List Expr}{t:TDA}{k j:Nat}{ps:List Str}{sd:Sd}{ex:Ev→Addr→Sto→Prop}(G:Fk X.prog X.w X.K X.mg X.base k x ps sd)(hr:zaE j X.A)(ha:PDA X ⟨ex,Z0.w⟩ (e::es) t)(hk:k≤j:=by decide)(hg:Gl X x:=by rfl)
  (hdb:(x==("__debug__":Str))=false:=by decide)(he:starEach (e::es) X.env=(false,eval e X.env)::starEach es X.env:=by rfl)(hpl:(backTo pos (starEach es X.env)).any (·.1)=false:=by rfl):PD X ⟨ex,Z0.w⟩ (.Call (.Name x p) (e::es) [] pos) (zhN ex sd t):=zbE G (hr.mono hk) za9 hg ha hdb he hpl
abbrev zlg:Stmt:=top 50
abbrev zhm:List Str:=["_law_cell","_law_many"]
theorem zgI:zaB ["_law_cell","_law_many","_law_bottom","_law_one","_law_other"] zhm (zau zlg):=fsc
abbrev zjk:Stmt:=top 51
abbrev zgz:List Str:=["_law_node_here","_law_heavy"]
theorem zuO:zaB ["_law_node_here","_law_heavy"] zgz (zau zjk):=fsc
abbrev zkA:Stmt:=top 52
abbrev zhX:List Str:=["_law_cells"]
theorem zhd:zaB ["_law_cells","_law_nodes","_law_heavy","_law_cell","_law_node_here"] zhX (zau zkA):=fsc
abbrev zk2:Stmt:=top 48
abbrev zht:List Str:=["_law_script","_law_k"]
theorem zwH:zaB ["_law_script","_law_k"] zht (zau zk2):=fsc
abbrev zk7:Stmt:=top 19
abbrev zhg:List Str:=["number"]
theorem zjw:zaB ["number","piece","texts"] zhg (zau zk7):=fsc
abbrev zko:Stmt:=top 20
abbrev zez:List Str:=["a"]
theorem zkJ:zaB ["a","text"] zez (zau zko):=fsc
abbrev zgS:Stmt:=top 29
abbrev zdG:List Str:=["nodes","at","names"]
theorem zgp:zaB ["nodes","at","names","node","first","many","sign","second"] zdG (zau zgS):=fsc
abbrev zjK:Stmt:=top 49
abbrev zfm:List Str:=["_law_k","_law_shape"]
theorem ziC:zaB ["_law_k","_law_shape","_law_code","_law_stem","_law_at"] zfm (zau zjK):=fsc
abbrev zjy:Stmt:=zaH (top 28) 0
abbrev zgd:List Str:=["self"]
theorem zq8:zaB ["self"] zgd (zau zjy):=fsc
abbrev ziy:Stmt:=zaH (top 46) 0
abbrev zgT:List Str:=["self"]
theorem zt9:zaB ["self"] zgT (zau ziy):=fsc
abbrev zkE:Stmt:=zaH (top 28) 2
abbrev zfO:List Str:=["self"]
theorem zvt:zaB ["self"] zfO (zau zkE):=fsc
abbrev zkm:Stmt:=zaH (top 46) 9
abbrev zhr:List Str:=["self"]
theorem zsY:zaB ["self"] zhr (zau zkm):=fsc
abbrev zi1:Stmt:=top 41
abbrev zio:List Str:=["line"]
theorem znC:zaB ["line","words"] zio (zau zi1):=fsc
abbrev zjm:Stmt:=top 43
abbrev zgX:List Str:=["words"]
theorem zo6:zaB ["words","place","word"] zgX (zau zjm):=fsc
abbrev zkH:Stmt:=zaH (top 35) 0
abbrev zhP:List Str:=["self","words"]
theorem ztL:zaB ["self","words"] zhP (zau zkH):=fsc
abbrev zjY:Stmt:=zaH (top 35) 1
abbrev zfh:List Str:=["self"]
theorem zvR:zaB ["self"] zfh (zau zjY):=fsc
abbrev ziD:Stmt:=zaH (top 35) 3
abbrev zc9:List Str:=["self"]
theorem zoO:zaB ["self","word"] zc9 (zau ziD):=fsc
abbrev zhb:Stmt:=top 18
abbrev zgq:List Str:=["word","signs","most"]
theorem zwY:zaB ["word","signs","most"] zgq (zau zhb):=fsc
abbrev zkr:Stmt:=top 22
abbrev zdB:List Str:=["word"]
theorem zuF:zaB ["word"] zdB (zau zkr):=fsc
abbrev zj0:Stmt:=top 9
abbrev zhk:List Str:=["one","other"]
theorem ziu:zaB ["one","other","rest"] zhk (zau zj0):=fsc
abbrev zi3:Stmt:=top 8
abbrev zgK:List Str:=["value"]
theorem zuZ:zaB ["value"] zgK (zau zi3):=fsc
abbrev zk8:Stmt:=top 10
abbrev zhQ:List Str:=["top","bottom"]
theorem zmm:zaB ["top","bottom","divisor"] zhQ (zau zk8):=fsc
abbrev zjb:Stmt:=top 21
abbrev ze5:List Str:=["word"]
theorem zfF:zaB ["word","parts","top","bottom","figures","number"] ze5 (zau zjb):=fsc
abbrev zhz:Stmt:=zaH (top 35) 8
abbrev zfJ:List Str:=["self"]
theorem zoM:zaB ["self","tree"] zfJ (zau zhz):=fsc
abbrev zhT:Stmt:=zaH (top 35) 7
abbrev zf4:List Str:=["self"]
theorem zmB:zaB ["self","word","number"] zf4 (zau zhT):=fsc
abbrev ziO:Stmt:=zaH (top 35) 2
abbrev zep:List Str:=["self","choices"]
theorem ztb:zaB ["self","choices"] zep (zau ziO):=fsc
abbrev zgy:Stmt:=zaH (top 35) 6
abbrev zfU:List Str:=["self"]
theorem zoo:zaB ["self","tree"] zfU (zau zgy):=fsc
abbrev ziq:Stmt:=zaH (top 35) 5
abbrev zfK:List Str:=["self"]
theorem zmd:zaB ["self","tree"] zfK (zau ziq):=fsc
abbrev zhh:Stmt:=zaH (top 35) 4
abbrev zd7:List Str:=["self"]
theorem zjL:zaB ["self","tree","kind"] zd7 (zau zhh):=fsc
abbrev zjS:Stmt:=top 36
abbrev zfk:List Str:=["words"]
theorem zmw:zaB ["words","reader","tree"] zfk (zau zjS):=fsc
abbrev zkb:Stmt:=zaH (top 46) 6
abbrev zgk:List Str:=["self","words"]
theorem znY:zaB ["self","words","word"] zgk (zau zkb):=fsc
abbrev zj7:Stmt:=top 27
abbrev zgw:List Str:=["node","weights"]
theorem zwA:zaB ["node","weights"] zgw (zau zj7):=fsc
abbrev ziX:Stmt:=zaH (top 28) 1
abbrev zec:List Str:=["self","node"]
theorem zl0:zaB ["self","node","own_weight","number"] zec (zau ziX):=fsc
abbrev zjW:Stmt:=top 45
abbrev zfZ:List Str:=["net"]
theorem zlK:zaB ["net","fresh","node"] zfZ (zau zjW):=fsc
abbrev zg3:Stmt:=top 44
abbrev zdI:List Str:=["net","tree","meanings"]
theorem zmE:zaB ["net","tree","meanings","first","second"] zdI (zau zg3):=fsc
abbrev zjM:Stmt:=zaH (top 46) 4
abbrev zhI:List Str:=["self","words"]
theorem zf8:zaB ["self","words","place","left","right","grown","at"] zhI (zau zjM):=fsc
abbrev zjz:Stmt:=top 11
abbrev zgJ:List Str:=["a","b"]
theorem zuM:zaB ["a","b"] zgJ (zau zjz):=fsc
abbrev ziI:Stmt:=top 42
abbrev zhM:List Str:=["words"]
theorem zmq:zaB ["words","low","high"] zhM (zau ziI):=fsc
abbrev zju:Stmt:=zaH (top 46) 5
abbrev zfj:List Str:=["self","name"]
theorem zqV:zaB ["self","name"] zfj (zau zju):=fsc
abbrev zkx:Stmt:=zaH (top 46) 2
abbrev zhJ:List Str:=["self","words"]
theorem zlB:zaB ["self","words","own_ends","number"] zhJ (zau zkx):=fsc
abbrev ziU:Stmt:=zaH (top 46) 3
abbrev zgu:List Str:=["self","words"]
theorem zmA:zaB ["self","words","tree","grown"] zgu (zau ziU):=fsc
abbrev zjf:Stmt:=zaH (top 46) 1
abbrev zh9:List Str:=["self","line"]
theorem zp7:zaB ["self","line","words"] zh9 (zau zjf):=fsc
abbrev zgC:Stmt:=top 54
abbrev zed:List Str:=["_law_nodes","_law_at","_law_others","_law_place"]
theorem zmn:zaB ["_law_nodes","_law_at","_law_others","_law_place","_law_node_here","_law_other"] zed (zau zgC):=fsc
abbrev zh5:Stmt:=top 53
abbrev zdK:List Str:=["_law_nodes","_law_at","_law_names"]
theorem zeq:zaB ["_law_nodes","_law_at","_law_names","_law_node_here","_law_words","_law_sign"] zdK (zau zh5):=fsc
abbrev zjd:Stmt:=zaH (top 46) 10
abbrev zgB:List Str:=["self"]
theorem zwZ:zaB ["self"] zgB (zau zjd):=fsc
abbrev zjs:Stmt:=top 55
abbrev zh4:List Str:=["_law_nodes","_law_at","_law_names","_law_heavy","_law_some"]
theorem zeb:zaB ["_law_nodes","_law_at","_law_names","_law_heavy","_law_some","_law_task","_law_name_here","_law_k","_law_text_here","_law_before","_law_found","_law_place"] zh4 (zau zjs):=fsc
abbrev zdH:Stmt:=top 56
abbrev zkc:List Str:=["_law_script"]
theorem zcK:zaB ["_law_script","_law_shape","_law_names","_law_grown","_law_nodes","_law_heavy","_law_at","_law_handed","_law_text_here","_law_some"] zkc (zau zdH):=fsc
theorem kfo {K:PySem.W.Frag}{f c:Addr}{m:Value}{n q:Str}{st:Stmt}(l:K.lookup f=some (fo n q st m c)):PySem.W.keepIn K (.ref f)=true:=by
 unfold PySem.W.keepIn
 simp only[l]
theorem ifo {K:PySem.W.Frag}{f c:Addr}{m:Value}{n q:Str}{st:Stmt}(l:K.lookup f=some (fo n q st m c)):PySem.W.isFn K (.ref f)=true:=by
 unfold PySem.W.isFn PySem.W.typeIn
 simp only[l]
 rfl
theorem ln1 {P:List Value→Prop}(h:∀a,P [a]):∀us:List Value,us.length=1→P us
 | [a],_=>h a
theorem ln2 {P:List Value→Prop}(h:∀a b,P [a,b]):∀us:List Value,us.length=2→P us
 | [a,b],_=>h a b
theorem ln3 {P:List Value→Prop}(h:∀a b c,P [a,b,c]):∀us:List Value,us.length=3→P us
 | [a,b,c],_=>h a b c
theorem ln4 {P:List Value→Prop}(h:∀a b c d,P [a,b,c,d]):∀us:List Value,us.length=4→P us
 | [a,b,c,d],_=>h a b c d
theorem ln5 {P:List Value→Prop}(h:∀a b c d e,P [a,b,c,d,e]):∀us:List Value,us.length=5→P us
 | [a,b,c,d,e],_=>h a b c d e
abbrev Bn (n q:Str)(st:Stmt)(ps:List Str):Prop:=∀(kV doc pm:Value) (an:Option Addr) (cdv ct:Value) (us:List Value),us.length=ps.length→bindArgs (PySem.W.fnOf n q (zeW st) (zdO st) (zau st) .none kV doc pm an cdv ct) ⟨us,[]⟩=pure (ps.zip us)
def dfo {K:PySem.W.Frag}{mg:Str→Option Value}{h:Heap}(X:K.In h)(G:h.Ns mainGlobals mg){n:Str}{st:Stmt}{f c:Addr}{m:Value}{ps:List Str}(a:PySem.W.nsIn K mainGlobals n=some (some (.ref f)))(l:K.lookup f=some (fo n n st m c))(e:PySem.W.codeIn K (.ref c) n=true)(b:Bn n n st ps):Df K mg n st ps:=⟨_,_,zk6 (st:=st) l e (kfo l),PySem.W.mg_of X G a,(zk6 (st:=st) l e (kfo l)).binds b⟩
def dmo {K:PySem.W.Frag}{C:Addr}{n q:Str}{st:Stmt}{f c:Addr}{m:Value}{ps:List Str}(a:PySem.W.findIn K (.ref C) n=some (some (.ref f)))(l:K.lookup f=some (fo n q st m c))(e:PySem.W.codeIn K (.ref c) q=true)(b:Bn n q st ps):Dm K C n q st ps:=⟨_,_,zk6 (st:=st) l e (kfo l),⟨a,ifo l,kfo l⟩,(zk6 (st:=st) l e (kfo l)).binds b⟩
abbrev nsA (K:PySem.W.Frag)(n:Str)(f:Addr):Prop:=PySem.W.nsIn K mainGlobals n=some (some (.ref f))
abbrev fdA (K:PySem.W.Frag)(C:Addr)(n:Str)(f:Addr):Prop:=PySem.W.findIn K (.ref C) n=some (some (.ref f))
abbrev lkA (K:PySem.W.Frag)(f:Addr)(n q:Str)(st:Stmt)(m:Value)(c:Addr):Prop:=K.lookup f=some (fo n q st m c)
abbrev cdA (K:PySem.W.Frag)(c:Addr)(q:Str):Prop:=PySem.W.codeIn K (.ref c) q=true
theorem zaV {C:Addr}{f:Str}{to:TDE}{dl:Ev}{S S1:Sto}{Q:DK}{n:Nat}{fs:List (Str×D)}{v:D}(hto:∀K:DK,K (.ref n) S1→to dl S K)(h:S1[n]?=some (.ins C fs))(hf:fs.lookup f=some v)(hq:Q v S1):zh1 C f to dl S Q:=by
 unfold zh1
 refine hto _ ?_
 simp only[zb6,h,if_pos,hf]
 exact hq
theorem zcN {C:Addr}{f:Str}{to te:TDE}{dl:Ev}{S S1 S2:Sto}{E:zbM}{n:Nat}{fs:List (Str×D)}{v:D}(hte:∀K:DK,K v S1→te dl S K)(hto:∀K:DK,K (.ref n) S2→to dl S1 K)(h:S2[n]?=some (.ins C fs))(hl:fs.length<1000)(hq:E.nx dl (S2.set n (.ins C (zaO f v fs)))):zfE C f to te E dl S:=by
 unfold zfE
 refine hte _ (hto _ ?_)
 simp only[zb6,h,if_pos]
 exact⟨hl,hq⟩
theorem zaD {C:Addr}{m:Str}{ex:Ev→Addr→Sto→Prop}{sd:Sd}{to:TDE}{t:TDA}{dl:Ev}{S S1:Sto}{Q:DK}{n:Nat}{fs:List (Str×D)}(hto:∀K:DK,K (.ref n) S1→to dl S K)(h:S1[n]?=some (.ins C fs))(hf:fs.lookup m=none)(hq:t dl S1 λds S2=>sd (.ref n::ds) S2 Q (ex dl)):zf1 C m ex sd to t dl S Q:=by
 unfold zf1
 refine hto _ ?_
 simp only[zb6,h,if_pos]
 exact⟨hf,hq⟩
theorem zcD {n:Nat}{S:Sto}{Q:DK}{xs:List D}(h:S[n]?=some (.lst xs))(hq:Q (.int (xs.length:Nat)) S):irr zf6 [.ref n] S Q:=by
 rw[zff]
 unfold zf6
 simp only[zbd h rfl]
 exact hq
theorem zek {S:Sto}{n a:Nat}{o u:Ob}(h:S[n]?=some o)(hn:a≠n):(S.set a u)[n]?=some o:=by rw[VaJ hn]; exact h
theorem zcz {S:Sto}{n:Nat}{o u:Ob}(h:S[n]?=some o):(S.set n u)[n]?=some u:=by
 have hk:=(Vac.mp h).1
 simp[hk]
theorem zam {S:Sto}{n:Nat}{o:Ob}{T:Sto}(h:S[n]?=some o):(S++T)[n]?=some o:=by
 have hk:=(Vac.mp h).1
 rw[Vah hk]
 exact h
theorem zdS (T R:Sto)(u:Ob):(T++u::R)[T.length]?=some u:=by simp
theorem zem (T R:Sto)(u v:Ob):(T++u::R).set T.length v=T++v::R:=by simp
theorem zgY {dl:Ev}{S:Sto}{Q:DK}{T:Sto}{m:Nat}(e:T=S++[.lst []])(em:m=S.length)(h:Q (.ref m) T):dLst zc7 dl S Q:=by
 subst e em
 exact h
theorem za8 {S:Sto}{n:Nat}{o:Ob}(h:S[n]?=some o):n<S.length:=(Vac.mp h).1
theorem zl3 {n m:Nat}{S:Sto}{Q:DK}{xs ys:List D}{b:Bool}(h1:S[n]?=some (.lst xs))(h2:S[m]?=some (.lst ys))(e:eqL (eqN 1) xs ys=some b)(hq:Q (.bl b) S):zbT (zeY 1) (.ref n) (.ref m) S Q:=by
 rw[zca]
 unfold zeY
 simp only[zdT,zbd h1 rfl,zbd h2 rfl,zan,e]
 exact hq
theorem zwe {xs:List Int}{lo hi:Option Int}{k:Nat}{x:D}(h:(za4 (xs.map D.int) lo hi)[k]?=some x):∃c:Int,x=.int c:=by
 have m:=Vas h
 unfold L3.za4 at m
 obtain⟨c,_,rfl⟩:=VaI.mp (List.mem_of_mem_drop (List.mem_of_mem_take m))
 exact⟨c,rfl⟩
theorem ziE {i n:Nat}{tb:TDS}{E:zbM}{dl:Ev}{S:Sto}{o:Ob}(W:Nat→Ev→Sto→Prop)(h0:W 0 dl S)(hk:∀k dl' S',W k dl' S'→S'[n]?=some o)
  (ht:∀(k:Nat) (x:D) (dl':Ev) (S':Sto) (nx ct:Ev→Sto→Prop),(zan o)[k]?=some x→W k dl' S'→(∀dl2 S2,W (k+1) dl2 S2→nx dl2 S2)→tb { nx:=nx,rt:=E.rt,bk:=E.nx,ct:=ct } (dl'.set i (some x)) S')(he:∀dl' S',W (zan o).length dl' S'→E.nx dl' S')(hL:zcb o=some o:=by rfl):
  (lAt S n).isSome=true∧∃W:Nat→Nat→Ev→Sto→Prop,(∃m,W 0 m dl S)∧∀k m dl S,W k m dl S→match lAt S n with
  | some o=>match (zan o)[k]? with
   | some x=>tb { nx:=λdl' S'=>∃m',m'<m∧W (k+1) m' dl' S',rt:=E.rt,bk:=E.nx,ct:=λdl' S'=>∃m',m'<m∧W (k+1) m' dl' S' } (dl.set i (some x)) S
   | none=>E.nx dl S
  | none=>False:=by
 refine⟨by rw[zbd (hk _ _ _ h0) hL]; rfl,λk m dl' S'=>m+k=(zan o).length∧W k dl' S',⟨(zan o).length,by omega,h0⟩,?_⟩
 rintro k m dl' S' ⟨hm,w⟩
 rw[zbd (hk _ _ _ w) hL]
 show (match (zan o)[k]? with
   | some x=>tb { nx:=λdl' S''=>∃m',m'<m∧(m'+(k+1)=(zan o).length∧W (k+1) dl' S''),rt:=E.rt,bk:=E.nx,ct:=λdl' S''=>∃m',m'<m∧(m'+(k+1)=(zan o).length∧W (k+1) dl' S'') } (dl'.set i (some x)) S'
   | none=>E.nx dl' S')
 split
 ·rename_i x hx
  have hk:k<(zan o).length:=(Vac.mp hx).1
  exact ht k x dl' S' _ _ hx w λdl2 S2 w2=>⟨m-1,by omega,by omega,w2⟩
 ·rename_i hx
  have hk:k=(zan o).length:=by
   have:=List.getElem?_eq_none_iff.mp hx
   omega
  exact he dl' S' (hk ▸ w)
open PySem.W.KIN PySem.NumText
abbrev cs (x:Str):List Nat:=x.cps.toList
theorem zbL {x y:Str}(h:cs x=cs y):x=y:=by
 cases x; cases y
 simp only[Str.mk.injEq]
 exact Array.toList_inj.mp h
theorem zhD (w:Str):w.length=(cs w).length:=by simp[Str.length]
theorem zaW (a b:Str):cs (a++b)=cs a++cs b:=by show (a++b).cps.toList=_; rw[Str.cps_append]; simp
def dec (m:Nat):List Nat:=(Nat.toDigits 10 m).map Char.toNat
theorem zjo (m:Nat):AllDigits (dec m):=λc hc=>by
 obtain⟨x,hx,e⟩:=VaI.mp hc
 have r:=digit_range (Nat.isDigit_of_mem_toDigits (by decide) (by decide) hx)
 rw[← e]
 exact r
theorem zik (m:Nat):dec m≠[]:=λe=>by
 have l1:=toDigits_len_ge 10 m
 rw[List.map_eq_nil_iff.mp e] at l1
 exact absurd l1 (by decide)
theorem zfS (m:Nat):digitsVal (dec m)=m:=val_back m
theorem zoq {a b:Nat}(h:dec a=dec b):a=b:=by rw[← zfS a,← zfS b,h]
theorem zhf {m:Nat}(h:10≤m):dec m=dec (m/10)++[48+m%10]:=by
 have hm:m%10<10:=Nat.mod_lt m (by decide)
 have two:Nat.toDigits 10 (m/10)++Nat.toDigits 10 (m%10)=Nat.toDigits 10 (10*(m/10)+m%10):=Nat.toDigits_append_toDigits (by decide) (by omega) hm
 rw[Nat.div_add_mod] at two
 unfold dec
 rw[← two,Vaz,Nat.toDigits_of_lt_base hm]
 have e:∀d:Nat,d<10→(Nat.digitChar d).toNat=48+d:=by decide
 show _++[(Nat.digitChar (m%10)).toNat]=_
 rw[e _ hm]
theorem zgs {m:Nat}(h:m<10):dec m=[48+m]:=by
 unfold dec
 rw[Nat.toDigits_of_lt_base h]
 have e:∀d:Nat,d<10→(Nat.digitChar d).toNat=48+d:=by decide
 show [(Nat.digitChar m).toNat]=_
 rw[e _ h]
theorem zpT (m:Nat):∀r,dec m=48::r→m=0∧r=[]:=by
 refine Nat.strongRecOn m λm ih=>?_
 ·intro r e
  by_cases h:m<10
  ·rw[zgs h] at e
   simp only[List.cons.injEq] at e
   exact⟨by omega,e.2.symm⟩
  ·rw[zhf (by omega)] at e
   cases d:dec (m/10) with
   | nil=>exact absurd d (zik _)
   | cons c t=>
    rw[d] at e
    simp only[VaS,List.cons.injEq] at e
    have:=ih (m/10) (by omega) t (by rw[d,e.1])
    omega
theorem zeT {m k:Nat}(hk:1≤k)(h:m<10^k):(dec m).length≤k:=by
 induction k generalizing m with
 | zero=>omega
 | succ k ih=>
  by_cases hm:m<10
  ·rw[zgs hm]; simp
  ·rw[zhf (by omega)]
   by_cases k0:k=0
   ·subst k0
    simp at h
    omega
   ·have:=ih (m:=m/10) (by omega) (by rw[VaT] at h; omega)
    simp
    exact this
theorem zoZ (l:List Nat):AllDigits l→digitsVal l<10^l.length:=by
 induction l using PyProof.Rows.snocInd with
 | nil=>intro _; decide
 | snoc l c ih=>
  intro h
  have h1:=ih (λd hd=>h d (VaD _ hd))
  have h2:=h c (by simp)
  rw[digitsVal_snoc,Vag,List.length_singleton,VaT]
  omega
def num (i:Int):List Nat:=if i<0 then 45::dec i.natAbs else dec i.natAbs
theorem zuP (i:Int):cs (Str.ofString (toString i))=num i:=by
 unfold num
 cases i with
 | ofNat m=>exact signs_num m
 | negSucc k=>
  rw[if_pos (Int.negSucc_lt_zero k)]
  show (Str.ofString (toString (Int.negSucc k))).cps.toList=_
  rw[signs_ofString]
  show (("-":String)++Nat.repr (k+1)).toList.map Char.toNat=_
  rw[String.toList_append,Vaz,Nat.toList_repr]
  rfl
theorem zfg {i:Int}(h:0≤i):num i=dec i.natAbs:=if_neg (by omega)
theorem zl7 {i:Int}(h:i<0):num i=45::dec i.natAbs:=if_pos h
theorem zln (i:Int):num i≠[]:=by
 unfold num
 split
 ·exact λe=>by cases e
 ·exact zik _
theorem zfV {i:Int}{c:Nat}(h:c∈num i):c=45∨48≤c∧c≤57:=by
 unfold num at h
 split at h
 ·rcases Vaa.mp h with e | e
  ·exact .inl e
  ·exact .inr (zjo _ c e)
 ·exact .inr (zjo _ c h)
theorem zdw {m:Nat}{c:Nat}{r:List Nat}(h:dec m=c::r):48≤c∧c≤57:=zjo m c (by rw[h]; exact Vau ..)
theorem zeU {a b:Int}(h:num a=num b):a=b:=by
 unfold num at h
 split at h <;> split at h
 ·have:=zoq (List.cons.inj h).2
  omega
 ·have:=zdw h.symm
  omega
 ·have:=zdw h
  omega
 ·have:=zoq h
  omega
def zaI (t b:Int):List Nat:=num t++(if b=1 then [] else 47::num b)
structure zaZ (w:List Nat)(t b:Int):Prop where
 pos:1≤b
 low:Int.gcd t b=1
 top:t.natAbs<10^9
 bot:b<10^9
 eq:w=zaI t b
theorem zid (i:Int):47 ∉ num i:=λh=>by
 have:=zfV h
 omega
theorem znT:∀ {X A Y B:List Nat},47 ∉ X→47 ∉ A→X++47::Y=A++47::B→X=A∧Y=B
 | [],[],Y,B,_,_,e=>⟨rfl,(List.cons.inj e).2⟩
 | [],a::A,Y,B,_,h,e=>absurd (show 47∈a::A by rw[show a=47 from ((List.cons.inj e).1).symm]; exact Vau ..) h
 | x::X,[],Y,B,h,_,e=>absurd (show 47∈x::X by rw[show x=47 from (List.cons.inj e).1]; exact Vau ..) h
 | x::X,a::A,Y,B,h1,h2,e=>by
  obtain⟨e1,e2⟩:=List.cons.inj e
  obtain⟨r1,r2⟩:=znT (λm=>h1 (Vap _ m)) (λm=>h2 (Vap _ m)) e2
  exact⟨by rw[e1,r1],r2⟩
theorem zaZ.split {A B:List Nat}{t b:Int}(h:zaZ (A++47::B) t b)(hA:47 ∉ A):num t=A∧num b=B∧b≠1:=by
 have e:=h.eq
 unfold zaI at e
 split at e
 ·rw[VaB] at e
  exact absurd (show 47∈num t by rw[← e]; simp) (zid t)
 ·rename_i hb
  obtain⟨r1,r2⟩:=znT hA (zid t) e
  exact⟨r1.symm,r2.symm,hb⟩
theorem zaZ.plain {w:List Nat}{t b:Int}(h:zaZ w t b)(hw:47 ∉ w):num t=w∧b=1:=by
 have e:=h.eq
 unfold zaI at e
 split at e
 ·rename_i hb
  rw[VaB] at e
  exact⟨e.symm,hb⟩
 ·exact absurd (by rw[e]; simp) hw
theorem zaZ.mem {w:List Nat}{t b:Int}(h:zaZ w t b){c:Nat}(hc:c∈w):c=45∨c=47∨48≤c∧c≤57:=by
 rw[h.eq] at hc
 unfold zaI at hc
 rcases Val.mp hc with e | e
 ·rcases zfV e with z | z
  ·exact .inl z
  ·exact .inr (.inr z)
 ·split at e
  ·cases e
  ·rcases Vaa.mp e with z | z
   ·exact .inr (.inl z)
   ·rcases zfV z with z | z
    ·exact .inl z
    ·exact .inr (.inr z)
def Bad (w:List Nat):Prop:=∀t b:Int,¬ zaZ w t b
theorem zcO {w:List Nat}{c:Nat}(hc:c∈w)(h:c≠45∧c≠47∧¬ (48≤c∧c≤57)):Bad w:=λt b n=>by
 have:=n.mem hc
 omega
theorem zwk {A B:List Nat}(hA:47 ∉ A)(h:∀b:Int,1<b→num b≠B):Bad (A++47::B):=λ_ b n=>by
 obtain⟨_,e,hb⟩:=n.split hA
 have:=n.pos
 exact h b (by omega) e
theorem zfH {w:List Nat}(hw:47 ∉ w)(h:∀t:Int,t.natAbs<10^9→num t≠w):Bad w:=λt _ n=>h t n.top (n.plain hw).1
theorem zwR (t:Int):num t≠[]:=zln t
theorem zug (t:Int):num t≠[45]:=λe=>by
 unfold num at e
 split at e
 ·exact zik _ (List.cons.inj e).2
 ·have:=zdw e
  omega
theorem zwx {r:List Nat}(hr:r≠[])(t:Int):num t≠48::r:=λe=>by
 unfold num at e
 split at e
 ·have:=(List.cons.inj e).1
  omega
 ·exact hr (zpT _ _ e).2
theorem zqP (r:List Nat)(t:Int):num t≠45::48::r:=λe=>by
 unfold num at e
 split at e
 ·rename_i h
  have:=(zpT _ _ (List.cons.inj e).2).1
  omega
 ·have:=zdw e
  omega
theorem zvF (r:List Nat)(t:Int):num t≠45::45::r:=λe=>by
 unfold num at e
 split at e
 ·have:=zdw (List.cons.inj e).2
  omega
 ·have:=zdw e
  omega
theorem zp6 {t0 b0 m:Int}(hm:2≤m)(hb:1≤b0):Bad (num (t0*m)++47::num (b0*m)):=λt b n=>by
 obtain⟨e1,e2,_⟩:=n.split (zid _)
 have e1:=zeU e1
 have e2:=zeU e2
 subst e1 e2
 have d1:(m.natAbs:Int) ∣ t0*m:=Int.natAbs_dvd.mpr (Int.dvd_mul_left _ _)
 have d2:(m.natAbs:Int) ∣ b0*m:=Int.natAbs_dvd.mpr (Int.dvd_mul_left _ _)
 have g:=Int.dvd_gcd d1 d2
 rw[n.low] at g
 have:=Nat.le_of_dvd (by decide) g
 omega
def pad (k r:Nat):List Nat:=List.replicate (k-(dec r).length) 48++dec r
theorem zqf {q:Nat}(hq:0<q):∀(k r:Nat),1≤k→r<10^k→dec (q*10^k+r)=dec q++pad k r
 | 0,_,h,_=>absurd h (by decide)
 | 1,r,_,hr=>by
  have hr':r<10:=by simpa using hr
  rw[zhf (by omega),show (q*10^1+r)/10=q by omega,show (q*10^1+r)%10=r by omega]
  unfold pad
  rw[zgs hr']
  rfl
 | k+2,r,_,hr=>by
  have ih:=zqf hq (k+1) (r/10) (by omega) (by rw[VaT] at hr; omega)
  have e1:(q*10^(k+2)+r)/10=q*10^(k+1)+r/10:=by rw[VaT,← Nat.mul_assoc]; omega
  have e2:(q*10^(k+2)+r)%10=r%10:=by rw[VaT,← Nat.mul_assoc]; omega
  have big:10≤q*10^(k+2)+r:=by
   have:1≤q*10^(k+1):=Nat.mul_pos hq (Nat.pow_pos (by decide))
   rw[VaT,← Nat.mul_assoc]
   omega
  rw[zhf big,e1,e2,ih,VaA]
  congr 1
  unfold pad
  by_cases h:r<10
  ·rw[zgs h,show r/10=0 by omega,show r%10=r by omega,zgs (by decide)]
   show List.replicate (k+1-1) 48++[48+0]++[48+r]=List.replicate (k+2-1) 48++[48+r]
   congr 1
   rw[show k+2-1=(k+1-1)+1 by omega,List.replicate_succ']
  ·rw[zhf (show 10≤r by omega),VaA,Vag,List.length_singleton]
   rw[show k+1+1-((dec (r/10)).length+1)=k+1-(dec (r/10)).length by omega]
theorem zj9:("/":Str)=⟨#[47]⟩:=by decide
theorem znv:("-":Str)=⟨#[45]⟩:=by decide
theorem zuq {x:Str}(h:47 ∉ cs x):Txt.partition x "/"=(x,Str.empty,Str.empty):=by
 rw[zj9]
 unfold Txt.partition
 rcases StrLaws.occ_head x ⟨#[47]⟩ 1 (Vab 1) with ⟨h0,_⟩ | ⟨i,r,h0,hi,hn⟩
 ·rw[h0]
 ·exact absurd (Vas ((StrLaws.subAt_one x 47 i).mp hi)) h
theorem zqZ {x:Str}{A B:List Nat}(e:cs x=A++47::B)(hA:47 ∉ A):Txt.partition x "/"=((⟨A.toArray⟩:Str),("/":Str),(⟨B.toArray⟩:Str)):=by
 rw[zj9]
 unfold Txt.partition
 have at47:(cs x)[A.length]?=some 47:=by rw[e]; simp
 rcases StrLaws.occ_head x ⟨#[47]⟩ 1 (Vab 1) with ⟨_,hn⟩ | ⟨i,r,h0,hi,hn⟩
 ·exact absurd ((StrLaws.subAt_one x 47 A.length).mpr at47) (hn _)
 ·rw[h0]
  have hi':=(StrLaws.subAt_one x 47 i).mp hi
  have ei:i=A.length:=by
   rcases Nat.lt_trichotomy i A.length with l | l | l
   ·have z:(cs x)[i]?=A[i]?:=by rw[e,Vah l]
    rw[z] at hi'
    exact absurd (Vas hi') hA
   ·exact l
   ·exact absurd ((StrLaws.subAt_one x 47 A.length).mpr at47) (hn _ l)
  subst ei
  have lx:x.length=A.length+1+B.length:=by rw[zhD,e]; simp; omega
  have p1:Builtin.Str.strSub x 0 A.length=⟨A.toArray⟩:=zbL (by
   show (Builtin.Str.strSub x 0 A.length).cps.toList=A
   rw[StrLaws.strSub_toList,show x.cps.toList=A++47::B from e]
   simp)
  have p2:Builtin.Str.strSub x (A.length+(⟨#[47]⟩:Str).length) x.length=⟨B.toArray⟩:=zbL (by
   show (Builtin.Str.strSub x (A.length+1) x.length).cps.toList=B
   rw[StrLaws.strSub_toList,show x.cps.toList=A++47::B from e,lx]
   simp)
  show (Builtin.Str.strSub x 0 A.length,(⟨#[47]⟩:Str),Builtin.Str.strSub x (A.length+(⟨#[47]⟩:Str).length) x.length)=_
  rw[p1,p2]
theorem zqR (x:Str):Txt.startswith x "-"=decide ((cs x)[0]?=some 45):=by
 rw[znv]
 unfold Txt.startswith
 have z:=StrLaws.subAt_one x 45 0
 rw[VaO,Vay,decide_eq_true_eq,decide_eq_true_eq]
 exact z
abbrev mk (l:List Nat):Str:=⟨l.toArray⟩
theorem zbe (l:List Nat):cs (mk l)=l:=by simp
theorem zcS (x:Str):mk (cs x)=x:=zbL (by simp)
theorem zbo (l:List Nat):(mk l).length=l.length:=by rw[zhD,zbe]
theorem zd3 (a b:List Nat):mk a++mk b=mk (a++b):=zbL (by rw[zaW,zbe,zbe,zbe])
theorem zd4 (i:Int):Str.ofString (toString i)=mk (num i):=zbL (by rw[zuP,zbe])
theorem zuk {x:Str}{r:List Nat}(h:cs x=45::r):StrLaws.sliceText x (some 1) none=mk r:=by
 have l:x.cps.toList.length=r.length+1:=by rw[show x.cps.toList=45::r from h]; simp
 rw[StrLaws.sliceText_from (x:=x) (i:=1) ⟨by decide,by omega⟩]
 refine zbL ?_
 rw[zbe]
 show (⟨_⟩:Str).cps.toList=r
 rw[show x.cps.toList=45::r from h]
 simp
theorem zgo {i:Int}{k:Nat}(hk:1≤k)(h:i.natAbs<10^k):(num i).length≤k+1:=by
 have:=zeT hk h
 unfold num
 split
 ·simp; omega
 ·omega
theorem zvA {r:Nat}(h:(dec r).length≤64):Txt.zfill (mk (dec r)) 64=mk (pad 64 r):=by
 unfold Txt.zfill
 rw[zbo]
 split
 ·rename_i c
  have e:(dec r).length=64:=by omega
  unfold pad
  rw[e]
  rfl
 ·unfold zfilled
  cases d:dec r with
  | nil=>exact absurd d (zik r)
  | cons c t=>
   have hc:=zdw d
   rw[show (mk (c::t)).cps[0]?=some c by simp]
   split
   ·rename_i z
    cases z
    omega
   ·rename_i z
    cases z
    omega
   ·refine zbL ?_
    unfold pad Builtin.Str.padded
    rw[d]
    simp
theorem zvX (zs:List Str):cs (zaC zs)=zs.flatMap cs:=by simp[zaC]
theorem zmU:∀ls:List (List Nat),zcP (ls.map λl=>D.str (mk l))=some (ls.map mk)
 | []=>rfl
 | l::ls=>by
  show (zcP (ls.map λl=>D.str (mk l))).map (mk l::·)=_
  rw[zmU ls]
  rfl
theorem zwy (ls:List (List Nat)):zaC (ls.map mk)=mk ls.flatten:=zbL (by
 rw[zvX,zbe,List.flatMap_map]
 have e:∀ks:List (List Nat),(ks.flatMap λa=>cs (mk a))=ks.flatten:=λks=>by
  induction ks with
  | nil=>rfl
  | cons k ks ih=>rw[List.flatMap_cons,List.flatten_cons,ih,zbe]
 exact e ls)
theorem zfG {i:Int}{k:Nat}(h:i.natAbs<10^k)(hk:k≤400):i.natAbs.log2<1920:=by
 by_cases z:i.natAbs=0
 ·rw[z]; decide
 ·rw[Nat.log2_lt z]
  refine Vak h ?_
  have h1:(10:Nat)^k≤16^k:=Nat.pow_le_pow_left (by decide) k
  have h2:(16:Nat)^k=2^(4*k):=by rw[Nat.pow_mul]
  rw[h2] at h1
  exact Vax h1 (VaX (by decide) (by omega))
theorem zoD {F:List Nat}(h:AllDigits F)(h1:F≠[])(h2:F.length≤600):PySem.intText? (mk F)=some ((digitsVal F:Nat):Int)∧PySem.intText? (mk (45::F))=some (-((digitsVal F:Nat):Int)):=by
 refine⟨?_,?_⟩
 ·have z:=intText_digits (x:=mk F) (by rw[show (mk F).cps.toList=F from zbe F]; exact h) (by rw[show (mk F).cps.toList=F from zbe F]; exact h1) (by rw[zbo]; omega)
  rw[show (mk F).cps.toList=F from zbe F] at z
  exact z
 ·exact intText_neg (x:=mk (45::F)) (cs:=F) (zbe _) h h1 (by rw[zbo]; simp; omega)
theorem znh:∀w:List Nat,47∈w→∃A B,w=A++47::B∧47 ∉ A
 | [],h=>by cases h
 | c::w,h=>by
  by_cases e:c=47
  ·subst e
   exact⟨[],w,rfl,by simp⟩
  ·have h':47∈w:=by
    rcases Vaa.mp h with z | z
    ·exact absurd z.symm e
    ·exact z
   obtain⟨A,B,e1,e2⟩:=znh w h'
   exact⟨c::A,B,by rw[e1]; rfl,by simp; exact⟨λz=>e z.symm,e2⟩⟩
theorem all_map (f:Nat→Bool)(l:List Nat):(l.map f).all id=l.all f:=by rw[List.all_map]; rfl
theorem zt7 {a P B j:Nat}(h:a*P^j<B):a/P*P^(j+1)<B:=by
 rw[VaT,Nat.mul_comm (P^j),← Nat.mul_assoc]
 exact Nat.lt_of_le_of_lt (Nat.mul_le_mul_right _ (Nat.div_mul_le_self _ _)) h
theorem cut4 {s1 s2 s3 s4 t2:TDS}{E:zbM}{dl:Ev}{S:Sto}{α:Type}(G:α→Ev)(P:α→Prop)(h:(∀a,P a→t2 E (G a) S)→zbp s1 (zbp s2 (zbp s3 (zbp s4 t2))) E dl S)(main:∀a,P a→t2 E (G a) S):zbp s1 (zbp s2 (zbp s3 (zbp s4 t2))) E dl S:=h main
abbrev FIG:Str:="0123456789"
theorem znk (c:Nat):c∈cs FIG↔48≤c∧c≤57:=by
 have e:cs FIG=[48,49,50,51,52,53,54,55,56,57]:=by decide
 rw[e]
 simp
 omega
def zdz (w:Str):Bool:=(decide (1≤(w.length:Int))&&decide ((w.length:Int)≤9))&&w.cps.toList.all (λc=>decide (c∈FIG.cps.toList))
theorem zlU (w:Str):zdz w=true↔(cs w≠[]∧(cs w).length≤9∧PySem.NumText.AllDigits (cs w)):=by
 unfold zdz
 rw[Vay,Vay,decide_eq_true_eq,decide_eq_true_eq,List.all_eq_true]
 rw[zhD]
 constructor
 ·rintro⟨⟨h1,h2⟩,h3⟩
  refine⟨λz=>?_,by omega,λc hc=>(znk c).mp (of_decide_eq_true (h3 c hc))⟩
  rw[z] at h1
  simp at h1
 ·rintro⟨h1,h2,h3⟩
  have:0<(cs w).length:=List.length_pos_iff.mpr h1
  exact⟨⟨by omega,by omega⟩,λc hc=>decide_eq_true ((znk c).mpr (h3 c hc))⟩
def zi5 (w T B:List Nat):Prop:=(w=T∧B=[49]∨w=T++47::B)∧47 ∉ T
def Sig (T F:List Nat):Prop:=T=45::F∨T=F∧T[0]?≠some 45
theorem zfu {w T B F:List Nat}{t b:Int}(n:zaZ w t b)(sh:zi5 w T B)(sg:Sig T F):T=num t∧F=dec t.natAbs∧B=dec b.natAbs:=by
 obtain⟨sh,nT⟩:=sh
 have e:T=num t∧B=dec b.natAbs:=by
  rcases sh with ⟨rfl,rfl⟩ | rfl
  ·obtain⟨e1,rfl⟩:=n.plain nT
   exact⟨e1.symm,by decide⟩
  ·obtain⟨e1,e2,_⟩:=n.split nT
   rw[zfg (by have:=n.pos; omega)] at e2
   exact⟨e1.symm,e2.symm⟩
 refine⟨e.1,?_,e.2⟩
 have e1:=e.1
 by_cases ht:t<0
 ·rw[zl7 ht] at e1
  rcases sg with rfl | ⟨rfl,z⟩
  ·exact(List.cons.inj e1).2
  ·rw[e1] at z
   exact absurd rfl z
 ·rw[zfg (by omega)] at e1
  rcases sg with rfl | ⟨rfl,_⟩
  ·have:=zdw e1.symm
   omega
  ·exact e1
theorem zos {m:Nat}(h:m<10^9):zdz (mk (dec m))=true:=by
 rw[zlU,zbe]
 exact⟨zik m,zeT (by decide) h,zjo m⟩
theorem zvo {t b t' b':Int}(hb:1≤b)(hb':1≤b')(g:Int.gcd t b=1)(g':Int.gcd t' b'=1)(e:t*b'=t'*b):t=t'∧b=b':=by
 have d1:b ∣ b':=by
  have z:b ∣ t*b':=⟨t',by rw[e,Int.mul_comm]⟩
  have z':=Int.natAbs_dvd_natAbs.mpr z
  rw[Int.natAbs_mul] at z'
  exact Int.natAbs_dvd_natAbs.mp (Nat.Coprime.dvd_of_dvd_mul_left (show Nat.gcd b.natAbs t.natAbs=1 by rw[Nat.gcd_comm]; exact g) z')
 have d2:b' ∣ b:=by
  have z:b' ∣ t'*b:=⟨t,by rw[← e,Int.mul_comm]⟩
  have z':=Int.natAbs_dvd_natAbs.mpr z
  rw[Int.natAbs_mul] at z'
  exact Int.natAbs_dvd_natAbs.mp (Nat.Coprime.dvd_of_dvd_mul_left (show Nat.gcd b'.natAbs t'.natAbs=1 by rw[Nat.gcd_comm]; exact g') z')
 have eb:b=b':=Int.le_antisymm (Int.le_of_dvd (by omega) d1) (Int.le_of_dvd (by omega) d2)
 subst eb
 exact⟨Int.eq_of_mul_eq_mul_right (by omega) e,rfl⟩
theorem zaP (a b:Str):(a++b).length=a.length+b.length:=Str.length_append a b
theorem zaZ.one {w:List Nat}{t b t' b':Int}(h:zaZ w t b)(h':zaZ w t' b'):t=t'∧b=b':=by
 have e':=h'.eq
 unfold zaI at e'
 split at e'
 ·rename_i z
  rw[VaB] at e'
  have w47:47 ∉ w:=by rw[e']; exact zid _
  obtain⟨e1,e2⟩:=h.plain w47
  exact⟨zeU (e1.trans e'),by rw[e2,z]⟩
 ·rw[e'] at h
  obtain⟨e1,e2,_⟩:=h.split (zid _)
  exact⟨zeU e1,zeU e2⟩
abbrev LET:Str:="abcdefghijklmnopqrstuvwxyz"
abbrev KEPT:List Str:=["let","in","grid","fine","looks","solve","boxes","point","right","islands"]
def zaG (w:Str):Bool:=((decide (1≤(w.length:Int))&&decide ((w.length:Int)≤8))&&w.cps.toList.all (λc=>decide (c∈LET.cps.toList)))&&!KEPT.any (·==w)
theorem zsG {w:Str}{c:Nat}(hc:c∈w.cps.toList)(hn:c ∉ LET.cps.toList):zaG w=false:=by
 unfold zaG
 have e:w.cps.toList.all (λc=>decide (c∈LET.cps.toList))=false:=by
  rw[List.all_eq_false]
  exact⟨c,hc,by simpa using hn⟩
 rw[e,Bool.and_false,VaW]
inductive Tr
 | nm (w:List Nat) | nb (t b:Int) | pw (t:Tr) (k:Int) | bi (kind:Nat) (l r:Tr)
inductive Wd
 | lp | rp | pl | mi | ti | ca | at
 deriving DecidableEq
section
variable {α:Type}(K:α→Wd)(av:α→Option Tr)(pv:α→Option Int)
abbrev Rd (α:Type):=List α→Option (Tr×List α)
def zbD (ex:Rd α):Rd α
 | []=>none
 | w::r=>if K w=.lp then (match ex r with
   | some (t,w2::r2)=>if K w2=.rp then some (t,r2) else none
   | _=>none) else (av w).map λt=>(t,r)
def za3 (ex:Rd α):Rd α:=λws=>match zbD K av ex ws with
 | none=>none
 | some (t,[])=>some (t,[])
 | some (t,w::r)=>if K w=.ca then (match r with
   | []=>none
   | p::r2=>(pv p).map λk=>(.pw t k,r2)) else some (t,w::r)
def zbI (ex:Rd α):Nat→Tr→Rd α
 | _,t,[]=>some (t,[])
 | 0,t,w::r=>some (t,w::r)
 | n+1,t,w::r=>if K w=.ti then (match za3 K av pv ex r with
   | none=>none
   | some (t2,r2)=>zbI ex n (.bi 2 t t2) r2) else some (t,w::r)
def zbf (ex:Rd α):Rd α:=λws=>match za3 K av pv ex ws with
 | none=>none
 | some (t,r)=>zbI K av pv ex ws.length t r
def zdh:Wd→Option Nat
 | .pl=>some 0
 | .mi=>some 1
 | _=>none
def zbR (ex:Rd α):Nat→Tr→Rd α
 | _,t,[]=>some (t,[])
 | 0,t,w::r=>some (t,w::r)
 | n+1,t,w::r=>match zdh (K w) with
  | none=>some (t,w::r)
  | some k=>match zbf K av pv ex r with
   | none=>none
   | some (t2,r2)=>zbR ex n (.bi k t t2) r2
def zcc (ex:Rd α):Rd α:=λws=>match zbf K av pv ex ws with
 | none=>none
 | some (t,r)=>zbR K av pv ex ws.length t r
def zei:Nat→Rd α
 | 0=>zcc K av pv λ_=>none
 | f+1=>zcc K av pv (zei f)
def zcr:Nat→Rd α
 | 0=>λ_=>none
 | f+1=>zei K av pv f
theorem zmc (f:Nat):zei K av pv f=zcc K av pv (zcr K av pv f):=by cases f <;> rfl
inductive Ex:Nat→Nat→List α→Tr→Prop
 | atom {w:α} {t:Tr}:K w=.at→av w=some t→Ex 3 0 [w] t
 | shut {a b:α} {l k:Nat} {c:List α} {t:Tr}:K a=.lp→K b=.rp→Ex l k c t→Ex 3 (k+1) (a::c++[b]) t
 | pow {a p:α} {k:Nat} {c:List α} {t:Tr} {n:Int}:K a=.ca→K p=.at→pv p=some n→Ex 3 k c t→Ex 2 k (c++[a,p]) (.pw t n)
 | tim {a:α} {l m k j:Nat} {c d:List α} {t s:Tr}:K a=.ti→1≤l→2≤m→Ex l k c t→Ex m j d s→Ex 1 (max k j) (c++a::d) (.bi 2 t s)
 | sum {a:α} {l m k j n:Nat} {c d:List α} {t s:Tr}:zdh (K a)=some n→1≤m→Ex l k c t→Ex m j d s→Ex 0 (max k j) (c++a::d) (.bi n t s)
variable {K av pv}
theorem zpK {ex:Rd α}(hx:∀ws t r,ex ws=some (t,r)→r.length<ws.length){ws:List α}{t:Tr}{r:List α}(h:zbD K av ex ws=some (t,r)):r.length<ws.length:=by
 unfold zbD at h
 split at h
 ·cases h
 ·rename_i w rr
  split at h
  ·split at h
   ·rename_i t2 w2 r2 e
    split at h
    ·cases h
     have:=hx _ _ _ e
     simp at this ⊢
     omega
    ·cases h
   ·cases h
  ·cases e:av w with
   | none=>simp[e] at h
   | some t2=>
    rw[e] at h
    cases h
    simp
theorem ziK {ex:Rd α}(hx:∀ws t r,ex ws=some (t,r)→r.length<ws.length){ws:List α}{t:Tr}{r:List α}(h:za3 K av pv ex ws=some (t,r)):r.length<ws.length:=by
 unfold za3 at h
 split at h
 ·cases h
 ·rename_i t2 e
  cases h
  exact zpK hx e
 ·rename_i t2 w r2 e
  have z:=zpK hx e
  split at h
  ·split at h
   ·cases h
   ·rename_i p r3
    cases e2:pv p with
    | none=>rw[e2] at h; cases h
    | some k=>
     rw[e2] at h
     cases h
     simp at z ⊢
     omega
  ·cases h
   exact z
theorem znr {ex:Rd α}(hx:∀ws t r,ex ws=some (t,r)→r.length<ws.length):∀(n:Nat) {ws:List α} {t0 t:Tr} {r:List α},zbI K av pv ex n t0 ws=some (t,r)→r.length≤ws.length
 | n,[],t0,t,r,h=>by cases n <;> (cases h; simp)
 | 0,w::ws,t0,t,r,h=>by cases h; simp
 | n+1,w::ws,t0,t,r,h=>by
  unfold zbI at h
  split at h
  ·split at h
   ·cases h
   ·rename_i t2 r2 e
    have a:=ziK hx e
    have b:=znr hx n h
    simp
    omega
  ·cases h; simp
theorem zia {ex:Rd α}(hx:∀ws t r,ex ws=some (t,r)→r.length<ws.length){ws:List α}{t:Tr}{r:List α}(h:zbf K av pv ex ws=some (t,r)):r.length<ws.length:=by
 unfold zbf at h
 split at h
 ·cases h
 ·rename_i t2 r2 e
  have a:=ziK hx e
  have b:=znr hx _ h
  omega
theorem znN {ex:Rd α}(hx:∀ws t r,ex ws=some (t,r)→r.length<ws.length):∀(n:Nat) {ws:List α} {t0 t:Tr} {r:List α},zbR K av pv ex n t0 ws=some (t,r)→r.length≤ws.length
 | n,[],t0,t,r,h=>by cases n <;> (cases h; simp)
 | 0,w::ws,t0,t,r,h=>by cases h; simp
 | n+1,w::ws,t0,t,r,h=>by
  unfold zbR at h
  split at h
  ·cases h; simp
  ·split at h
   ·cases h
   ·rename_i t2 r2 e
    have a:=zia hx e
    have b:=znN hx n h
    simp
    omega
theorem zo4 {ex:Rd α}(hx:∀ws t r,ex ws=some (t,r)→r.length<ws.length){ws:List α}{t:Tr}{r:List α}(h:zcc K av pv ex ws=some (t,r)):r.length<ws.length:=by
 unfold zcc at h
 split at h
 ·cases h
 ·rename_i t2 r2 e
  have a:=zia hx e
  have b:=znN hx _ h
  omega
theorem zmJ:∀(f:Nat) {ws:List α} {t:Tr} {r:List α},zei K av pv f ws=some (t,r)→r.length<ws.length
 | 0,_,_,_,h=>zo4 (λ_ _ _ e=>by cases e) h
 | f+1,_,_,_,h=>zo4 (λ_ _ _ e=>zmJ f e) h
def Sou (ex:Rd α)(l0:Nat):Prop:=∀ws t r,ex ws=some (t,r)→∃c l k,ws=c++r∧l0≤l∧Ex K av pv l k c t
variable (hav:∀w t,av w=some t→K w=.at)(hpv:∀w k,pv w=some k→K w=.at)
include hav in
theorem zmr {ex:Rd α}(hx:Sou (K:=K) (av:=av) (pv:=pv) ex 0):Sou (K:=K) (av:=av) (pv:=pv) (zbD K av ex) 3:=λws t r h=>by
 unfold zbD at h
 split at h
 ·cases h
 ·rename_i w rr
  split at h
  ·rename_i ew
   split at h
   ·rename_i t2 w2 r2 e
    split at h
    ·rename_i ew2
     cases h
     obtain⟨c,l,k,e1,_,d⟩:=hx _ _ _ e
     exact⟨w::c++[w2],3,k+1,by rw[e1]; simp,Vab _,.shut ew ew2 d⟩
    ·cases h
   ·cases h
  ·cases e:av w with
   | none=>simp[e] at h
   | some t2=>
    rw[e] at h
    cases h
    exact⟨[w],3,0,rfl,Vab _,.atom (hav _ _ e) e⟩
theorem ztj {l k:Nat}{c:List α}{t:Tr}(h:Ex K av pv l k c t):l≤3:=by cases h <;> omega
include hav hpv in
theorem zkg {ex:Rd α}(hx:Sou (K:=K) (av:=av) (pv:=pv) ex 0):Sou (K:=K) (av:=av) (pv:=pv) (za3 K av pv ex) 2:=λws t r h=>by
 unfold za3 at h
 split at h
 ·cases h
 ·rename_i t2 e
  cases h
  obtain⟨c,l,k,e1,l3,d⟩:=zmr hav hx _ _ _ e
  exact⟨c,l,k,e1,by omega,d⟩
 ·rename_i t2 w r2 e
  obtain⟨c,l,k,e1,l3,d⟩:=zmr hav hx _ _ _ e
  have el:l=3:=by have:=ztj d; omega
  subst el
  split at h
  ·rename_i ew
   split at h
   ·cases h
   ·rename_i p r3
    cases e2:pv p with
    | none=>rw[e2] at h; cases h
    | some n=>
     rw[e2] at h
     cases h
     exact⟨c++[w,p],2,k,by rw[e1]; simp,Vab _,.pow ew (hpv _ _ e2) e2 d⟩
  ·cases h
   exact⟨c,3,k,e1,by omega,d⟩
include hav hpv in
theorem znI {ex:Rd α}(hx:Sou (K:=K) (av:=av) (pv:=pv) ex 0):∀(n:Nat) (ws:List α) (t0 t:Tr) (r c:List α) (l k:Nat),zbI K av pv ex n t0 ws=some (t,r)→1≤l→Ex K av pv l k c t0→∃d l' k',ws=d++r∧1≤l'∧Ex K av pv l' k' (c++d) t
 | n,[],t0,t,r,c,l,k,h,hl,d=>by cases n <;> (cases h; exact⟨[],l,k,rfl,hl,by simpa using d⟩)
 | 0,w::ws,t0,t,r,c,l,k,h,hl,d=>by cases h; exact⟨[],l,k,rfl,hl,by simpa using d⟩
 | n+1,w::ws,t0,t,r,c,l,k,h,hl,d=>by
  unfold zbI at h
  split at h
  ·rename_i ew
   split at h
   ·cases h
   ·rename_i t2 r2 e
    obtain⟨c2,l2,k2,e1,hl2,d2⟩:=zkg hav hpv hx _ _ _ e
    obtain⟨d3,l3,k3,e3,hl3,x3⟩:=znI hx n r2 _ t r (c++w::c2) 1 _ h (Vab _) (.tim ew hl hl2 d d2)
    exact⟨w::c2++d3,l3,k3,by rw[e1,e3]; simp,hl3,by simpa using x3⟩
  ·cases h
   exact⟨[],l,k,rfl,hl,by simpa using d⟩
include hav hpv in
theorem zg1 {ex:Rd α}(hx:Sou (K:=K) (av:=av) (pv:=pv) ex 0):Sou (K:=K) (av:=av) (pv:=pv) (zbf K av pv ex) 1:=λws t r h=>by
 unfold zbf at h
 split at h
 ·cases h
 ·rename_i t2 r2 e
  obtain⟨c,l,k,e1,l2,d⟩:=zkg hav hpv hx _ _ _ e
  obtain⟨d3,l3,k3,e3,hl3,x3⟩:=znI hav hpv hx _ _ _ _ _ c l k h (by omega) d
  exact⟨c++d3,l3,k3,by rw[e1,e3]; simp,hl3,x3⟩
include hav hpv in
theorem zop {ex:Rd α}(hx:Sou (K:=K) (av:=av) (pv:=pv) ex 0):∀(n:Nat) (ws:List α) (t0 t:Tr) (r c:List α) (l k:Nat),zbR K av pv ex n t0 ws=some (t,r)→Ex K av pv l k c t0→∃d l' k',ws=d++r∧Ex K av pv l' k' (c++d) t
 | n,[],t0,t,r,c,l,k,h,d=>by cases n <;> (cases h; exact⟨[],l,k,rfl,by simpa using d⟩)
 | 0,w::ws,t0,t,r,c,l,k,h,d=>by cases h; exact⟨[],l,k,rfl,by simpa using d⟩
 | n+1,w::ws,t0,t,r,c,l,k,h,d=>by
  unfold zbR at h
  split at h
  ·cases h
   exact⟨[],l,k,rfl,by simpa using d⟩
  ·rename_i m ew
   split at h
   ·cases h
   ·rename_i t2 r2 e
    obtain⟨c2,l2,k2,e1,hl2,d2⟩:=zg1 hav hpv hx _ _ _ e
    obtain⟨d3,l3,k3,e3,x3⟩:=zop hx n r2 _ t r (c++w::c2) 0 _ h (.sum ew hl2 d d2)
    exact⟨w::c2++d3,l3,k3,by rw[e1,e3]; simp,by simpa using x3⟩
include hav hpv in
theorem zpC {ex:Rd α}(hx:Sou (K:=K) (av:=av) (pv:=pv) ex 0):Sou (K:=K) (av:=av) (pv:=pv) (zcc K av pv ex) 0:=λws t r h=>by
 unfold zcc at h
 split at h
 ·cases h
 ·rename_i t2 r2 e
  obtain⟨c,l,k,e1,l2,d⟩:=zg1 hav hpv hx _ _ _ e
  obtain⟨d3,l3,k3,e3,x3⟩:=zop hav hpv hx _ _ _ _ _ c l k h d
  exact⟨c++d3,l3,k3,by rw[e1,e3]; simp,VaG _,x3⟩
include hav hpv in
theorem zoK:∀f,Sou (K:=K) (av:=av) (pv:=pv) (zei K av pv f) 0
 | 0=>zpC hav hpv λ_ _ _ e=>by cases e
 | f+1=>zpC hav hpv (zoK f)
end
section
variable {α:Type}{K:α→Wd}{av:α→Option Tr}{pv:α→Option Int}
def Nst (K:α→Wd)(x:Wd)(r:List α):Prop:=∀w r',r=w::r'→K w≠x
theorem Nst.nil {x:Wd}:Nst K x []:=λ_ _ e=>by cases e
theorem Nst.cons {x:Wd}{w:α}{r:List α}(h:K w≠x):Nst K x (w::r):=λ_ _ e=>by cases e; exact h
theorem ziz {ex:Rd α}{t:Tr}{r:List α}(h:Nst K .ti r)(n:Nat):zbI K av pv ex n t r=some (t,r):=by
 cases r with
 | nil=>cases n <;> rfl
 | cons w r=>
  cases n with
  | zero=>rfl
  | succ n=>
   unfold zbI
   rw[if_neg (h w r rfl)]
theorem zke {ex:Rd α}{t:Tr}{r:List α}(h:∀w r',r=w::r'→zdh (K w)=none)(n:Nat):zbR K av pv ex n t r=some (t,r):=by
 cases r with
 | nil=>cases n <;> rfl
 | cons w r=>
  cases n with
  | zero=>rfl
  | succ n=>
   unfold zbR
   rw[h w r rfl]
theorem zrA {ex:Rd α}{a w:α}{r r2:List α}{t:Tr}(ha:K a=.lp)(e:ex r=some (t,w::r2))(hb:K w=.rp):zbD K av ex (a::r)=some (t,r2):=by simp[zbD,ha,e,hb]
theorem zfy {ex:Rd α}{c:List α}{t:Tr}(h:∀r,zbD K av ex (c++r)=some (t,r)):∀r,Nst K .ca r→za3 K av pv ex (c++r)=some (t,r):=λr hr=>by
 unfold za3
 rw[h r]
 cases r with
 | nil=>rfl
 | cons w r=>
  show (if K w=.ca then _ else some (t,w::r))=_
  rw[if_neg (hr w r rfl)]
theorem zf5 {ex:Rd α}{c r:List α}{t:Tr}(h:za3 K av pv ex (c++r)=some (t,r)):∃n,r.length≤n∧zbf K av pv ex (c++r)=zbI K av pv ex n t r:=by
 refine⟨(c++r).length,by simp,?_⟩
 unfold zbf
 rw[h]
theorem zkk {ex:Rd α}{c r:List α}{t:Tr}(h:∃n,r.length≤n∧zbf K av pv ex (c++r)=zbI K av pv ex n t r)(hr:Nst K .ti r):∃n,r.length≤n∧zcc K av pv ex (c++r)=zbR K av pv ex n t r:=by
 obtain⟨n,_,e⟩:=h
 refine⟨(c++r).length,by simp,?_⟩
 unfold zcc
 rw[e,ziz hr]
theorem zwr {l k:Nat}{c:List α}{t:Tr}(h:Ex K av pv l k c t):∀f,k≤f→(l=3→∀r,zbD K av (zcr K av pv f) (c++r)=some (t,r))∧(2≤l→∀r,Nst K .ca r→za3 K av pv (zcr K av pv f) (c++r)=some (t,r))∧(1≤l→∀r,Nst K .ca r→∃n,r.length≤n∧zbf K av pv (zcr K av pv f) (c++r)=zbI K av pv (zcr K av pv f) n t r)∧∀r,Nst K .ca r→Nst K .ti r→∃n,r.length≤n∧zcc K av pv (zcr K av pv f) (c++r)=zbR K av pv (zcr K av pv f) n t r:=by
 induction h with
 | @atom w t hw ha=>
  intro f _
  have A:∀r,zbD K av (zcr K av pv f) ([w]++r)=some (t,r):=λr=>by
   show (if K w=.lp then _ else (av w).map λt=>(t,r))=_
   rw[if_neg (by rw[hw]; decide),ha]
   rfl
  exact⟨λ_=>A,λ_=>zfy A,λ_ r hr=>zf5 (zfy A r hr),λr hr ht=>zkk (zf5 (zfy A r hr)) ht⟩
 | @shut a b l k c t ha hb _ ih=>
  intro f hf
  obtain⟨f',rfl⟩:∃f',f=f'+1:=⟨f-1,by omega⟩
  obtain⟨_,_,_,i4⟩:=ih f' (by omega)
  have A:∀r,zbD K av (zcr K av pv (f'+1)) (a::c++[b]++r)=some (t,r):=λr=>by
   have e0:a::c++[b]++r=a::(c++b::r):=by simp
   rw[e0]
   obtain⟨n,_,e⟩:=i4 (b::r) (Nst.cons (by rw[hb]; decide)) (Nst.cons (by rw[hb]; decide))
   have e2:zcr K av pv (f'+1) (c++b::r)=some (t,b::r):=by
    show zei K av pv f' (c++b::r)=_
    rw[zmc,e]
    exact zke (λw r' q=>by cases q; rw[hb]; rfl) n
   exact zrA ha e2 hb
  exact⟨λ_=>A,λ_=>zfy A,λ_ r hr=>zf5 (zfy A r hr),λr hr ht=>zkk (zf5 (zfy A r hr)) ht⟩
 | @pow a p k c t n ha hp hn _ ih=>
  intro f hf
  obtain⟨i1,_⟩:=ih f hf
  have F:∀r,za3 K av pv (zcr K av pv f) (c++[a,p]++r)=some (.pw t n,r):=λr=>by
   have e0:c++[a,p]++r=c++(a::p::r):=by simp
   rw[e0]
   unfold za3
   rw[i1 rfl]
   show (if K a=.ca then _ else _)=_
   rw[if_pos ha]
   show (pv p).map _=_
   rw[hn]
   rfl
  exact⟨λe=>by omega,λ_ r _=>F r,λ_ r _=>zf5 (F r),λr _ ht=>zkk (zf5 (F r)) ht⟩
 | @tim a l m k j c d t s ha hl hm _ _ ih1 ih2=>
  intro f hf
  obtain⟨_,_,i3,_⟩:=ih1 f (by omega)
  obtain⟨_,j2,_,_⟩:=ih2 f (by omega)
  have T:∀r,Nst K .ca r→∃n,r.length≤n∧zbf K av pv (zcr K av pv f) (c++a::d++r)=zbI K av pv (zcr K av pv f) n (.bi 2 t s) r:=λr hr=>by
   have e0:c++a::d++r=c++(a::(d++r)):=by simp
   rw[e0]
   obtain⟨n,hn,e⟩:=i3 hl (a::(d++r)) (Nst.cons (by rw[ha]; decide))
   obtain⟨n',rfl⟩:∃n',n=n'+1:=⟨n-1,by simp at hn; omega⟩
   refine⟨n',by simp at hn; omega,?_⟩
   rw[e]
   show (if K a=.ti then _ else _)=_
   rw[if_pos ha,j2 hm r hr]
  exact⟨λe=>by omega,λe=>by omega,λ_=>T,λr hr ht=>zkk (T r hr) ht⟩
 | @sum a l m k j x c d t s ha hm _ _ ih1 ih2=>
  intro f hf
  obtain⟨_,_,_,i4⟩:=ih1 f (by omega)
  obtain⟨_,_,j3,_⟩:=ih2 f (by omega)
  have n1:K a≠.ca:=λe=>by rw[e] at ha; cases ha
  have n2:K a≠.ti:=λe=>by rw[e] at ha; cases ha
  refine⟨λe=>by omega,λe=>by omega,λe=>by omega,λr hr ht=>?_⟩
  have e0:c++a::d++r=c++(a::(d++r)):=by simp
  rw[e0]
  obtain⟨n,hn,e⟩:=i4 (a::(d++r)) (Nst.cons n1) (Nst.cons n2)
  obtain⟨n',rfl⟩:∃n',n=n'+1:=⟨n-1,by simp at hn; omega⟩
  refine⟨n',by simp at hn; omega,?_⟩
  obtain⟨q,_,e2⟩:=j3 hm r hr
  rw[e]
  show (match zdh (K a) with | none=>_ | some k=>_)=_
  rw[ha]
  dsimp only
  rw[e2,ziz ht]
theorem zrr {l k f:Nat}{c:List α}{t:Tr}(h:Ex K av pv l k c t)(hf:k≤f):zei K av pv f c=some (t,[]):=by
 obtain⟨_,_,_,i4⟩:=zwr h f hf
 obtain⟨n,_,e⟩:=i4 [] Nst.nil Nst.nil
 rw[VaB] at e
 rw[zmc,e]
 exact zke (λw r' q=>by cases q) n
theorem zq5 {a:α}{n:Nat}(h:zdh (K a)=some n):K a=.pl∨K a=.mi:=by
 cases e:K a <;> rw[e] at h <;> first | exact .inl rfl | exact .inr rfl | cases h
end
section
variable {X:Cx}{Z:Zx}{pos:Pos}
@[irreducible] def zfq (C:Addr)(f:Str)(sg:Int→Int→Int)(to te:TDE):TDS:=λE dl S=>to dl S λd S1=>match zb6 C S1 d with
 | some (_,fs)=>match fs.lookup f with
  | some (.int i)=>te dl S1 λy S2=>match y with
   | .int j=>match zb6 C S2 d with
    | some (n,fs2)=>fs2.length<1000∧E.nx dl (S2.set n (.ins C (zaO f (.int (sg i j)) fs2)))
    | none=>False
   | _=>False
  | _=>False
 | none=>False
theorem zoe {op:Operator}{rd:V→V→Hp→VK→Prop}{sg:Int→Int→Int}{C:Addr}{f:Str}{o e:Expr}{to te:TDE}{p2:Pos}(c:Cls X.K C)(n:zbr X.K C f)(hop:ziN X op rd)(hrd:∀i j H Q,Q (.int (sg i j)) H→rd (.int i) (.int j) H Q)(ho:PD X Z o to)(he:PD X Z e te):
  PDS X Z (.AugAssign (.Attribute o f p2) op e pos) (zfq C f sg to te):=
 zb2 (ztE ho he hop) λF σ H ⟨r,dl,S,E,rs,rel,h,ret⟩=>by
  unfold zfq at h
  refine⟨r,dl,S,_,rs,rel,h,λv H1 r1 d S1 e1 rel1 p1 q1=>?_⟩
  split at q1
  ·rename_i m fs ei
   obtain⟨rfl,eS⟩:=zgU ei
   split at q1
   ·rename_i i ef
    obtain⟨a,ha,ob⟩:=rel1.at eS
    obtain⟨dx,fs',eH,fr⟩:=id ob
    cases p1 with
    | ref hr=>
     rw[hr] at ha; cases ha
     obtain⟨u,hu,pu⟩:=fr.lookup.1 _ ef
     cases pu
     refine⟨a,C,dx,fs',_,rfl,eH,c,n,hu,r1,dl,S1,_,rs.ext e1,rel1,q1,λw H2 r2 y S2 e2 rel2 p2' q2=>?_⟩
     split at q2
     ·rename_i j
      cases p2'
      split at q2
      ·rename_i m2 fs2 ei2
       obtain⟨em,eS2⟩:=zgU ei2
       cases em
       obtain⟨hl,q2⟩:=q2
       obtain⟨a2,ha2,ob2⟩:=rel2.at eS2
       obtain⟨dx2,fs2',eH2,fr2⟩:=id ob2
       have hr2:=e2.adr _ _ hr
       rw[hr2] at ha2; cases ha2
       have hlen:fs2'.length=fs2.length:=by
        have:=congrArg List.length fr2.1
        simpa using this.symm
       refine hrd i j _ _ ?_
       obtain⟨rb,x⟩:=rel2.b.setO (o':=.ins C (zaO f (.int (sg i j)) fs2)) (u:=.ins C dx2 (zbv f (.int (sg i j)) fs2')) hr2 eS2 rfl rfl λx=>⟨dx2,_,zbP,(fr2.put (.int _)).ext x⟩
       exact⟨dx2,fs2',eH2,by omega,ret.nx _ _ r2 _ _ (e1.trans (e2.trans x)) (rs.ext (e1.trans (e2.trans x))) ⟨rb,rel2.xw.ext x⟩ q2⟩
      ·exact q2.elim
     ·exact q2.elim
   ·exact q1.elim
  ·exact q1.elim
theorem znH {C:Addr}{f:Str}{o e:Expr}{to te:TDE}{p2:Pos}(c:Cls X.K C)(n:zbr X.K C f)(ho:PD X Z o to)(he:PD X Z e te):PDS X Z (.AugAssign (.Attribute o f p2) .Add e pos) (zfq C f (λi j=>i+j) to te):=zoe c n zv5 (λi j H Q q=>⟨i,j,rfl,rfl,q⟩) ho he
theorem ztB {C:Addr}{f:Str}{o e:Expr}{to te:TDE}{p2:Pos}(c:Cls X.K C)(n:zbr X.K C f)(ho:PD X Z o to)(he:PD X Z e te):PDS X Z (.AugAssign (.Attribute o f p2) .Sub e pos) (zfq C f (λi j=>i-j) to te):=zoe c n zqA (λi j H Q q=>⟨i,j,rfl,rfl,q⟩) ho he
end
def GD (P:Program)(w:World)(K:PySem.W.Frag)(mg:Str→Option Value)(x:Str)(kvs:List (Str×Str)):Prop:=
 ∃(a:Addr) (o:Obj) (vs:List (Key×Value)),mg x=some (.ref a)∧K.lookup a=some o∧(∀h:Heap,h.get? a=some o→h.DictOf (zcg P w) a vs)∧(∀k v,kvs.lookup k=some v→∃t,valueAt vs (.inr k)=some (.str v t))∧(∀k,kvs.lookup k=none→valueAt vs (.inr k)=none)∧(a==sysModules)=false
section
variable {X:Cx}{Z:Zx}{pos:Pos}
def tGetS (kvs:List (Str×Str))(ty:TE):TE:=λσ H Q=>ty σ H λy H1=>∃k v,y=.str k∧kvs.lookup k=some v∧Q (.str v) H1
theorem zqH {x:Str}{i:Expr}{ty:TE}{p:Pos}{kvs:List (Str×Str)}(g:GD X.prog X.w X.K X.mg x kvs)(hg:Gl X x)(hi:PE X i ty)(hs:zgm i)(hd:(x==("__debug__":Str))=false:=by decide):PE X (.Subscript (.Name x p) i pos) (tGetS kvs ty):=by
 intro pins s σ H Q I h
 obtain⟨a,o,vs,hm,hk,hdo,hv,_,_⟩:=g
 refine zoP (T:="dict") PySem.F.slot_dict_getitem.lookup hs (thn (zfs hg hm (v:=.ref a) rfl hd pins s σ H (λx H1=>x=.ref a∧H1=H) I ⟨rfl,rfl⟩) λu s1 ⟨x1,H1,I1,rx,e1,e2⟩=>?_)
 subst e1
 subst e2
 obtain rfl:u=Value.ref a:=rx
 refine thn (hi pins s1 σ H1 _ I1 h) λiv s2 ⟨y,H2,I2,ry,k,v,ey,el,q2⟩=>?_
 subst ey
 have dd:=hdo s2.heap (I2.kIn a o hk)
 obtain⟨t,hw⟩:=hv k v el
 exact⟨dd.typeIs,wpAny_getItem_of (ze1 (k:=.inr k) ry) dd.mapOf hw ⟨.str v,H2,I2.tok _,⟨t,rfl⟩,q2⟩⟩
@[irreducible] def zgc (kvs:List (Str×Str))(te:TDE):TDE:=λdl S Q=>te dl S λd S1=>match d with
 | .str k=>match kvs.lookup k with
  | some v=>Q (.str v) S1
  | none=>False
 | _=>False
theorem zlX {x:Str}{i:Expr}{te:TDE}{p:Pos}{kvs:List (Str×Str)}(g:GD X.prog X.w X.K X.mg x kvs)(hg:Gl X x)(hi:PD X Z i te)(hs:zgm i)(hd:(x==("__debug__":Str))=false:=by decide):PD X Z (.Subscript (.Name x p) i pos) (zgc kvs te):=
 zaK (zqH g hg hi hs hd) λσ H Qv ⟨r,dl,S,Q,rs,rel,h,ret⟩=>by
  unfold zgc at h
  refine⟨r,dl,S,_,rs,rel,h,λv H1 r1 d S1 e1 rel1 p1 q1=>?_⟩
  split at q1
  ·rename_i k
   cases p1
   split at q1
   ·rename_i z ez
    exact⟨k,z,rfl,ez,ret _ H1 r1 (.str z) S1 e1 rel1 (.str z) q1⟩
   ·exact q1.elim
  ·exact q1.elim
end
theorem zov {P:Program}{w:World}{K:PySem.W.Frag}{mg:Str→Option Value}{x k1 k2 v1 v2:Str}{a:Addr}{o:Obj}{t1 t2 u1 u2:Tok}{ep:Nat}(hm:mg x=some (.ref a))(hk:K.lookup a=some o)(ho:o.ExactDict)(hd:o.data=.dict #[⟨zcu w (.inr k1),.str k1 t1,.str v1 u1⟩,⟨zcu w (.inr k2),.str k2 t2,.str v2 u2⟩] ep)(ne:k1≠k2)(hs:(a==sysModules)=false):GD P w K mg x [(k1,v1),(k2,v2)]:=by
 refine⟨a,o,[(.inr k1,.str v1 u1),(.inr k2,.str v2 u2)],hm,hk,λh e=>⟨o,_,ep,e,ho,hd,?_,?_,?_⟩,λk v hl=>?_,λk hl=>?_,hs⟩
 ·intro e he
  simp only[List.mem_toArray,Vaa,Vad,or_false] at he
  rcases he with rfl | rfl
  ·exact⟨.inr k1,zcT P w k1 t1,rfl⟩
  ·exact⟨.inr k2,zcT P w k2 t2,rfl⟩
 ·exact .cons (zcT P w k1 t1) rfl (.cons (zcT P w k2 t2) rfl .nil)
 ·simp[ne]
 ·unfold valueAt
  by_cases c1:k=k1
  ·subst c1
   simp at hl
   subst hl
   exact⟨u1,by simp⟩
  ·by_cases c2:k=k2
   ·subst c2
    rw[Vae,show (k==k1)=false by simpa using c1,Vae] at hl
    simp at hl
    subst hl
    exact⟨u2,by simp[ne]⟩
   ·rw[Vae,show (k==k1)=false by simpa using c1,Vae,show (k==k2)=false by simpa using c2] at hl
    cases hl
 ·unfold valueAt
  by_cases c1:k=k1
  ·subst c1
   simp at hl
  ·by_cases c2:k=k2
   ·subst c2
    rw[Vae,show (k==k1)=false by simpa using c1,Vae] at hl
    simp at hl
   ·simp[Ne.symm c1,Ne.symm c2]
section
variable {X:Cx}{Z:Zx}{pos:Pos}
def tInS (kvs:List (Str×Str))(ty:TE):TE:=λσ H Q=>ty σ H λy H1=>∃k,y=.str k∧Q (.bl (kvs.lookup k).isSome) H1
theorem zvB {x:Str}{i:Expr}{ty:TE}{p:Pos}{kvs:List (Str×Str)}(g:GD X.prog X.w X.K X.mg x kvs)(hg:Gl X x)(hi:PE X i ty)(hd:(x==("__debug__":Str))=false:=by decide):PC X .In i (.Name x p) (tInS kvs ty):=by
 intro pins s σ H Q I h
 obtain⟨a,o,vs,hm,hk,hdo,hv,hn,hs⟩:=g
 refine thn (hi pins s σ H _ I h) λiv s1 ⟨y,H1,I1,ry,k,ey,q1⟩=>?_
 subst ey
 refine thn (zfs hg hm (v:=.ref a) rfl hd pins s1 σ H1 (λx H2=>x=.ref a∧H2=H1) I1 ⟨rfl,rfl⟩) λu s2 ⟨x1,H2,I2,rx,e1,e2⟩=>?_
 subst e1
 subst e2
 obtain rfl:u=Value.ref a:=rx
 have dd:=hdo s2.heap (I2.kIn a o hk)
 refine wpAny_in_of (ze1 (k:=.inr k) ry) hs dd.mapOf ?_
 have e:(valueAt vs (.inr k)).isSome=(kvs.lookup k).isSome:=by
  cases c:kvs.lookup k with
  | none=>rw[hn k c]; rfl
  | some v=>
   obtain⟨t,z⟩:=hv k v c
   rw[z]
   rfl
 rw[e]
 exact⟨.bl (kvs.lookup k).isSome,H2,I2.tok _,rfl,q1⟩
@[irreducible] def zg6 (kvs:List (Str×Str))(te:TDE):TDE:=λdl S Q=>te dl S λd S1=>match d with
 | .str k=>Q (.bl (kvs.lookup k).isSome) S1
 | _=>False
theorem zsR {kvs:List (Str×Str)}{te:TDE}{σ:L3.St}{H:Hp}{Qv:VK}(h:up X.K Z (zg6 kvs te) σ H Qv):tInS kvs (up X.K Z te) σ H Qv:=by
 obtain⟨r,dl,S,Q,rs,rel,h,ret⟩:=h
 unfold zg6 at h
 refine⟨r,dl,S,_,rs,rel,h,λv H1 r1 d S1 e1 rel1 p1 q1=>?_⟩
 split at q1
 ·rename_i k
  cases p1
  exact⟨k,rfl,ret _ H1 r1 (.bl _) S1 e1 rel1 (.bl _) q1⟩
 ·exact q1.elim
theorem zsI {x:Str}{i:Expr}{te:TDE}{p:Pos}{kvs:List (Str×Str)}(g:GD X.prog X.w X.K X.mg x kvs)(hg:Gl X x)(hi:PD X Z i te)(hm:behindInMarks .In (.Name x p)=false:=by rfl)(hd:(x==("__debug__":Str))=false:=by decide):PDT X Z (.Compare i [.In] [.Name x p] pos) (zcR (zg6 kvs te)):=
 ze0 (zkt (zvB g hg hi hd) hm) λσ H Qb ⟨r,dl,S,Q,rs,rel,h,ret⟩=>zsR ⟨r,dl,S,_,rs,rel,h,zgh ret⟩
theorem zm6 {kvs:List (Str×Str)}{te:TDE}{dl:Ev}{S S1:Sto}{Q:DK}{k:Str}(hte:∀K:DK,K (.str k) S1→te dl S K)(hq:Q (.bl (kvs.lookup k).isSome) S1):zg6 kvs te dl S Q:=by
 unfold zg6
 exact hte _ hq
end
section
variable {X:Cx}{Z:Zx}{pos:Pos}
def dGlbT (ws:List Str):TDE:=λ_ S Q=>Q (.ref S.length) (S++[.tpl ws])
theorem zve {x:Str}{ws:List Str}{p:Pos}(hG:GT X.K X.mg x ws)(hg:Gl X x)(hd:(x==("__debug__":Str))=false:=by decide):PD X Z (.Name x p) (dGlbT ws):=by
 obtain⟨b,o,its,n,hm,hk,hc,hdt,hz,hv⟩:=hG
 refine zaK (zfs (v:=.ref b) hg hm rfl hd) λσ H Qv ⟨r,dl,S,Q,rs,rel,h,ret⟩=>?_
 obtain⟨rb,x⟩:=rel.b.pushF (p:=b) (o:=.tpl ws) rfl ⟨o,its,n,hk,hc,hdt,hz,hv⟩
 exact ret (.ref b) H (r++[b]) (.ref S.length) _ x ⟨rb,rel.xw.ext x⟩ (zcQ rel.len) h
def zfI:W2:=λx y S Q=>match y with
 | .tup ys=>match zb1 (eqN 0) ys x with
  | some b=>Q (.bl b) S
  | none=>False
 | .ref n=>match x with
  | .str w=>match S[n]? with
   | some (.tpl ws)=>Q (.bl (ws.any (·==w))) S
   | _=>False
  | _=>False
 | _=>False
theorem zsi {j:Nat}(hr:zaE j X.A):OpR X (compareOp .In) (upO X.K Z (zbT zfI)):=by
 rw[zca]
 intro pins s σ H x y v u Qv I rx ry h
 obtain⟨r,S,dx,dy,Q,rel,px,py,q,ret⟩:=h
 cases py with
 | tup e1 l1 f1=>exact zoJ (k:=0) hr (by decide) pins s σ H x _ v u Qv I rx ry ⟨r,S,dx,_,Q,rel,px,.tup e1 l1 f1,q,ret⟩
 | @ref n a hn=>
  unfold zfI at q
  dsimp only at q
  split at q
  ·rename_i w
   cases px
   split at q
   ·rename_i ws eS
    obtain⟨a',ha',o,its,m,hk,hc,hdt,hz,hv⟩:=rel.at eS
    rw[hn] at ha'; cases ha'
    refine zun pins s σ H _ _ v u Qv I rx ry ⟨a,ws.map V.str,rfl,.inr (.inr ⟨o,its,m,hk,hc,hdt,hz,hv⟩),rfl,zlO ws,?_⟩
    show Qv (.bl (inV (.str w) (ws.map V.str))) H
    rw[zlV]
    exact ret _ H r (.bl _) S Ext.refl rel (.bl _) q
   ·exact q.elim
  ·exact q.elim
 | _=>exact(show False from q).elim
theorem zrh {S:Sto}{Q:DK}{ws:List Str}{w:Str}(h:Q (.bl (ws.any (·==w))) S):zbT zfI (.str w) (.tup (ws.map D.str)) S Q:=by
 rw[zca]
 unfold zfI
 dsimp only
 have e:∀ws:List Str,zb1 (eqN 0) (ws.map D.str) (.str w)=some (ws.any (·==w)):=λws=>zls ..
 rw[e]
 exact h
theorem zt8 {S:Sto}{Q:DK}{n:Nat}{ws:List Str}{w:Str}(hn:S[n]?=some (.tpl ws))(h:Q (.bl (ws.any (·==w))) S):zbT zfI (.str w) (.ref n) S Q:=by
 rw[zca]
 unfold zfI
 dsimp only
 rw[hn]
 exact h
end
def _root_.L3.Df.vac {P:Program}{w:World}{K:PySem.W.Frag}{mg:Str→Option Value}{base:Heap}{x:Str}{st:Stmt}{ps:List Str}{sd:Sd}(d:Df K mg x st ps)(k:Nat)(hv:∀ds S Q ex,sd ds S Q ex→False):Fk P w K mg base k x ps sd:=
 ⟨d.f,d.fd,⟨λ_ _ _ _ ⟨_,_,_,_,_,_,_,z,_⟩=>(hv _ _ _ _ z).elim,λ_ _ _ _ _ _ _ _ _ _ _ _ _ ⟨_,_,_,_,_,_,_,z,_⟩=>(hv _ _ _ _ z).elim⟩,d.m,d.F.kp,d.b⟩
def _root_.L3.Dm.vac {P:Program}{w:World}{K:PySem.W.Frag}{mg:Str→Option Value}{base:Heap}{C:Addr}{x qual:Str}{st:Stmt}{ps:List Str}{sd:Sd}(d:Dm K C x qual st ps)(k:Nat)(hv:∀ds S Q ex,sd ds S Q ex→False):Fm P w K mg base k C x ps sd:=
 ⟨d.f,d.fd,⟨λ_ _ _ _ ⟨_,_,_,_,_,_,_,z,_⟩=>(hv _ _ _ _ z).elim,λ_ _ _ _ _ _ _ _ _ _ _ _ _ ⟨_,_,_,_,_,_,_,z,_⟩=>(hv _ _ _ _ z).elim⟩,d.m,d.b⟩
def trD:Tr→D
 | .nm w=>.tup [.str "name",.str (mk w)]
 | .nb t b=>.tup [.str "number",.int t,.int b]
 | .pw t k=>.tup [.str "power",trD t,.int k]
 | .bi 0 l r=>.tup [.str "plus",trD l,trD r]
 | .bi 1 l r=>.tup [.str "minus",trD l,trD r]
 | .bi _ l r=>.tup [.str "times",trD l,trD r]
def kS (w:Str):Wd:=if w="(" then .lp else if w=")" then .rp else if w="+" then .pl else if w="-" then .mi else if w="*" then .ti else if w="^" then .ca else .at
def POW:List Str:=["2","3","4","5","6"]
def pvS (w:Str):Option Int:=if w="2" then some 2 else if w="3" then some 3 else if w="4" then some 4 else if w="5" then some 5 else if w="6" then some 6 else none
open Classical in
noncomputable def avS (w:Str):Option Tr:=if zaG w=true then some (.nm (cs w)) else if h:∃t b:Int,zaZ (cs w) t b then some (.nb h.choose h.choose_spec.choose) else none
noncomputable abbrev exS (f:Nat):Rd Str:=zei kS avS pvS f
noncomputable abbrev inS (f:Nat):Rd Str:=zcr kS avS pvS f
def rdF (wm:Nat)(p d:Int):List (Str×D):=[("words",.ref wm),("place",.int p),("depth",.int d)]
structure za7 (C:Addr)(S:Sto)(n wm:Nat)(ws:List Str)(p d:Nat):Prop where
 rd:S[n]?=some (.ins C (rdF wm (p:Int) (d:Int)))
 wd:S[wm]?=some (.lst (ws.map D.str))
 pl:p≤ws.length
 ln:ws.length≤900
 wl:∀w∈ws,w.length≤900
def zaT (n:Nat)(S T:Sto):Prop:=n<T.length∧∀(x:Nat) (o:Ob),x≠n→S[x]?=some o→T[x]?=some o
theorem zaT.refl {n:Nat}{S:Sto}(h:n<S.length):zaT n S S:=⟨h,λ_ _ _ e=>e⟩
theorem zaT.trans {n:Nat}{S T U:Sto}(a:zaT n S T)(b:zaT n T U):zaT n S U:=⟨b.1,λx o ne e=>b.2 x o ne (a.2 x o ne e)⟩
theorem zaT.set {n:Nat}{S T:Sto}(a:zaT n S T)(o:Ob):zaT n S (T.set n o):=⟨by rw[List.length_set]; exact a.1,λx u ne e=>by rw[VaJ (Ne.symm ne)]; exact a.2 x u ne e⟩
theorem zaT.app {n:Nat}{S T:Sto}(a:zaT n S T)(U:Sto):zaT n S (T++U):=⟨by rw[Vag]; have:=a.1; omega,λx u ne e=>by
 have z:=a.2 x u ne e
 rw[Vah (Vac.mp z).1]
 exact z⟩
theorem zlz {C:Addr}{f:Str}{sg:Int→Int→Int}{to te:TDE}{dl:Ev}{S S1 S2:Sto}{E:zbM}{n:Nat}{fs fs2:List (Str×D)}{i j:Int}(hto:∀K:DK,K (.ref n) S1→to dl S K)(h1:S1[n]?=some (.ins C fs))(hf:fs.lookup f=some (.int i))(hte:∀K:DK,K (.int j) S2→te dl S1 K)(h2:S2[n]?=some (.ins C fs2))(hl:fs2.length<1000)(hq:E.nx dl (S2.set n (.ins C (zaO f (.int (sg i j)) fs2)))):zfq C f sg to te E dl S:=by
 unfold zfq
 refine hto _ ?_
 simp only[zb6,h1,if_pos,hf]
 refine hte _ ?_
 simp only[h2,if_pos]
 exact⟨hl,hq⟩
theorem zmj (T:Sto)(u v:Ob):(T++[u]).set T.length v=T++[v]:=by simp
theorem za7.ne {C:Addr}{S:Sto}{n wm p d:Nat}{ws:List Str}(h:za7 C S n wm ws p d):wm≠n:=λe=>by
 have a:=h.wd
 rw[e,h.rd] at a
 cases a
theorem za7.lt {C:Addr}{S:Sto}{n wm p d:Nat}{ws:List Str}(h:za7 C S n wm ws p d):n<S.length:=(Vac.mp h.rd).1
theorem za7.put {C:Addr}{S:Sto}{n wm p d:Nat}{ws:List Str}(h:za7 C S n wm ws p d){p' d':Nat}(pi di:Int)(hp:pi=(p':Int))(hd:di=(d':Int))(l:p'≤ws.length):za7 C (S.set n (.ins C (rdF wm pi di))) n wm ws p' d'∧zaT n S (S.set n (.ins C (rdF wm pi di))):=by
 subst hp
 subst hd
 refine⟨⟨?_,?_,l,h.ln,h.wl⟩,(zaT.refl h.lt).set _⟩
 ·rw[VaV h.lt]
 ·rw[VaJ (Ne.symm h.ne)]
  exact h.wd
theorem za7.app {C:Addr}{S:Sto}{n wm p d:Nat}{ws:List Str}(h:za7 C S n wm ws p d)(U:Sto):za7 C (S++U) n wm ws p d∧zaT n S (S++U):=by
 refine⟨⟨?_,?_,h.pl,h.ln,h.wl⟩,(zaT.refl h.lt).app U⟩
 ·rw[Vah h.lt]; exact h.rd
 ·rw[Vah (Vac.mp h.wd).1]; exact h.wd
theorem zcG {ws:List Str}{p:Nat}(lp:p<ws.length):atI (ws.map D.str) (p:Int)=some (.str ws[p]):=zdM (j:=p) (by rw[Vao,Vaw lp]; rfl)
theorem zc8 (w:Str)(t:Tr)(h:avS w=some t):kS w=.at:=by
 have bad:∀x:Str,zaG x=false→Bad (cs x)→avS x=none:=λx a b=>by
  unfold avS
  rw[if_neg (by rw[a]; decide),dif_neg λ⟨t,q,z⟩=>b t q z]
 have no:∀x:Str,avS x=none→w≠x:=λx e z=>by rw[z,e] at h; cases h
 have b1:avS "("=none:=bad _ (by decide) (zcO (c:=40) (by decide) (by decide))
 have b2:avS ")"=none:=bad _ (by decide) (zcO (c:=41) (by decide) (by decide))
 have b3:avS "+"=none:=bad _ (by decide) (zcO (c:=43) (by decide) (by decide))
 have b4:avS "*"=none:=bad _ (by decide) (zcO (c:=42) (by decide) (by decide))
 have b5:avS "^"=none:=bad _ (by decide) (zcO (c:=94) (by decide) (by decide))
 have b6:avS "-"=none:=bad _ (by decide) (by
  rw[show cs ("-":Str)=[45] by decide]
  exact zfH (by decide) λt _=>zug t)
 unfold kS
 rw[if_neg (no _ b1),if_neg (no _ b2),if_neg (no _ b3),if_neg (no _ b6),if_neg (no _ b4),if_neg (no _ b5)]
theorem zeP (w:Str)(k:Int)(h:pvS w=some k):kS w=.at:=by
 unfold pvS at h
 by_cases c2:w="2"
 ·rw[c2]; decide
 by_cases c3:w="3"
 ·rw[c3]; decide
 by_cases c4:w="4"
 ·rw[c4]; decide
 by_cases c5:w="5"
 ·rw[c5]; decide
 by_cases c6:w="6"
 ·rw[c6]; decide
 rw[if_neg c2,if_neg c3,if_neg c4,if_neg c5,if_neg c6] at h
 cases h
theorem zwD {α:Type}(A r:List α):(A++r).drop ((A++r).length-r.length)=r∧r.length≤(A++r).length:=by
 rw[Vag,Nat.add_sub_cancel]
 exact⟨List.drop_left,by omega⟩
theorem zeu {ex:Rd Str}{l:Nat}(hx:Sou (K:=kS) (av:=avS) (pv:=pvS) ex l){ws:List Str}{p:Nat}{t:Tr}{r:List Str}(h:ex (ws.drop p)=some (t,r)):ws.drop (ws.length-r.length)=r∧r.length≤ws.length:=by
 obtain⟨c,_,_,e,_⟩:=hx _ _ _ h
 have z:ws=(ws.take p++c)++r:=by
  rw[VaA,← e]
  exact(List.take_append_drop p ws).symm
 have y:=zwD (ws.take p++c) r
 rw[← z] at y
 exact y
theorem zlL (f:Nat):Sou (K:=kS) (av:=avS) (pv:=pvS) (exS f) 0:=zoK zc8 zeP f
theorem zfx (f:Nat):Sou (K:=kS) (av:=avS) (pv:=pvS) (inS f) 0:=by
 cases f with
 | zero=>exact λ_ _ _ e=>by cases e
 | succ f=>exact zlL f
theorem znt (w:Str):kS w=.lp↔w="(":=by
 unfold kS
 constructor
 ·intro h
  (repeat' split at h) <;> first | assumption | cases h
 ·rintro rfl
  decide
theorem zoE (w:Str):kS w=.rp↔w=")":=by
 unfold kS
 constructor
 ·intro h
  (repeat' split at h) <;> first | assumption | cases h
 ·rintro rfl
  decide
theorem zl6 (w:Str):kS w=.ti↔w="*":=by
 unfold kS
 constructor
 ·intro h
  (repeat' split at h) <;> first | assumption | cases h
 ·rintro rfl
  decide
theorem zmL (w:Str):kS w=.ca↔w="^":=by
 unfold kS
 constructor
 ·intro h
  (repeat' split at h) <;> first | assumption | cases h
 ·rintro rfl
  decide
theorem zoV (w:Str):kS w=.pl↔w="+":=by
 unfold kS
 constructor
 ·intro h
  (repeat' split at h) <;> first | assumption | cases h
 ·rintro rfl
  decide
theorem zmR (w:Str):kS w=.mi↔w="-":=by
 unfold kS
 constructor
 ·intro h
  (repeat' split at h) <;> first | assumption | cases h
 ·rintro rfl
  decide
theorem txNe {a b:Str}{S:Sto}{Q:DK}(h:Q (.bl (!decide (a=b))) S):wNe eq2 (.str a) (.str b) S Q:=h
theorem txEq {a b:Str}{S:Sto}{Q:DK}(h:Q (.bl (decide (a=b))) S):wEq eq2 (.str a) (.str b) S Q:=h
noncomputable def brS (f:Nat)(r:List Str):Option (Tr×List Str):=match inS f r with
 | some (t,w2::r2)=>if kS w2=Wd.rp then some (t,r2) else none
 | _=>none
theorem zsK {f:Nat}{w:Str}{r:List Str}(h:w="("):zbD kS avS (inS f) (w::r)=brS f r:=by
 show (if kS w=.lp then _ else _)=_
 rw[if_pos ((znt w).mpr h)]
 unfold brS
 cases inS f r with
 | none=>rfl
 | some x=>
  obtain⟨t,l⟩:=x
  cases l <;> rfl
theorem zvp {f:Nat}{w:Str}{r:List Str}(h:w≠"("):zbD kS avS (inS f) (w::r)=(avS w).map λt=>(t,r):=by
 show (if kS w=.lp then _ else _)=_
 rw[if_neg λz=>h ((znt w).mp z)]
theorem zgF {w:Str}(h:zaG w=true):avS w=some (.nm (cs w)):=by
 unfold avS
 rw[if_pos h]
theorem zm4 {w:Str}(h:zaG w=false){t b:Int}(hn:zaZ (cs w) t b):avS w=some (.nb t b):=by
 unfold avS
 have z:∃t b:Int,zaZ (cs w) t b:=⟨t,b,hn⟩
 rw[if_neg (by rw[h]; decide),dif_pos z]
 obtain⟨e1,e2⟩:=zaZ.one z.choose_spec.choose_spec hn
 exact congrArg some (by rw[Tr.nb.injEq]; exact⟨e1,e2⟩)
theorem zn9 {w:Str}(h:zaG w=false)(hn:Bad (cs w)):avS w=none:=by
 unfold avS
 rw[if_neg (by rw[h]; decide),dif_neg λ⟨t,b,z⟩=>hn t b z]
theorem ztd {i:Nat}{a b:Str}{t u v:TDS}{E:zbM}{dl:Ev}{S:Sto}(hv:dl[i]?=some (some (.str a)))(h1:a=b→zbp t v E dl S)(h2:a≠b→zbp u v E dl S):zbp (dIf (zcR (dOp (wEq eq2) (zb9 i) (dC (.str b)))) t u) v E dl S:=by
 unfold zbp dIf zcR dOp zb9 dC
 rw[hv]
 dsimp only
 refine txEq ?_
 by_cases c:a=b
 ·rw[decide_eq_true c]
  exact h1 c
 ·rw[decide_eq_false c]
  exact h2 c
section
variable {ex:Rd Str}{ws r:List Str}{t:Tr}{w p:Str}
theorem zsA (h:zbD kS avS ex ws=none):za3 kS avS pvS ex ws=none:=by simp[za3,h]
theorem zsj (h:zbD kS avS ex ws=some (t,[])):za3 kS avS pvS ex ws=some (t,[]):=by simp[za3,h]
theorem ztD (h:zbD kS avS ex ws=some (t,w::r))(c:w≠"^"):za3 kS avS pvS ex ws=some (t,w::r):=by simp[za3,h,zmL,c]
theorem zsm (h:zbD kS avS ex ws=some (t,[w]))(c:w="^"):za3 kS avS pvS ex ws=none:=by simp[za3,h,zmL,c]
theorem zrW (h:zbD kS avS ex ws=some (t,w::p::r))(c:w="^"):za3 kS avS pvS ex ws=(pvS p).map λk=>(.pw t k,r):=by simp[za3,h,zmL,c]
end
theorem zv2 (p:Str):(POW.any λx=>x==p)=(pvS p).isSome:=by
 unfold pvS POW
 by_cases c2:p="2"
 ·rw[c2]; decide
 by_cases c3:p="3"
 ·rw[c3]; decide
 by_cases c4:p="4"
 ·rw[c4]; decide
 by_cases c5:p="5"
 ·rw[c5]; decide
 by_cases c6:p="6"
 ·rw[c6]; decide
 rw[if_neg c2,if_neg c3,if_neg c4,if_neg c5,if_neg c6]
 simp[Ne.symm c2,Ne.symm c3,Ne.symm c4,Ne.symm c5,Ne.symm c6]
theorem zsZ {p:Str}{k:Int}(h:pvS p=some k):PySem.intText? p=some k∧p.length≤640:=by
 unfold pvS at h
 by_cases c2:p="2"
 ·rw[if_pos c2] at h; cases h; rw[c2]; exact⟨by decide +kernel,by decide⟩
 rw[if_neg c2] at h
 by_cases c3:p="3"
 ·rw[if_pos c3] at h; cases h; rw[c3]; exact⟨by decide +kernel,by decide⟩
 rw[if_neg c3] at h
 by_cases c4:p="4"
 ·rw[if_pos c4] at h; cases h; rw[c4]; exact⟨by decide +kernel,by decide⟩
 rw[if_neg c4] at h
 by_cases c5:p="5"
 ·rw[if_pos c5] at h; cases h; rw[c5]; exact⟨by decide +kernel,by decide⟩
 rw[if_neg c5] at h
 by_cases c6:p="6"
 ·rw[if_pos c6] at h; cases h; rw[c6]; exact⟨by decide +kernel,by decide⟩
 rw[if_neg c6] at h
 cases h
theorem zmx {ws r:List Str}{w:Str}(h:ws.drop (ws.length-(r.length+1))=w::r)(l:r.length+1≤ws.length):ws.drop (ws.length-r.length)=r:=by
 have z:=congrArg List.tail h
 rw[List.tail_drop] at z
 rw[show ws.length-r.length=ws.length-(r.length+1)+1 by omega]
 exact z
section
variable {ex:Rd Str}{ws r r2:List Str}{t t2:Tr}{w p:Str}{n k:Nat}
theorem zwg (h:za3 kS avS pvS ex ws=none):zbf kS avS pvS ex ws=none:=by simp[zbf,h]
theorem ztR (h:za3 kS avS pvS ex ws=some (t,r)):zbf kS avS pvS ex ws=zbI kS avS pvS ex ws.length t r:=by simp[zbf,h]
theorem zvG (c:w="*")(h:za3 kS avS pvS ex r=none):zbI kS avS pvS ex (n+1) t (w::r)=none:=by simp[zbI,zl6,c,h]
theorem zrt (c:w="*")(h:za3 kS avS pvS ex r=some (t2,r2)):zbI kS avS pvS ex (n+1) t (w::r)=zbI kS avS pvS ex n (.bi 2 t t2) r2:=by simp[zbI,zl6,c,h]
theorem zuV (h:zbf kS avS pvS ex ws=none):zcc kS avS pvS ex ws=none:=by simp[zcc,h]
theorem zvj (h:zbf kS avS pvS ex ws=some (t,r)):zcc kS avS pvS ex ws=zbR kS avS pvS ex ws.length t r:=by simp[zcc,h]
theorem zpI (c:zdh (kS w)=some k)(h:zbf kS avS pvS ex r=none):zbR kS avS pvS ex (n+1) t (w::r)=none:=by simp[zbR,c,h]
theorem znu (c:zdh (kS w)=some k)(h:zbf kS avS pvS ex r=some (t2,r2)):zbR kS avS pvS ex (n+1) t (w::r)=zbR kS avS pvS ex n (.bi k t t2) r2:=by simp[zbR,c,h]
end
theorem zhC {f:Nat}{ws:List Str}{t:Tr}{r:List Str}(h:inS f ws=some (t,r)):r.length<ws.length:=by
 cases f with
 | zero=>cases h
 | succ f=>exact zmJ f h
theorem zlH {kvs:List (Str×Str)}{te:TDE}{dl:Ev}{S:Sto}{Q:DK}(h:te dl S λd S1=>match d with | .str k=>(match kvs.lookup k with | some v=>Q (.str v) S1 | none=>False) | _=>False):zgc kvs te dl S Q:=by
 unfold zgc
 exact h
theorem ztW {w:Str}(h1:w≠"+")(h2:w≠"-"):zdh (kS w)=none:=by
 cases e:kS w with
 | pl=>exact absurd ((zoV w).mp e) h1
 | mi=>exact absurd ((zmR w).mp e) h2
 | _=>rfl
noncomputable def trS (ws:List Str):Option Tr:=if 120<ws.length then none else match exS 16 ws with
 | some (t,[])=>some t
 | _=>none
theorem ztG {ws:List Str}(l:¬ 120<ws.length)(e:exS 16 ws=none):trS ws=none:=by unfold trS; rw[if_neg l,e]
theorem zox {ws:List Str}{t:Tr}(l:¬ 120<ws.length)(e:exS 16 ws=some (t,[])):trS ws=some t:=by unfold trS; rw[if_neg l,e]
theorem zsC {ws:List Str}{t:Tr}{w:Str}{r:List Str}(l:¬ 120<ws.length)(e:exS 16 ws=some (t,w::r)):trS ws=none:=by unfold trS; rw[if_neg l,e]
abbrev exP (l k:Nat)(ws:List Str)(t:Tr):Prop:=Ex kS avS pvS l k ws t
theorem zbs {S T:Sto}(p:Pre S T)(U:Sto):Pre S (T++U):=λx o e=>zam (p x o e)
theorem zrU {v:Int}(h:2≤v∧v≤6):pvS (mk (num v))=some v∧(mk (num v)).length≤600:=by
 have c:v=2∨v=3∨v=4∨v=5∨v=6:=by omega
 rcases c with rfl | rfl | rfl | rfl | rfl <;> exact⟨by decide +kernel,by decide +kernel⟩
theorem zps {v:Int}(h:2≤v∧v≤6):v.natAbs.log2<1920:=by
 have c:v=2∨v=3∨v=4∨v=5∨v=6:=by omega
 rcases c with rfl | rfl | rfl | rfl | rfl <;> decide +kernel
def Tr.dp:Tr→Nat
 | .nm _=>0
 | .nb _ _=>0
 | .pw t _=>t.dp+1
 | .bi _ l r=>max l.dp r.dp+1
def NOAT:List Str:=["grid","let","in","islands","abcdefghi","1234567890","2/4","-0","007","1/1","1/1234567890","x2","X","","0/3","--1"]
theorem zsh (w:Str)(h:w∈NOAT):avS w=none∧kS w=.at∧w.length≤20:=by
 have one:∀x:Str,zaG x=false→Bad (cs x)→kS x=.at→x.length≤20→w=x→avS w=none∧kS w=.at∧w.length≤20:=λx a b c d e=>by
  subst e
  exact⟨zn9 a b,c,d⟩
 unfold NOAT at h
 simp only[Vaa,Vad,or_false] at h
 rcases h with h | h | h | h | h | h | h | h | h | h | h | h | h | h | h | h
 ·exact one _ (by decide) (zcO (c:=103) (by decide) (by decide)) (by decide) (by decide) h
 ·exact one _ (by decide) (zcO (c:=108) (by decide) (by decide)) (by decide) (by decide) h
 ·exact one _ (by decide) (zcO (c:=105) (by decide) (by decide)) (by decide) (by decide) h
 ·exact one _ (by decide) (zcO (c:=105) (by decide) (by decide)) (by decide) (by decide) h
 ·exact one _ (by decide) (zcO (c:=97) (by decide) (by decide)) (by decide) (by decide) h
 ·refine one _ (by decide) ?_ (by decide) (by decide) h
  refine zfH (by decide) λt ht e=>?_
  have hl:=congrArg List.length e
  rw[show (cs ("1234567890":Str)).length=10 by decide] at hl
  by_cases c:t<0
  ·rw[zl7 c] at e
   rw[show cs ("1234567890":Str)=49::[50,51,52,53,54,55,56,57,48] by decide] at e
   cases e
  ·rw[zfg (by omega)] at hl
   have:=zeT (m:=t.natAbs) (k:=9) (by decide) ht
   omega
 ·refine one _ (by decide) ?_ (by decide) (by decide) h
  rw[show cs ("2/4":Str)=num (1*2)++47::num (2*2) by decide +kernel]
  exact zp6 (by decide) (by decide)
 ·refine one _ (by decide) ?_ (by decide) (by decide) h
  exact zfH (by decide) λt _=>zqP [] t
 ·refine one _ (by decide) ?_ (by decide) (by decide) h
  exact zfH (by decide) λt _=>zwx (r:=[48,55]) (by decide) t
 ·refine one _ (by decide) ?_ (by decide) (by decide) h
  rw[show cs ("1/1":Str)=[49]++47::[49] by decide]
  refine zwk (by decide) λb hb e=>?_
  have z:b=1:=zeU (e.trans (show ([49]:List Nat)=num 1 by decide +kernel))
  omega
 ·refine one _ (by decide) ?_ (by decide) (by decide) h
  rw[show cs ("1/1234567890":Str)=[49]++47::num 1234567890 by decide +kernel]
  intro t b n
  obtain⟨_,e,_⟩:=n.split (by decide)
  have z:=zeU e
  have y:=n.bot
  omega
 ·exact one _ (by decide) (zcO (c:=120) (by decide) (by decide)) (by decide) (by decide) h
 ·exact one _ (by decide) (zcO (c:=88) (by decide) (by decide)) (by decide) (by decide) h
 ·refine one _ (by decide) ?_ (by decide) (by decide) h
  exact zfH (by decide) λt _=>zwR t
 ·refine one _ (by decide) ?_ (by decide) (by decide) h
  rw[show cs ("0/3":Str)=num (0*3)++47::num (1*3) by decide +kernel]
  exact zp6 (by decide) (by decide)
 ·refine one _ (by decide) ?_ (by decide) (by decide) h
  exact zfH (by decide) λt _=>zvF [49] t
theorem zmW {w:Str}(h:zaG w=true):exP 3 0 [w] (.nm (cs w)):=Ex.atom (zc8 _ _ (zgF h)) (zgF h)
theorem zmu {l k:Nat}{c:List Str}{t:Tr}(h:exP l k c t)(hk:k≤16)(hl:c.length≤120):trS c=some t:=zox (by omega) (zrr h hk)
theorem zwi {is:List Nat}{ta:TDA}{tb:TDS}{E:zbM}{dl:Ev}{S S1:Sto}{n:Nat}{xs:List D}(W:Nat→Ev→Sto→Prop)(hta:∀K:List D→Sto→Prop,K [.ref n] S1→ta dl S K)(hk:∀k dl' S',W k dl' S'→S'[n]?=some (.lst xs))(h0:W 0 dl S1)
  (hb:∀(k:Nat) (x:D) (dl':Ev) (S':Sto) (nx ct:Ev→Sto→Prop),xs[k]?=some x→W k dl' S'→(∀dl2 S2,W (k+1) dl2 S2→nx dl2 S2)→tb { nx:=nx,rt:=E.rt,bk:=E.nx,ct:=ct } (zh8 is [.int (k:Int),x] dl') S')(he:∀dl' S',W xs.length dl' S'→E.nx dl' S'):zlk is ta tb E dl S:=by
 unfold zlk
 refine hta _ ⟨by rw[zbd (hk _ _ _ h0) rfl]; rfl,λk m dl' S'=>W k dl' S'∧k+m=xs.length,⟨xs.length,h0,by omega⟩,?_⟩
 rintro k m dl' S' ⟨w,hm⟩
 rw[zbd (hk _ _ _ w) rfl]
 dsimp only[zan]
 split
 ·rename_i x e1
  have l1:=(Vac.mp e1).1
  exact hb k x dl' S' _ _ e1 w (λdl2 S2 w2=>⟨m-1,by omega,w2,by omega⟩)
 ·rename_i e1
  have l1:=List.getElem?_eq_none_iff.mp e1
  have ek:k=xs.length:=by omega
  exact⟨ek,he _ _ (ek ▸ w)⟩
theorem zeH {a b:TDS}{E:zbM}{dl:Ev}{S:Sto}(W:Ev→Sto→Prop)(ha:∀nx:Ev→Sto→Prop,(∀dl' S',W dl' S'→nx dl' S')→a { nx:=nx,rt:=E.rt,bk:=E.bk,ct:=E.ct } dl S)(hb:∀dl' S',W dl' S'→b E dl' S'):zbp a b E dl S:=ha _ hb
theorem zmC {a b c d:TDS}{E:zbM}{dl:Ev}{S:Sto}(W:Ev→Sto→Prop)(ha:∀nx:Ev→Sto→Prop,(∀dl' S',W dl' S'→nx dl' S')→zbp a (zbp b c) { nx:=nx,rt:=E.rt,bk:=E.bk,ct:=E.ct } dl S)(hb:∀dl' S',W dl' S'→d E dl' S'):zbp a (zbp b (zbp c d)) E dl S:=ha _ hb
theorem zvu (xs:List D)(c:Nat):za4 xs none (some (c:Int))=xs.take c:=by
 unfold L3.za4
 rw[HT.sIx_nat,HT.sIx_none,List.drop_zero,Nat.sub_zero]
 by_cases h:c≤xs.length
 ·rw[Nat.min_eq_left h]
 ·rw[Nat.min_eq_right (by omega),List.take_of_length_le (Nat.le_of_eq rfl),List.take_of_length_le (by omega)]
theorem zup (xs:List D)(c:Nat):za4 xs (some (c:Int)) none=xs.drop c:=by
 unfold L3.za4
 rw[HT.sIx_nat,HT.sIx_none]
 by_cases h:c≤xs.length
 ·rw[Nat.min_eq_left h]
  exact List.take_of_length_le (by rw[List.length_drop]; exact Vab _)
 ·rw[VaY (by omega),VaY (by omega)]
  simp
theorem zw9 (xs:List D)(a b:Nat):(za4 xs (some (a:Int)) (some (b:Int))).length≤b-a:=by
 unfold L3.za4
 rw[HT.sIx_nat,HT.sIx_nat,VaK,List.length_drop]
 omega
theorem cw_to (ws:List Str)(a:Nat):za4 (ws.map D.str) none (some (a:Int))=(ws.take a).map D.str:=by rw[zvu,List.map_take]
theorem zlC (ws:List Str)(a:Nat):za4 (ws.map D.str) (some (a:Int)) none=(ws.drop a).map D.str:=by rw[zup,List.map_drop]
theorem ztn (ws:List Str)(a:Nat):za4 (ws.map D.str) (some ((a:Int)+1)) none=(ws.drop (a+1)).map D.str:=zlC ws (a+1)
theorem zwc {c:Nat}(h:c=45∨48≤c∧c≤57):c ∉ LET.cps.toList:=by
 have e:LET.cps.toList=[97,98,99,100,101,102,103,104,105,106,107,108,109,110,111,112,113,114,115,116,117,118,119,120,121,122]:=by decide
 rw[e]
 simp only[Vaa,Vad,or_false]
 omega
theorem zuB (t:Int)(r:List Nat):zaG (mk (num t++r))=false:=by
 cases e:num t with
 | nil=>exact absurd e (zln t)
 | cons c l=>
  have z:=zfV (i:=t) (c:=c) (by rw[e]; exact Vau ..)
  exact zsG (c:=c) (by show c∈cs (mk (c::l++r)); rw[zbe]; simp) (zwc z)
theorem zpA {t b:Int}(h:zaZ (zaI t b) t b):exP 3 0 [mk (zaI t b)] (.nb t b):=by
 have z:avS (mk (zaI t b))=some (.nb t b):=zm4 (zuB t _) (by rw[zbe]; exact h)
 exact Ex.atom (zc8 _ _ z) z
section
variable {X:Cx}{Z:Zx}{pos:Pos}
end
section
variable {X:Cx}{Z:Zx}{pos:Pos}
end
inductive Nd where
 | number (t b:Int) | unknown (k:Int) | power (i n:Int) | two (x:Str) (i j:Int)
def Nd.d:Nd→D
 | .number t b=>.tup [.str "number",.int t,.int b]
 | .unknown k=>.tup [.str "unknown",.int k]
 | .power i n=>.tup [.str "power",.int i,.int n]
 | .two x i j=>.tup [.str x,.int i,.int j]
def inL (hs:List Int)(i:Int):Prop:=0≤i∧i<hs.length
def Nd.ok (hs:List Int):Nd→Prop
 | .number _ _=>True
 | .unknown _=>True
 | .power i n=>inL hs i∧2≤n∧n≤6
 | .two x i j=>(x="plus"∨x="minus"∨x="times")∧inL hs i∧inL hs j
def Nd.w (hs:List Int):Nd→Int
 | .number _ _=>1
 | .unknown _=>1
 | .power i n=>n*hs.getD i.toNat 0
 | .two _ i j=>hs.getD i.toNat 0+hs.getD j.toNat 0
def small (hs:List Int):Prop:=∀x∈hs,1≤x∧x≤16
def zby (a b c:Nat):List (Str×D):=[("kept",.ref a),("weights",.ref b),("numbers",.ref c)]
theorem zuI {ty td:TDE}{dl:Ev}{S:Sto}{Q:DK}{n:Nat}{kvs:List (List Key×D)}{y:D}{k:List Key}(hy:∀K:DK,K y S→ty dl S K)(hd:∀K:DK,K (.ref n) S→td dl S K)(h:S[n]?=some (.dct kvs))(hk:zel y=some k)(hq:Q (.bl (zbm kvs k).isSome) S):zhj ty td dl S Q:=by
 unfold zhj
 refine hy _ (hd _ ?_)
 simp only[atD,ze9,h,hk]
 exact hq
theorem zwO {ty td:TDE}{dl:Ev}{S:Sto}{Q:DK}{n:Nat}{kvs:List (List Key×D)}{y v:D}{k:List Key}(hd:∀K:DK,K (.ref n) S→td dl S K)(hy:∀K:DK,K y S→ty dl S K)(h:S[n]?=some (.dct kvs))(hk:zel y=some k)(hv:zbm kvs k=some v)(hq:Q v S):zkK td ty dl S Q:=by
 unfold zkK
 refine hd _ (hy _ ?_)
 simp only[atD,ze9,h,hk,hv]
 exact hq
theorem zvi {ty td tv:TDE}{dl:Ev}{S:Sto}{E:zbM}{n:Nat}{kvs:List (List Key×D)}{y v:D}{k:List Key}(hv:∀K:DK,K v S→tv dl S K)(hd:∀K:DK,K (.ref n) S→td dl S K)(hy:∀K:DK,K y S→ty dl S K)(h:S[n]?=some (.dct kvs))(hk:zel y=some k)(hl:kvs.length<1000)(hq:E.nx dl (S.set n (.dct (zcf kvs k v)))):zkn td ty tv E dl S:=by
 unfold zkn
 refine hv _ (hd _ (hy _ ?_))
 simp only[ze9,h,hk]
 exact⟨hl,hq⟩
def kD:Key→D
 | .inl i=>.int i
 | .inr x=>.str x
def Nd.k:Nd→List Key
 | .number t b=>[.inr "number",.inl t,.inl b]
 | .unknown k=>[.inr "unknown",.inl k]
 | .power i n=>[.inr "power",.inl i,.inl n]
 | .two x i j=>[.inr x,.inl i,.inl j]
theorem Nd.dk (v:Nd):v.d=.tup (v.k.map kD):=by cases v <;> rfl
theorem Nd.key (v:Nd):zel v.d=some v.k:=by cases v <;> rfl
def zct (m:Nat):List Nd→List (List Key×D)
 | []=>[]
 | v::vs=>(v.k,.int (m:Nat))::zct (m+1) vs
def idx (v:Nd):List Nd→Option Nat
 | []=>none
 | u::us=>if u.k=v.k then some 0 else (idx v us).map (·+1)
theorem zjT (v:Nd):∀(m:Nat) (ns:List Nd),zbm (zct m ns) v.k=(idx v ns).map λj=>D.int ((m+j:Nat):Int)
 | m,[]=>rfl
 | m,u::us=>by
  unfold zct idx zbm
  rw[VaM]
  by_cases e:u.k=v.k
  ·simp[e]
  ·have z:=zjT v (m+1) us
   unfold zbm at z
   simp only[e,decide_false,if_false]
   rw[z,Option.map_map]
   congr 1
   funext j
   show D.int ((m+1+j:Nat):Int)=D.int ((m+(j+1):Nat):Int)
   rw[show m+1+j=m+(j+1) by omega]
theorem zpU (v:Nd):∀(m:Nat) (ns:List Nd),zct m ns++[(v.k,.int ((m+ns.length:Nat):Int))]=zct m (ns++[v])
 | m,[]=>rfl
 | m,u::us=>by
  have z:=zpU v (m+1) us
  show (u.k,D.int (m:Nat))::(zct (m+1) us++_)=(u.k,D.int (m:Nat))::zct (m+1) (us++[v])
  rw[← z]
  rw[show m+(u::us).length=m+1+us.length by simp; omega]
theorem zwn (m:Nat)(ns:List Nd):(zct m ns).length=ns.length:=by
 induction ns generalizing m with
 | nil=>rfl
 | cons u us ih=>show (zct (m+1) us).length+1=us.length+1; rw[ih]
theorem zqC {kvs:List (List Key×D)}{k:List Key}(h:zbm kvs k=none):(kvs.any λkv=>decide (kv.1=k))=false:=by
 unfold zbm at h
 rw[Option.map_eq_none_iff,List.find?_eq_none] at h
 rw[List.any_eq_false]
 exact h
structure zba (C:Addr)(S:Sto)(n a b c:Nat)(ns:List Nd)(hs:List Int):Prop where
 net:S[n]?=some (.ins C (zby a b c))
 kept:S[a]?=some (.lst (ns.map Nd.d))
 weights:S[b]?=some (.lst (hs.map D.int))
 numbers:S[c]?=some (.dct (zct 0 ns))
 ne:a≠b
 len:ns.length=hs.length
def zgx (S:Sto)(a b c:Nat)(ns:List Nd)(hs:List Int)(v:Nd):Sto:=((S.set a (.lst (ns.map Nd.d++[v.d]))).set b (.lst (hs.map D.int++[.int (v.w hs)]))).set c (.dct (zct 0 (ns++[v])))
theorem zmt (a b c:Nat):(zby a b c).lookup ("kept":Str)=some (D.ref a):=rfl
theorem znJ (a b c:Nat):(zby a b c).lookup ("weights":Str)=some (D.ref b):=rfl
theorem zp3 (a b c:Nat):(zby a b c).lookup ("numbers":Str)=some (D.ref c):=rfl
theorem zfW {hs:List Int}{i:Int}(h:inL hs i):atI (hs.map D.int) i=some (.int (hs.getD i.toNat 0)):=by
 obtain⟨h0,h1⟩:=h
 have hk:i.toNat<hs.length:=by omega
 have z:=zdM (xs:=hs.map D.int) (j:=i.toNat) (v:=.int (hs.getD i.toNat 0)) (by rw[Vao,Vaw hk]; simp[hk])
 rw[show ((i.toNat:Nat):Int)=i by omega] at z
 exact z
theorem zhR {hs:List Int}{i:Int}(s:small hs)(h:inL hs i):1≤hs.getD i.toNat 0∧hs.getD i.toNat 0≤16:=by
 obtain⟨h0,h1⟩:=h
 have hk:i.toNat<hs.length:=by omega
 have e:hs.getD i.toNat 0=hs[i.toNat]:=by simp[hk]
 rw[e]
 exact s _ (VaQ hk)
theorem zt0 {dl:Ev}{S:Sto}{Q:DK}{T:Sto}{m:Nat}(e:T=S++[.dct []])(em:m=S.length)(h:Q (.ref m) T):zoN dl S Q:=by
 subst e em
 exact h
theorem zba.app {C:Addr}{S:Sto}{n a b c:Nat}{ns:List Nd}{hs:List Int}(N:zba C S n a b c ns hs)(T:Sto):zba C (S++T) n a b c ns hs:=
 ⟨zam N.net,zam N.kept,zam N.weights,zam N.numbers,N.ne,N.len⟩
theorem zq9 (a b:Key):eqF (kD a) (kD b)=some (decide (a=b)):=by
 cases a with
 | inl i=>
  cases b with
  | inl j=>simp[kD,eqF]
  | inr y=>simp[kD,eqF]
 | inr x=>
  cases b with
  | inl j=>simp[kD,eqF]
  | inr y=>simp[kD,eqF]
theorem zoU:∀a b:List Key,eqL eqF (a.map kD) (b.map kD)=some (decide (a=b))
 | [],[]=>rfl
 | [],_::_=>rfl
 | _::_,[]=>rfl
 | x::xs,y::ys=>by
  show (match eqF (kD x) (kD y),eqL eqF (xs.map kD) (ys.map kD) with | some b,some c=>some (b&&c) | _,_=>none)=_
  rw[zq9,zoU]
  simp[Bool.decide_and]
theorem zqa (u v:Nd):eqN 1 u.d v.d=some (decide (u.k=v.k)):=by
 rw[Nd.dk,Nd.dk]
 exact zoU _ _
theorem zpS (v:Nd):∀ns:List Nd,zb1 (eqN 1) (ns.map Nd.d) v.d=some (idx v ns).isSome
 | []=>rfl
 | u::us=>by
  show (match eqN 1 u.d v.d,zb1 (eqN 1) (us.map Nd.d) v.d with | some b,some c=>some (b||c) | _,_=>none)=_
  rw[zqa,zpS v us]
  show _=some (if u.k=v.k then some 0 else (idx v us).map (·+1)).isSome
  by_cases e:u.k=v.k
  ·simp[e]
  ·simp[e]
theorem zlo:∀ns:List Nd,eqL (eqN 1) (ns.map Nd.d) (ns.map Nd.d)=some true
 | []=>rfl
 | u::us=>by
  show (match eqN 1 u.d u.d,eqL (eqN 1) (us.map Nd.d) (us.map Nd.d) with | some b,some c=>some (b&&c) | _,_=>none)=_
  rw[zqa,zlo us]
  simp
def S0 (C:Addr)(ns:List Int):Sto:=[.frz (ns.map D.int),.ins C (zby 2 3 4),.lst [],.lst [],.dct [],.ins C (zby 6 7 8),.lst [],.lst [],.dct [],.lst [],.lst []]
section
variable {X:Cx}{Z:Zx}{pos:Pos}
theorem znS:∀l:List (Str×Tok),zas ((l.map (·.1)).map V.str) (strValues l)
 | []=>.nil
 | (_,t)::l=>.cons ⟨t,rfl⟩ (znS l)
theorem zri:MtR X "str.split" (λx xs H Q=>∃z y,x=.str z∧xs=[.str y]∧(y.length≠0∧z.length≤1000)∧∀p,H p=none→Q (.ref p) (upd H p (.lst ((Txt.split z y).map V.str)))):=by
 intro pins s σ H x xs v us Q I rx rv h
 obtain⟨z,y,rfl,rfl,⟨hy,hz⟩,q⟩:=h
 obtain⟨t,rfl⟩:=rx
 obtain⟨u,rfl,ru⟩:=zcm rv
 obtain⟨t2,rfl⟩:=ru
 have ly:(y.length==0)=false:=by simpa using hy
 have e1:=StrLaws.occ_length_le z y 0 z.length (z.length+1)
 have e2:=length_partsBetween z (Builtin.Str.occurrences z y 0 z.length (z.length+1)) y.length
 have hn:(Builtin.Str.partsBetween z (Builtin.Str.occurrences z y 0 z.length (z.length+1)) y.length).length≤1002:=by omega
 have sz:∀n:Nat,n≤1002→n≤sizeLine:=λn h=>by unfold sizeLine; omega
 have fin:∀(l:List (Str×Tok)) (k:Tok),l.map (·.1)=Txt.split z y→l.length≤1002→EP X pins σ Q (.ref s.heap.objs.size) { s with heap:=s.heap.push { cls:=.type "list",data:=.seq (strValues l).toArray },toks:=k }:=λl k el ll=>by
  refine⟨.ref s.heap.objs.size,_,I.laid (o:=.lst ((Txt.split z y).map V.str)) (t':=k) (λb ob e=>Heap.get?_push_of_some _ e) (Vab _) ?_,rfl,q _ (I.hok.fresh (Vab _))⟩
  rw[← el]
  exact⟨sz _ (by rw[Vaf,Vaf]; exact ll),_,0,znS l,Heap.get?_push_size _ rfl⟩
 cases h1:(decide (z.length<y.length)||decide (Builtin.Str.strKind z<Builtin.Str.strKind y))
 ·cases hf:(Builtin.Str.occurrences z y 0 z.length (z.length+1)).isEmpty
  ·refine call_meets PySem.F.slot_str_split (typeIs_str _ _ _) PySem.F.entry_str_split (PySem.F.args_str_split_2 _ _) (meets_str_split_sep z y t t2 h1 ly hf (sz _ (by omega)) (sz _ hn)) ?_
   rw[strsFrom_eq]
   refine fin _ _ ((numbered_texts _ _).trans ((if_neg (ne_true_of_eq_false h1)).trans (if_neg (ne_true_of_eq_false hf))).symm) ?_
   have:=congrArg List.length (numbered_texts s.toks (Builtin.Str.partsBetween z (Builtin.Str.occurrences z y 0 z.length (z.length+1)) y.length))
   rw[Vaf] at this
   omega
  ·exact call_meets PySem.F.slot_str_split (typeIs_str _ _ _) PySem.F.entry_str_split (PySem.F.args_str_split_2 _ _) (meets_str_split_not_found z y t t2 h1 ly hf) (fin [(z,t)] s.toks ((if_neg (ne_true_of_eq_false h1)).trans (if_pos hf)).symm (show 1≤1002 by decide))
 ·exact call_meets PySem.F.slot_str_split (typeIs_str _ _ _) PySem.F.entry_str_split (PySem.F.args_str_split_2 _ _) (meets_str_split_cannot_occur z y t t2 h1) (fin [(z,t)] s.toks (if_pos h1).symm (show 1≤1002 by decide))
def zlp:Str→D→Sto→DK→Prop:=λx y S Q=>match y with
 | .str y=>(y.length≠0∧x.length≤1000)∧Q (.ref S.length) (S++[.lst ((Txt.split x y).map D.str)])
 | _=>False
theorem zpv {r:List Addr}{H:Hp}:∀ws:List Str,Rps r H (ws.map D.str) (ws.map V.str)
 | []=>Rps.nil
 | w::ws=>Rps.cons (.str w) (zpv ws)
theorem ztH {o e:Expr}{to:TDE}{t:TDA}{apos cpos:Pos}(ho:PD X Z o to)(ha:PDA X Z [e] t)(hbase:attributeBase o "split" X.env (eval o X.env)=eval o X.env:=by rfl)
  (hfew:((backTo cpos (starEach [e] X.env)).all (λx=>!x.1)&&(backToKw cpos (keywordEach [] X.env)).all (λx=>x.1.isSome)
  &&decide ([e].length+([]:List Keyword).length+(if ([]:List Keyword).isEmpty then 0 else 1)<30))=true:=by rfl)
  (hline:(apos.endLine==cpos.line)=true:=by rfl)(hs:starEach [e] X.env=(false,eval e X.env)::starEach [] X.env:=by rfl)(hplain:(backTo cpos (starEach [] X.env)).any (·.1)=false:=by rfl):
  PD X Z (.Call (.Attribute o "split" apos) [e] [] cpos) (zcy zlp to t):=
 zaK (ze3 (T:="str") PySem.F.plainAttrs_str PySem.F.slot_str_split PySem.F.type_str_split zri ho ha hbase hfew hline hs hplain) λσ H Qv ⟨r,dl,S,Q,rs,rel,h,ret⟩=>by
  unfold zcy at h
  refine⟨r,dl,S,_,rs,rel,h,λv H1 r1 d S1 e1 rel1 p1 q1=>?_⟩
  cases p1 with
  | str x=>
   refine⟨rfl,r1,dl,S1,_,rs.ext e1,rel1,q1,λvs H2 r2 ds S2 e2 rel2 p2 q2=>?_⟩
   split at q2
   ·rename_i y
    obtain⟨v2,vs',rfl,p3,p4⟩:=p2.uncons
    have z:=p4.unnil
    subst z
    unfold zlp at q2
    split at q2
    ·rename_i i
     cases p3
     refine⟨x,i,rfl,rfl,q2.1,λp hp=>?_⟩
     obtain⟨rel3,x3⟩:=rel2.push hp (zpv (Txt.split x i))
     exact ret _ _ _ (.ref S2.length) _ (e1.trans (e2.trans x3)) rel3 (zcQ rel2.len) q2.2
    ·exact q2.elim
   ·exact q2.elim
  | _=>exact(show False from q1).elim
@[irreducible] def zjR (to:TDE)(t:TDA):TDE:=λdl S Q=>to dl S λd S1=>match d with
 | .str sep=>t dl S1 λds S2=>match ds with
  | [.ref n]=>match lAt S2 n with
   | some o=>∃zs,zcP (zan o)=some zs∧sep.length≤16∧(∀z∈zs,z.length≤1000)∧zs.length≤1000∧Q (.str (Txt.join sep zs)) S2
   | none=>False
  | _=>False
 | _=>False
theorem znK:∀zs:List Str,(∀z∈zs,z.length≤1000)→(zs.map (·.length)).sum≤1000*zs.length
 | [],_=>by simp
 | z::zs,h=>by
  have i:=znK zs λy hy=>h y (Vap _ hy)
  have j:=h z (Vau ..)
  rw[Vaj,List.sum_cons,Vaq]
  omega
theorem zut:MtR X "str.join" (λx xs H Q=>∃sep p ys zs,x=.str sep∧xs=[.ref p]∧SqL X.K H p ys∧(∀us,zas ys us→StrsAre us zs)∧sep.length≤16∧(∀z∈zs,z.length≤1000)∧zs.length≤1000∧Q (.str (Txt.join sep zs)) H):=by
 intro pins s σ H x xs v us Q I rx rv h
 obtain⟨sep,p,ys,zs,rfl,rfl,sq,st,h0,hB,hn,q⟩:=h
 obtain⟨t,rfl⟩:=rx
 obtain⟨u,rfl,ru⟩:=zcm rv
 cases ru
 obtain⟨its,r,pl,_⟩:=I.list sq
 have hs:=znK zs hB
 have hm:zs.length*sep.length≤1000*16:=Nat.mul_le_mul hn h0
 refine join_list pl.isList (st its r) (by omega) λt' k=>?_
 exact⟨.str (Txt.join sep zs),H,I.kept (t':=k) λb o e=>e,⟨t',rfl⟩,q⟩
theorem ztZ {o e:Expr}{to:TDE}{t:TDA}{apos cpos:Pos}(ho:PD X Z o to)(ha:PDA X Z [e] t)(hbase:attributeBase o "join" X.env (eval o X.env)=eval o X.env:=by rfl)
  (hfew:((backTo cpos (starEach [e] X.env)).all (λx=>!x.1)&&(backToKw cpos (keywordEach [] X.env)).all (λx=>x.1.isSome)
  &&decide ([e].length+([]:List Keyword).length+(if ([]:List Keyword).isEmpty then 0 else 1)<30))=true:=by rfl)
  (hline:(apos.endLine==cpos.line)=true:=by rfl)(hs:starEach [e] X.env=(false,eval e X.env)::starEach [] X.env:=by rfl)(hplain:(backTo cpos (starEach [] X.env)).any (·.1)=false:=by rfl):
  PD X Z (.Call (.Attribute o "join" apos) [e] [] cpos) (zjR to t):=
 zaK (ze3 (T:="str") PySem.F.plainAttrs_str PySem.F.slot_str_join PySem.F.type_str_join zut ho ha hbase hfew hline hs hplain) λσ H Qv ⟨r,dl,S,Q,rs,rel,h,ret⟩=>by
  unfold zjR at h
  refine⟨r,dl,S,_,rs,rel,h,λv H1 r1 d S1 e1 rel1 p1 q1=>?_⟩
  cases p1 with
  | str sep=>
   refine⟨rfl,r1,dl,S1,_,rs.ext e1,rel1,q1,λvs H2 r2 ds S2 e2 rel2 p2 q2=>?_⟩
   split at q2
   ·rename_i n
    obtain⟨v2,vs',rfl,p3,p4⟩:=p2.uncons
    have z:=p4.unnil
    subst z
    split at q2
    ·rename_i o eo
     obtain⟨zs,z1,z2,z3,z4,q⟩:=q2
     cases p3 with
     | @ref n a hn=>
      obtain⟨eo,eL⟩:=zb5 eo
      obtain⟨a',ha',ob⟩:=rel2.at eo
      rw[hn] at ha'; cases ha'
      obtain⟨ys,sq,pr⟩:=ob.list eL
      exact⟨sep,a,ys,zs,rfl,rfl,sq,λus ru=>zlQ z1 pr ru,z2,z3,z4,ret _ H2 r2 _ S2 (e1.trans e2) rel2 (.str _) q⟩
    ·exact q2.elim
   ·exact q2.elim
  | _=>exact(show False from q1).elim
theorem zit {to:TDE}{t:TDA}{dl:Ev}{S S1:Sto}{Q:DK}{n:Nat}{o:Ob}{zs:List Str}{sep:Str}(hto:∀K:DK,K (.str sep) S→to dl S K)(ht:∀K:List D→Sto→Prop,K [.ref n] S1→t dl S K)(h0:sep.length≤16)(ho:S1[n]?=some o)(hz:zcP (zan o)=some zs)(hB:∀z∈zs,z.length≤1000)(hn:zs.length≤1000)(hq:Q (.str (Txt.join sep zs)) S1)(hL:zcb o=some o:=by rfl):zjR to t dl S Q:=by
 unfold zjR
 refine hto _ (ht _ ?_)
 simp only[zbd ho hL]
 exact⟨zs,hz,h0,hB,hn,hq⟩
theorem zqL {to:TDE}{t:TDA}{dl:Ev}{S S1:Sto}{Q:DK}{x y:Str}(hto:∀K:DK,K (.str x) S→to dl S K)(ht:∀K:List D→Sto→Prop,K [.str y] S1→t dl S K)(hy:y.length≠0)(hx:x.length≤1000)(hq:Q (.ref S1.length) (S1++[.lst ((Txt.split x y).map D.str)])):zcy zlp to t dl S Q:=by
 unfold zcy
 exact hto _ (ht _ ⟨⟨hy,hx⟩,hq⟩)
end
def kdS:Nat→Str
 | 0=>"plus"
 | 1=>"minus"
 | _=>"times"
def zaS (N:List Nd×List Int)(v:Nd):Option ((List Nd×List Int)×Nat):=match idx v N.1 with
 | some j=>some (N,j)
 | none=>if 16<v.w N.2∨N.1.length=60 then none else some ((N.1++[v],N.2++[v.w N.2]),N.1.length)
def zaz (ms:Str→Option Nat):Tr→List Nd×List Int→Option ((List Nd×List Int)×Nat)
 | .nm w,N=>(ms (mk w)).map λj=>(N,j)
 | .nb t b,N=>zaS N (.number t b)
 | .pw t k,N=>match zaz ms t N with
  | some (N1,i)=>zaS N1 (.power i k)
  | none=>none
 | .bi d l r,N=>match zaz ms l N with
  | some (N1,i)=>match zaz ms r N1 with
   | some (N2,j)=>zaS N2 (.two (kdS d) i j)
   | none=>none
  | none=>none
inductive NOk:List Nd→List Int→Prop
 | nil:NOk [] []
 | snoc {ns:List Nd} {hs:List Int} {v:Nd}:NOk ns hs→v.ok hs→idx v ns=none→v.w hs≤16→ns.length<60→NOk (ns++[v]) (hs++[v.w hs])
theorem NOk.len {ns:List Nd}{hs:List Int}(h:NOk ns hs):ns.length=hs.length:=by
 induction h with
 | nil=>rfl
 | snoc _ _ _ _ _ ih=>simp[ih]
theorem w_pos {hs:List Int}{v:Nd}(s:small hs)(h:v.ok hs):1≤v.w hs:=by
 cases v with
 | number t b=>exact Int.le_refl _
 | unknown k=>exact Int.le_refl _
 | power i n=>
  obtain⟨hi,n2,n6⟩:=h
  have b:=zhR s hi
  show 1≤n*hs.getD i.toNat 0
  have:=Int.mul_le_mul (show 1≤n by omega) b.1 (by decide) (by omega)
  omega
 | two x i j=>
  obtain⟨_,hi,hj⟩:=h
  have b:=zhR s hi
  have c:=zhR s hj
  show 1≤hs.getD i.toNat 0+hs.getD j.toNat 0
  omega
theorem NOk.small {ns:List Nd}{hs:List Int}(h:NOk ns hs):small hs:=by
 induction h with
 | nil=>intro x hx; cases hx
 | snoc h0 ok _ w16 _ ih=>
  intro x hx
  rcases Val.1 hx with hx | hx
  ·exact ih x hx
  ·rw[Vat.mp hx]
   exact⟨w_pos ih ok,w16⟩
theorem NOk.sixty {ns:List Nd}{hs:List Int}(h:NOk ns hs):ns.length≤60:=by
 cases h with
 | nil=>decide
 | snoc _ _ _ _ l=>simp; omega
theorem zme {hs l:List Int}{i:Int}(h:inL hs i):(hs++l).getD i.toNat 0=hs.getD i.toNat 0:=by
 obtain⟨h0,h1⟩:=h
 rw[Vai,Vai,Vah (by omega)]
theorem zmy {hs l:List Int}{i:Int}(h:inL hs i):inL (hs++l) i:=⟨h.1,by have:=h.2; rw[Vag]; omega⟩
theorem zlT {hs l:List Int}{v:Nd}(h:v.ok hs):v.ok (hs++l):=by
 cases v with
 | number t b=>trivial
 | unknown k=>trivial
 | power i n=>exact⟨zmy h.1,h.2⟩
 | two x i j=>exact⟨h.1,zmy h.2.1,zmy h.2.2⟩
theorem zn6 {hs l:List Int}{v:Nd}(h:v.ok hs):v.w (hs++l)=v.w hs:=by
 cases v with
 | number t b=>rfl
 | unknown k=>rfl
 | power i n=>show n*_=n*_; rw[zme h.1]
 | two x i j=>show _+_=_+_; rw[zme h.2.1,zme h.2.2]
theorem NOk.node {ns:List Nd}{hs:List Int}(h:NOk ns hs):∀(j:Nat) (v:Nd),ns[j]?=some v→v.ok hs∧hs.getD j 0=v.w hs:=by
 induction h with
 | nil=>intro j v e; cases e
 | @snoc ns hs u h0 ok _ _ _ ih=>
  intro j v e
  have hl:=h0.len
  by_cases c:j<ns.length
  ·rw[Vah c] at e
   obtain⟨a,b⟩:=ih j v e
   refine⟨zlT a,?_⟩
   rw[zn6 a,← b,Vai,Vai,Vah (by omega)]
  ·have ej:j=ns.length:=by
    have:=(Vac.mp e).1
    simp at this
    omega
   subst ej
   have eu:u=v:=by simpa using e
   subst eu
   refine⟨zlT ok,?_⟩
   rw[zn6 ok,hl]
   simp
theorem zlt {v:Nd}{r:List Nd}:∀ {ns:List Nd} {j:Nat},idx v ns=some j→idx v (ns++r)=some j
 | [],_,e=>by cases e
 | u::us,j,e=>by
  unfold idx at e
  show (if u.k=v.k then some 0 else (idx v (us++r)).map (·+1))=_
  by_cases c:u.k=v.k
  ·rw[if_pos c] at e ⊢
   exact e
  ·rw[if_neg c] at e ⊢
   cases e2:idx v us with
   | none=>rw[e2] at e; cases e
   | some i=>
    rw[e2] at e
    rw[zlt e2]
    exact e
theorem zlx {v:Nd}:∀ {ns:List Nd},idx v ns=none→idx v (ns++[v])=some ns.length
 | [],_=>by
  show (if v.k=v.k then some 0 else _)=_
  rw[if_pos rfl]
  rfl
 | u::us,e=>by
  unfold idx at e
  show (if u.k=v.k then some 0 else (idx v (us++[v])).map (·+1))=_
  by_cases c:u.k=v.k
  ·rw[if_pos c] at e
   cases e
  ·rw[if_neg c] at e ⊢
   cases e2:idx v us with
   | none=>rw[zlx e2]; rfl
   | some i=>rw[e2] at e; cases e
theorem zgP {v:Nd}:∀ {ns:List Nd} {j:Nat},idx v ns=some j→∃u,ns[j]?=some u∧u.k=v.k
 | [],_,e=>by cases e
 | u::us,j,e=>by
  unfold idx at e
  by_cases c:u.k=v.k
  ·rw[if_pos c] at e
   cases e
   exact⟨u,rfl,c⟩
  ·rw[if_neg c] at e
   cases e2:idx v us with
   | none=>rw[e2] at e; cases e
   | some i=>
    rw[e2] at e
    cases e
    obtain⟨x,a,b⟩:=zgP e2
    exact⟨x,by simpa using a,b⟩
theorem zk4 {x y:Str}(h:x="plus"∨x="minus"∨x="times")(hy:y="number"∨y="power"):x≠y:=by
 rcases h with rfl | rfl | rfl <;> rcases hy with rfl | rfl <;> decide
theorem zmN {hs hs':List Int}{u v:Nd}(hu:u.ok hs)(hv:v.ok hs')(e:u.k=v.k):u=v:=by
 have fst:∀ {x y:Str} {l m:List Key},(Sum.inr x:Key)::l=Sum.inr y::m→x=y:=λe=>Sum.inr.inj (List.cons.inj e).1
 cases u with
 | number t b=>
  cases v with
  | number t' b'=>simp[Nd.k] at e; obtain⟨rfl,rfl⟩:=e; rfl
  | unknown k=>simp[Nd.k] at e
  | power i n=>exact absurd (fst e) (by decide)
  | two x i j=>exact absurd (fst e).symm (zk4 hv.1 (.inl rfl))
 | unknown k=>
  cases v with
  | number t' b'=>simp[Nd.k] at e
  | unknown k'=>simp[Nd.k] at e; subst e; rfl
  | power i n=>simp[Nd.k] at e
  | two x i j=>simp[Nd.k] at e
 | power i n=>
  cases v with
  | number t' b'=>exact absurd (fst e) (by decide)
  | unknown k=>simp[Nd.k] at e
  | power i' n'=>simp[Nd.k] at e; obtain⟨rfl,rfl⟩:=e; rfl
  | two x i' j=>exact absurd (fst e).symm (zk4 hv.1 (.inr rfl))
 | two x i j=>
  cases v with
  | number t' b'=>exact absurd (fst e) (zk4 hu.1 (.inl rfl))
  | unknown k=>simp[Nd.k] at e
  | power i' n'=>exact absurd (fst e) (zk4 hu.1 (.inr rfl))
  | two x' i' j'=>simp[Nd.k] at e; obtain⟨rfl,rfl,rfl⟩:=e; rfl
structure Put (ns:List Nd)(hs:List Int)(ns':List Nd)(hs':List Int)(j:Nat)(wt:Int)(c:Nat):Prop where
 ok:NOk ns' hs'
 ext:∃r,ns'=ns++r
 exh:∃r,hs'=hs++r
 lt:j<ns'.length
 wt:hs'.getD j 0=wt
 le:ns'.length≤ns.length+c
theorem zhH {ns:List Nd}{hs:List Int}{v:Nd}(h:NOk ns hs)(ok:v.ok hs)(w:v.w hs≤16)(l:ns.length<60):∃ns' hs' j,zaS (ns,hs) v=some ((ns',hs'),j)∧Put ns hs ns' hs' j (v.w hs) 1∧idx v ns'=some j:=by
 unfold zaS
 cases e:idx v ns with
 | some j=>
  obtain⟨u,e1,e2⟩:=zgP e
  obtain⟨o1,o2⟩:=h.node j u e1
  have eu:=zmN o1 ok e2
  subst eu
  exact⟨ns,hs,j,rfl,⟨h,⟨[],by simp⟩,⟨[],by simp⟩,(Vac.mp e1).1,o2,by omega⟩,e⟩
 | none=>
  have c:¬ (16<v.w hs∨ns.length=60):=by omega
  refine⟨ns++[v],hs++[v.w hs],ns.length,if_neg c,⟨.snoc h ok e w l,⟨_,rfl⟩,⟨_,rfl⟩,by simp,?_,by simp⟩,zlx e⟩
  rw[h.len]
  simp
def Tr.wt:Tr→Int
 | .nm _=>1
 | .nb _ _=>1
 | .pw t k=>k*t.wt
 | .bi _ l r=>l.wt+r.wt
def Tr.sz:Tr→Nat
 | .nm _=>0
 | .nb _ _=>1
 | .pw t _=>t.sz+1
 | .bi _ l r=>l.sz+r.sz+1
def Tr.nms:Tr→List Str
 | .nm w=>[mk w]
 | .nb _ _=>[]
 | .pw t _=>t.nms
 | .bi _ l r=>l.nms++r.nms
def Tr.good:Tr→Prop
 | .nm _=>True
 | .nb _ _=>True
 | .pw t k=>t.good∧2≤k∧k≤6
 | .bi d l r=>l.good∧r.good∧d≤2
theorem zdv:∀t:Tr,t.good→1≤t.wt
 | .nm _,_=>Int.le_refl _
 | .nb _ _,_=>Int.le_refl _
 | .pw t k,h=>by
  have i:=zdv t h.1
  show 1≤k*t.wt
  have:=Int.mul_le_mul (show 1≤k by have:=h.2.1; omega) i (by decide) (by have:=h.2.1; omega)
  omega
 | .bi _ l r,h=>by
  have i:=zdv l h.1
  have j:=zdv r h.2.1
  show 1≤l.wt+r.wt
  omega
theorem zfD {d:Nat}(h:d≤2):kdS d="plus"∨kdS d="minus"∨kdS d="times":=by
 match d,h with
 | 0,_=>exact .inl rfl
 | 1,_=>exact .inr (.inl rfl)
 | 2,_=>exact .inr (.inr rfl)
theorem zly {hs r:List Int}{j:Nat}(h:j<hs.length):(hs++r).getD j 0=hs.getD j 0:=by
 rw[Vai,Vai,Vah h]
theorem zjp {ms:Str→Option Nat}:∀(t:Tr) {ns:List Nd} {hs:List Int},NOk ns hs→(∀w∈t.nms,∃j,ms w=some j∧j<ns.length∧hs.getD j 0=1)→t.good→t.wt≤16→ns.length+t.sz≤60→∃ns' hs' j,zaz ms t (ns,hs)=some ((ns',hs'),j)∧Put ns hs ns' hs' j t.wt t.sz
 | .nm w,ns,hs,h,hn,_,_,_=>by
  obtain⟨j,e,l,o⟩:=hn (mk w) (Vat.mpr rfl)
  refine⟨ns,hs,j,?_,⟨h,⟨[],by simp⟩,⟨[],by simp⟩,l,o,by omega⟩⟩
  show (ms (mk w)).map _=_
  rw[e]
  rfl
 | .nb t b,ns,hs,h,_,_,_,l=>by
  obtain⟨ns',hs',j,e,p,_⟩:=zhH (v:=.number t b) h trivial (by show (1:Int)≤16; decide) (by have:(Tr.nb t b).sz=1:=rfl; omega)
  exact⟨ns',hs',j,e,p⟩
 | .pw t k,ns,hs,h,hn,g,w,l=>by
  have ls:(Tr.pw t k).sz=t.sz+1:=rfl
  have lw:(Tr.pw t k).wt=k*t.wt:=rfl
  have tp:=zdv t g.1
  have tk:t.wt≤k*t.wt:=by
   have:=Int.mul_le_mul_of_nonneg_right (show 1≤k by have:=g.2.1; omega) (show 0≤t.wt by omega)
   omega
  obtain⟨n1,h1,i,e1,p1⟩:=zjp t h hn g.1 (by omega) (by omega)
  have hl:=p1.ok.len
  have pl:=p1.le
  have pt:=p1.lt
  have ii:inL h1 (i:Int):=⟨by omega,by omega⟩
  have wv:(Nd.power (i:Int) k).w h1=k*t.wt:=by
   show k*h1.getD (i:Int).toNat 0=_
   rw[VaL,p1.wt]
  obtain⟨n2,h2,j,e2,p2,_⟩:=zhH (v:=.power (i:Int) k) p1.ok ⟨ii,g.2⟩ (by rw[wv]; omega) (by omega)
  refine⟨n2,h2,j,?_,?_⟩
  ·show (match zaz ms t (ns,hs) with | some (N1,i)=>zaS N1 (.power i k) | none=>none)=_
   rw[e1]
   exact e2
  ·obtain⟨r1,q1⟩:=p1.ext
   obtain⟨r2,q2⟩:=p2.ext
   obtain⟨s1,u1⟩:=p1.exh
   obtain⟨s2,u2⟩:=p2.exh
   have l2:=p2.le
   exact⟨p2.ok,⟨r1++r2,by rw[q2,q1,VaA]⟩,⟨s1++s2,by rw[u2,u1,VaA]⟩,p2.lt,by rw[p2.wt,wv]; rfl,by omega⟩
 | .bi d tl tr,ns,hs,h,hn,g,w,l=>by
  have ls:(Tr.bi d tl tr).sz=tl.sz+tr.sz+1:=rfl
  have lw:(Tr.bi d tl tr).wt=tl.wt+tr.wt:=rfl
  have pl:=zdv tl g.1
  have pr:=zdv tr g.2.1
  obtain⟨n1,h1,i,e1,p1⟩:=zjp tl h (λw hw=>hn w (VaD _ hw)) g.1 (by omega) (by omega)
  obtain⟨r1,q1⟩:=p1.ext
  obtain⟨s1,u1⟩:=p1.exh
  have hl:=h.len
  have l1:=p1.le
  obtain⟨n2,h2,j,e2,p2⟩:=zjp tr p1.ok (λw hw=>by
   obtain⟨x,a,b,c⟩:=hn w (Vav _ hw)
   exact⟨x,a,by rw[q1,Vag]; omega,by rw[u1,zly (by omega)]; exact c⟩) g.2.1 (by omega) (by omega)
  obtain⟨r2,q2⟩:=p2.ext
  obtain⟨s2,u2⟩:=p2.exh
  have hl1:=p1.ok.len
  have hl2:=p2.ok.len
  have k1:=p1.lt
  have k2:=p2.lt
  have l2:=p2.le
  have e12:n1.length≤n2.length:=by rw[q2,Vag]; omega
  have wi:h2.getD i 0=tl.wt:=by rw[u2,zly (by omega)]; exact p1.wt
  have wv:(Nd.two (kdS d) (i:Int) (j:Int)).w h2=tl.wt+tr.wt:=by
   show h2.getD (i:Int).toNat 0+h2.getD (j:Int).toNat 0=_
   rw[VaL,VaL,wi,p2.wt]
  obtain⟨n3,h3,x,e3,p3,_⟩:=zhH (v:=.two (kdS d) (i:Int) (j:Int)) p2.ok ⟨zfD g.2.2,⟨by omega,by omega⟩,⟨by omega,by omega⟩⟩ (by rw[wv]; omega) (by omega)
  obtain⟨r3,q3⟩:=p3.ext
  obtain⟨s3,u3⟩:=p3.exh
  have l3:=p3.le
  refine⟨n3,h3,x,?_,⟨p3.ok,⟨r1++r2++r3,by rw[q3,q2,q1]; simp⟩,⟨s1++s2++s3,by rw[u3,u2,u1]; simp⟩,p3.lt,by rw[p3.wt,wv]; rfl,by omega⟩⟩
  show (match zaz ms tl (ns,hs) with | some (N1,i)=>(match zaz ms tr N1 with | some (N2,j)=>zaS N2 (.two (kdS d) i j) | none=>none) | none=>none)=_
  rw[e1]
  dsimp only
  rw[e2]
  exact e3
theorem zfl {ns r ns1:List Nd}{hs r' hs1:List Int}{v:Nd}{j:Nat}(e:zaS (ns,hs) v=some ((ns1,hs1),j)):(∃q,ns1=ns++q)∧(∃q,hs1=hs++q)∧zaS (ns1++r,hs1++r') v=some ((ns1++r,hs1++r'),j):=by
 unfold zaS at e
 cases c:idx v ns with
 | some i=>
  simp only[c] at e
  cases e
  refine⟨⟨[],by simp⟩,⟨[],by simp⟩,?_⟩
  unfold zaS
  simp only[zlt c]
 | none=>
  simp only[c] at e
  split at e
  ·cases e
  ·cases e
   refine⟨⟨_,rfl⟩,⟨_,rfl⟩,?_⟩
   unfold zaS
   simp only[zlt (zlx c)]
theorem zkS {ms ms':Str→Option Nat}(hm:∀w j,ms w=some j→ms' w=some j):∀(t:Tr) {ns ns1:List Nd} {hs hs1:List Int} {j:Nat},zaz ms t (ns,hs)=some ((ns1,hs1),j)→(∃q,ns1=ns++q)∧(∃q,hs1=hs++q)∧∀r r',zaz ms' t (ns1++r,hs1++r')=some ((ns1++r,hs1++r'),j)
 | .nm w,ns,ns1,hs,hs1,j,e=>by
  have e':(ms (mk w)).map (λj=>((ns,hs),j))=some ((ns1,hs1),j):=e
  cases c:ms (mk w) with
  | none=>rw[c] at e'; cases e'
  | some i=>
   rw[c] at e'
   cases e'
   refine⟨⟨[],by simp⟩,⟨[],by simp⟩,λr r'=>?_⟩
   show (ms' (mk w)).map _=_
   rw[hm _ _ c]
   rfl
 | .nb t b,ns,ns1,hs,hs1,j,e=>by
  obtain⟨a,b',_⟩:=zfl (r:=[]) (r':=[]) (v:=.number t b) e
  exact⟨a,b',λr r'=>(zfl (v:=.number t b) e).2.2⟩
 | .pw t k,ns,ns1,hs,hs1,j,e=>by
  have e':(match zaz ms t (ns,hs) with | some (N1,i)=>zaS N1 (.power i k) | none=>none)=some ((ns1,hs1),j):=e
  cases c:zaz ms t (ns,hs) with
  | none=>rw[c] at e'; cases e'
  | some x=>
   obtain⟨⟨n1,h1⟩,i⟩:=x
   rw[c] at e'
   obtain⟨⟨q1,rfl⟩,⟨q2,rfl⟩,f⟩:=zkS hm t c
   obtain⟨⟨s1,rfl⟩,⟨s2,rfl⟩,_⟩:=zfl (r:=[]) (r':=[]) e'
   refine⟨⟨q1++s1,by simp⟩,⟨q2++s2,by simp⟩,λr r'=>?_⟩
   show (match zaz ms' t _ with | some (N1,i)=>zaS N1 (.power i k) | none=>none)=_
   rw[VaA _ s1 r,VaA _ s2 r',f]
   dsimp only
   rw[← VaA _ s1 r,← VaA _ s2 r']
   exact(zfl e').2.2
 | .bi d tl tr,ns,ns1,hs,hs1,j,e=>by
  have e':(match zaz ms tl (ns,hs) with | some (N1,i)=>(match zaz ms tr N1 with | some (N2,j)=>zaS N2 (.two (kdS d) i j) | none=>none) | none=>none)=some ((ns1,hs1),j):=e
  cases c:zaz ms tl (ns,hs) with
  | none=>rw[c] at e'; cases e'
  | some x=>
   obtain⟨⟨n1,h1⟩,i⟩:=x
   rw[c] at e'
   dsimp only at e'
   cases c2:zaz ms tr (n1,h1) with
   | none=>rw[c2] at e'; cases e'
   | some y=>
    obtain⟨⟨n2,h2⟩,i2⟩:=y
    rw[c2] at e'
    obtain⟨⟨q1,rfl⟩,⟨q2,rfl⟩,f⟩:=zkS hm tl c
    obtain⟨⟨s1,rfl⟩,⟨s2,rfl⟩,g⟩:=zkS hm tr c2
    obtain⟨⟨u1,rfl⟩,⟨u2,rfl⟩,_⟩:=zfl (r:=[]) (r':=[]) e'
    refine⟨⟨q1++s1++u1,by simp⟩,⟨q2++s2++u2,by simp⟩,λr r'=>?_⟩
    show (match zaz ms' tl _ with | some (N1,i)=>(match zaz ms' tr N1 with | some (N2,j)=>zaS N2 (.two (kdS d) i j) | none=>none) | none=>none)=_
    have f':=f (s1++(u1++r)) (s2++(u2++r'))
    have g':=g (u1++r) (u2++r')
    simp only[VaA] at f' g' ⊢
    rw[f']
    dsimp only
    rw[g']
    dsimp only
    have z:=(zfl (r:=r) (r':=r') e').2.2
    simp only[VaA] at z
    exact z
def Ng (ow:List Nat)(S T:Sto):Prop:=S.length≤T.length∧∀(x:Nat) (o:Ob),x ∉ ow→S[x]?=some o→T[x]?=some o
theorem Ng.refl {ow:List Nat}{S:Sto}:Ng ow S S:=⟨Vab _,λ_ _ _ e=>e⟩
theorem Ng.trans {ow ow':List Nat}{S T U:Sto}(a:Ng ow S T)(b:Ng ow' T U)(h:∀x∈ow',x∈ow∨S.length≤x):Ng ow S U:=⟨Vax a.1 b.1,λx o nx e=>b.2 x o (λhx=>by
 rcases h x hx with z | z
 ·exact nx z
 ·have:=za8 e
  omega) (a.2 x o nx e)⟩
theorem Ng.app {ow:List Nat}{S:Sto}(U:Sto):Ng ow S (S++U):=⟨by simp,λ_ _ _ e=>zam e⟩
theorem Ng.set {ow:List Nat}{S:Sto}{n:Nat}(h:n∈ow)(o:Ob):Ng ow S (S.set n o):=⟨by simp,λx u nx e=>by
 have ne:n≠x:=λz=>nx (by rw[← z]; exact h)
 rw[VaJ ne]
 exact e⟩
theorem Ng.pre {ow:List Nat}{S T:Sto}(h:Pre S T):S.length≤T.length→Ng ow S T:=λl=>⟨l,λx o _ e=>h x o e⟩
theorem zap {S:Sto}{x n:Nat}{o u:Ob}(h:S[x]?=some o)(ne:x≠n):(S.set n u)[x]?=some o:=by
 rw[VaJ (Ne.symm ne)]
 exact h
theorem za5 {S:Sto}{x y:Nat}{o u:Ob}(h:S[x]?=some o)(h':S[y]?=some u)(ne:o≠u):x≠y:=λe=>by
 rw[e,h'] at h
 exact ne (Option.some.inj h).symm
theorem zba.put {C:Addr}{S:Sto}{n a b c:Nat}{ns:List Nd}{hs:List Int}(N:zba C S n a b c ns hs)(v:Nd):zba C (zgx S a b c ns hs v) n a b c (ns++[v]) (hs++[v.w hs])∧Ng [a,b,c] S (zgx S a b c ns hs v):=by
 have ac:a≠c:=za5 N.kept N.numbers (by intro z; cases z)
 have bc:b≠c:=za5 N.weights N.numbers (by intro z; cases z)
 have na:n≠a:=za5 N.net N.kept (by intro z; cases z)
 have nb:n≠b:=za5 N.net N.weights (by intro z; cases z)
 have nc:n≠c:=za5 N.net N.numbers (by intro z; cases z)
 unfold zgx
 refine⟨⟨?_,?_,?_,?_,N.ne,by simp[N.len]⟩,?_⟩
 ·exact zap (zap (zap N.net na) nb) nc
 ·rw[Vaz]
  exact zap (zap (zcz N.kept) N.ne) ac
 ·rw[Vaz]
  exact zap (zcz (zap N.weights (Ne.symm N.ne))) bc
 ·exact zcz (zap (zap N.numbers (Ne.symm ac)) (Ne.symm bc))
 ·have m:∀y∈[a,b,c],y∈[a,b,c]∨S.length≤y:=λy hy=>.inl hy
  exact((Ng.set (by simp) _).trans (ow':=[a,b,c]) (Ng.set (by simp) _) m).trans (ow':=[a,b,c]) (Ng.set (by simp) _) m
theorem zfz {C:Addr}{S:Sto}{n a b c:Nat}{ns:List Nd}{hs:List Int}{v:Nd}{Q:DK}{ex:Sto→Prop}(N:zba C S n a b c ns hs)(h:match zaS (ns,hs) v with | none=>∀T:Sto,Ng [a,b,c] S T→ex T | some (M,j)=>∀T:Sto,Ng [a,b,c] S T→zba C T n a b c M.1 M.2→Q (.int (j:Int)) T):
  (∃j,idx v ns=some j∧Q (.int (j:Int)) S)∨(idx v ns=none∧(16<v.w hs∨ns.length=60)∧ex S)∨(idx v ns=none∧v.w hs≤16∧ns.length≠60∧Q (.int (ns.length:Int)) (zgx S a b c ns hs v)):=by
 unfold zaS at h
 dsimp only at h
 cases e:idx v ns with
 | some j=>
  rw[e] at h
  exact .inl ⟨j,rfl,h S Ng.refl N⟩
 | none=>
  rw[e] at h
  dsimp only at h
  by_cases c:16<v.w hs∨ns.length=60
  ·rw[if_pos c] at h
   exact .inr (.inl ⟨rfl,c,h S Ng.refl⟩)
  ·rw[if_neg c] at h
   obtain⟨p,g⟩:=N.put v
   exact .inr (.inr ⟨rfl,by omega,by omega,h _ g p⟩)
theorem zku {ns ns':List Nd}{hs hs':List Int}{v:Nd}{j:Nat}(h:NOk ns hs)(ok:v.ok hs)(e:zaS (ns,hs) v=some ((ns',hs'),j)):NOk ns' hs'∧j<ns'.length∧(∃r,ns'=ns++r)∧∃r,hs'=hs++r:=by
 unfold zaS at e
 cases c:idx v ns with
 | some i=>
  simp only[c] at e
  cases e
  obtain⟨u,e1,_⟩:=zgP c
  exact⟨h,(Vac.mp e1).1,⟨[],by simp⟩,⟨[],by simp⟩⟩
 | none=>
  simp only[c] at e
  split at e
  ·cases e
  ·rename_i z
   have l6:=h.sixty
   cases e
   exact⟨.snoc h ok c (by omega) (by omega),by simp,⟨_,rfl⟩,⟨_,rfl⟩⟩
theorem zcL {ms:Str→Option Nat}:∀(t:Tr) {ns ns':List Nd} {hs hs':List Int} {j:Nat},NOk ns hs→(∀w j,ms w=some j→j<ns.length)→t.good→zaz ms t (ns,hs)=some ((ns',hs'),j)→NOk ns' hs'∧j<ns'.length∧(∃r,ns'=ns++r)∧∃r,hs'=hs++r
 | .nm w,ns,ns',hs,hs',j,h,hm,_,e=>by
  have e':(ms (mk w)).map (λj=>((ns,hs),j))=some ((ns',hs'),j):=e
  cases c:ms (mk w) with
  | none=>rw[c] at e'; cases e'
  | some i=>
   rw[c] at e'
   cases e'
   exact⟨h,hm _ _ c,⟨[],by simp⟩,⟨[],by simp⟩⟩
 | .nb t b,ns,ns',hs,hs',j,h,_,_,e=>zku (v:=.number t b) h trivial e
 | .pw t k,ns,ns',hs,hs',j,h,hm,g,e=>by
  have e':(match zaz ms t (ns,hs) with | some (N1,i)=>zaS N1 (.power i k) | none=>none)=some ((ns',hs'),j):=e
  cases c:zaz ms t (ns,hs) with
  | none=>rw[c] at e'; cases e'
  | some x=>
   obtain⟨⟨n1,h1⟩,i⟩:=x
   rw[c] at e'
   obtain⟨o1,l1,⟨r1,rfl⟩,⟨s1,rfl⟩⟩:=zcL t h hm g.1 c
   obtain⟨o2,l2,⟨r2,rfl⟩,⟨s2,rfl⟩⟩:=zku o1 (v:=.power (i:Int) k) ⟨⟨by omega,by have:=o1.len; omega⟩,g.2⟩ e'
   exact⟨o2,l2,⟨r1++r2,by simp⟩,⟨s1++s2,by simp⟩⟩
 | .bi d tl tr,ns,ns',hs,hs',j,h,hm,g,e=>by
  have e':(match zaz ms tl (ns,hs) with | some (N1,i)=>(match zaz ms tr N1 with | some (N2,j)=>zaS N2 (.two (kdS d) i j) | none=>none) | none=>none)=some ((ns',hs'),j):=e
  cases c:zaz ms tl (ns,hs) with
  | none=>rw[c] at e'; cases e'
  | some x=>
   obtain⟨⟨n1,h1⟩,i⟩:=x
   rw[c] at e'
   dsimp only at e'
   cases c2:zaz ms tr (n1,h1) with
   | none=>rw[c2] at e'; cases e'
   | some y=>
    obtain⟨⟨n2,h2⟩,i2⟩:=y
    rw[c2] at e'
    obtain⟨o1,l1,⟨r1,rfl⟩,⟨s1,rfl⟩⟩:=zcL tl h hm g.1 c
    obtain⟨o2,l2,⟨r2,rfl⟩,⟨s2,rfl⟩⟩:=zcL tr o1 (λw j q=>by have:=hm w j q; rw[Vag]; omega) g.2.1 c2
    have z:=o2.len
    have l1':i<(ns++r1++r2).length:=by rw[Vag]; omega
    obtain⟨o3,l3,⟨r3,rfl⟩,⟨s3,rfl⟩⟩:=zku o2 (v:=.two (kdS d) (i:Int) (i2:Int)) ⟨zfD g.2.2,⟨by omega,by omega⟩,⟨by omega,by omega⟩⟩ e'
    exact⟨o3,l3,⟨r1++r2++r3,by simp⟩,⟨s1++s2++s3,by simp⟩⟩
def mlK (ml:List (Str×Nat)):List (Key×D):=ml.map λp=>(.inr p.1,.int (p.2:Int))
theorem zh3 (w:Str):∀ml:List (Str×Nat),zbm (mlK ml) (.inr w)=(ml.lookup w).map λj=>D.int (j:Int)
 | []=>rfl
 | (k,v)::ml=>by
  have i:=zh3 w ml
  unfold zbm mlK at i ⊢
  rw[Vaj,VaM,Vae]
  by_cases c:w=k
  ·subst c
   simp
  ·rw[show (w==k)=false by simpa using c]
   simp only[Sum.inr.injEq,show ¬ k=w from λz=>c z.symm,decide_false]
   exact i
theorem zoG {ml:List (Str×Nat)}{w:Str}(j:Nat)(h:ml.lookup w=none):zcf (mlK ml) (.inr w) (.int (j:Int))=mlK (ml++[(w,j)]):=by
 have e:zbm (mlK ml) (.inr w)=none:=by rw[zh3,h]; rfl
 unfold zcf
 have z:((mlK ml).any λkv=>decide (kv.1=Sum.inr w))=false:=by
  unfold zbm at e
  rw[Option.map_eq_none_iff,List.find?_eq_none] at e
  rw[List.any_eq_false]
  exact e
 rw[z]
 show mlK ml++_=_
 unfold mlK
 rw[Vaz]
 rfl
theorem zmo {ml:List (Str×Nat)}{w v:Str}{i:Nat}:(ml++[(v,i)]).lookup w=match ml.lookup w with | some j=>some j | none=>if w=v then some i else none:=by
 induction ml with
 | nil=>
  show (match w==v with | true=>some i | false=>none)=_
  by_cases c:w=v
  ·rw[if_pos c,c]; simp
  ·rw[if_neg c,show (w==v)=false by simpa using c]; rfl
 | cons p ml ih=>
  obtain⟨k,x⟩:=p
  rw[VaS,Vae,Vae]
  cases w==k
  ·exact ih
  ·rfl
theorem NOk.front {ns:List Nd}{hs:List Int}(h:NOk ns hs):∀k<ns.length,∃v,ns[k]?=some v∧NOk (ns.take k) (hs.take k)∧v.ok (hs.take k)∧idx v (ns.take k)=none∧v.w (hs.take k)≤16∧ns.take (k+1)=ns.take k++[v]∧hs.take (k+1)=hs.take k++[v.w (hs.take k)]:=by
 induction h with
 | nil=>intro k hk; cases hk
 | @snoc ns hs v h0 ok ix w16 l6 ih=>
  intro k hk
  have hl:=h0.len
  by_cases c:k<ns.length
  ·obtain⟨u,a1,a2,a3,a4,a5,a6,a7⟩:=ih k c
   refine⟨u,by rw[Vah c]; exact a1,?_⟩
   rw[List.take_append_of_le_length (by omega),List.take_append_of_le_length (by omega),List.take_append_of_le_length (by omega),List.take_append_of_le_length (by omega)]
   exact⟨a2,a3,a4,a5,a6,a7⟩
  ·have e:k=ns.length:=by simp at hk; omega
   subst e
   refine⟨v,by simp,?_⟩
   rw[List.take_left,show (ns.length+1)=(ns++[v]).length by simp,List.take_length,hl,List.take_left,show (ns++[v]).length=(hs++[v.w hs]).length by simp[hl],List.take_length]
   exact⟨h0,ok,ix,w16,rfl,rfl⟩
theorem Ng.same {ow:List Nat}{S T U:Sto}(a:Ng ow S T)(b:Ng ow T U):Ng ow S U:=a.trans b λx h=>.inl h
theorem ziG {C:Addr}{S T:Sto}{n a b c:Nat}{N:List Nd×List Int}{v:Nd}{Q:DK}{ex:Sto→Prop}(g:Ng [a,b,c] S T)(h:match zaS N v with | none=>∀T:Sto,Ng [a,b,c] S T→ex T | some (M,j)=>∀T:Sto,Ng [a,b,c] S T→zba C T n a b c M.1 M.2→Q (.int (j:Int)) T):match zaS N v with | none=>∀U:Sto,Ng [a,b,c] T U→ex U | some (M,j)=>∀U:Sto,Ng [a,b,c] T U→zba C U n a b c M.1 M.2→Q (.int (j:Int)) U:=by
 cases e:zaS N v with
 | none=>rw[e] at h; exact λU u=>h U (g.same u)
 | some x=>rw[e] at h; exact λU u q=>h U (g.same u) q
def zcj (N m u e r:Nat):List (Str×D):=[("net",.ref N),("meanings",.ref m),("unknown_names",.ref u),("unknown_ends",.ref e),("told_rows",.ref r)]
structure Tk where
 ns:List Nd
 hs:List Int
 ml:List (Str×Nat)
 un:List Str
 en:List D
 rw:List (Str×Nat)
def rwT (p:Str×Nat):D:=.tup [.str p.1,.int (p.2:Int)]
structure zbU (CT CN:Addr)(S:Sto)(n N a b c m u e r:Nat)(k:Tk):Prop where
 tsk:S[n]?=some (.ins CT (zcj N m u e r))
 net:zba CN S N a b c k.ns k.hs
 mea:S[m]?=some (.dck (mlK k.ml))
 nam:S[u]?=some (.lst (k.un.map D.str))
 ends:S[e]?=some (.lst k.en)
 rows:S[r]?=some (.lst (k.rw.map rwT))
 nd:[a,b,u,e,r].Nodup
 nok:NOk k.ns k.hs
 mok:∀w j,k.ml.lookup w=some j→j<k.ns.length
def zbc (n N a b c m u e r:Nat):List Nat:=[n,N,a,b,c,m,u,e,r]
theorem zvv {C:Addr}{S:Sto}:zba C (S++[Ob.ins C (zby (S.length+1) (S.length+2) (S.length+3)),.lst [],.lst [],.dct []]) S.length (S.length+1) (S.length+2) (S.length+3) [] []:=by
 have g:∀k:Nat,(S++[Ob.ins C (zby (S.length+1) (S.length+2) (S.length+3)),.lst [],.lst [],.dct []])[S.length+k]?=[Ob.ins C (zby (S.length+1) (S.length+2) (S.length+3)),.lst [],.lst [],.dct []][k]?:=λk=>by rw[VaE (by omega),Nat.add_sub_cancel_left]
 exact⟨g 0,g 1,g 2,g 3,by omega,rfl⟩
theorem zuu {n:Nat}{S:Sto}{o:Ob}{Q:DK}{ws:List Str}{w:Str}(ho:S[n]?=some o)(hw:zan o=ws.map D.str)(hq:Q (.bl (ws.any (·==w))) S)(hL:zcb o=some o:=by rfl):zbT (wIn 0 false) (.str w) (.ref n) S Q:=by
 rw[zca]
 unfold wIn
 simp only[zbd ho hL,hw]
 have e:zb1 (eqN 0) (ws.map D.str) (.str w)=some (ws.any (·==w)):=zls ..
 rw[e]
 exact hq
theorem zwF {ws:List Str}{w:Str}(h:w ∉ ws):ws.any (·==w)=false:=by
 rw[List.any_eq_false]
 intro x hx e
 exact h (eq_of_beq e ▸ hx)
theorem pv_in {w:Str}{k:Int}(h:pvS w=some k):2≤k∧k≤6:=by
 unfold pvS at h
 (repeat' split at h) <;> first | (cases h; decide) | cases h
theorem zl8 {l k:Nat}{c:List Str}{t:Tr}(h:exP l k c t):t.good∧∀w∈t.nms,w∈c∧zaG w=true:=by
 have g:∀ {l k:Nat} {c:List Str} {t:Tr},Ex kS avS pvS l k c t→t.good∧∀w∈t.nms,w∈c∧zaG w=true:=by
  intro l k c t h
  induction h with
  | @atom w t hw ha=>
   unfold avS at ha
   split at ha
   ·rename_i z
    cases ha
    refine⟨trivial,λx hx=>?_⟩
    have e:x=w:=by rw[Vat.mp hx,zcS]
    rw[e]
    exact⟨Vat.mpr rfl,z⟩
   ·split at ha
    ·cases ha
     exact⟨trivial,λx hx=>by cases hx⟩
    ·cases ha
  | shut _ _ _ ih=>exact⟨ih.1,λx hx=>⟨by simp[(ih.2 x hx).1],(ih.2 x hx).2⟩⟩
  | pow _ _ hn _ ih=>exact⟨⟨ih.1,pv_in hn⟩,λx hx=>⟨by simp[(ih.2 x hx).1],(ih.2 x hx).2⟩⟩
  | tim _ _ _ _ _ i1 i2=>
   refine⟨⟨i1.1,i2.1,Vab _⟩,λx hx=>?_⟩
   rcases Val.1 hx with hx | hx
   ·exact⟨by simp[(i1.2 x hx).1],(i1.2 x hx).2⟩
   ·exact⟨by simp[(i2.2 x hx).1],(i2.2 x hx).2⟩
  | @sum a l m k j n c d t s ha _ _ _ i1 i2=>
   refine⟨⟨i1.1,i2.1,?_⟩,λx hx=>?_⟩
   ·rcases zq5 ha with e | e <;> rw[e] at ha <;> cases ha <;> decide
   ·rcases Val.1 hx with hx | hx
    ·exact⟨by simp[(i1.2 x hx).1],(i1.2 x hx).2⟩
    ·exact⟨by simp[(i2.2 x hx).1],(i2.2 x hx).2⟩
 exact g h
theorem zkQ {l k:Nat}{c:List Str}{t:Tr}(h:exP l k c t):t.dp<c.length:=by
 have g:∀ {l k:Nat} {c:List Str} {t:Tr},Ex kS avS pvS l k c t→t.dp<c.length:=by
  intro l k c t h
  induction h with
  | @atom w t hw ha=>
   unfold avS at ha
   split at ha
   ·cases ha; exact Nat.one_pos
   ·split at ha
    ·cases ha; exact Nat.one_pos
    ·cases ha
  | shut _ _ _ ih=>simp; omega
  | pow _ _ _ _ ih=>simp[Tr.dp]; omega
  | tim _ _ _ _ _ i1 i2=>simp[Tr.dp]; omega
  | sum _ _ _ _ i1 i2=>simp[Tr.dp]; omega
 exact g h
theorem zks {c:List Str}{t:Tr}(h:trS c=some t):c.length≤120∧∃l k,exP l k c t:=by
 unfold trS at h
 split at h
 ·cases h
 ·rename_i hl
  split at h
  ·rename_i t' e
   cases h
   obtain⟨c',l,k,e1,_,d⟩:=zlL 16 c t [] e
   rw[VaB] at e1
   subst e1
   exact⟨by omega,l,k,d⟩
  ·cases h
abbrev Tk.ms (k:Tk):Str→Option Nat:=λw=>k.ml.lookup w
def znx (k:Tk)(ws:List Str):Prop:=∀w∈ws,w.length≤900∧(zaG w=true→∃j,k.ml.lookup w=some j)
def enD (t1 b1 t2 b2:Int):D:=.tup [.tup [.int t1,.int b1],.tup [.int t2,.int b2]]
structure zjP (k:Tk)(ws:List Str)(k':Tk):Prop where
 ex:∃(w0 lo hi:Str) (t1 b1 t2 b2:Int) (M:List Nd×List Int) (j:Nat),ws=[w0,"in",lo,hi]∧zaG w0=true∧lo.length≤900∧hi.length≤900∧zaZ (cs lo) t1 b1∧zaZ (cs hi) t2 b2∧¬ (t2*b1<t1*b2)∧k.ml.lookup w0=none∧k.ml.length<900∧k.un.length<4∧k.en.length<900∧zaS (k.ns,k.hs) (.unknown (k.un.length:Int))=some (M,j)∧k'={ k with ns:=M.1,hs:=M.2,ml:=k.ml++[(w0,j)],un:=k.un++[w0],en:=k.en++[enD t1 b1 t2 b2] }
structure ParC (k:Tk)(ws:List Str)(k':Tk):Prop where
 ex:∃(nm:Str) (es:List Str) (t:Tr) (M:List Nd×List Int) (j:Nat),ws=("let":Str)::nm::("=":Str)::es∧zaG nm=true∧trS es=some t∧k.ml.lookup nm=none∧k.ml.length<900∧znx k es∧zaz k.ms t (k.ns,k.hs)=some (M,j)∧k'={ k with ns:=M.1,hs:=M.2,ml:=k.ml++[(nm,j)] }
def sgS (sg:Str):Str:=if sg="=" then "zero" else "least"
structure RowC (k:Tk)(ws:List Str)(k':Tk):Prop where
 ex:∃(L R:List Str) (sg:Str) (t s:Tr) (M:List Nd×List Int) (j:Nat),ws=L++sg::R∧(∀w∈L,w≠"="∧w≠">=")∧(sg="="∨sg=">=")∧trS L=some t∧trS R=some s∧znx k ws∧k.rw.length<12∧zaz k.ms (.bi 1 t s) (k.ns,k.hs)=some (M,j)∧k'={ k with ns:=M.1,hs:=M.2,rw:=k.rw++[(sgS sg,j)] }
def zbx (CT CN:Addr)(S:Sto)(n:Nat)(ow:List Nat)(k:Tk):Prop:=∃N a b c m u e r,ow=zbc n N a b c m u e r∧zbU CT CN S n N a b c m u e r k
def Fr (ow ow':List Nat)(l:Nat):Prop:=∀x∈ow',x∈ow∨l≤x
structure Apart (n N a b c m u e r:Nat):Prop where
 nN:n≠N
 na:n≠a
 nb:n≠b
 nc:n≠c
 nm:n≠m
 nu:n≠u
 ne:n≠e
 nr:n≠r
 Nm:N≠m
 Nu:N≠u
 Ne:N≠e
 Nr:N≠r
 am:a≠m
 bm:b≠m
 cm:c≠m
 cu:c≠u
 ce:c≠e
 cr:c≠r
 mu:m≠u
 me:m≠e
 mr:m≠r
 au:a≠u
 ae:a≠e
 ar:a≠r
 bu:b≠u
 be:b≠e
 br:b≠r
 ue:u≠e
 ur:u≠r
 er:e≠r
theorem zbU.apart {CT CN:Addr}{S:Sto}{n N a b c m u e r:Nat}{k:Tk}(h:zbU CT CN S n N a b c m u e r k):Apart n N a b c m u e r:=by
 have nd:=h.nd
 simp only[VaH,Vaa,Vad,or_false,not_or,VaP,and_true,not_false_eq_true] at nd
 obtain⟨⟨_,d2,d3,d4⟩,⟨d5,d6,d7⟩,⟨d8,d9⟩,d10⟩:=nd
 have x:=h.net
 exact⟨za5 h.tsk x.net (by intro z; simp[zcj,zby] at z),za5 h.tsk x.kept (by intro z; cases z),za5 h.tsk x.weights (by intro z; cases z),za5 h.tsk x.numbers (by intro z; cases z),za5 h.tsk h.mea (by intro z; cases z),za5 h.tsk h.nam (by intro z; cases z),za5 h.tsk h.ends (by intro z; cases z),za5 h.tsk h.rows (by intro z; cases z),
  za5 x.net h.mea (by intro z; cases z),za5 x.net h.nam (by intro z; cases z),za5 x.net h.ends (by intro z; cases z),za5 x.net h.rows (by intro z; cases z),za5 x.kept h.mea (by intro z; cases z),za5 x.weights h.mea (by intro z; cases z),za5 x.numbers h.mea (by intro z; cases z),za5 x.numbers h.nam (by intro z; cases z),za5 x.numbers h.ends (by intro z; cases z),za5 x.numbers h.rows (by intro z; cases z),
  za5 h.mea h.nam (by intro z; cases z),za5 h.mea h.ends (by intro z; cases z),za5 h.mea h.rows (by intro z; cases z),d2,d3,d4,d5,d6,d7,d8,d9,d10⟩
theorem zoa {ml:List (Str×Nat)}{l j0:Nat}{w0:Str}(h:∀w j,ml.lookup w=some j→j<l)(h0:j0<l):∀w j,(ml++[(w0,j0)]).lookup w=some j→j<l:=λw j e=>by
 rw[zmo] at e
 cases c:ml.lookup w with
 | some i=>rw[c] at e; cases e; exact h w _ c
 | none=>
  rw[c] at e
  dsimp only at e
  split at e
  ·cases e; exact h0
  ·cases e
theorem zja {w:Str}(h:zaG w=true):w.length≤8:=by
 unfold zaG at h
 rw[Vay,Vay,Vay,decide_eq_true_eq,decide_eq_true_eq] at h
 omega
theorem zqm {w:Str}(h1:w≠"=")(h2:w≠">="):[(("=":Str),("zero":Str)),(">=","least")].lookup w=none:=by
 rw[Vae,show (w==("=":Str))=false by simpa using h1,Vae,show (w==(">=":Str))=false by simpa using h2]
 rfl
theorem zqb {td ty tv:TDE}{E:zbM}{dl:Ev}{S:Sto}(h:tv dl S λv S1=>td dl S1 λd S2=>ty dl S2 λy S3=>match zde S3 d,zdF y with
 | some (n,kvs),some k=>kvs.length<1000∧E.nx dl (S3.set n (.dck (zcf kvs k v)))
 | _,_=>False):ziY td ty tv E dl S:=by
 unfold ziY
 exact h
theorem zoi {td ty:TDE}{E:zbM}{dl:Ev}{S S2:Sto}{n:Nat}{kvs:List (Key×D)}{y v:D}{k:Key}(hd:∀K:DK,K (.ref n) S2→td dl S K)(hy:∀K:DK,K y S2→ty dl S2 K)(h:S2[n]?=some (.dck kvs))(hk:zdF y=some k)(hl:kvs.length<1000)(hq:E.nx dl (S2.set n (.dck (zcf kvs k v)))):td dl S λd S2=>ty dl S2 λy S3=>match zde S3 d,zdF y with
 | some (n,kvs),some k=>kvs.length<1000∧E.nx dl (S3.set n (.dck (zcf kvs k v)))
 | _,_=>False:=by
 refine hd _ (hy _ ?_)
 simp only[zde,h,hk]
 exact⟨hl,hq⟩
theorem zo2 (ml:List (Str×Nat)):(mlK ml).length=ml.length:=by simp[mlK]
theorem zbU.unk {CT CN:Addr}{S T:Sto}{n N a b c m u e r:Nat}{k:Tk}{M:List Nd×List Int}{j:Nat}{w0:Str}{d:D}(h:zbU CT CN S n N a b c m u e r k)(g:Ng [a,b,c] S T)(hn:zba CN T N a b c M.1 M.2)(ok:NOk M.1 M.2)(lj:j<M.1.length)(lm:k.ns.length≤M.1.length):
  zbU CT CN (((T.set m (.dck (mlK (k.ml++[(w0,j)])))).set u (.lst (k.un.map D.str++[.str w0]))).set e (.lst (k.en++[d]))) n N a b c m u e r { k with ns:=M.1,hs:=M.2,ml:=k.ml++[(w0,j)],un:=k.un++[w0],en:=k.en++[d] }∧Ng (zbc n N a b c m u e r) S (((T.set m (.dck (mlK (k.ml++[(w0,j)])))).set u (.lst (k.un.map D.str++[.str w0]))).set e (.lst (k.en++[d]))):=by
 have p:=h.apart
 have mv:∀ {x:Nat} {o:Ob},S[x]?=some o→x≠a→x≠b→x≠c→T[x]?=some o:=λhx n1 n2 n3=>g.2 _ _ (by simp[n1,n2,n3]) hx
 have t1:=mv h.tsk p.na p.nb p.nc
 have t2:=mv h.mea (Ne.symm p.am) (Ne.symm p.bm) (Ne.symm p.cm)
 have t3:=mv h.nam (Ne.symm p.au) (Ne.symm p.bu) (Ne.symm p.cu)
 have t4:=mv h.ends (Ne.symm p.ae) (Ne.symm p.be) (Ne.symm p.ce)
 have t5:=mv h.rows (Ne.symm p.ar) (Ne.symm p.br) (Ne.symm p.cr)
 refine⟨⟨?_,⟨?_,?_,?_,?_,hn.ne,hn.len⟩,?_,?_,?_,?_,h.nd,ok,zoa (λw i q=>Vak (h.mok w i q) lm) lj⟩,?_⟩
 ·exact zap (zap (zap t1 p.nm) p.nu) p.ne
 ·exact zap (zap (zap hn.net p.Nm) p.Nu) p.Ne
 ·exact zap (zap (zap hn.kept p.am) p.au) p.ae
 ·exact zap (zap (zap hn.weights p.bm) p.bu) p.be
 ·exact zap (zap (zap hn.numbers p.cm) p.cu) p.ce
 ·exact zap (zap (zcz t2) p.mu) p.me
 ·show _=some (Ob.lst ((k.un++[w0]).map D.str))
  rw[Vaz]
  exact zap (zcz (zap t3 (Ne.symm p.mu))) p.ue
 ·exact zcz (zap (zap t4 (Ne.symm p.me)) (Ne.symm p.ue))
 ·exact zap (zap (zap t5 (Ne.symm p.mr)) (Ne.symm p.ur)) (Ne.symm p.er)
 ·have g':Ng (zbc n N a b c m u e r) S T:=⟨g.1,λx o nx e=>g.2 x o (λz=>nx (by simp only[Vaa,Vad,or_false] at z; unfold zbc; simp only[Vaa]; rcases z with z | z | z <;> simp[z])) e⟩
  exact((g'.same (Ng.set (by simp[zbc]) _)).same (Ng.set (by simp[zbc]) _)).same (Ng.set (by simp[zbc]) _)
theorem zo7 {S T:Sto}(h:Pre S T):S.length≤T.length:=by
 cases c:S.length with
 | zero=>omega
 | succ k=>
  have e:S[k]?=some S[k]:=Vaw (by omega)
  have:=za8 (h k _ e)
  omega
theorem Ng.of {ow:List Nat}{S T:Sto}(h:Pre S T):Ng ow S T:=Ng.pre h (zo7 h)
theorem Ng.nil {ow:List Nat}{S T:Sto}(h:Ng [] S T):Ng ow S T:=⟨h.1,λx o _ e=>h.2 x o (by simp) e⟩
theorem zba.up {C:Addr}{S T:Sto}{n a b c:Nat}{ns:List Nd}{hs:List Int}(N:zba C S n a b c ns hs)(g:Ng [] S T):zba C T n a b c ns hs:=⟨g.2 _ _ (by simp) N.net,g.2 _ _ (by simp) N.kept,g.2 _ _ (by simp) N.weights,g.2 _ _ (by simp) N.numbers,N.ne,N.len⟩
theorem zbU.up {CT CN:Addr}{S T:Sto}{n N a b c m u e r:Nat}{k:Tk}(h:zbU CT CN S n N a b c m u e r k)(g:Ng [] S T):zbU CT CN T n N a b c m u e r k:=⟨g.2 _ _ (by simp) h.tsk,h.net.up g,g.2 _ _ (by simp) h.mea,g.2 _ _ (by simp) h.nam,g.2 _ _ (by simp) h.ends,g.2 _ _ (by simp) h.rows,h.nd,h.nok,h.mok⟩
structure zc6 (CN:Addr)(S T:Sto)(N a b c:Nat)(ns:List Nd)(hs:List Int):Prop where
 g:Ng [a,b,c] S T
 lN:S.length≤N
 la:S.length≤a
 lb:S.length≤b
 lc:S.length≤c
 net:zba CN T N a b c ns hs
theorem zc6.old {CN:Addr}{S T:Sto}{N a b c:Nat}{ns:List Nd}{hs:List Int}(h:zc6 CN S T N a b c ns hs){x:Nat}{o:Ob}(e:S[x]?=some o):T[x]?=some o:=h.g.2 x o (λz=>by
 have:=za8 e
 have:=h.la
 have:=h.lb
 have:=h.lc
 simp only[Vaa,Vad,or_false] at z
 omega) e
theorem zc6.of {CN:Addr}{S T U:Sto}{N a b c:Nat}{ns':List Nd}{hs':List Int}(g:Ng [] S T)(lN:S.length≤N)(la:S.length≤a)(lb:S.length≤b)(lc:S.length≤c)(g2:Ng [a,b,c] T U)(n:zba CN U N a b c ns' hs'):zc6 CN S U N a b c ns' hs':=⟨(g.nil).trans g2 λx hx=>.inl hx,lN,la,lb,lc,n⟩
theorem zbU.par {CT CN:Addr}{S T:Sto}{n N a b c m u e r N2 a2 b2 c2:Nat}{k:Tk}{M:List Nd×List Int}{j:Nat}{nm:Str}(h:zbU CT CN S n N a b c m u e r k)(w:zc6 CN S T N2 a2 b2 c2 M.1 M.2)(ok:NOk M.1 M.2)(lj:j<M.1.length)(lm:k.ns.length≤M.1.length):
  zbU CT CN ((T.set m (.dck (mlK (k.ml++[(nm,j)])))).set n (.ins CT (zcj N2 m u e r))) n N2 a2 b2 c2 m u e r { k with ns:=M.1,hs:=M.2,ml:=k.ml++[(nm,j)] }∧Ng (zbc n N a b c m u e r) S ((T.set m (.dck (mlK (k.ml++[(nm,j)])))).set n (.ins CT (zcj N2 m u e r)))∧Fr (zbc n N a b c m u e r) (zbc n N2 a2 b2 c2 m u e r) S.length:=by
 have p:=h.apart
 have ln:=za8 h.tsk
 have lm':=za8 h.mea
 have lu:=za8 h.nam
 have le:=za8 h.ends
 have lr:=za8 h.rows
 have qN:=w.lN
 have qa:=w.la
 have qb:=w.lb
 have qc:=w.lc
 refine⟨⟨?_,⟨?_,?_,?_,?_,w.net.ne,w.net.len⟩,?_,?_,?_,?_,?_,ok,zoa (λw i q=>Vak (h.mok w i q) lm) lj⟩,?_,?_⟩
 ·exact zcz (zap (w.old h.tsk) p.nm)
 ·exact zap (zap w.net.net (by omega)) (by omega)
 ·exact zap (zap w.net.kept (by omega)) (by omega)
 ·exact zap (zap w.net.weights (by omega)) (by omega)
 ·exact zap (zap w.net.numbers (by omega)) (by omega)
 ·exact zap (zcz (w.old h.mea)) (Ne.symm p.nm)
 ·exact zap (zap (w.old h.nam) (Ne.symm p.mu)) (Ne.symm p.nu)
 ·exact zap (zap (w.old h.ends) (Ne.symm p.me)) (Ne.symm p.ne)
 ·exact zap (zap (w.old h.rows) (Ne.symm p.mr)) (Ne.symm p.nr)
 ·have ab:=w.net.ne
  simp only[VaH,Vaa,Vad,or_false,not_or,VaP,and_true,not_false_eq_true]
  exact⟨⟨ab,by omega,by omega,by omega⟩,⟨by omega,by omega,by omega⟩,⟨p.ue,p.ur⟩,p.er⟩
 ·have g':Ng (zbc n N a b c m u e r) S T:=⟨w.g.1,λx o _ q=>w.old q⟩
  exact(g'.same (Ng.set (by simp[zbc]) _)).same (Ng.set (by simp[zbc]) _)
 ·intro x hx
  simp only[zbc,Vaa,Vad,or_false] at hx ⊢
  omega
theorem zbU.row {CT CN:Addr}{S T:Sto}{n N a b c m u e r N2 a2 b2 c2:Nat}{k:Tk}{M:List Nd×List Int}{j:Nat}{sg:Str}(h:zbU CT CN S n N a b c m u e r k)(w:zc6 CN S T N2 a2 b2 c2 M.1 M.2)(ok:NOk M.1 M.2)(lm:k.ns.length≤M.1.length):
  zbU CT CN ((T.set n (.ins CT (zcj N2 m u e r))).set r (.lst (k.rw.map rwT++[rwT (sg,j)]))) n N2 a2 b2 c2 m u e r { k with ns:=M.1,hs:=M.2,rw:=k.rw++[(sg,j)] }∧Ng (zbc n N a b c m u e r) S ((T.set n (.ins CT (zcj N2 m u e r))).set r (.lst (k.rw.map rwT++[rwT (sg,j)])))∧Fr (zbc n N a b c m u e r) (zbc n N2 a2 b2 c2 m u e r) S.length:=by
 have p:=h.apart
 have ln:=za8 h.tsk
 have lm':=za8 h.mea
 have lu:=za8 h.nam
 have le:=za8 h.ends
 have lr:=za8 h.rows
 have qN:=w.lN
 have qa:=w.la
 have qb:=w.lb
 have qc:=w.lc
 refine⟨⟨?_,⟨?_,?_,?_,?_,w.net.ne,w.net.len⟩,?_,?_,?_,?_,?_,ok,λw i q=>Vak (h.mok w i q) lm⟩,?_,?_⟩
 ·exact zap (zcz (w.old h.tsk)) p.nr
 ·exact zap (zap w.net.net (by omega)) (by omega)
 ·exact zap (zap w.net.kept (by omega)) (by omega)
 ·exact zap (zap w.net.weights (by omega)) (by omega)
 ·exact zap (zap w.net.numbers (by omega)) (by omega)
 ·exact zap (zap (w.old h.mea) (Ne.symm p.nm)) p.mr
 ·exact zap (zap (w.old h.nam) (Ne.symm p.nu)) p.ur
 ·exact zap (zap (w.old h.ends) (Ne.symm p.ne)) p.er
 ·show _=some (Ob.lst ((k.rw++[(sg,j)]).map rwT))
  rw[Vaz]
  exact zcz (zap (w.old h.rows) (Ne.symm p.nr))
 ·have ab:=w.net.ne
  simp only[VaH,Vaa,Vad,or_false,not_or,VaP,and_true,not_false_eq_true]
  exact⟨⟨ab,by omega,by omega,by omega⟩,⟨by omega,by omega,by omega⟩,⟨p.ue,p.ur⟩,p.er⟩
 ·have g':Ng (zbc n N a b c m u e r) S T:=⟨w.g.1,λx o _ q=>w.old q⟩
  exact(g'.same (Ng.set (by simp[zbc]) _)).same (Ng.set (by simp[zbc]) _)
 ·intro x hx
  simp only[zbc,Vaa,Vad,or_false] at hx ⊢
  omega
theorem args1 {te:TDE}{dl:Ev}{S S1:Sto}{Q:List D→Sto→Prop}{d:D}(h:∀K:DK,K d S1→te dl S K)(hq:Q [d] S1):zdV te zc7 dl S Q:=h _ hq
theorem args3 {t1 t2 t3:TDE}{dl:Ev}{S S1 S2 S3:Sto}{Q:List D→Sto→Prop}{d1 d2 d3:D}(h1:∀K:DK,K d1 S1→t1 dl S K)(h2:∀K:DK,K d2 S2→t2 dl S1 K)(h3:∀K:DK,K d3 S3→t3 dl S2 K)(hq:Q [d1,d2,d3] S3):zdV t1 (zdV t2 (zdV t3 zc7)) dl S Q:=h1 _ (h2 _ (h3 _ hq))
theorem zrE {L R:List Str}{sg:Str}:(L++sg::R).drop (L.length+1)=R:=by
 rw[show L++sg::R=(L++[sg])++R by simp,show L.length+1=(L++[sg]).length by simp]
 exact List.drop_left
theorem zrg (L R:List Str)(sg:Str):atI ((L++sg::R).map D.str) (L.length:Int)=some (.str sg):=by
 have z:=zcG (ws:=L++sg::R) (p:=L.length) (by simp)
 rw[show (L++sg::R)[L.length]=sg by simp] at z
 exact z
theorem zuc {sg:Str}(h:sg="="∨sg=">="):[(("=":Str),("zero":Str)),(">=","least")].lookup sg=some (sgS sg):=by
 rcases h with rfl | rfl <;> decide
inductive zcV (k:Tk)(ws:List Str)(k':Tk):Str→Prop
 | unk:zjP k ws k'→zcV k ws k' "unknown"
 | par:ParC k ws k'→zcV k ws k' "part"
 | row:RowC k ws k'→zcV k ws k' "row"
theorem zqD {l k:Nat}{c:List Str}{t:Tr}(h:exP l k c t):∀w∈c,kS w=.at→avS w≠none∨pvS w≠none:=by
 have g:∀ {l k:Nat} {c:List Str} {t:Tr},Ex kS avS pvS l k c t→∀w∈c,kS w=.at→avS w≠none∨pvS w≠none:=by
  intro l k c t h
  induction h with
  | @atom w t hw ha=>intro x hx _; rw[Vat.mp hx]; exact .inl (by rw[ha]; simp)
  | @shut a b l k c t ha hb _ ih=>
   intro x hx hk
   simp only[VaS,Vaa,Val,Vad,or_false] at hx
   rcases hx with rfl | hx | rfl
   ·rw[ha] at hk; cases hk
   ·exact ih x hx hk
   ·rw[hb] at hk; cases hk
  | @pow a p k c t n ha hp hn _ ih=>
   intro x hx hk
   simp only[Val,Vaa,Vad,or_false] at hx
   rcases hx with hx | rfl | rfl
   ·exact ih x hx hk
   ·rw[ha] at hk; cases hk
   ·exact .inr (by rw[hn]; simp)
  | @tim a l m k j c d t s ha _ _ _ _ i1 i2=>
   intro x hx hk
   simp only[Val,Vaa] at hx
   rcases hx with hx | rfl | hx
   ·exact i1 x hx hk
   ·rw[ha] at hk; cases hk
   ·exact i2 x hx hk
  | @sum a l m k j n c d t s ha _ _ _ i1 i2=>
   intro x hx hk
   simp only[Val,Vaa] at hx
   rcases hx with hx | rfl | hx
   ·exact i1 x hx hk
   ·rw[hk] at ha; cases ha
   ·exact i2 x hx hk
 exact g h
theorem zqe {l k:Nat}{c:List Str}{t:Tr}(h:exP l k c t){w:Str}(hw:w∈c):w≠"in"∧w≠"let":=by
 have no:∀x:Str,x∈NOAT→pvS x=none→w≠x:=λx hx hp e=>by
  obtain⟨a,b,_⟩:=zsh x hx
  rcases zqD h w hw (by rw[e]; exact b) with z | z
  ·exact z (by rw[e]; exact a)
  ·exact z (by rw[e]; exact hp)
 exact⟨no _ (by decide) (by decide),no _ (by decide) (by decide)⟩
theorem ex_ne {l k:Nat}{c:List Str}{t:Tr}(h:exP l k c t):c≠[]:=λe=>by
 have:=zkQ h
 rw[e] at this
 simp at this
theorem zv3 {w:Str}(h:zaG w=true):w≠"in"∧w≠"let":=by
 constructor <;> intro e <;> rw[e] at h <;> revert h <;> decide
theorem in_eq (ws:List Str):eqL (eqN 1) (za4 (ws.map D.str) (some 1) (some 2)) [.str "in"]=some (decide (ws[1]?=some ("in":Str))):=by
 match ws with
 | []=>rfl
 | [a]=>rfl
 | a::b::r=>
  have e:za4 ((a::b::r).map D.str) (some 1) (some 2)=[.str b]:=by
   show za4 ((a::b::r).map D.str) (some ((1:Nat):Int)) (some ((2:Nat):Int))=_
   unfold L3.za4
   rw[HT.sIx_nat,HT.sIx_nat]
   simp
  rw[e]
  show (match some (decide (b="in")),(some true:Option Bool) with | some x,some y=>some (x&&y) | _,_=>none)=_
  simp
theorem zbU.lt {CT CN:Addr}{S:Sto}{n N a b c m u e r:Nat}{k:Tk}(h:zbU CT CN S n N a b c m u e r k):∀x∈zbc n N a b c m u e r,x<S.length:=λx hx=>by
 simp only[zbc,Vaa,Vad,or_false] at hx
 rcases hx with rfl | rfl | rfl | rfl | rfl | rfl | rfl | rfl | rfl
 ·exact za8 h.tsk
 ·exact za8 h.net.net
 ·exact za8 h.net.kept
 ·exact za8 h.net.weights
 ·exact za8 h.net.numbers
 ·exact za8 h.mea
 ·exact za8 h.nam
 ·exact za8 h.ends
 ·exact za8 h.rows
theorem zbx.up {CT CN:Addr}{S T:Sto}{n:Nat}{ow:List Nat}{k:Tk}(h:zbx CT CN S n ow k)(g:Ng [] S T):zbx CT CN T n ow k:=by
 obtain⟨N,a,b,c,m,u,e,r,rfl,tp⟩:=h
 exact⟨N,a,b,c,m,u,e,r,rfl,tp.up g⟩
theorem zbx.lt {CT CN:Addr}{S:Sto}{n:Nat}{ow:List Nat}{k:Tk}(h:zbx CT CN S n ow k):∀x∈ow,x<S.length:=by
 obtain⟨N,a,b,c,m,u,e,r,rfl,tp⟩:=h
 exact tp.lt
theorem zbx.tsk {CT CN:Addr}{S:Sto}{n:Nat}{ow:List Nat}{k:Tk}(h:zbx CT CN S n ow k):∃N m u e r,S[n]?=some (.ins CT (zcj N m u e r)):=by
 obtain⟨N,a,b,c,m,u,e,r,rfl,tp⟩:=h
 exact⟨N,m,u,e,r,tp.tsk⟩
theorem Fr.le {ow ow':List Nat}{l l':Nat}(h:Fr ow ow' l)(e:l'≤l):Fr ow ow' l':=λx hx=>by
 rcases h x hx with z | z
 ·exact .inl z
 ·exact .inr (by omega)
theorem zwl {C:Addr}{f:Str}{to te:TDE}{E:zbM}{dl:Ev}{S:Sto}(h:te dl S λv S1=>to dl S1 λd S2=>match zb6 C S2 d with | some (n,fs)=>fs.length<1000∧E.nx dl (S2.set n (.ins C (zaO f v fs))) | none=>False):zfE C f to te E dl S:=by
 unfold zfE
 exact h
theorem zsk {C:Addr}{f:Str}{to:TDE}{E:zbM}{dl:Ev}{S1 S2:Sto}{n:Nat}{fs:List (Str×D)}{v:D}(hto:∀K:DK,K (.ref n) S2→to dl S1 K)(h:S2[n]?=some (.ins C fs))(hl:fs.length<1000)(hq:E.nx dl (S2.set n (.ins C (zaO f v fs)))):to dl S1 λd S2=>match zb6 C S2 d with | some (n,fs)=>fs.length<1000∧E.nx dl (S2.set n (.ins C (zaO f v fs))) | none=>False:=by
 refine hto _ ?_
 simp only[zb6,h,if_pos]
 exact⟨hl,hq⟩
theorem zv9 {dl:Ev}{S:Sto}{Q:List D→Sto→Prop}(h:Q [] S):zc7 dl S Q:=h
theorem zwX {dl:Ev}{S:Sto}{Q:DK}{T:Sto}{m:Nat}(e:T=S++[.dck []])(em:m=S.length)(h:Q (.ref m) T):zny dl S Q:=by
 subst e em
 exact h
def zjQ (CT CN:Addr)(l:Nat):Sto:=[.ins CT (zcj (l+1) (l+5) (l+6) (l+7) (l+8)),.ins CN (zby (l+2) (l+3) (l+4)),.lst [],.lst [],.dct [],.dck [],.lst [],.lst [],.lst []]
theorem zvE {CT CN:Addr}(T:Sto):zbx CT CN (T++zjQ CT CN T.length) T.length (zbc T.length (T.length+1) (T.length+2) (T.length+3) (T.length+4) (T.length+5) (T.length+6) (T.length+7) (T.length+8)) ⟨[],[],[],[],[],[]⟩:=by
 have g:∀k:Nat,(T++zjQ CT CN T.length)[T.length+k]?=(zjQ CT CN T.length)[k]?:=λk=>by rw[VaE (by omega),Nat.add_sub_cancel_left]
 refine⟨_,_,_,_,_,_,_,_,rfl,⟨g 0,⟨g 1,g 2,g 3,g 4,by omega,rfl⟩,g 5,g 6,g 7,g 8,?_,.nil,λw j e=>by cases e⟩⟩
 simp only[VaH,Vaa,Vad,or_false,not_or,VaP,and_true,not_false_eq_true]
 omega
open Classical in
open Classical in
def AtT:Tr→Prop
 | .nm w=>w=cs "x"∨w=cs "yy"
 | .nb t b=>zaZ (zaI t b) t b∧(zaI t b).length≤12
 | _=>False
inductive LT:Nat→Tr→Prop
 | atm {t:Tr} {n:Nat}:AtT t→LT n t
 | lf {n:Nat} {t s:Tr} {d:Nat}:LT n t→AtT s→d≤2→LT (n+1) (.bi d t s)
 | rg {n:Nat} {t s:Tr} {d:Nat}:LT n t→AtT s→d≤2→LT (n+1) (.bi d s t)
 | pw {n:Nat} {t:Tr} {k:Int}:LT n t→2≤k→k≤6→LT (n+1) (.pw t k)
 | sq {n:Nat} {t:Tr}:LT n t→LT (n+1) (.bi 2 t t)
def jn:List (List Nat)→List Nat
 | []=>[]
 | [a]=>a
 | a::b::r=>a++32::jn (b::r)
theorem zog:∀ {X A Y B:List Nat},32 ∉ X→32 ∉ A→X++32::Y=A++32::B→X=A∧Y=B
 | [],[],_,_,_,_,e=>⟨rfl,(List.cons.inj e).2⟩
 | [],a::A,_,_,_,hA,e=>absurd (List.cons.inj e).1 (λz=>hA (by rw[← z]; exact Vau ..))
 | x::X,[],_,_,hX,_,e=>absurd (List.cons.inj e).1 (λz=>hX (by rw[z]; exact Vau ..))
 | x::X,a::A,_,_,hX,hA,e=>by
  obtain⟨e1,e2⟩:=List.cons.inj e
  obtain⟨i1,i2⟩:=zog (λz=>hX (Vap _ z)) (λz=>hA (Vap _ z)) e2
  exact⟨by rw[e1,i1],i2⟩
theorem zqd:∀(A B:List (List Nat)),A≠[]→B≠[]→(∀a∈A,32 ∉ a)→(∀b∈B,32 ∉ b)→jn A=jn B→A=B
 | [],_,h,_,_,_,_=>absurd rfl h
 | _,[],_,h,_,_,_=>absurd rfl h
 | [a],[b],_,_,_,_,e=>by rw[show a=b from e]
 | [a],b::b'::s,_,_,hA,_,e=>by
  have e':a=b++32::jn (b'::s):=e
  exact absurd (by rw[e']; simp) (hA a (Vat.mpr rfl))
 | a::a'::r,[b],_,_,_,hB,e=>by
  have e':a++32::jn (a'::r)=b:=e
  exact absurd (by rw[← e']; simp) (hB b (Vat.mpr rfl))
 | a::a'::r,b::b'::s,_,_,hA,hB,e=>by
  obtain⟨e1,e2⟩:=zog (hA a (Vau ..)) (hB b (Vau ..)) (show a++32::jn (a'::r)=b++32::jn (b'::s) from e)
  rw[e1,zqd (a'::r) (b'::s) (by simp) (by simp) (λx hx=>hA x (Vap _ hx)) (λx hx=>hB x (Vap _ hx)) e2]
theorem zch:∀ws:List Str,cs (Str.join " " ws)=jn (ws.map cs)
 | []=>rfl
 | [a]=>rfl
 | a::b::r=>by
  show cs (a++" "++Str.join " " (b::r))=cs a++32::jn ((b::r).map cs)
  rw[zaW,zaW,zch (b::r),VaA]
  rfl
theorem ziw (ws:List Str):Txt.join " " ws=Str.join " " ws:=StrLaws.glued_eq_join " " ws
theorem zmv {x:Str}{ws:List Str}(hx:x=Str.join " " ws)(hn:ws≠[])(h0:x.length≠0)(hb:∀w∈ws,32 ∉ cs w):Txt.split x " "=ws:=by
 have e:Str.join " " (Txt.split x " ")=x:=StrLaws.join_split x " "
 have f:∀p∈Txt.split x " ",32 ∉ cs p:=StrLaws.split_free x 32
 have ne:Txt.split x " "≠[]:=λz=>by
  rw[z] at e
  rw[← e] at h0
  exact h0 rfl
 have z:(Txt.split x " ").map cs=ws.map cs:=by
  refine zqd _ _ (λy=>ne (List.map_eq_nil_iff.mp y)) (λy=>hn (List.map_eq_nil_iff.mp y)) (λa ha=>?_) (λa ha=>?_) ?_
  ·obtain⟨p,hp,rfl⟩:=VaI.mp ha
   exact f p hp
  ·obtain⟨p,hp,rfl⟩:=VaI.mp ha
   exact hb p hp
  ·rw[← zch,← zch,e,hx]
 have inj:∀ {A B:List Str},A.map cs=B.map cs→A=B:=by
  intro A
  induction A with
  | nil=>intro B h; cases B with
   | nil=>rfl
   | cons b B=>cases h
  | cons a A ih=>intro B h; cases B with
   | nil=>cases h
   | cons b B=>
    obtain⟨h1,h2⟩:=List.cons.inj h
    rw[zbL h1,ih h2]
 exact inj z
theorem zro (a b:Str)(r:List Str):Str.join " " (a::b::r)=a++" "++Str.join " " (b::r):=rfl
theorem zm1:∀(ws:List Str) (B:Nat),(∀w∈ws,w.length≤B)→(Str.join " " ws).length≤ws.length*(B+1)
 | [],_,_=>VaG _
 | [a],B,h=>by
  show a.length≤1*(B+1)
  have:=h a (Vat.mpr rfl)
  omega
 | a::b::r,B,h=>by
  have i:=zm1 (b::r) B λw hw=>h w (Vap _ hw)
  have j:=h a (Vau ..)
  rw[zro,zaP,zaP]
  have e:(a::b::r).length*(B+1)=(b::r).length*(B+1)+(B+1):=by rw[Vaq,Nat.add_mul,Nat.one_mul]
  rw[e,show (" ":Str).length=1 from rfl]
  omega
theorem zpd {n m:Nat}{S:Sto}{Q:DK}{xs ys:List D}{b:Bool}(h1:S[n]?=some (.lst xs))(h2:S[m]?=some (.lst ys))(e:eqL (eqN 1) xs ys=some b)(hq:Q (.bl (!b)) S):zbT (zfa 1) (.ref n) (.ref m) S Q:=by
 rw[zca]
 unfold zfa
 simp only[zdT,zbd h1 rfl,zbd h2 rfl,zan,e]
 exact hq
structure zcp (w:Str):Prop where
 le:w.length≤12
 ne:w.length≠0
 bl:32 ∉ cs w
theorem zdp {w:Str}(h:w∈[("(":Str),")","+","-","*","^","x","yy","2","3","4","5","6"]):zcp w:=by
 have z:∀w∈[("(":Str),")","+","-","*","^","x","yy","2","3","4","5","6"],w.length≤12∧w.length≠0∧32 ∉ cs w:=by decide
 obtain⟨a,b,c⟩:=z w h
 exact⟨a,b,c⟩
theorem zo0 {t b:Int}(h:(zaI t b).length≤12):zcp (mk (zaI t b)):=by
 refine⟨by rw[zbo]; exact h,λz=>?_,λz=>?_⟩
 ·rw[zbo] at z
  have e:=List.eq_nil_of_length_eq_zero z
  unfold zaI at e
  exact zln t (List.append_eq_nil_iff.mp e).1
 ·rw[zbe] at z
  unfold zaI at z
  rcases Val.1 z with z | z
  ·have:=zfV z
   omega
  ·split at z
   ·cases z
   ·rcases Vaa.mp z with z | z
    ·omega
    ·have:=zfV z
     omega
theorem zne {v:Int}(h:2≤v∧v≤6):zcp (mk (num v)):=by
 have c:v=2∨v=3∨v=4∨v=5∨v=6:=by omega
 rcases c with rfl | rfl | rfl | rfl | rfl <;> exact zdp (by decide +kernel)
theorem zto {l k:Nat}{c:List Str}{t:Tr}(h:exP l k c t):∀w∈c,zaG w=true→w∈t.nms:=by
 have g:∀ {l k:Nat} {c:List Str} {t:Tr},Ex kS avS pvS l k c t→∀w∈c,zaG w=true→w∈t.nms:=by
  intro l k c t h
  have ka:∀ {w:Str},zaG w=true→kS w=.at:=λhn=>zc8 _ _ (zgF hn)
  induction h with
  | @atom w t hw ha=>
   intro x hx hn
   rw[Vat.mp hx] at hn ⊢
   rw[zgF hn] at ha
   cases ha
   show w∈[mk (cs w)]
   rw[zcS]
   exact Vat.mpr rfl
  | @shut a b l k c t ha hb _ ih=>
   intro x hx hn
   simp only[VaS,Vaa,Val,Vad,or_false] at hx
   rcases hx with rfl | hx | rfl
   ·rw[ka hn] at ha; cases ha
   ·exact ih x hx hn
   ·rw[ka hn] at hb; cases hb
  | @pow a p k c t n ha hp hn' _ ih=>
   intro x hx hn
   simp only[Val,Vaa,Vad,or_false] at hx
   rcases hx with hx | rfl | rfl
   ·exact ih x hx hn
   ·rw[ka hn] at ha; cases ha
   ·exfalso
    unfold pvS at hn'
    (repeat' split at hn') <;> first | (rename_i e; rw[e] at hn; revert hn; decide) | cases hn'
  | @tim a l m k j c d t s ha _ _ _ _ i1 i2=>
   intro x hx hn
   simp only[Val,Vaa] at hx
   rcases hx with hx | rfl | hx
   ·exact VaD _ (i1 x hx hn)
   ·rw[ka hn] at ha; cases ha
   ·exact Vav _ (i2 x hx hn)
  | @sum a l m k j n c d t s ha _ _ _ i1 i2=>
   intro x hx hn
   simp only[Val,Vaa] at hx
   rcases hx with hx | rfl | hx
   ·exact VaD _ (i1 x hx hn)
   ·rw[ka hn] at ha; cases ha
   ·exact Vav _ (i2 x hx hn)
 exact g h
theorem zpG {ml:List (Str×Nat)}{w v:Str}{i j:Nat}(h:ml.lookup w=some j):(ml++[(v,i)]).lookup w=some j:=by
 rw[zmo,h]
theorem zqj {ml:List (Str×Nat)}{w:Str}{i:Nat}(h:ml.lookup w=none):(ml++[(w,i)]).lookup w=some i:=by
 rw[zmo,h]
 show (if w=w then some i else none)=_
 rw[if_pos rfl]
theorem znw {w:Str}{t b:Int}(h:cs w=zaI t b)(hb:1≤b)(hg:Int.gcd t b=1)(ht:t.natAbs<10^9)(hb9:b<10^9):zaZ (cs w) t b:=by rw[h]; exact⟨hb,hg,ht,hb9,rfl⟩
theorem zl9:∀ {ml:List (Str×Nat)} {w:Str},w ∉ ml.map (·.1)→ml.lookup w=none
 | [],_,_=>rfl
 | (k,v)::ml,w,h=>by
  rw[Vaj,Vaa,not_or] at h
  rw[Vae,show (w==k)=false by simpa using h.1]
  exact zl9 h.2
theorem zoh {a b d:TDS}{E:zbM}{dl:Ev}{S:Sto}(W:Ev→Sto→Prop)(ha:∀nx:Ev→Sto→Prop,(∀dl' S',W dl' S'→nx dl' S')→zbp a b { nx:=nx,rt:=E.rt,bk:=E.bk,ct:=E.ct } dl S)(hb:∀dl' S',W dl' S'→d E dl' S'):zbp a (zbp b d) E dl S:=ha _ hb
abbrev TDJ:=Ev→Sto→Str→DK→Prop
section
variable {X:Cx}{Z:Zx}{pos:Pos}
def PDJ (X:Cx)(Z:Zx)(vs:List Expr)(t:TDJ):Prop:=∀(pins:List (Addr×Obj)) (s:Shared) (σ:L3.St) (H:Hp) (Qv:VK) (acc:Str),Inv X pins σ H s→(∃r dl S Q,Rs r H dl σ∧Rel X.K Z r S H∧t dl S acc Q∧Ret X.K Z r H Q Qv)→wpAny (model X.prog X.w) X.A (joinParts acc (evalEach vs X.env)) (EP X pins σ Qv) X.xe s
def dJNil:TDJ:=λ_ S acc Q=>acc.length≤1000∧Q (.str acc) S
def dJStr (x:Str)(t:TDJ):TDJ:=λdl S acc Q=>(acc++x).length≤1000∧t dl S (acc++x) Q
def dJVal (te:TDE)(t:TDJ):TDJ:=λdl S acc Q=>te dl S λd S1=>match d with
 | .str y=>(acc++y).length≤1000∧t dl S1 (acc++y) Q
 | .int i=>i.natAbs.log2<1920∧(acc++Str.ofString (toString i)).length≤1000∧t dl S1 (acc++Str.ofString (toString i)) Q
 | _=>False
theorem zmS:PDJ X Z [] dJNil:=λpins s σ H Qv acc I ⟨r,dl,S,Q,rs,rel,h,ret⟩=>
 joinParts_nil ⟨.str acc,H,I.tok _,⟨_,rfl⟩,ret _ H r (.str acc) S Ext.refl rel (.str acc) h.2⟩ (zbG h.1)
theorem zew {x:Str}{j:Nat}{p:Pos}{vs:List Expr}{t:TDJ}(h:PDJ X Z vs t):PDJ X Z (.Constant (.str x) j p::vs) (dJStr x t):=λpins s σ H Qv acc I ⟨r,dl,S,Q,rs,rel,q,ret⟩=>by
 refine joinParts_cons (Calls.Constant_str ?_)
 exact⟨zbG q.1,h pins _ σ H Qv (acc++x) (I.tok _) ⟨r,dl,S,Q,rs,rel,q.2,ret⟩⟩
theorem zir {e:Expr}{te:TDE}{p:Pos}{vs:List Expr}{t:TDJ}(he:PD X Z e te)(h:PDJ X Z vs t):PDJ X Z (.FormattedValue e (-1) none p::vs) (dJVal te t):=λpins s σ H Qv acc I ⟨r,dl,S,Q,rs,rel,q,ret⟩=>by
 refine joinParts_cons (FormattedValue_plain ?_)
 refine thn (he pins s σ H (λv H1=>(∃y,v=.str y∧(acc++y).length≤1000∧∃r dl S Q,Rs r H1 dl σ∧Rel X.K Z r S H1∧t dl S (acc++y) Q∧Ret X.K Z r H1 Q Qv)∨∃i,v=.int i∧i.natAbs.log2<1920∧(acc++Str.ofString (toString i)).length≤1000∧∃r dl S Q,Rs r H1 dl σ∧Rel X.K Z r S H1∧t dl S (acc++Str.ofString (toString i)) Q∧Ret X.K Z r H1 Q Qv) I ⟨r,dl,S,_,rs,rel,q,λv H1 r1 d S1 e1 rel1 p1 q1=>?_⟩) λu s1 ⟨v,H1,I1,rv,c⟩=>?_
 ·cases p1 with
  | str y=>exact .inl ⟨y,rfl,q1.1,r1,dl,S1,Q,rs.ext e1,rel1,q1.2,ret.ext e1⟩
  | int i=>exact .inr ⟨i,rfl,q1.1,q1.2.1,r1,dl,S1,Q,rs.ext e1,rel1,q1.2.2,ret.ext e1⟩
  | _=>exact(show False from q1).elim
 ·rcases c with ⟨y,rfl,l,c⟩ | ⟨i,rfl,hi,l,c⟩
  ·obtain⟨tk,rfl⟩:=rv
   have ly:y.length≤1000:=by rw[zaP] at l; omega
   exact formatField_str (λt' k=>⟨zbG l,h pins _ σ H1 Qv (acc++y) (I1.kept (t':=k) λb o e=>e) c⟩) (zbG ly)
  ·obtain⟨tk,rfl⟩:=rv
   exact formatField_int_small hi ⟨zbG l,h pins _ σ H1 Qv _ (I1.kept (t':=_) λb o e=>e) c⟩
def zvn (t:TDJ):TDE:=λdl S Q=>t dl S Str.empty Q
theorem zp1 {v1 v2:Expr}{vs:List Expr}{t:TDJ}(h:PDJ X Z (v1::v2::vs) t):PD X Z (.JoinedStr (v1::v2::vs) pos) (zvn t):=λpins s σ H Qv I ⟨r,dl,S,Q,rs,rel,q,ret⟩=>JoinedStr_many (h pins s σ H Qv Str.empty I ⟨r,dl,S,Q,rs,rel,q,ret⟩)
end
theorem zwB {P:Program}{w:World}{K:PySem.W.Frag}{mg:Str→Option Value}{x k1 k2 k3 v1 v2 v3:Str}{a:Addr}{o:Obj}{t1 t2 t3 u1 u2 u3:Tok}{ep:Nat}(hm:mg x=some (.ref a))(hk:K.lookup a=some o)(ho:o.ExactDict)(hd:o.data=.dict #[⟨zcu w (.inr k1),.str k1 t1,.str v1 u1⟩,⟨zcu w (.inr k2),.str k2 t2,.str v2 u2⟩,⟨zcu w (.inr k3),.str k3 t3,.str v3 u3⟩] ep)(ne:k1≠k2∧k1≠k3∧k2≠k3)(hs:(a==sysModules)=false):GD P w K mg x [(k1,v1),(k2,v2),(k3,v3)]:=by
 obtain⟨n12,n13,n23⟩:=ne
 refine⟨a,o,[(.inr k1,.str v1 u1),(.inr k2,.str v2 u2),(.inr k3,.str v3 u3)],hm,hk,λh e=>⟨o,_,ep,e,ho,hd,?_,?_,?_⟩,λk v hl=>?_,λk hl=>?_,hs⟩
 ·intro e he
  simp only[List.mem_toArray,Vaa,Vad,or_false] at he
  rcases he with rfl | rfl | rfl
  ·exact⟨.inr k1,zcT P w k1 t1,rfl⟩
  ·exact⟨.inr k2,zcT P w k2 t2,rfl⟩
  ·exact⟨.inr k3,zcT P w k3 t3,rfl⟩
 ·exact .cons (zcT P w k1 t1) rfl (.cons (zcT P w k2 t2) rfl (.cons (zcT P w k3 t3) rfl .nil))
 ·simp[n12,n13,n23]
 ·unfold valueAt
  by_cases c1:k=k1
  ·subst c1
   simp at hl
   subst hl
   exact⟨u1,by simp⟩
  rw[Vae,show (k==k1)=false by simpa using c1] at hl
  by_cases c2:k=k2
  ·subst c2
   simp at hl
   subst hl
   exact⟨u2,by simp[n12]⟩
  simp only[] at hl
  rw[Vae,show (k==k2)=false by simpa using c2] at hl
  by_cases c3:k=k3
  ·subst c3
   simp at hl
   subst hl
   exact⟨u3,by simp[n13,n23]⟩
  simp only[] at hl
  rw[Vae,show (k==k3)=false by simpa using c3] at hl
  cases hl
 ·unfold valueAt
  by_cases c1:k=k1
  ·subst c1; simp at hl
  rw[Vae,show (k==k1)=false by simpa using c1] at hl
  by_cases c2:k=k2
  ·subst c2; simp at hl
  simp only[] at hl
  rw[Vae,show (k==k2)=false by simpa using c2] at hl
  by_cases c3:k=k3
  ·subst c3; simp at hl
  simp[Ne.symm c1,Ne.symm c2,Ne.symm c3]
def dT0:Tr:=.nb 0 1
def ndT (nm:List Str)(ts:List Tr):Nd→Tr
 | .number t b=>.nb t b
 | .unknown k=>.nm (cs (nm.getD k.toNat ""))
 | .power i n=>.pw (ts.getD i.toNat dT0) n
 | .two x i j=>.bi (if x="plus" then 0 else if x="minus" then 1 else 2) (ts.getD i.toNat dT0) (ts.getD j.toNat dT0)
def zdj (nm:List Str):List Nd→List Tr→List Tr
 | [],acc=>acc
 | v::vs,acc=>zdj nm vs (acc++[ndT nm acc v])
def trs (nm:List Str)(ns:List Nd):List Tr:=zdj nm ns []
theorem zlY (nm:List Str):∀(a b:List Nd) (acc:List Tr),zdj nm (a++b) acc=zdj nm b (zdj nm a acc)
 | [],_,_=>rfl
 | v::vs,b,acc=>zlY nm vs b (acc++[ndT nm acc v])
theorem zpR (nm:List Str)(ns:List Nd)(v:Nd):trs nm (ns++[v])=trs nm ns++[ndT nm (trs nm ns) v]:=zlY nm ns [v] []
theorem zpQ {nm:List Str}{ts r:List Tr}{hs:List Int}{v:Nd}(ok:v.ok hs)(l:hs.length≤ts.length):ndT nm (ts++r) v=ndT nm ts v:=by
 have g:∀i:Int,inL hs i→(ts++r).getD i.toNat dT0=ts.getD i.toNat dT0:=λi h=>by
  have h1:=h.1
  have h2:=h.2
  rw[Vai,Vai,Vah (by omega)]
 cases v with
 | number t b=>rfl
 | unknown k=>rfl
 | power i n=>show Tr.pw _ n=Tr.pw _ n; rw[g i ok.1]
 | two x i j=>show Tr.bi _ _ _=Tr.bi _ _ _; rw[g i ok.2.1,g j ok.2.2]
theorem zda {nm:List Str}{ns:List Nd}{hs:List Int}(h:NOk ns hs):(trs nm ns).length=ns.length∧∀(q:Nat) (v:Nd),ns[q]?=some v→(trs nm ns).getD q dT0=ndT nm (trs nm ns) v:=by
 induction h with
 | nil=>exact⟨rfl,λq v e=>by cases e⟩
 | @snoc ns hs u h0 ok _ _ _ ih=>
  obtain⟨il,ia⟩:=ih
  have hl:=h0.len
  rw[zpR]
  refine⟨by simp[il],λq v e=>?_⟩
  by_cases c:q<ns.length
  ·rw[Vah c] at e
   rw[zpQ (h0.node q v e).1 (by omega),← ia q v e,Vai,Vai,Vah (by omega)]
  ·have eq:q=ns.length:=by
    have:=(Vac.mp e).1
    simp at this
    omega
   subst eq
   have eu:u=v:=by simpa using e
   subst eu
   rw[zpQ ok (by omega),Vai,VaE (by omega),il,Nat.sub_self]
   rfl
def sgD:Nat→Str
 | 0=>"+"
 | 1=>"-"
 | _=>"*"
def fw:Tr→List Str
 | .nm w=>[mk w]
 | .nb t b=>[mk (zaI t b)]
 | .pw t k=>("(":Str)::(fw t++[("^":Str),mk (num k)])++[(")":Str)]
 | .bi d l r=>("(":Str)::(fw l++sgD d::fw r)++[(")":Str)]
def shT (t:Tr):Str:=Str.join " " (fw t)
def Tr.atk:Tr→Prop
 | .nm w=>zaG (mk w)=true
 | .nb t b=>zaZ (zaI t b) t b∧(zaI t b).length≤12
 | .pw t _=>t.atk
 | .bi _ l r=>l.atk∧r.atk
theorem zfY {w:Str}(h:zaG w=true):zcp w:=by
 have hl:=zja h
 unfold zaG at h
 rw[Vay,Vay,Vay,decide_eq_true_eq,decide_eq_true_eq] at h
 refine⟨by omega,by omega,λz=>?_⟩
 have:=List.all_eq_true.mp h.1.2 32 z
 revert this
 decide
theorem zeR:∀t:Tr,t.good→t.atk→exP 3 t.dp (fw t) t∧((fw t).length:Int)≤5*t.wt-4∧(∀w∈fw t,zcp w)∧(t.dp:Int)≤t.wt-1∧(t.sz:Int)≤2*t.wt-1
 | .nm w,_,h=>by
  have x:=zmW h
  rw[zbe] at x
  refine⟨x,by show (1:Int)≤5*1-4; decide,λy hy=>?_,by show (0:Int)≤1-1; decide,by show (0:Int)≤2*1-1; decide⟩
  rw[Vat.mp hy]
  exact zfY h
 | .nb t b,_,h=>by
  refine⟨zpA h.1,by show (1:Int)≤5*1-4; decide,λy hy=>?_,by show (0:Int)≤1-1; decide,by show (1:Int)≤2*1-1; decide⟩
  rw[Vat.mp hy]
  exact zo0 h.2
 | .pw t k,g,h=>by
  obtain⟨x,l,wo,dp,sz⟩:=zeR t g.1 h
  obtain⟨pv0,_⟩:=zrU g.2
  have tp:=zdv t g.1
  have k2:=g.2.1
  have tk:2*t.wt≤k*t.wt:=Int.mul_le_mul_of_nonneg_right k2 (by omega)
  have e:(Tr.pw t k).wt=k*t.wt:=rfl
  refine⟨Ex.shut (by decide) (by decide) (Ex.pow (a:=("^":Str)) (by decide) (zeP _ _ pv0) pv0 x),?_,λw hw=>?_,?_,?_⟩
  ·show ((("(":Str)::(fw t++[("^":Str),mk (num k)])++[(")":Str)]).length:Int)≤_
   simp only[Vag,Vaq,List.length_nil]
   omega
  ·simp only[fw,VaS,Vaa,Val,Vad,or_false] at hw
   rcases hw with rfl | (hw | rfl | rfl) | rfl
   ·exact zdp (by decide)
   ·exact wo w hw
   ·exact zdp (by decide)
   ·exact zne g.2
   ·exact zdp (by decide)
  ·show ((t.dp+1:Nat):Int)≤_; omega
  ·show ((t.sz+1:Nat):Int)≤_; omega
 | .bi d l r,g,h=>by
  obtain⟨x1,l1,wo1,dp1,sz1⟩:=zeR l g.1 h.1
  obtain⟨x2,l2,wo2,dp2,sz2⟩:=zeR r g.2.1 h.2
  have e:(Tr.bi d l r).wt=l.wt+r.wt:=rfl
  have p1:=zdv l g.1
  have p2:=zdv r g.2.1
  have x:exP (if d=2 then 1 else 0) (max l.dp r.dp) (fw l++sgD d::fw r) (.bi d l r):=by
   match d,g with
   | 0,_=>exact Ex.sum (a:=("+":Str)) (n:=0) (by decide) (by decide) x1 x2
   | 1,_=>exact Ex.sum (a:=("-":Str)) (n:=1) (by decide) (by decide) x1 x2
   | 2,_=>exact Ex.tim (a:=("*":Str)) (by decide) (by decide) (by decide) x1 x2
   | d+3,g=>exact absurd g.2.2 (by omega)
  refine⟨Ex.shut (by decide) (by decide) x,?_,λw hw=>?_,?_,?_⟩
  ·show ((("(":Str)::(fw l++sgD d::fw r)++[(")":Str)]).length:Int)≤_
   simp only[Vag,Vaq,List.length_nil]
   omega
  ·simp only[fw,VaS,Vaa,Val,Vad,or_false] at hw
   rcases hw with rfl | (hw | rfl | hw) | rfl
   ·exact zdp (by decide)
   ·exact wo1 w hw
   ·match d with
    | 0=>exact zdp (by decide)
    | 1=>exact zdp (by decide)
    | d+2=>exact zdp (by simp[sgD])
   ·exact wo2 w hw
   ·exact zdp (by decide)
  ·show ((max l.dp r.dp+1:Nat):Int)≤_; omega
  ·show ((l.sz+r.sz+1:Nat):Int)≤_; omega
theorem zeF:∀(A B:List (List Nat)),A≠[]→B≠[]→jn (A++B)=jn A++32::jn B
 | [],_,h,_=>absurd rfl h
 | [a],B,_,hB=>by
  cases B with
  | nil=>exact absurd rfl hB
  | cons b r=>rfl
 | a::b::r,B,_,hB=>by
  have i:=zeF (b::r) B (by simp) hB
  show a++32::jn (b::r++B)=(a++32::jn (b::r))++32::jn B
  rw[i]
  simp
theorem zgW (t:Tr):fw t≠[]:=by cases t <;> simp[fw]
theorem zpg (t:Tr)(k:Int):((((Str.empty++("( ":Str))++shT t)++(" ^ ":Str))++mk (num k))++(" )":Str)=shT (.pw t k):=by
 refine zbL ?_
 unfold shT
 rw[zaW,zaW,zaW,zaW,zaW,show cs Str.empty=[] from rfl,zch,zch,zbe (num k)]
 have e:(fw (.pw t k)).map cs=[[40]]++((fw t).map cs++[[94],num k,[41]]):=by
  show ((("(":Str)::(fw t++[("^":Str),mk (num k)])++[(")":Str)]).map cs)=_
  simp only[Vaj,Vaz,List.map_nil,zbe]
  rw[show cs ("(":Str)=[40] by decide,show cs ("^":Str)=[94] by decide,show cs (")":Str)=[41] by decide]
  simp
 rw[e,zeF _ _ (by simp) (by simp),zeF _ _ (by simpa using zgW t) (by simp)]
 rw[show cs ("( ":Str)=[40,32] by decide,show cs (" ^ ":Str)=[32,94,32] by decide,show cs (" )":Str)=[32,41] by decide]
 show _=[40]++32::(jn ((fw t).map cs)++32::([94]++32::(num k++32::[41])))
 simp
theorem zkz (d:Nat)(l r:Tr):((((((Str.empty++("( ":Str))++shT l)++(" ":Str))++sgD d)++(" ":Str))++shT r)++(" )":Str)=shT (.bi d l r):=by
 refine zbL ?_
 unfold shT
 rw[zaW,zaW,zaW,zaW,zaW,zaW,zaW,show cs Str.empty=[] from rfl,zch,zch,zch]
 have e:(fw (.bi d l r)).map cs=[[40]]++((fw l).map cs++([cs (sgD d)]++((fw r).map cs++[[41]]))):=by
  show ((("(":Str)::(fw l++sgD d::fw r)++[(")":Str)]).map cs)=_
  simp only[Vaj,Vaz,List.map_nil]
  rw[show cs ("(":Str)=[40] by decide,show cs (")":Str)=[41] by decide]
  simp
 rw[e,zeF _ _ (by simp) (by simp),zeF _ _ (by simpa using zgW l) (by simp),zeF _ _ (by simp) (by simp),zeF _ _ (by simpa using zgW r) (by simp)]
 rw[show cs ("( ":Str)=[40,32] by decide,show cs (" ":Str)=[32] by decide,show cs (" )":Str)=[32,41] by decide]
 show _=[40]++32::(jn ((fw l).map cs)++32::(cs (sgD d)++32::(jn ((fw r).map cs)++32::[41])))
 simp
structure zcl (ns:List Nd)(hs:List Int)(nm:List Str):Prop where
 nok:NOk ns hs
 num:∀t b,Nd.number t b∈ns→zaZ (zaI t b) t b∧(zaI t b).length≤12
 unk:∀k,Nd.unknown k∈ns→0≤k∧k<nm.length
 nam:∀w∈nm,zaG w=true
theorem zmT {ns:List Nd}{hs:List Int}{nm:List Str}(h:zcl ns hs nm):∀q:Nat,q<ns.length→((trs nm ns).getD q dT0).good∧((trs nm ns).getD q dT0).atk∧((trs nm ns).getD q dT0).wt=hs.getD q 0:=by
 obtain⟨tl,ta⟩:=zda (nm:=nm) h.nok
 intro q
 induction q using Nat.strongRecOn with
 | ind q ih=>
  intro hq
  have e:ns[q]?=some ns[q]:=Vaw hq
  obtain⟨v,f1,f2,f3,_⟩:=h.nok.front q hq
  have hv:=h.nok.node q v f1
  have hl:=h.nok.len
  have lt:(hs.take q).length=q:=by rw[VaK]; omega
  rw[ta q v f1,hv.2]
  have mem:=Vas f1
  cases v with
  | number t b=>
   obtain⟨a,b'⟩:=h.num t b mem
   exact⟨trivial,⟨a,b'⟩,rfl⟩
  | unknown k=>
   obtain⟨k0,k1⟩:=h.unk k mem
   refine⟨trivial,?_,rfl⟩
   show zaG (mk (cs (nm.getD k.toNat "")))=true
   rw[zcS]
   have hk:k.toNat<nm.length:=by omega
   rw[Vai,Vaw hk]
   exact h.nam _ (VaQ hk)
  | power i n=>
   obtain⟨⟨i0,i1⟩,n2⟩:=f3
   rw[lt] at i1
   obtain⟨a,b,c⟩:=ih i.toNat (by omega) (by omega)
   exact⟨⟨a,n2⟩,b,by show n*_=n*_; rw[c]⟩
  | two x i j=>
   obtain⟨hx,⟨i0,i1⟩,⟨j0,j1⟩⟩:=f3
   rw[lt] at i1 j1
   obtain⟨a,b,c⟩:=ih i.toNat (by omega) (by omega)
   obtain⟨a',b',c'⟩:=ih j.toNat (by omega) (by omega)
   refine⟨⟨a,a',?_⟩,⟨b,b'⟩,by show _+_=_+_; rw[c,c']⟩
   show (if x="plus" then 0 else if x="minus" then 1 else 2)≤2
   split
   ·decide
   ·split <;> decide
theorem zgb {ns:List Nd}{hs:List Int}{nm:List Str}(h:zcl ns hs nm){q:Nat}(hq:q<ns.length):(shT ((trs nm ns).getD q dT0)).length≤988∧exP 3 ((trs nm ns).getD q dT0).dp (fw ((trs nm ns).getD q dT0)) ((trs nm ns).getD q dT0)∧(fw ((trs nm ns).getD q dT0)).length≤76∧(∀w∈fw ((trs nm ns).getD q dT0),zcp w)∧((trs nm ns).getD q dT0).dp≤15:=by
 obtain⟨g,a,w⟩:=zmT h q hq
 obtain⟨x,l,wo,dp,sz⟩:=zeR _ g a
 have hl:=h.nok.len
 have sm:=h.nok.small (hs.getD q 0) (by rw[Vai,Vaw (by omega)]; exact VaQ _)
 rw[w] at l dp
 have l76:(fw ((trs nm ns).getD q dT0)).length≤76:=by omega
 refine⟨?_,x,l76,wo,by omega⟩
 have:=zm1 (fw ((trs nm ns).getD q dT0)) 12 λw hw=>(wo w hw).le
 have:(fw ((trs nm ns).getD q dT0)).length*(12+1)≤76*13:=Nat.mul_le_mul l76 (Vab _)
 unfold shT
 omega
theorem zmf {kvs:List (Str×Str)}{te:TDE}{dl:Ev}{S S1:Sto}{Q:DK}{k v:Str}(hte:∀K:DK,K (.str k) S1→te dl S K)(hv:kvs.lookup k=some v)(hq:Q (.str v) S1):zgc kvs te dl S Q:=by
 unfold zgc
 refine hte _ ?_
 simp only[hv]
 exact hq
theorem tx_pw (t:Tr)(k:Int):Str.join " " [("(":Str),shT t,"^",mk (num k),")"]=shT (.pw t k):=by
 rw[← zpg t k]
 refine zbL ?_
 rw[zch,zaW,zaW,zaW,zaW,zaW,show cs Str.empty=[] from rfl,zbe (num k)]
 rw[show cs ("( ":Str)=[40,32] by decide,show cs (" ^ ":Str)=[32,94,32] by decide,show cs (" )":Str)=[32,41] by decide]
 show cs "("++32::(cs (shT t)++32::(cs "^"++32::(cs (mk (num k))++32::cs ")")))=_
 rw[zbe (num k),show cs ("(":Str)=[40] by decide,show cs ("^":Str)=[94] by decide,show cs (")":Str)=[41] by decide]
 simp
theorem zl4 (d:Nat)(l r:Tr):Str.join " " [("(":Str),shT l,sgD d,shT r,")"]=shT (.bi d l r):=by
 rw[← zkz d l r]
 refine zbL ?_
 rw[zch,zaW,zaW,zaW,zaW,zaW,zaW,zaW,show cs Str.empty=[] from rfl]
 rw[show cs ("( ":Str)=[40,32] by decide,show cs (" ":Str)=[32] by decide,show cs (" )":Str)=[32,41] by decide]
 show cs "("++32::(cs (shT l)++32::(cs (sgD d)++32::(cs (shT r)++32::cs ")")))=_
 rw[show cs ("(":Str)=[40] by decide,show cs (")":Str)=[41] by decide]
 simp
abbrev stA (sh:Int):List Nat:=[97,98,98,97,97,98].take (sh%7).toNat
def nmA (k sh:Int):Str:=mk (((stA sh).take (sh/7%7).toNat)++[97+(k/7%10).toNat,97+(k%7).toNat]++((stA sh).drop (sh/7%7).toNat))
theorem nmS1:∀c:Fin 7,StrLaws.sliceText "abbaab" none (some (c.val:Int))=mk ([97,98,98,97,97,98].take c.val):=by decide
theorem nmS2:∀c d:Fin 7,StrLaws.sliceText (mk ([97,98,98,97,97,98].take c.val)) none (some (d.val:Int))=mk (([97,98,98,97,97,98].take c.val).take d.val):=by decide
theorem nmS3:∀c d:Fin 7,StrLaws.sliceText (mk ([97,98,98,97,97,98].take c.val)) (some (d.val:Int)) none=mk (([97,98,98,97,97,98].take c.val).drop d.val):=by decide
theorem nmI1:∀a:Fin 10,("abcdefghij":Str).cps[a.val]?=some (97+a.val):=by decide
theorem nmI2:∀a:Fin 7,("abcdefg":Str).cps[a.val]?=some (97+a.val):=by decide
theorem zgQ {x:Int}{n:Nat}(h0:0≤x)(h1:x<n):∃c:Fin n,x=(c.val:Int)∧x.toNat=c.val:=⟨⟨x.toNat,by omega⟩,by show x=((x.toNat:Nat):Int); omega,rfl⟩
theorem nm_st (c:Fin 7):(mk ([97,98,98,97,97,98].take c.val)).length≤6:=by rw[zbo]; simp; omega
def zeM:Nd→Prop
 | .number t b=>∃k:Int,1≤b∧b≤4∧-1000≤k∧k≤1000∧t=b*k+1
 | .unknown k=>0≤k∧k<4
 | _=>True
theorem zqi {t b:Int}(h:zeM (.number t b)):zaZ (zaI t b) t b∧(zaI t b).length≤12:=by
 obtain⟨k,b1,b4,k0,k1,rfl⟩:=h
 have lo:-4001≤b*k+1∧b*k+1≤4001:=by
  have:b=1∨b=2∨b=3∨b=4:=by omega
  rcases this with rfl | rfl | rfl | rfl <;> omega
 have g:Int.gcd (b*k+1) b=1:=by
  have h1:=Int.gcd_dvd_left (a:=b*k+1) (b:=b)
  have h2:=Int.gcd_dvd_right (a:=b*k+1) (b:=b)
  have h3:=Int.dvd_sub h1 (Int.dvd_mul_of_dvd_left (c:=k) h2)
  rw[show b*k+1-b*k=1 by omega] at h3
  have:=Int.eq_one_of_dvd_one (by omega) h3
  omega
 refine⟨⟨b1,g,by omega,by omega,rfl⟩,?_⟩
 have lt:=zgo (i:=b*k+1) (k:=4) (by decide) (by omega)
 have lb:=zgo (i:=b) (k:=1) (by decide) (by omega)
 unfold zaI
 split
 ·simp; omega
 ·simp; omega
theorem zpa {ns:List Nd}{hs:List Int}{nm:List Str}(nok:NOk ns hs)(hl:∀v∈ns,zeM v)(h4:nm.length=4)(hn:∀w∈nm,zaG w=true):zcl ns hs nm:=
 ⟨nok,λt b m=>zqi (hl _ m),λk m=>by have z:=hl _ m; exact⟨z.1,by rw[h4]; exact z.2⟩,hn⟩
theorem zqh {xs:List D}{n:Nat}(h:xs.length=n):za4 xs none (some (n:Int))=xs:=by
 subst h
 unfold L3.za4 HT.sIx
 simp
 rw[if_neg (by omega),List.take_length]
theorem zq3 {v:Nd}{ns:List Nd}{n:Nat}{S:Sto}{Q:DK}(h:S[n]?=some (.lst (ns.map Nd.d)))(hq:Q (.bl (!(idx v ns).isSome)) S):zbT (wIn 1 true) v.d (.ref n) S Q:=by
 rw[zca]
 unfold wIn
 simp only[zbd h rfl,zan,zpS]
 exact hq
theorem znO {S T:Sto}{n:Nat}{o:Ob}(h:Pre S T)(hn:S.length≤n):Pre S (T.set n o):=λk u e=>by
 have:=za8 e
 exact zek (h k u e) (by omega)
theorem zus {to te:TDE}{dl:Ev}{S S1 S2:Sto}{Q:DK}{n:Nat}{xs ys:List D}{y:D}(hto:∀K:DK,K (.ref n) S1→to dl S K)(h0:S1[n]?=some (.lst ys))(hte:∀K:DK,K y S2→te dl S1 K)(h:S2[n]?=some (.lst xs))(hl:xs.length<1000)(hq:Q .non (S2.set n (.lst (xs++[y])))):zeV to te dl S Q:=by
 unfold zeV
 refine hto _ ?_
 simp only[h0]
 refine hte _ ?_
 simp only[h]
 exact ifP hl hq
def nmZ (k sh:Int):Str:=StrLaws.sliceText (nmA k sh++("z":Str)) (some (-8)) none
theorem zsy:∀(k:Fin 4) (sh:Fin 49),zaG (nmZ (k.val:Int) (sh.val:Int))=true:=by decide +kernel
theorem zsH:∀(k j:Fin 4) (sh:Fin 49),k≠j→nmZ (k.val:Int) (sh.val:Int)≠nmZ (j.val:Int) (sh.val:Int):=by decide +kernel
theorem zv6:∀k:Fin 70,zaG (nmA (k.val:Int) 3)=true∧zaG (nmA (k.val:Int) 9)=true:=by decide +kernel
theorem zuJ:∀(k j:Fin 6),k≠j→nmA (20+(k.val:Int)) 3≠nmA (20+(j.val:Int)) 3:=by decide +kernel
theorem zsc:∀(k:Fin 70) (j:Fin 4) (sh:Fin 49),nmA (k.val:Int) 3≠nmZ (j.val:Int) (sh.val:Int)∧nmA (k.val:Int) 9≠nmZ (j.val:Int) (sh.val:Int):=by decide +kernel
theorem zoI:∀k:Fin 6,nmA (20+(k.val:Int)) 3≠nmA 60 9∧nmA (20+(k.val:Int)) 3≠nmA 61 9:=by decide +kernel
theorem zrq:nmA 60 9≠nmA 61 9:=by decide +kernel
theorem ztX {α:Type}{l:List α}(h:l.Nodup){i j:Nat}(hi:i<l.length)(hj:j<l.length)(e:l[i]=l[j]):i=j:=by
 have p:=List.pairwise_iff_getElem.mp h
 rcases Nat.lt_trichotomy i j with c | c | c
 ·exact absurd e (p i j hi hj c)
 ·exact c
 ·exact absurd e.symm (p j i hj hi c)
theorem zor (nm:List Str):∀(b:List Nd) (acc:List Tr),∃r,zdj nm b acc=acc++r
 | [],acc=>⟨[],by simp[zdj]⟩
 | v::vs,acc=>by
  obtain⟨r,e⟩:=zor nm vs (acc++[ndT nm acc v])
  exact⟨ndT nm acc v::r,by show zdj nm vs (acc++[ndT nm acc v])=_; rw[e]; simp⟩
theorem zmk {nm:List Str}{a r:List Nd}{hs:List Int}(h:NOk a hs){q:Nat}(hq:q<a.length):(trs nm (a++r)).getD q dT0=(trs nm a).getD q dT0:=by
 unfold trs
 rw[zlY]
 obtain⟨x,e⟩:=zor nm r (zdj nm a [])
 have l:(zdj nm a []).length=a.length:=(zda (nm:=nm) h).1
 rw[e,Vai,Vai,Vah (by omega)]
theorem zic {nm:List Str}{ns ns':List Nd}{hs hs':List Int}{v:Nd}{j:Nat}(h:NOk ns hs)(ok:v.ok hs)(e:zaS (ns,hs) v=some ((ns',hs'),j)):NOk ns' hs'∧(∃r,ns'=ns++r)∧j<ns'.length∧(trs nm ns').getD j dT0=ndT nm (trs nm ns) v∧∀u∈ns',u∈ns∨u=v:=by
 unfold zaS at e
 cases c:idx v ns with
 | some i=>
  simp only[c] at e
  cases e
  obtain⟨u,e1,e2⟩:=zgP c
  have eu:=zmN (h.node j u e1).1 ok e2
  subst eu
  exact⟨h,⟨[],by simp⟩,(Vac.mp e1).1,(zda h).2 j u e1,λu hu=>.inl hu⟩
 | none=>
  simp only[c] at e
  split at e
  ·cases e
  ·rename_i hh
   cases e
   have l6:=h.sixty
   refine⟨.snoc h ok c (by omega) (by omega),⟨_,rfl⟩,by simp,?_,λu hu=>?_⟩
   ·have l:=(zda (nm:=nm) h).1
    rw[zpR,Vai,VaE (by omega),l,Nat.sub_self]
    rfl
   ·rcases Val.1 hu with hu | hu
    ·exact .inl hu
    ·exact .inr (Vat.mp hu)
theorem zud {d:Nat}(h:d≤2):(if kdS d="plus" then 0 else if kdS d="minus" then 1 else 2)=d:=by
 match d,h with
 | 0,_=>rfl
 | 1,_=>rfl
 | 2,_=>rfl
def NdS (l:Nat):Nd→Prop
 | .number t b=>zaZ (zaI t b) t b∧(zaI t b).length≤12
 | .unknown k=>0≤k∧k<l
 | _=>True
theorem zix {nm:List Str}{ms:Str→Option Nat}{l:Nat}:∀(t:Tr) {ns ns':List Nd} {hs hs':List Int} {j:Nat},NOk ns hs→t.good→t.atk→(∀v∈ns,NdS l v)→(∀w∈t.nms,∀i,ms w=some i→i<ns.length∧(trs nm ns).getD i dT0=.nm (cs w))→zaz ms t (ns,hs)=some ((ns',hs'),j)→NOk ns' hs'∧(∃r,ns'=ns++r)∧j<ns'.length∧(trs nm ns').getD j dT0=t∧∀v∈ns',NdS l v
 | .nm w,ns,ns',hs,hs',j,h,_,_,hv,hw,e=>by
  have e':(ms (mk w)).map (λj=>((ns,hs),j))=some ((ns',hs'),j):=e
  cases c:ms (mk w) with
  | none=>rw[c] at e'; cases e'
  | some i=>
   rw[c] at e'
   cases e'
   obtain⟨a,b⟩:=hw (mk w) (Vat.mpr rfl) j c
   rw[zbe] at b
   exact⟨h,⟨[],by simp⟩,a,b,hv⟩
 | .nb t b,ns,ns',hs,hs',j,h,_,ak,hv,_,e=>by
  obtain⟨a1,a2,a3,a4,a5⟩:=zic (nm:=nm) (v:=.number t b) h trivial e
  refine⟨a1,a2,a3,a4,λu hu=>?_⟩
  rcases a5 u hu with z | z
  ·exact hv u z
  ·rw[z]; exact ak
 | .pw t k,ns,ns',hs,hs',j,h,g,ak,hv,hw,e=>by
  have e':(match zaz ms t (ns,hs) with | some (N1,i)=>zaS N1 (.power i k) | none=>none)=some ((ns',hs'),j):=e
  cases c:zaz ms t (ns,hs) with
  | none=>rw[c] at e'; cases e'
  | some x=>
   obtain⟨⟨n1,h1⟩,i⟩:=x
   rw[c] at e'
   obtain⟨b1,⟨r1,b2⟩,b3,b4,b5⟩:=zix t h g.1 ak hv hw c
   have hl:=b1.len
   obtain⟨a1,⟨r2,a2⟩,a3,a4,a5⟩:=zic (nm:=nm) (v:=.power i k) b1 ⟨⟨by omega,by omega⟩,g.2⟩ e'
   refine⟨a1,⟨r1++r2,by rw[a2,b2]; simp⟩,a3,?_,λu hu=>?_⟩
   ·rw[a4]
    show Tr.pw ((trs nm n1).getD (i:Int).toNat dT0) k=_
    rw[VaL,b4]
   ·rcases a5 u hu with z | z
    ·exact b5 u z
    ·rw[z]; trivial
 | .bi d tl tr,ns,ns',hs,hs',j,h,g,ak,hv,hw,e=>by
  have e':(match zaz ms tl (ns,hs) with | some (N1,i)=>(match zaz ms tr N1 with | some (N2,j)=>zaS N2 (.two (kdS d) i j) | none=>none) | none=>none)=some ((ns',hs'),j):=e
  cases c:zaz ms tl (ns,hs) with
  | none=>rw[c] at e'; cases e'
  | some x=>
   obtain⟨⟨n1,h1⟩,i⟩:=x
   rw[c] at e'
   dsimp only at e'
   obtain⟨b1,⟨r1,b2⟩,b3,b4,b5⟩:=zix tl h g.1 ak.1 hv (λw hh=>hw w (VaD _ hh)) c
   cases c2:zaz ms tr (n1,h1) with
   | none=>rw[c2] at e'; cases e'
   | some y=>
    obtain⟨⟨n2,h2⟩,i2⟩:=y
    rw[c2] at e'
    dsimp only at e'
    obtain⟨d1,⟨r2,d2⟩,d3,d4,d5⟩:=zix tr b1 g.2.1 ak.2 b5 (λw hh i hi=>by
     obtain⟨z1,z2⟩:=hw w (Vav _ hh) i hi
     rw[b2]
     exact⟨by rw[Vag]; omega,by rw[zmk h z1]; exact z2⟩) c2
    have hl:=d1.len
    have li:i<n2.length:=by rw[d2,Vag]; omega
    obtain⟨a1,⟨r3,a2⟩,a3,a4,a5⟩:=zic (nm:=nm) (v:=.two (kdS d) i i2) d1 ⟨zfD g.2.2,⟨by omega,by omega⟩,⟨by omega,by omega⟩⟩ e'
    refine⟨a1,⟨r1++r2++r3,by rw[a2,d2,b2]; simp⟩,a3,?_,λu hu=>?_⟩
    ·rw[a4]
     show Tr.bi (if kdS d="plus" then 0 else if kdS d="minus" then 1 else 2) ((trs nm n2).getD (i:Int).toNat dT0) ((trs nm n2).getD (i2:Int).toNat dT0)=_
     rw[zud g.2.2,VaL,VaL,d4,d2,zmk b1 b3,b4]
    ·rcases a5 u hu with z | z
     ·exact d5 u z
     ·rw[z]; trivial
theorem zcl.of {ns:List Nd}{hs:List Int}{nm:List Str}(nok:NOk ns hs)(hv:∀v∈ns,NdS nm.length v)(hn:∀w∈nm,zaG w=true):zcl ns hs nm:=⟨nok,λt b m=>hv _ m,λk m=>hv _ m,hn⟩
inductive SmN (nm:List Str)(A B:List Tr):Nd→Nd→Prop
 | num (t b:Int):SmN nm A B (.number t b) (.number t b)
 | unk (k:Int):SmN nm A B (.unknown k) (.unknown k)
 | pow (i j n:Int):A.getD i.toNat dT0=B.getD j.toNat dT0→SmN nm A B (.power i n) (.power j n)
 | two (x:Str) (i j k l:Int):A.getD i.toNat dT0=B.getD k.toNat dT0→A.getD j.toNat dT0=B.getD l.toNat dT0→SmN nm A B (.two x i j) (.two x k l)
theorem ztU {x y:Str}(hx:x="plus"∨x="minus"∨x="times")(hy:y="plus"∨y="minus"∨y="times")(e:(if x="plus" then 0 else if x="minus" then 1 else 2)=(if y="plus" then 0 else if y="minus" then (1:Nat) else 2)):x=y:=by
 rcases hx with rfl | rfl | rfl <;> rcases hy with rfl | rfl | rfl <;> first | rfl | (revert e; decide)
theorem sm_of {nm:List Str}{A B:List Tr}{hs hs':List Int}{u v:Nd}(hu:u.ok hs)(hv:v.ok hs')(nu:NdS nm.length u)(nv:NdS nm.length v)(nd:nm.Nodup)(e:ndT nm A u=ndT nm B v):SmN nm A B u v:=by
 cases u with
 | number t b=>
  cases v with
  | number t' b'=>simp only[ndT,Tr.nb.injEq] at e; obtain⟨rfl,rfl⟩:=e; exact .num _ _
  | unknown k=>simp[ndT] at e
  | power i n=>simp[ndT] at e
  | two x i j=>simp[ndT] at e
 | unknown k=>
  cases v with
  | number t' b'=>simp[ndT] at e
  | unknown k'=>
   simp only[ndT,Tr.nm.injEq] at e
   have e2:=zbL e
   obtain⟨k0,k1⟩:=nu
   obtain⟨k2,k3⟩:=nv
   have h1:k.toNat<nm.length:=by omega
   have h2:k'.toNat<nm.length:=by omega
   rw[Vai,Vai,Vaw h1,Vaw h2] at e2
   have e3:nm[k.toNat]=nm[k'.toNat]:=e2
   have e4:=ztX nd h1 h2 e3
   have:k=k':=by omega
   subst this
   exact .unk _
  | power i n=>simp[ndT] at e
  | two x i j=>simp[ndT] at e
 | power i n=>
  cases v with
  | number t' b'=>simp[ndT] at e
  | unknown k=>simp[ndT] at e
  | power i' n'=>simp only[ndT,Tr.pw.injEq] at e; obtain⟨e1,rfl⟩:=e; exact .pow _ _ _ e1
  | two x i' j=>simp[ndT] at e
 | two x i j=>
  cases v with
  | number t' b'=>simp[ndT] at e
  | unknown k=>simp[ndT] at e
  | power i' n'=>simp[ndT] at e
  | two x' i' j'=>
   simp only[ndT,Tr.bi.injEq] at e
   obtain⟨e0,e1,e2⟩:=e
   have:=ztU hu.1 hv.1 e0
   subst this
   exact .two _ _ _ _ _ e1 e2
theorem zcF {S:Sto}{Q:DK}{xs:List D}(hq:Q (.int (xs.length:Nat)) S):irr zf6 [.tup xs] S Q:=by
 rw[zff]
 exact hq
theorem zoB {v:Nd}{S:Sto}{Q:DK}(hq:Q (.bl true) S):wEq eq2 v.d v.d S Q:=by
 unfold wEq
 have ee:eq2 v.d v.d=some true:=by cases v <;> simp[Nd.d,eq2,eqL,eqF,L3.eqT]
 rw[ee]
 exact hq
theorem zxf {i:Int}{S:Sto}{Q:DK}(hq:Q (.bl true) S):wEq eq2 (.int i) (.int i) S Q:=by
 unfold wEq
 have ee:eq2 (.int i) (.int i)=some true:=by simp[eq2,eqF,L3.eqT]
 rw[ee]
 exact hq
theorem zft {i:Int}{S:Sto}{Q:DK}(hq:Q (.bl false) S):wNe eq2 (.int i) (.int i) S Q:=by
 unfold wNe
 have ee:eq2 (.int i) (.int i)=some true:=by simp[eq2,eqF,L3.eqT]
 rw[ee]
 exact hq
theorem zpc {i:Str}{S:Sto}{Q:DK}(hq:Q (.bl false) S):wNe eq2 (.str i) (.str i) S Q:=by
 unfold wNe
 have ee:eq2 (.str i) (.str i)=some true:=by simp[eq2,eqF,L3.eqT]
 rw[ee]
 exact hq
theorem zpJ {i:Str}{S:Sto}{Q:DK}(hq:Q (.bl true) S):wEq eq2 (.str i) (.str i) S Q:=by
 unfold wEq
 have ee:eq2 (.str i) (.str i)=some true:=by simp[eq2,eqF,L3.eqT]
 rw[ee]
 exact hq
theorem zpN {pre nm:Str}{ws:List Str}(hp:cs pre=[108,101,116,32]++cs nm++[32,61,32])(hw:ws≠[])(hm:zcp nm)(ok:∀w∈ws,zcp w):Txt.split (pre++Str.join " " ws) " "=("let":Str)::nm::("=":Str)::ws∧("":Str) ∉ ("let":Str)::nm::("=":Str)::ws:=by
 have all:∀w∈("let":Str)::nm::("=":Str)::ws,zcp w:=λw hw=>by
  rcases Vaa.mp hw with rfl | hw
  ·exact⟨by decide,by decide,by decide⟩
  rcases Vaa.mp hw with rfl | hw
  ·exact hm
  rcases Vaa.mp hw with rfl | hw
  ·exact⟨by decide,by decide,by decide⟩
  ·exact ok w hw
 have e:pre++Str.join " " ws=Str.join " " (("let":Str)::nm::("=":Str)::ws):=by
  refine zbL ?_
  rw[zaW,hp,zch,zch]
  cases ws with
  | nil=>exact absurd rfl hw
  | cons w r=>
   show [108,101,116,32]++cs nm++[32,61,32]++jn ((w::r).map cs)=cs "let"++32::(cs nm++32::(cs "="++32::jn ((w::r).map cs)))
   rw[show cs ("let":Str)=[108,101,116] by decide,show cs ("=":Str)=[61] by decide]
   simp
 have l0:(pre++Str.join " " ws).length≠0:=by
  rw[zaP]
  have:=congrArg List.length hp
  rw[← zhD] at this
  simp at this
  omega
 exact⟨zmv e (by simp) l0 λw hw=>(all w hw).bl,λz=>(all _ z).ne rfl⟩
theorem zoj (nm:Str):cs (("let ":Str)++nm++" = ")=[108,101,116,32]++cs nm++[32,61,32]:=by
 rw[zaW,zaW,show cs ("let ":Str)=[108,101,116,32] by decide,show cs (" = ":Str)=[32,61,32] by decide]
theorem zr1 {nm:Str}(hm:zcp nm):Txt.split (nm++" in -1 1/2") " "=[nm,"in","-1","1/2"]∧("":Str) ∉ [nm,("in":Str),"-1","1/2"]∧(nm++(" in -1 1/2":Str)).length≤100:=by
 have all:∀w∈[nm,("in":Str),"-1","1/2"],zcp w:=λw hw=>by
  simp only[Vaa,Vad,or_false] at hw
  rcases hw with rfl | rfl | rfl | rfl
  ·exact hm
  ·exact⟨by decide,by decide,by decide⟩
  ·exact⟨by decide,by decide,by decide⟩
  ·exact⟨by decide,by decide,by decide⟩
 have l:=zaP nm (" in -1 1/2":Str)
 have l2:((" in -1 1/2":Str)).length=10:=by decide
 have:=hm.le
 have e:nm++(" in -1 1/2":Str)=Str.join " " [nm,"in","-1","1/2"]:=by
  refine zbL ?_
  rw[zaW,zch]
  show _=cs nm++32::(cs "in"++32::(cs "-1"++32::cs "1/2"))
  rw[show cs ("in":Str)=[105,110] by decide,show cs ("-1":Str)=[45,49] by decide,show cs ("1/2":Str)=[49,47,50] by decide,show cs (" in -1 1/2":Str)=[32,105,110,32,45,49,32,49,47,50] by decide]
  simp
 exact⟨zmv e (by simp) (by omega) λw hw=>(all w hw).bl,λz=>(all _ z).ne rfl,by omega⟩
theorem zwt {nm:Str}(hm:zcp nm):Txt.split (nm++" >= 0") " "=[nm,">=","0"]∧("":Str) ∉ [nm,(">=":Str),"0"]∧(nm++(" >= 0":Str)).length≤100:=by
 have all:∀w∈[nm,(">=":Str),"0"],zcp w:=λw hw=>by
  simp only[Vaa,Vad,or_false] at hw
  rcases hw with rfl | rfl | rfl
  ·exact hm
  ·exact⟨by decide,by decide,by decide⟩
  ·exact⟨by decide,by decide,by decide⟩
 have l:=zaP nm (" >= 0":Str)
 have l2:((" >= 0":Str)).length=5:=by decide
 have:=hm.le
 have e:nm++(" >= 0":Str)=Str.join " " [nm,">=","0"]:=by
  refine zbL ?_
  rw[zaW,zch]
  show _=cs nm++32::(cs ">="++32::cs "0")
  rw[show cs (">=":Str)=[62,61] by decide,show cs ("0":Str)=[48] by decide,show cs (" >= 0":Str)=[32,62,61,32,48] by decide]
  simp
 exact⟨zmv e (by simp) (by omega) λw hw=>(all w hw).bl,λz=>(all _ z).ne rfl,by omega⟩
def kU (a b c d:Str):Nat→Tk
 | 0=>⟨[],[],[],[],[],[]⟩
 | 1=>⟨[.unknown 0],[1],[(a,0)],[a],[enD (-1) 1 1 2],[]⟩
 | 2=>⟨[.unknown 0,.unknown 1],[1,1],[(a,0),(b,1)],[a,b],[enD (-1) 1 1 2,enD (-1) 1 1 2],[]⟩
 | 3=>⟨[.unknown 0,.unknown 1,.unknown 2],[1,1,1],[(a,0),(b,1),(c,2)],[a,b,c],[enD (-1) 1 1 2,enD (-1) 1 1 2,enD (-1) 1 1 2],[]⟩
 | _=>⟨[.unknown 0,.unknown 1,.unknown 2,.unknown 3],[1,1,1,1],[(a,0),(b,1),(c,2),(d,3)],[a,b,c,d],[enD (-1) 1 1 2,enD (-1) 1 1 2,enD (-1) 1 1 2,enD (-1) 1 1 2],[]⟩
theorem ztP {a b c d:Str}(nd:[a,b,c,d].Nodup)(hn:∀w∈[a,b,c,d],zaG w=true):∀(k:Nat) (w:Str),[a,b,c,d][k]?=some w→zjP (kU a b c d k) [w,"in","-1","1/2"] (kU a b c d (k+1)):=by
 have n1:zaZ (cs "-1") (-1) 1:=znw (by decide +kernel) (by decide) (by decide) (by decide) (by decide)
 have n2:zaZ (cs "1/2") 1 2:=znw (by decide +kernel) (by decide) (by decide) (by decide) (by decide)
 simp only[VaH,Vaa,Vad,or_false,not_or,VaP,and_true,not_false_eq_true] at nd
 obtain⟨⟨ab,ac,ad⟩,⟨bc,bd⟩,cd⟩:=nd
 intro k w e
 have isn:zaG w=true:=hn w (Vas e)
 have lk:∀(ml:List (Str×Nat)),(∀p∈ml,w≠p.1)→ml.lookup w=none:=λml h=>zl9 (by
  intro z
  obtain⟨p,hp,e⟩:=VaI.mp z
  exact h p hp e.symm)
 have go:∀(k k':Tk) (M:List Nd×List Int) (j:Nat),k.ml.lookup w=none→k.ml.length<900→k.un.length<4→k.en.length<900→zaS (k.ns,k.hs) (.unknown (k.un.length:Int))=some (M,j)→k'={ k with ns:=M.1,hs:=M.2,ml:=k.ml++[(w,j)],un:=k.un++[w],en:=k.en++[enD (-1) 1 1 2] }→zjP k [w,"in","-1","1/2"] k':=λk k' M j h1 h2 h3 h4 h5 h6=>⟨⟨w,"-1","1/2",-1,1,1,2,M,j,rfl,isn,by decide,by decide,n1,n2,by decide,h1,h2,h3,h4,h5,h6⟩⟩
 match k,e with
 | 0,e=>
  cases e
  exact go _ _ ([.unknown 0],[1]) 0 rfl (by show 0<900; decide) (by show 0<4; decide) (by show 0<900; decide) rfl rfl
 | 1,e=>
  cases e
  exact go _ _ ([.unknown 0,.unknown 1],[1,1]) 1 (lk _ λp hp=>by simp[kU] at hp; rw[hp]; exact Ne.symm ab) (by show 1<900; decide) (by show 1<4; decide) (by show 1<900; decide) rfl rfl
 | 2,e=>
  cases e
  exact go _ _ ([.unknown 0,.unknown 1,.unknown 2],[1,1,1]) 2 (lk _ λp hp=>by simp[kU] at hp; rcases hp with hp | hp <;> rw[hp] <;> first | exact Ne.symm ac | exact Ne.symm bc) (by show 2<900; decide) (by show 2<4; decide) (by show 2<900; decide) rfl rfl
 | 3,e=>
  cases e
  exact go _ _ ([.unknown 0,.unknown 1,.unknown 2,.unknown 3],[1,1,1,1]) 3 (lk _ λp hp=>by simp[kU] at hp; rcases hp with hp | hp | hp <;> rw[hp] <;> first | exact Ne.symm ad | exact Ne.symm bd | exact Ne.symm cd) (by show 3<900; decide) (by show 3<4; decide) (by show 3<900; decide) rfl rfl
 | k+4,e=>cases e
theorem zi0 {ml:List (Str×Nat)}{w:Str}{i:Nat}:((w,i)::ml).lookup w=some i:=by
 rw[Vae,show (w==w)=true by simp]
theorem zfB {ml:List (Str×Nat)}{w v:Str}{i:Nat}(h:w≠v):((v,i)::ml).lookup w=ml.lookup w:=by
 rw[Vae,show (w==v)=false by simpa using h]
structure KR (k:Tk)(nm more:List Str)(l:Nat):Prop where
 nok:NOk k.ns k.hs
 nds:∀v∈k.ns,NdS 4 v
 len:k.ns.length≤l
 nms:k.ml.map (·.1)=nm++more
 unk:∀(i:Nat) (w:Str),nm[i]?=some w→k.ml.lookup w=some i∧k.ns[i]?=some (.unknown (i:Int))
 rw:k.rw=[]
theorem kr_4 {a b c d:Str}(nd:[a,b,c,d].Nodup):KR (kU a b c d 4) [a,b,c,d] [] 4:=by
 simp only[VaH,Vaa,Vad,or_false,not_or,VaP,and_true,not_false_eq_true] at nd
 obtain⟨⟨ab,ac,ad⟩,⟨bc,bd⟩,cd⟩:=nd
 have o0:NOk [.unknown 0] [1]:=.snoc (ns:=[]) (hs:=[]) (v:=.unknown 0) .nil trivial rfl (by decide) (by decide)
 have o1:NOk [.unknown 0,.unknown 1] [1,1]:=.snoc (ns:=[.unknown 0]) (hs:=[1]) (v:=.unknown 1) o0 trivial (by rfl) (by decide) (by decide)
 have o2:NOk [.unknown 0,.unknown 1,.unknown 2] [1,1,1]:=.snoc (ns:=[.unknown 0,.unknown 1]) (hs:=[1,1]) (v:=.unknown 2) o1 trivial (by rfl) (by decide) (by decide)
 have o3:NOk [.unknown 0,.unknown 1,.unknown 2,.unknown 3] [1,1,1,1]:=.snoc (ns:=[.unknown 0,.unknown 1,.unknown 2]) (hs:=[1,1,1]) (v:=.unknown 3) o2 trivial (by rfl) (by decide) (by decide)
 refine⟨o3,λv hv=>?_,Vab _,rfl,λi w e=>?_,rfl⟩
 ·have:v∈[Nd.unknown 0,.unknown 1,.unknown 2,.unknown 3]:=hv
  simp only[Vaa,Vad,or_false] at this
  rcases this with rfl | rfl | rfl | rfl
  ·exact⟨by decide,by decide⟩
  ·exact⟨by decide,by decide⟩
  ·exact⟨by decide,by decide⟩
  ·exact⟨by decide,by decide⟩
 ·match i,e with
  | 0,e=>cases e; exact⟨zi0,rfl⟩
  | 1,e=>cases e; exact⟨(zfB (Ne.symm ab)).trans zi0,rfl⟩
  | 2,e=>cases e; exact⟨(zfB (Ne.symm ac)).trans ((zfB (Ne.symm bc)).trans zi0),rfl⟩
  | 3,e=>cases e; exact⟨(zfB (Ne.symm ad)).trans ((zfB (Ne.symm bd)).trans ((zfB (Ne.symm cd)).trans zi0)),rfl⟩
  | i+4,e=>cases e
theorem KR.ms {k:Tk}{nm more:List Str}{l:Nat}(h:KR k nm more l){w:Str}(hw:w∈nm):∃i:Nat,nm[i]?=some w∧k.ml.lookup w=some i∧k.ns[i]?=some (.unknown (i:Int))∧i<k.ns.length∧k.hs.getD i 0=1∧(trs nm k.ns).getD i dT0=.nm (cs w):=by
 obtain⟨i,hi,e⟩:=List.getElem_of_mem hw
 have e':nm[i]?=some w:=by rw[Vaw hi,e]
 obtain⟨a,b⟩:=h.unk i w e'
 refine⟨i,e',a,b,(Vac.mp b).1,(h.nok.node i _ b).2,?_⟩
 rw[(zda h.nok).2 i _ b]
 show Tr.nm (cs (nm.getD (i:Int).toNat ""))=_
 rw[VaL,Vai,e']
 rfl
theorem KR.fit {k:Tk}{nm more:List Str}{l:Nat}(h:KR k nm more l){t:Tr}(g:t.good)(hw:∀w∈t.nms,w∈nm)(w16:t.wt≤16)(hl:l+t.sz≤60):∃(ns:List Nd) (hs:List Int) (j:Nat),zaz k.ms t (k.ns,k.hs)=some ((ns,hs),j)∧Put k.ns k.hs ns hs j t.wt t.sz:=by
 have:=h.len
 exact zjp t h.nok (λw hh=>by
  obtain⟨i,_,a,_,b,c,_⟩:=h.ms (hw w hh)
  exact⟨i,a,b,c⟩) g w16 (by omega)
theorem KR.next {k:Tk}{nm more:List Str}{l:Nat}(h:KR k nm more l){t:Tr}(g:t.good)(ak:t.atk)(hw:∀w∈t.nms,w∈nm){ns:List Nd}{hs:List Int}{j:Nat}(e:zaz k.ms t (k.ns,k.hs)=some ((ns,hs),j)){w0:Str}{l':Nat}(hl:ns.length≤l'):KR { k with ns:=ns,hs:=hs,ml:=k.ml++[(w0,j)] } nm (more++[w0]) l'∧(trs nm ns).getD j dT0=t∧j<ns.length:=by
 obtain⟨a1,⟨r,rfl⟩,a3,a4,a5⟩:=zix (nm:=nm) (l:=4) t h.nok g ak h.nds (λw hh i hi=>by
  obtain⟨i',_,a,_,b,_,c⟩:=h.ms (hw w hh)
  have:k.ml.lookup w=some i:=hi
  rw[a] at this
  cases this
  exact⟨b,c⟩) e
 refine⟨⟨a1,a5,hl,?_,λi w ei=>?_,h.rw⟩,a4,a3⟩
 ·show (k.ml++[(w0,j)]).map (·.1)=_
  rw[Vaz,h.nms,VaA]
  rfl
 ·obtain⟨x,y⟩:=h.unk i w ei
  refine⟨zpG x,?_⟩
  show (k.ns++r)[i]?=_
  rw[Vah (Vac.mp y).1]
  exact y
theorem KR.new {k:Tk}{nm more:List Str}{l:Nat}(h:KR k nm more l){w:Str}(h1:w ∉ nm)(h2:w ∉ more):k.ml.lookup w=none:=zl9 (by
 rw[h.nms]
 intro z
 rcases Val.1 z with z | z
 ·exact h1 z
 ·exact h2 z)
theorem KR.ml {k:Tk}{nm more:List Str}{l:Nat}(h:KR k nm more l):k.ml.length=nm.length+more.length:=by
 have:=congrArg List.length h.nms
 rw[Vaf,Vag] at this
 exact this
theorem KR.par {k:Tk}{nm more:List Str}{l:Nat}(h:KR k nm more l){t:Tr}(g:t.good)(ak:t.atk)(hw:∀w∈t.nms,w∈nm)(w16:t.wt≤16){w0:Str}(n0:zaG w0=true)(h1:w0 ∉ nm)(h2:w0 ∉ more)(lm:nm.length+more.length<900){ns:List Nd}{hs:List Int}{j:Nat}(e:zaz k.ms t (k.ns,k.hs)=some ((ns,hs),j)):zcV k (("let":Str)::w0::("=":Str)::fw t) { k with ns:=ns,hs:=hs,ml:=k.ml++[(w0,j)] } "part":=by
 obtain⟨x,l1,wo,dp,sz⟩:=zeR t g ak
 have hm:=h.ml
 refine .par ⟨⟨w0,fw t,t,(ns,hs),j,rfl,n0,zmu x (by omega) (by omega),h.new h1 h2,by omega,λw hh=>⟨by have:=(wo w hh).le; omega,λhn=>?_⟩,e,rfl⟩⟩
 obtain⟨i,_,a,_⟩:=h.ms (hw w (zto x w hh hn))
 exact⟨i,a⟩
theorem zsP {k:Tk}{w0:Str}{j:Nat}(e:k.ml.lookup w0=some j):zaz k.ms (.nm (cs w0)) (k.ns,k.hs)=some ((k.ns,k.hs),j):=by
 show (k.ml.lookup (mk (cs w0))).map _=_
 rw[zcS,e]
 rfl
theorem ztt (i:Str):mk (cs i)=i:=zcS ..
theorem KR.row {k:Tk}{nm more:List Str}{l j:Nat}{wt:Int}(h:KR k nm more l){w0:Str}(n0:zaG w0=true)(e:k.ml.lookup w0=some j)(hw:k.hs.getD j 0=wt)(w15:wt≤15)(jl:j<k.ns.length)(hl:l+2≤60):∃(ns:List Nd) (hs:List Int) (q:Nat) (z:Int),zcV k [w0,">=","0"] { k with ns:=ns,hs:=hs,rw:=[(("least":Str),q)] } "row"∧NOk ns hs∧(∃r,ns=k.ns++r)∧(∀v∈ns,NdS 4 v)∧ns[q]?=some (.two "minus" (j:Int) z):=by
 have ll:=h.len
 have i0:zaZ (zaI 0 1) 0 1:=⟨by decide,by decide,by decide,by decide,rfl⟩
 have t0:zaI 0 1=cs "0":=by decide +kernel
 obtain⟨n1,h1,z,e1,p1,x1⟩:=zhH (v:=.number 0 1) h.nok trivial (by show (1:Int)≤16; decide) (by omega)
 obtain⟨r1,q1⟩:=p1.ext
 obtain⟨s1,u1⟩:=p1.exh
 have hl0:=h.nok.len
 have hl1:=p1.ok.len
 have wj:h1.getD j 0=wt:=by rw[u1,zly (by omega)]; exact hw
 have z1:=p1.lt
 have le1:=p1.le
 have jl1:j<n1.length:=by rw[q1,Vag]; omega
 have wv:(Nd.two "minus" (j:Int) (z:Int)).w h1=wt+1:=by
  show h1.getD (j:Int).toNat 0+h1.getD (z:Int).toNat 0=_
  rw[VaL,VaL,wj,p1.wt]
  rfl
 obtain⟨n2,h2,q,e2,p2,x2⟩:=zhH (v:=.two "minus" (j:Int) (z:Int)) p1.ok ⟨.inr (.inl rfl),⟨by omega,by omega⟩,⟨by omega,by omega⟩⟩ (by rw[wv]; omega) (by omega)
 obtain⟨r2,q2⟩:=p2.ext
 obtain⟨v2,f1,f2⟩:=zgP x2
 have ok2:(Nd.two "minus" (j:Int) (z:Int)).ok h2:=by
  obtain⟨r,er⟩:=p2.exh
  rw[er]
  exact zlT ⟨.inr (.inl rfl),⟨by omega,by omega⟩,⟨by omega,by omega⟩⟩
 have ev:v2=.two "minus" (j:Int) (z:Int):=zmN (p2.ok.node q v2 f1).1 ok2 f2
 subst ev
 refine⟨n2,h2,q,z,?_,p2.ok,⟨r1++r2,by rw[q2,q1]; simp⟩,λv hv=>?_,f1⟩
 ·have ne:w0≠"="∧w0≠">=":=by constructor <;> intro z <;> rw[z] at n0 <;> revert n0 <;> decide
  have x0:exP 3 0 [("0":Str)] (.nb 0 1):=by
   have:=zpA i0
   rw[t0,ztt] at this
   exact this
  refine .row ⟨⟨[w0],["0"],">=",.nm (cs w0),.nb 0 1,(n2,h2),q,rfl,λw hw=>by rw[Vat.mp hw]; exact ne,.inr rfl,zmu (zmW n0) (by decide) (show 1≤120 by decide),zmu x0 (by decide) (show 1≤120 by decide),λw hw=>?_,by rw[h.rw]; decide,?_,by rw[h.rw]; rfl⟩⟩
  ·simp only[Vaa,Vad,or_false] at hw
   rcases hw with rfl | rfl | rfl
   ·exact⟨by have:=zja n0; omega,λ_=>⟨j,e⟩⟩
   ·exact⟨by decide,λz=>absurd z (by decide)⟩
   ·exact⟨by decide,λz=>absurd z (by decide)⟩
  ·have y1:zaz k.ms (.nm (cs w0)) (k.ns,k.hs)=some ((k.ns,k.hs),j):=zsP e
   have y2:zaz k.ms (.nb 0 1) (k.ns,k.hs)=some ((n1,h1),z):=e1
   show (match zaz k.ms (.nm (cs w0)) (k.ns,k.hs) with | some (N1,i)=>(match zaz k.ms (.nb 0 1) N1 with | some (N2,j)=>zaS N2 (.two (kdS 1) i j) | none=>none) | none=>none)=_
   rw[y1]
   dsimp only
   rw[y2]
   exact e2
 ·obtain⟨_,_,_,_,m2⟩:=zic (nm:=nm) (v:=.two "minus" (j:Int) (z:Int)) p1.ok ⟨.inr (.inl rfl),⟨by omega,by omega⟩,⟨by omega,by omega⟩⟩ e2
  obtain⟨_,_,_,_,m1⟩:=zic (nm:=nm) (v:=.number 0 1) h.nok trivial e1
  rcases m2 v hv with y | y
  ·rcases m1 v y with y | y
   ·exact h.nds v y
   ·rw[y]; exact⟨i0,by decide +kernel⟩
  ·rw[y]; trivial
structure RdS (CT CN:Addr)(S0 S:Sto)(n:Nat)(ow:List Nat)(k:Tk):Prop where
 tk:zbx CT CN S n ow k
 pre:Pre S0 S
 lo:∀x∈ow,S0.length≤x
theorem RdS.up {CT CN:Addr}{S0 S T:Sto}{n:Nat}{ow:List Nat}{k:Tk}(h:RdS CT CN S0 S n ow k)(g:Ng [] S T):RdS CT CN S0 T n ow k:=⟨h.tk.up g,λx o e=>g.2 x o (by simp) (h.pre x o e),h.lo⟩
theorem RdS.tell {CT CN:Addr}{S0 S T:Sto}{n:Nat}{ow ow':List Nat}{k k':Tk}(h:RdS CT CN S0 S n ow k)(g:Ng ow S T)(f:Fr ow ow' S.length)(t:zbx CT CN T n ow' k'):RdS CT CN S0 T n ow' k':=⟨t,λx o e=>g.2 x o (λz=>by have:=h.lo x z; have:=za8 e; omega) (h.pre x o e),λx hx=>by
 rcases f x hx with y | y
 ·exact h.lo x y
 ·have:=zo7 h.pre; omega⟩
theorem zrf {v:Int}(h:v.natAbs<1000):(Tr.nb v 1).atk∧fw (.nb v 1)=[mk (num v)]∧shT (.nb v 1)=mk (num v):=by
 have e:zaI v 1=num v:=by unfold zaI; rw[if_pos rfl,VaB]
 have l:=zgo (i:=v) (k:=3) (by decide) (by omega)
 refine⟨⟨⟨by decide,by simp,by omega,by decide,rfl⟩,by rw[e]; omega⟩,?_,?_⟩
 ·show [mk (zaI v 1)]=_; rw[e]
 ·show mk (zaI v 1)=_; rw[e]
def moN (c:Nat):List Str:=(List.range c).map λ(i:Nat)=>nmA (20+(i:Int)) 3
theorem zr8 (c:Nat):moN (c+1)=moN c++[nmA (20+(c:Int)) 3]:=by
 unfold moN
 rw[List.range_succ,Vaz]
 rfl
theorem zqu {c:Nat}(h:c<6):nmA (20+(c:Int)) 3 ∉ moN c:=λz=>by
 obtain⟨i,hi,e⟩:=VaI.mp z
 have:=VaU.mp hi
 exact zuJ ⟨i,by omega⟩ ⟨c,h⟩ (by intro y; have:=congrArg Fin.val y; simp at this; omega) e
theorem zwN {c:Nat}(h:c≤6):nmA 60 9 ∉ moN c∧nmA 61 9 ∉ moN c:=by
 constructor <;> intro z <;> obtain⟨i,hi,e⟩:=VaI.mp z <;> have:=VaU.mp hi
 ·exact(zoI ⟨i,by omega⟩).1 e
 ·exact(zoI ⟨i,by omega⟩).2 e
theorem zlE {k:Int}(h0:0≤k)(h1:k<70):zaG (nmA k 3)=true∧zaG (nmA k 9)=true:=by
 have z:=zv6 ⟨k.toNat,by omega⟩
 rw[show (((⟨k.toNat,by omega⟩:Fin 70).val:Nat):Int)=k by show ((k.toNat:Nat):Int)=k; omega] at z
 exact z
theorem zsQ {ns:List Nd}{hs:List Int}{nm:List Str}(h:zcl ns hs nm):∀q:Nat,q<ns.length→∀w∈((trs nm ns).getD q dT0).nms,w∈nm:=by
 intro q
 induction q using Nat.strongRecOn with
 | ind q ih=>
  intro hq
  obtain⟨v,f1,f2,f3,_⟩:=h.nok.front q hq
  have hl:=h.nok.len
  have lt:(hs.take q).length=q:=by rw[VaK]; omega
  rw[(zda (nm:=nm) h.nok).2 q v f1]
  have mem:=Vas f1
  cases v with
  | number t b=>intro w hw; cases hw
  | unknown k=>
   intro w hw
   obtain⟨k0,k1⟩:=h.unk k mem
   have e:w=mk (cs (nm.getD k.toNat "")):=Vat.mp hw
   have hk:k.toNat<nm.length:=by omega
   rw[e,zcS,Vai,Vaw hk]
   exact VaQ hk
  | power i n=>
   obtain⟨⟨i0,i1⟩,n2⟩:=f3
   rw[lt] at i1
   exact ih i.toNat (by omega) (by omega)
  | two x i j=>
   obtain⟨hx,⟨i0,i1⟩,⟨j0,j1⟩⟩:=f3
   rw[lt] at i1 j1
   intro w hw
   rcases Val.1 hw with hw | hw
   ·exact ih i.toNat (by omega) (by omega) w hw
   ·exact ih j.toNat (by omega) (by omega) w hw
theorem zcl.nds {ns:List Nd}{hs:List Int}{nm:List Str}(h:zcl ns hs nm):∀v∈ns,NdS nm.length v:=λv hv=>by
 cases v with
 | number t b=>exact h.num t b hv
 | unknown k=>exact h.unk k hv
 | power i n=>trivial
 | two x i j=>trivial
theorem zqx (ns:List Int):∃cs:List Int,za4 (ns.map D.int) (some 2) (some 32)=cs.map D.int∧cs.length≤30:=by
 have l:=zw9 (ns.map D.int) 2 32
 refine⟨(za4 (ns.map D.int) (some 2) (some 32)).map λd=>match d with | .int i=>i | _=>0,?_,by rw[Vaf]; exact l⟩
 rw[List.map_map]
 have z:∀x∈za4 (ns.map D.int) (some 2) (some 32),x=D.int (match x with | .int i=>i | _=>0):=λx hx=>by
  obtain⟨k,hk,e⟩:=List.getElem_of_mem hx
  obtain⟨c,e2⟩:=zwe (xs:=ns) (lo:=some 2) (hi:=some 32) (k:=k) (x:=x) (by rw[Vaw hk,e])
  rw[e2]
 exact((List.map_congr_left λx hx=>(z x hx).symm).trans (List.map_id _)).symm
theorem zww:∀(k:Fin 4) (sh:Fin 49),(nmA (k.val:Int) (sh.val:Int)).length≤8:=by decide +kernel
theorem zu8 {sh:Int}(h0:0≤sh)(h1:sh<49):[nmZ 0 sh,nmZ 1 sh,nmZ 2 sh,nmZ 3 sh].Nodup∧(∀w∈[nmZ 0 sh,nmZ 1 sh,nmZ 2 sh,nmZ 3 sh],zaG w=true)∧(∀w∈[nmZ 0 sh,nmZ 1 sh,nmZ 2 sh,nmZ 3 sh],∀k:Fin 70,nmA (k.val:Int) 3≠w∧nmA (k.val:Int) 9≠w)∧∀k:Nat,k<4→(nmA (k:Int) sh).length≤8:=by
 obtain⟨s,e,_⟩:=zgQ (x:=sh) (n:=49) h0 h1
 subst e
 have ne:∀k j:Fin 4,k≠j→nmZ (k.val:Int) (s.val:Int)≠nmZ (j.val:Int) (s.val:Int):=λk j h=>zsH k j s h
 have na:∀k:Fin 4,zaG (nmZ (k.val:Int) (s.val:Int))=true:=λk=>zsy k s
 have nz:∀(j:Fin 4) (k:Fin 70),nmA (k.val:Int) 3≠nmZ (j.val:Int) (s.val:Int)∧nmA (k.val:Int) 9≠nmZ (j.val:Int) (s.val:Int):=λj k=>zsc k j s
 refine⟨?_,λw hw=>?_,λw hw=>?_,λk hk=>zww ⟨k,hk⟩ s⟩
 ·simp only[VaH,Vaa,Vad,or_false,not_or,VaP,and_true,not_false_eq_true]
  exact⟨⟨ne 0 1 (by decide),ne 0 2 (by decide),ne 0 3 (by decide)⟩,⟨ne 1 2 (by decide),ne 1 3 (by decide)⟩,ne 2 3 (by decide)⟩
 ·simp only[Vaa,Vad,or_false] at hw
  rcases hw with rfl | rfl | rfl | rfl
  ·exact na 0
  ·exact na 1
  ·exact na 2
  ·exact na 3
 ·simp only[Vaa,Vad,or_false] at hw
  rcases hw with rfl | rfl | rfl | rfl
  ·exact nz 0
  ·exact nz 1
  ·exact nz 2
  ·exact nz 3
theorem zrG:NOk [Nd.unknown 2] [1]:=.snoc (ns:=[]) (hs:=[]) (v:=.unknown 2) .nil trivial rfl (by decide) (by decide)
structure zcn (K:PySem.W.Frag)(mg:Str→Option Value) where
 C:Addr
 m:mg "Net"=some (.ref C)
 cl:Cls K C
 n_numbers:zbr K C "numbers"
 n_weights:zbr K C "weights"
 n_kept:zbr K C "kept"
 makes:PySem.W.makesIn K C=true
 kp:PySem.W.keepIn K (.ref C)=true
structure zc2 (K:PySem.W.Frag)(mg:Str→Option Value) where
 C:Addr
 m:mg "Task"=some (.ref C)
 cl:Cls K C
 n_told_rows:zbr K C "told_rows"
 n_unknown_ends:zbr K C "unknown_ends"
 n_unknown_names:zbr K C "unknown_names"
 n_meanings:zbr K C "meanings"
 n_net:zbr K C "net"
 makes:PySem.W.makesIn K C=true
 kp:PySem.W.keepIn K (.ref C)=true
structure zcq (K:PySem.W.Frag)(mg:Str→Option Value) where
 C:Addr
 m:mg "Reader"=some (.ref C)
 cl:Cls K C
 n_depth:zbr K C "depth"
 n_place:zbr K C "place"
 n_words:zbr K C "words"
 makes:PySem.W.makesIn K C=true
 kp:PySem.W.keepIn K (.ref C)=true
def zhY:Sd:=λds S Q ex=>match ds with
 | [.int _,.int m]=>(0≤m∧m≤60)∧∀(v:Nd) (T:Sto),(∀hs:List Int,(hs.length:Int)=m→v.ok hs)→zeM v→Q v.d (S++T)
 | _=>False
theorem zqU:Ln (zhY) 2:=λds S Q ex h=>by unfold zhY at h; split at h <;> first | rfl | exact h.elim
def zgE:Sd:=λds S Q ex=>match ds with
 | [d,.ref n]=>∃(v:Nd) (hs:List Int),d=v.d∧S[n]?=some (Ob.lst (hs.map D.int))∧v.ok hs∧small hs∧Q (.int (v.w hs)) S
 | _=>False
theorem zqv:Ln (zgE) 2:=λds S Q ex h=>by unfold zgE at h; split at h <;> first | rfl | exact h.elim
def zgO:Sd:=λds S Q ex=>match ds with
 | [.ref c]=>∃cs:List Int,S[c]?=some (.lst (cs.map D.int))∧cs.length≤30∧∀(ns:List Nd) (hs:List Int) (a b:Nat) (T:Sto),NOk ns hs→(∀v∈ns,zeM v)→ns.length≤30→T[a]?=some (.lst (ns.map Nd.d))→T[b]?=some (.lst (hs.map D.int))→Pre S T→Q (.tup [.ref a,.ref b]) T
 | _=>False
theorem zt5:Ln (zgO) 1:=λds S Q ex h=>by unfold zgO at h; split at h <;> first | rfl | exact h.elim
def zhy:Sd:=λds S Q ex=>match ds with
 | [.ref n,.int k]=>∃ns:List Int,S[n]?=some (.frz (ns.map D.int))∧0≤k∧Q (.int (ns.getD k.toNat 0)) S
 | _=>False
theorem zt2:Ln (zhy) 2:=λds S Q ex h=>by unfold zhy at h; split at h <;> first | rfl | exact h.elim
def zge:Sd:=λds S Q ex=>match ds with
 | [.int n]=>(0≤n∧n.natAbs<10^200)∧Q (.str (mk (dec n.natAbs))) S
 | _=>False
theorem zvY:Ln (zge) 1:=λds S Q ex h=>by unfold zge at h; split at h <;> first | rfl | exact h.elim
def ze7:Sd:=λds S Q ex=>match ds with
 | [.tup [.int t,.int b]]=>(t.natAbs<10^200∧1≤b∧b.natAbs<10^200)∧Q (.str (mk (zaI t b))) S
 | _=>False
theorem zw1:Ln (ze7) 1:=λds S Q ex h=>by unfold ze7 at h; split at h <;> first | rfl | exact h.elim
def zdE (n:Nat):Sd:=λds S Q ex=>match ds with
 | [.ref p,.int at_,.ref pn]=>∃(ns:List Nd) (hs:List Int) (nm:List Str) (q:Nat),S[p]?=some (.lst (ns.map Nd.d))∧S[pn]?=some (.lst (nm.map D.str))∧zcl ns hs nm∧at_=(q:Int)∧q<ns.length∧q<n∧Q (.str (shT ((trs nm ns).getD q dT0))) S
 | _=>False
theorem zvS (n:Nat):Ln (zdE n) 3:=λds S Q ex h=>by unfold zdE at h; split at h <;> first | rfl | exact h.elim
def zfN:Sd:=λds S Q ex=>match ds with
 | [.int k,.int sh]=>0≤k∧k<70∧0≤sh∧sh<49∧Q (.str (nmA k sh)) S
 | _=>False
theorem zu1:Ln (zfN) 2:=λds S Q ex h=>by unfold zfN at h; split at h <;> first | rfl | exact h.elim
def zgg (cNet:Addr):Sd:=λds S Q ex=>match ds with
 | [.ref n]=>∃T:Sto,S=T++[.ins cNet []]∧n=T.length∧Q .non (T++[.ins cNet (zby (T.length+1) (T.length+2) (T.length+3)),.lst [],.lst [],.dct []])
 | _=>False
theorem zrR (cNet:Addr):Ln (zgg cNet) 1:=λds S Q ex h=>by unfold zgg at h; split at h <;> first | rfl | exact h.elim
def zhp (cNet:Addr)(cTask:Addr):Sd:=λds S Q ex=>match ds with
 | [.ref n]=>∃T:Sto,S=T++[.ins cTask []]∧n=T.length∧∀(U:Sto) (ow:List Nat),Ng [] T U→(∀x∈ow,T.length≤x)→zbx cTask cNet U n ow ⟨[],[],[],[],[],[]⟩→Q .non U
 | _=>False
theorem zu3 (cNet:Addr)(cTask:Addr):Ln (zhp cNet cTask) 1:=λds S Q ex h=>by unfold zhp at h; split at h <;> first | rfl | exact h.elim
def zfT (cNet:Addr):Sd:=λds S Q ex=>match ds with
 | [.ref n]=>∃a b c xs,S[n]?=some (.ins cNet (zby a b c))∧S[a]?=some (Ob.lst xs)∧Q (.ref S.length) (S++[Ob.lst xs])
 | _=>False
theorem zso (cNet:Addr):Ln (zfT cNet) 1:=λds S Q ex h=>by unfold zfT at h; split at h <;> first | rfl | exact h.elim
def zif (cNet:Addr)(cTask:Addr):Sd:=λds S Q ex=>match ds with
 | [.ref n]=>∃(ow:List Nat) (k:Tk),zbx cTask cNet S n ow k∧Q (.ref S.length) (S++[.lst (k.ns.map Nd.d)])
 | _=>False
theorem zqK (cNet:Addr)(cTask:Addr):Ln (zif cNet cTask) 1:=λds S Q ex h=>by unfold zif at h; split at h <;> first | rfl | exact h.elim
def zhc:Sd:=λds S Q ex=>match ds with
 | [.str x]=>(x.length≤1000∧("":Str) ∉ Txt.split x " ")∧Q (.ref S.length) (S++[.lst ((Txt.split x " ").map D.str)])
 | _=>False
theorem zsN:Ln (zhc) 1:=λds S Q ex h=>by unfold zhc at h; split at h <;> first | rfl | exact h.elim
def zhs:Sd:=λds S Q ex=>match ds with
 | [.ref wm]=>∃(L R:List Str) (sg:Str),S[wm]?=some (.lst ((L++sg::R).map D.str))∧(∀w∈L,w≠"="∧w≠">=")∧(sg="="∨sg=">=")∧Q (.int (L.length:Int)) S
 | _=>False
theorem zqY:Ln (zhs) 1:=λds S Q ex h=>by unfold zhs at h; split at h <;> first | rfl | exact h.elim
def zhi (cReader:Addr):Sd:=λds S Q ex=>match ds with
 | [.ref n,.ref wm]=>∃T:Sto,S=T++[.ins cReader []]∧n=T.length∧Q .non (T++[.ins cReader (rdF wm 0 0)])
 | _=>False
theorem zs2 (cReader:Addr):Ln (zhi cReader) 2:=λds S Q ex h=>by unfold zhi at h; split at h <;> first | rfl | exact h.elim
def zfd (cReader:Addr):Sd:=λds S Q ex=>match ds with
 | [.ref n]=>∃(wm:Nat) (ws:List Str) (p d:Nat),za7 cReader S n wm ws p d∧Q (.bl (decide (p=ws.length))) S
 | _=>False
theorem zs7 (cReader:Addr):Ln (zfd cReader) 1:=λds S Q ex h=>by unfold zfd at h; split at h <;> first | rfl | exact h.elim
def zdc (cReader:Addr)(cNoRow:Addr):Sd:=λds S Q ex=>match ds with
 | [.ref n]=>∃(wm:Nat) (ws:List Str) (p d:Nat),za7 cReader S n wm ws p d∧match ws.drop p with | []=>ex cNoRow S | w::_=>Q (.str w) (S.set n (.ins cReader (rdF wm ((p:Int)+1) (d:Int))))
 | _=>False
theorem zs0 (cReader:Addr)(cNoRow:Addr):Ln (zdc cReader cNoRow) 1:=λds S Q ex h=>by unfold zdc at h; split at h <;> first | rfl | exact h.elim
def zf0:Sd:=λds S Q ex=>match ds with
 | [.str w,.str sg,.int m]=>w.length≤1000∧Q (.bl ((decide (1≤(w.length:Int))&&decide ((w.length:Int)≤m))&&w.cps.toList.all (λc=>decide (c∈sg.cps.toList)))) S
 | _=>False
theorem zwG:Ln (zf0) 3:=λds S Q ex h=>by unfold zf0 at h; split at h <;> first | rfl | exact h.elim
def zdC:Sd:=λds S Q ex=>match ds with
 | [.str w]=>w.length≤1000∧Q (.bl (zaG w)) S
 | _=>False
theorem zvC:Ln (zdC) 1:=λds S Q ex h=>by unfold zdC at h; split at h <;> first | rfl | exact h.elim
def zho:Sd:=λds S Q ex=>match ds with
 | [.int a,.int b]=>(0≤a∧0≤b)∧Q (.int ((Int.gcd a b:Nat):Int)) S
 | _=>False
theorem zxj:Ln (zho) 2:=λds S Q ex h=>by unfold zho at h; split at h <;> first | rfl | exact h.elim
def zg4:Sd:=λds S Q ex=>match ds with
 | [.int _]=>Q (.bl true) S
 | _=>False
theorem zqW:Ln (zg4) 1:=λds S Q ex h=>by unfold zg4 at h; split at h <;> first | rfl | exact h.elim
def zha (cNoNumber:Addr):Sd:=λds S Q ex=>match ds with
 | [.int T,.int B]=>(B=0∧ex cNoNumber S)∨((B≠0∧Sz 4000 B)∧∀t b:Int,1≤b→t*B=T*b→Int.gcd t b=1→t.natAbs≤T.natAbs→b.natAbs≤B.natAbs→Q (.tup [.int t,.int b]) S)
 | _=>False
theorem zr4 (cNoNumber:Addr):Ln (zha cNoNumber) 2:=λds S Q ex h=>by unfold zha at h; split at h <;> first | rfl | exact h.elim
def zeO (cNoRow:Addr)(cNoNumber:Addr):Sd:=λds S Q ex=>match ds with
 | [.str w]=>w.length≤900∧(∀t b:Int,zaZ (cs w) t b→Q (.tup [.int t,.int b]) S)∧(Bad (cs w)→ex cNoRow S)
 | _=>False
theorem zwu (cNoRow:Addr)(cNoNumber:Addr):Ln (zeO cNoRow cNoNumber) 1:=λds S Q ex h=>by unfold zeO at h; split at h <;> first | rfl | exact h.elim
def zg0 (n:Nat)(cReader:Addr)(cNoRow:Addr)(cNoNumber:Addr):Sd:=λds S Q ex=>match ds with
 | [.ref n0]=>∃(wm:Nat) (ws:List Str) (p d:Nat),za7 cReader S n0 wm ws p d∧d≤16∧17≤d+n∧match brS (16-d) (ws.drop p) with | none=>∀T:Sto,zaT n0 S T→ex cNoRow T | some (t,r)=>∀T:Sto,zaT n0 S T→za7 cReader T n0 wm ws (ws.length-r.length) d→Q (trD t) T
 | _=>False
theorem zu5 (n:Nat)(cReader:Addr)(cNoRow:Addr)(cNoNumber:Addr):Ln (zg0 n cReader cNoRow cNoNumber) 1:=λds S Q ex h=>by unfold zg0 at h; split at h <;> first | rfl | exact h.elim
def zh0 (n:Nat)(cReader:Addr)(cNoRow:Addr)(cNoNumber:Addr):Sd:=λds S Q ex=>match ds with
 | [.ref n0]=>∃(wm:Nat) (ws:List Str) (p d:Nat),za7 cReader S n0 wm ws p d∧d≤16∧17≤d+n∧match zbD kS avS (inS (16-d)) (ws.drop p) with | none=>∀T:Sto,zaT n0 S T→ex cNoRow T | some (t,r)=>∀T:Sto,zaT n0 S T→za7 cReader T n0 wm ws (ws.length-r.length) d→Q (trD t) T
 | _=>False
theorem zvO (n:Nat)(cReader:Addr)(cNoRow:Addr)(cNoNumber:Addr):Ln (zh0 n cReader cNoRow cNoNumber) 1:=λds S Q ex h=>by unfold zh0 at h; split at h <;> first | rfl | exact h.elim
def zdZ (cReader:Addr):Sd:=λds S Q ex=>match ds with
 | [.ref n,.tup es]=>∃cs:List Str,es=cs.map D.str∧∃(wm:Nat) (ws:List Str) (p d:Nat),za7 cReader S n wm ws p d∧Q (.bl (match ws.drop p with | []=>false | w::_=>cs.any (·==w))) S
 | [.ref n,.ref m]=>∃cs:List Str,S[m]?=some (.tpl cs)∧∃(wm:Nat) (ws:List Str) (p d:Nat),za7 cReader S n wm ws p d∧Q (.bl (match ws.drop p with | []=>false | w::_=>cs.any (·==w))) S
 | _=>False
theorem zu9 (cReader:Addr):Ln (zdZ cReader) 2:=λds S Q ex h=>by unfold zdZ at h; split at h <;> first | rfl | exact h.elim
def zhw (n:Nat)(cReader:Addr)(cNoRow:Addr)(cNoNumber:Addr):Sd:=λds S Q ex=>match ds with
 | [.ref n0]=>∃(wm:Nat) (ws:List Str) (p d:Nat),za7 cReader S n0 wm ws p d∧d≤16∧17≤d+n∧match za3 kS avS pvS (inS (16-d)) (ws.drop p) with | none=>∀T:Sto,zaT n0 S T→ex cNoRow T | some (t,r)=>∀T:Sto,zaT n0 S T→za7 cReader T n0 wm ws (ws.length-r.length) d→Q (trD t) T
 | _=>False
theorem zqr (n:Nat)(cReader:Addr)(cNoRow:Addr)(cNoNumber:Addr):Ln (zhw n cReader cNoRow cNoNumber) 1:=λds S Q ex h=>by unfold zhw at h; split at h <;> first | rfl | exact h.elim
def zgA (n:Nat)(cReader:Addr)(cNoRow:Addr)(cNoNumber:Addr):Sd:=λds S Q ex=>match ds with
 | [.ref n0]=>∃(wm:Nat) (ws:List Str) (p d:Nat),za7 cReader S n0 wm ws p d∧d≤16∧17≤d+n∧match zbf kS avS pvS (inS (16-d)) (ws.drop p) with | none=>∀T:Sto,zaT n0 S T→ex cNoRow T | some (t,r)=>∀T:Sto,zaT n0 S T→za7 cReader T n0 wm ws (ws.length-r.length) d→Q (trD t) T
 | _=>False
theorem zqw (n:Nat)(cReader:Addr)(cNoRow:Addr)(cNoNumber:Addr):Ln (zgA n cReader cNoRow cNoNumber) 1:=λds S Q ex h=>by unfold zgA at h; split at h <;> first | rfl | exact h.elim
def zd5 (n:Nat)(cReader:Addr)(cNoRow:Addr)(cNoNumber:Addr):Sd:=λds S Q ex=>match ds with
 | [.ref n0]=>∃(wm:Nat) (ws:List Str) (p d:Nat),za7 cReader S n0 wm ws p d∧d≤16∧17≤d+n∧match exS (16-d) (ws.drop p) with | none=>∀T:Sto,zaT n0 S T→ex cNoRow T | some (t,r)=>∀T:Sto,zaT n0 S T→za7 cReader T n0 wm ws (ws.length-r.length) d→Q (trD t) T
 | _=>False
theorem zth (n:Nat)(cReader:Addr)(cNoRow:Addr)(cNoNumber:Addr):Ln (zd5 n cReader cNoRow cNoNumber) 1:=λds S Q ex h=>by unfold zd5 at h; split at h <;> first | rfl | exact h.elim
def zfQ (cReader:Addr)(cNoRow:Addr)(cNoNumber:Addr):Sd:=λds S Q ex=>match ds with
 | [.ref wm]=>∃ws:List Str,S[wm]?=some (.lst (ws.map D.str))∧ws.length≤900∧(∀w∈ws,w.length≤900)∧match trS ws with | none=>∀T:Sto,Pre S T→ex cNoRow T | some t=>∀T:Sto,Pre S T→Q (trD t) T
 | _=>False
theorem zvk (cReader:Addr)(cNoRow:Addr)(cNoNumber:Addr):Ln (zfQ cReader cNoRow cNoNumber) 1:=λds S Q ex h=>by unfold zfQ at h; split at h <;> first | rfl | exact h.elim
def zf3 (cTask:Addr):Sd:=λds S Q ex=>match ds with
 | [.ref n,.ref wm]=>∃(ws:List Str) (N m u e r:Nat) (ml:List (Str×Nat)),S[n]?=some (.ins cTask (zcj N m u e r))∧S[m]?=some (.dck (mlK ml))∧S[wm]?=some (.lst (ws.map D.str))∧(∀w∈ws,w.length≤900∧(zaG w=true→∃j,ml.lookup w=some j))∧Q .non S
 | _=>False
theorem zuw (cTask:Addr):Ln (zf3 cTask) 2:=λds S Q ex h=>by unfold zf3 at h; split at h <;> first | rfl | exact h.elim
def zim:Sd:=λds S Q ex=>match ds with
 | [d,.ref n]=>∃(v:Nd) (hs:List Int),d=v.d∧S[n]?=some (Ob.lst (hs.map D.int))∧v.ok hs∧small hs∧Q (.int (v.w hs)) S
 | _=>False
theorem zrB:Ln (zim) 2:=λds S Q ex h=>by unfold zim at h; split at h <;> first | rfl | exact h.elim
def zdt (cNet:Addr)(cTooMuch:Addr):Sd:=λds S Q ex=>match ds with
 | [.ref n,d]=>∃(v:Nd) (ns:List Nd) (hs:List Int) (a b c:Nat),d=v.d∧zba cNet S n a b c ns hs∧v.ok hs∧small hs∧ns.length≤60∧((∃j,idx v ns=some j∧Q (.int (j:Int)) S)∨(idx v ns=none∧(16<v.w hs∨ns.length=60)∧ex cTooMuch S)∨(idx v ns=none∧v.w hs≤16∧ns.length≠60∧Q (.int (ns.length:Int)) (zgx S a b c ns hs v)))
 | _=>False
theorem zuo (cNet:Addr)(cTooMuch:Addr):Ln (zdt cNet cTooMuch) 2:=λds S Q ex h=>by unfold zdt at h; split at h <;> first | rfl | exact h.elim
def zgj (cNet:Addr):Sd:=λds S Q ex=>match ds with
 | [.ref nn]=>∃(ns:List Nd) (hs:List Int) (a b c:Nat),zba cNet S nn a b c ns hs∧NOk ns hs∧∀(T:Sto) (n2 a2 b2 c2:Nat),Ng [] S T→S.length≤n2→S.length≤a2→S.length≤b2→S.length≤c2→zba cNet T n2 a2 b2 c2 ns hs→Q (.ref n2) T
 | _=>False
theorem zue (cNet:Addr):Ln (zgj cNet) 1:=λds S Q ex h=>by unfold zgj at h; split at h <;> first | rfl | exact h.elim
def zcU (n:Nat)(cNet:Addr)(cTooMuch:Addr):Sd:=λds S Q ex=>match ds with
 | [.ref nn,d,.ref m]=>∃(t:Tr) (ns:List Nd) (hs:List Int) (a b c:Nat) (ml:List (Str×Nat)),d=trD t∧t.dp<n∧zba cNet S nn a b c ns hs∧NOk ns hs∧(∀w j,ml.lookup w=some j→j<ns.length)∧S[m]?=some (.dck (mlK ml))∧t.good∧(∀w∈t.nms,∃j,ml.lookup w=some j)∧match zaz (λw=>ml.lookup w) t (ns,hs) with | none=>∀T:Sto,Ng [a,b,c] S T→ex cTooMuch T | some (N,j)=>∀T:Sto,Ng [a,b,c] S T→zba cNet T nn a b c N.1 N.2→Q (.int (j:Int)) T
 | _=>False
theorem zvq (n:Nat)(cNet:Addr)(cTooMuch:Addr):Ln (zcU n cNet cTooMuch) 3:=λds S Q ex h=>by unfold zcU at h; split at h <;> first | rfl | exact h.elim
def zh2 (cNet:Addr)(cTask:Addr):Sd:=λds S Q ex=>match ds with
 | [.ref n,.ref wm]=>∃(ow:List Nat) (k k':Tk) (ws:List Str),zbx cTask cNet S n ow k∧S[wm]?=some (.lst (ws.map D.str))∧wm ∉ ow∧RowC k ws k'∧∀(T:Sto) (ow':List Nat),Ng ow S T→Fr ow ow' S.length→zbx cTask cNet T n ow' k'→Q (.str "row") T
 | _=>False
theorem zqz (cNet:Addr)(cTask:Addr):Ln (zh2 cNet cTask) 2:=λds S Q ex h=>by unfold zh2 at h; split at h <;> first | rfl | exact h.elim
def zhV:Sd:=λds S Q ex=>match ds with
 | [.tup [.int a,.int b],.tup [.int c,.int d]]=>(IntMulOk a d∧IntMulOk c b)∧Q (.bl (decide (a*d<c*b))) S
 | _=>False
theorem zxk:Ln (zhV) 2:=λds S Q ex h=>by unfold zhV at h; split at h <;> first | rfl | exact h.elim
def zhS:Sd:=λds S Q ex=>match ds with
 | [.ref wm]=>∃(w0 lo hi:Str) (t1 b1 t2 b2:Int),S[wm]?=some (.lst ([w0,"in",lo,hi].map D.str))∧zaG w0=true∧lo.length≤900∧hi.length≤900∧zaZ (cs lo) t1 b1∧zaZ (cs hi) t2 b2∧¬ (t2*b1<t1*b2)∧Q (enD t1 b1 t2 b2) S
 | _=>False
theorem zxc:Ln (zhS) 1:=λds S Q ex h=>by unfold zhS at h; split at h <;> first | rfl | exact h.elim
def zfp (cTask:Addr):Sd:=λds S Q ex=>match ds with
 | [.ref n,.str w]=>∃(N m u e r:Nat) (ml:List (Str×Nat)),S[n]?=some (.ins cTask (zcj N m u e r))∧S[m]?=some (.dck (mlK ml))∧ml.lookup w=none∧Q .non S
 | _=>False
theorem ztI (cTask:Addr):Ln (zfp cTask) 2:=λds S Q ex h=>by unfold zfp at h; split at h <;> first | rfl | exact h.elim
def zgN (cNet:Addr)(cTask:Addr):Sd:=λds S Q ex=>match ds with
 | [.ref n,.ref wm]=>∃(ow:List Nat) (k k':Tk) (ws:List Str),zbx cTask cNet S n ow k∧S[wm]?=some (.lst (ws.map D.str))∧wm ∉ ow∧zjP k ws k'∧∀(T:Sto) (ow':List Nat),Ng ow S T→Fr ow ow' S.length→zbx cTask cNet T n ow' k'→Q (.str "unknown") T
 | _=>False
theorem zr7 (cNet:Addr)(cTask:Addr):Ln (zgN cNet cTask) 2:=λds S Q ex h=>by unfold zgN at h; split at h <;> first | rfl | exact h.elim
def zgD (cNet:Addr)(cTask:Addr):Sd:=λds S Q ex=>match ds with
 | [.ref n,.ref wm]=>∃(ow:List Nat) (k k':Tk) (ws:List Str),zbx cTask cNet S n ow k∧S[wm]?=some (.lst (ws.map D.str))∧wm ∉ ow∧ParC k ws k'∧∀(T:Sto) (ow':List Nat),Ng ow S T→Fr ow ow' S.length→zbx cTask cNet T n ow' k'→Q (.str "part") T
 | _=>False
theorem zrc (cNet:Addr)(cTask:Addr):Ln (zgD cNet cTask) 2:=λds S Q ex h=>by unfold zgD at h; split at h <;> first | rfl | exact h.elim
def zhK (cNet:Addr)(cTask:Addr):Sd:=λds S Q ex=>match ds with
 | [.ref n,.str x]=>(x.length≤1000∧("":Str) ∉ Txt.split x " ")∧∃(ow:List Nat) (k k':Tk) (an:Str),zbx cTask cNet S n ow k∧zcV k (Txt.split x " ") k' an∧∀(T:Sto) (ow':List Nat),Ng ow S T→Fr ow ow' S.length→zbx cTask cNet T n ow' k'→Q (.str an) T
 | _=>False
theorem zq1 (cNet:Addr)(cTask:Addr):Ln (zhK cNet cTask) 2:=λds S Q ex h=>by unfold zhK at h; split at h <;> first | rfl | exact h.elim
def zdW (n:Nat):Sd:=λds S Q ex=>match ds with
 | [.ref p,.int at_,.ref p2,.int at2]=>∃(ns:List Nd) (hs:List Int) (ns2:List Nd) (hs2:List Int) (nm:List Str) (q q2:Nat),S[p]?=some (.lst (ns.map Nd.d))∧S[p2]?=some (.lst (ns2.map Nd.d))∧NOk ns hs∧NOk ns2 hs2∧nm.Nodup∧(∀v∈ns,NdS nm.length v)∧(∀v∈ns2,NdS nm.length v)∧at_=(q:Int)∧at2=(q2:Int)∧q<ns.length∧q2<ns2.length∧q<n∧(trs nm ns).getD q dT0=(trs nm ns2).getD q2 dT0∧Q (.bl true) S
 | _=>False
theorem zt4 (n:Nat):Ln (zdW n) 4:=λds S Q ex h=>by unfold zdW at h; split at h <;> first | rfl | exact h.elim
def zds (n:Nat):Sd:=λds S Q ex=>match ds with
 | [.ref p,.int at_,.ref pn]=>∃(ns:List Nd) (hs:List Int) (nm:List Str) (q:Nat),S[p]?=some (.lst (ns.map Nd.d))∧S[pn]?=some (.lst (nm.map D.str))∧zcl ns hs nm∧at_=(q:Int)∧q<ns.length∧q<n∧∀T,Pre S T→Q (.str (shT ((trs nm ns).getD q dT0))) T
 | _=>False
theorem ztN (n:Nat):Ln (zds n) 3:=λds S Q ex h=>by unfold zds at h; split at h <;> first | rfl | exact h.elim
def zgt (cTask:Addr):Sd:=λds S Q ex=>match ds with
 | [.ref n]=>∃(N m u e r:Nat) (rs:List (Str×Nat)),S[n]?=some (.ins cTask (zcj N m u e r))∧S[r]?=some (.lst (rs.map rwT))∧Q (.ref S.length) (S++[.lst (rs.map rwT)])
 | _=>False
theorem zwq (cTask:Addr):Ln (zgt cTask) 1:=λds S Q ex h=>by unfold zgt at h; split at h <;> first | rfl | exact h.elim
def zhF:Sd:=λds S Q ex=>match ds with
 | [.ref p,.int at_,.ref pn,.int hv,.int sm]=>∃(ns:List Nd) (hs:List Int) (a b c d:Str) (q:Nat),S[p]?=some (.lst (ns.map Nd.d))∧S[pn]?=some (.lst ([a,b,c,d].map D.str))∧zcl ns hs [a,b,c,d]∧[a,b,c,d].Nodup∧(∀w∈[a,b,c,d],∀k:Fin 70,nmA (k.val:Int) 3≠w∧nmA (k.val:Int) 9≠w)∧at_=(q:Int)∧q<ns.length∧ns.length≤30∧hv=hs.getD q 0∧0≤sm∧sm≤5∧∀T,Pre S T→Q (.bl true) T
 | _=>False
theorem zsx:Ln (zhF) 5:=λds S Q ex h=>by unfold zhF at h; split at h <;> first | rfl | exact h.elim
section
variable {P:Program}{w:World}{K:PySem.W.Frag}{mg:Str→Option Value}{base:Heap}
def zvx  (zlb:Df K mg "_law_node" zlg zhm):Fk P w K mg base 1 "_law_node" zhm zhY:=
 zlb.mk' (zaQ (k:=0) zlb.F zgI (zqU) λcdv A outer s H E hr=>⟨_,(zaf (zav (PDW.pt (zb8 (zay (zaN hr) (dv 1) zae (zat _)) (zc4 (zay (zaN hr) (zaj zbS (dv 0) zae) zae (zat _))))) (zaf (zak (i:=2) zgI.nd rfl (Or.inl rfl) (zaj zeC zae (zaj zbS (zaj zdg (dv 0) zae) zae))) (zah (zao (zbl (zaa zai (zaa (zaj zeC (zaj zeX (dv 2) (zaj zhq (zaj zbS (zaj zdg (dv 0) zae) zae) zae)) zae) (zaa (dv 2) zad))))))) zaw) (zaf (zav (zay (zaN hr) (zaj zbS (dv 0) zae) zae (zat _)) (zah (zao (zbl (zaa zai (zaa (zaj zbS (zaj zdg (dv 0) zae) zae) zad))))) zaw) (zaf (zak (i:=3) zgI.nd rfl (Or.inl rfl) (zaj zeL (zaj zdg (dv 0) zae) (dv 1))) (zaf (zav (zay (zaN hr) (zaj zbS (dv 0) zae) zae (zat _)) (zah (zao (zbl (zaa zai (zaa (dv 3) (zaa (zaj zeC zae (zaj zbS (zaj zk1 (zaj zdg (dv 0) zae) (dv 1)) zae)) zad)))))) zaw) (zaf (zak (i:=4) zgI.nd rfl (Or.inl rfl) (zaj zeL (zaj zk1 (zaj zdg (dv 0) zae) (dv 1)) (dv 1))) (zaf (zav (zay (zaN hr) (zaj zbS (dv 0) zae) zae (zat _)) (zah (zak (i:=4) zgI.nd rfl (Or.inl rfl) (zaj zhq (dv 1) zae))) zaw) (zah (zao (zbl (zaa (zaX (zbQ (zaa zai (zaa zai (zaa zai zad)))) (zaj zbS (zaj zbS (dv 0) zae) zae) (λ_ _=>rfl)) (zaa (dv 3) (zaa (dv 4) zad)))))))))))),λds S Q ex h=>by
  unfold zhY at h
  split at h
  ·rename_i c m
   obtain⟨⟨h0,h60⟩,h⟩:=h
   have h':∀v:Nd,(∀hs:List Int,(hs.length:Int)=m→v.ok hs)→zeM v→Q v.d S:=λv z y=>by have q:=h v [] z y; rw[VaB] at q; exact q
   have numb:IntMulOk (1+c/8%4) (c/32%2001-1000):=zev (m:=100) (n:=100) (Sz.of (10^20) (by omega)) (Sz.of (10^20) (by omega))
   have nq:=h' (.number ((1+c/8%4)*(c/32%2001-1000)+1) (1+c/8%4)) (λ_ _=>trivial) ⟨c/32%2001-1000,by omega,by omega,by omega,by omega,rfl⟩
   refine ifD (λe=>zbX ⟨numb,nq⟩) (λe=>?_)
   refine ifD (λe1=>⟨numb,nq⟩) (λe1=>?_)
   refine ifD (λe2=>h' (.unknown (c/8%4)) (λ_ _=>trivial) ⟨by omega,by omega⟩) (λe2=>?_)
   have hm:0<m:=by omega
   have zm:Sz 100 m:=Sz.of (10^20) (by omega)
   have r1:=zgV (a:=c/8) hm
   have r2:=zgV (a:=c/8/m) hm
   refine⟨hm,?_⟩
   refine ifD (λe3=>?_) (λe3=>?_)
   ·exact⟨zm.fd hm,h' (.power (c/8%m) (2+c/8/m%5)) (λhs e=>⟨⟨by omega,by omega⟩,by omega,by omega⟩) trivial⟩
   ·refine⟨zm.fd hm,hm,?_⟩
    have last:∀(j:Int) (x:Str),(x="plus"∨x="minus"∨x="times")→0≤j→j<m→Q (.tup [.str x,.int (c/8%m),.int j]) (S++[.lst [.str "plus",.str "minus",.str "times"]]):=λj x hx j0 j1=>h (.two x (c/8%m) j) _ (λhs e=>⟨hx,⟨by omega,by omega⟩,⟨by omega,by omega⟩⟩) trivial
    have three:c%8%3=0∨c%8%3=1∨c%8%3=2:=by omega
    refine ifD (λe4=>?_) (λe4=>?_)
    all_goals
     rcases three with e5 | e5 | e5
     ·refine zaR (o:=.lst [.str "plus",.str "minus",.str "times"]) (zax _ _) (d:=.str "plus") (by rw[e5]; rfl) ?_
      exact last _ _ (by simp) (by omega) (by omega)
     ·refine zaR (o:=.lst [.str "plus",.str "minus",.str "times"]) (zax _ _) (d:=.str "minus") (by rw[e5]; rfl) ?_
      exact last _ _ (by simp) (by omega) (by omega)
     ·refine zaR (o:=.lst [.str "plus",.str "minus",.str "times"]) (zax _ _) (d:=.str "times") (by rw[e5]; rfl) ?_
      exact last _ _ (by simp) (by omega) (by omega)
  ·exact h.elim⟩)
def zwf  (zld:Df K mg "_law_weight" zjk zgz):Fk P w K mg base 1 "_law_weight" zgz zgE:=
 zld.mk' (zaQ (k:=0) zld.F zuO (zqv) λcdv A outer s H E hr=>⟨_,(zaf (zav (PDW.pt (zb8 (zay (zaN hr) (zaq (dv 0) zae (λ_ _=>rfl)) zai (zat _)) (zc4 (zay (zaN hr) (zaq (dv 0) zae (λ_ _=>rfl)) zai (zat _))))) (zah (zao zae)) zaw) (zaf (zav (zay (zaN hr) (zaq (dv 0) zae (λ_ _=>rfl)) zai (zat _)) (zah (zao (zaj zeX (zaq (dv 0) zae (λ_ _=>rfl)) (zaX (dv 1) (zaq (dv 0) zae (λ_ _=>rfl)) (λ_ _=>rfl))))) zaw) (zah (zao (zaj zeC (zaX (dv 1) (zaq (dv 0) zae (λ_ _=>rfl)) (λ_ _=>rfl)) (zaX (dv 1) (zaq (dv 0) zae (λ_ _=>rfl)) (λ_ _=>rfl))))))),λds S Q ex h=>by
  unfold zgE at h
  split at h
  ·rename_i d r
   obtain⟨v,hs,rfl,hl,ok,sm,h⟩:=h
   cases v with
   | number t b=>exact h
   | unknown k=>exact h
   | power i n=>
    obtain⟨hi,n2,n6⟩:=ok
    have b:=zhR sm hi
    refine zaR (o:=.lst (hs.map D.int)) hl (zfW hi) ?_
    exact⟨zev (m:=400) (n:=400) (Sz.of (10^20) (by omega)) (Sz.of (10^20) (by omega)),h⟩
   | two x i j=>
    obtain⟨hx,hi,hj⟩:=ok
    rcases hx with rfl | rfl | rfl
    all_goals
     refine zaR (o:=.lst (hs.map D.int)) hl (zfW hi) ?_
     refine zaR (o:=.lst (hs.map D.int)) hl (zfW hj) ?_
     exact h
  ·exact h.elim⟩)
def zxg  (zk5:Df K mg "_law_net" zkA zhX)(zis:Fk P w K mg base 1 "_law_weight" zgz zgE)(zmM:Fk P w K mg base 1 "_law_node" zhm zhY)(zaF:mg "len"=none):Fk P w K mg base 2 "_law_net" zhX zgO:=
 zk5.mk' (zaQ (k:=1) zk5.F zhd (zt5) λcdv A outer s H E hr=>⟨_,(zaf (zak (i:=1) zhd.nd rfl (Or.inl rfl) (zbQ zad)) (zaf (zak (i:=2) zhd.nd rfl (Or.inl rfl) (zbQ zad)) (zaf (zg8 (i:=3) PassesOwn.never rfl zhd.nd rfl (Or.inl rfl) (dv 0) (zaf (zak (i:=4) zhd.nd rfl (Or.inl rfl) (zaL zmM hr (zaa (zaj zeL (dv 3) (zaj znZ zae zae)) (zaa (zbB (zaU zbZ) rfl zaF Boot.«len» (zaa (dv 1) zad)) zad)))) (zah (zav (PDW.pt (zpq (zay (zuX hr) (dv 4) (dv 1) rfl) (zoQ (zay zgf (zaL zis hr (zaa (dv 4) (zaa (dv 2) zad))) zae (zat _))))) (zaf (zbN (zdD (dv 1) (dv 4))) (zah (zbN (zdD (dv 2) (zaL zis hr (zaa (dv 4) (zaa (zeN (dv 2) zdf (zci (zaj zhq (zbB (zaU zbZ) rfl zaF Boot.«len» (zaa (dv 1) zad)) zae))) zad))))))) zaw)))) (zah (zao (zbl (zaa (dv 1) (zaa (dv 2) zad)))))))),λds S Q ex h=>by
  unfold zgO at h
  split at h
  ·rename_i c
   obtain⟨cs,hc,lc,h⟩:=h
   have l0:=za8 hc
   have p0:Pre S (S++[.lst []]++[.lst []]):=zbs (zbs Pre.refl _) _
   refine ziE (n:=c) (o:=.lst (cs.map D.int)) (λk dl' S'=>∃(ns:List Nd) (hs:List Int),NOk ns hs∧(∀v∈ns,zeM v)∧ns.length≤k∧Pre S S'∧S'[S.length]?=some (.lst (ns.map Nd.d))∧S'[(S++[Ob.lst []]).length]?=some (.lst (hs.map D.int))∧∃u3 u4:Option D,dl'=[some (.ref c),some (.ref S.length),some (.ref (S++[Ob.lst []]).length),u3,u4]) ⟨[],[],.nil,(λ_ m=>by cases m),Vab _,p0,zam (zax _ _),zax _ _,_,_,rfl⟩ (λk dl' S' ⟨_,_,_,_,_,pr,_⟩=>pr _ _ hc) ?_ ?_
   ·rintro k x dl' S' nx ct ex' ⟨ns,hs,nok,law,lk,pr,hN,hH,u3,u4,rfl⟩ hn
    have mx:=Vas ex'
    obtain⟨i,_,rfl⟩:=VaI.mp (show x∈cs.map D.int from mx)
    have kl:k<(cs.map D.int).length:=(Vac.mp ex').1
    rw[Vaf] at kl
    have on:∀(v:Nd) (T:Sto),nx [some (.ref c),some (.ref S.length),some (.ref (S++[Ob.lst []]).length),some (.int i),some v.d] (S'++T):=λv T=>hn _ _ ⟨ns,hs,nok,law,by omega,zbs pr _,zam hN,zam hH,_,_,rfl⟩
    refine⟨by show (0:Int)<10^9; decide,?_⟩
    refine zcD hN ?_
    rw[Vaf]
    refine⟨⟨by omega,by omega⟩,λv T okv lv=>?_⟩
    have ok:v.ok hs:=okv hs (by rw[nok.len])
    refine zq3 (zam hN) ?_
    cases e:idx v ns with
    | some j=>exact on v T
    | none=>
     refine⟨v,hs,rfl,zam hH,ok,nok.small,?_⟩
     refine ifD (λe1=>?_) (λe1=>on v T)
     refine zeE (n:=S.length) (S1:=S'++T) (xs:=ns.map Nd.d) (y:=v.d) (λK hK=>by exact hK) (zam hN) (λK hK=>by exact hK) (by rw[Vaf]; omega) ?_
     have nmm:S.length≠(S++[Ob.lst []]).length:=by simp
     have hH1:((S'++T).set S.length (.lst (ns.map Nd.d++[v.d])))[(S++[Ob.lst []]).length]?=some (.lst (hs.map D.int)):=zek (zam hH) nmm
     have hN1:((S'++T).set S.length (.lst (ns.map Nd.d++[v.d])))[S.length]?=some (.lst (ns.map Nd.d++[v.d])):=zcz (zam hN)
     refine zus (n:=(S++[Ob.lst []]).length) (S1:=(S'++T).set S.length (.lst (ns.map Nd.d++[v.d]))) (S2:=(S'++T).set S.length (.lst (ns.map Nd.d++[v.d]))++[.lst (hs.map D.int)]) (xs:=hs.map D.int) (y:=.int (v.w hs)) (λK hK=>by exact hK) hH1 (λK hK=>?_) (zam hH1) (by rw[Vaf,← nok.len]; omega) ?_
     ·refine zeG (n:=(S++[Ob.lst []]).length) (S3:=(S'++T).set S.length (.lst (ns.map Nd.d++[v.d]))) (o:=.lst (hs.map D.int)) (lo:=none) (hi:=some (ns.length:Int)) (λK hK=>by exact hK) (λK hK=>by exact hK) (λK hK=>?_) hH1 ?_
      ·refine zcD hN1 ?_
       show K (some (((ns.map Nd.d++[v.d]).length:Int)-1)) _
       rw[show (((ns.map Nd.d++[v.d]).length:Nat):Int)-1=(ns.length:Int) by simp]
       exact hK
      ·rw[show za4 (zan (.lst (hs.map D.int))) none (some (ns.length:Int))=hs.map D.int from zqh (by show (hs.map D.int).length=_; rw[Vaf,nok.len])]
       exact⟨v,hs,rfl,zax _ _,ok,nok.small,hK⟩
     ·refine hn _ _ ⟨ns++[v],hs++[v.w hs],nok.snoc ok e (by have e1':v.w hs<17:=e1; omega) (by omega),?_,by simp; omega,?_,?_,?_,_,_,rfl⟩
      ·intro y hy
       rcases Val.mp hy with hy | hy
       ·exact law y hy
       ·rw[Vat.mp hy]; exact lv
      ·exact znO (zbs (znO (zbs pr _) (Vab _)) _) (by simp)
      ·rw[Vaz]
       exact zek (zam hN1) (Ne.symm nmm)
      ·rw[Vaz]
       exact zcz (zam hH1)
   ·rintro dl' S' ⟨ns,hs,nok,law,lk,pr,hN,hH,u3,u4,rfl⟩
    have lk':ns.length≤(cs.map D.int).length:=lk
    rw[Vaf] at lk'
    exact h ns hs _ _ _ nok law (by omega) hN hH pr
  ·exact h.elim⟩)
def zrP  (zkT:Df K mg "_law_cell_at" zk2 zht)(zaF:mg "len"=none):Fk P w K mg base 1 "_law_cell_at" zht zhy:=
 zkT.mk' (zaQ (k:=0) zkT.F zwH (zt2) λcdv A outer s H E hr=>⟨_,(zaf (zav (zay zgf (dv 1) (zbB zbZ rfl zaF Boot.«len» (zaa (dv 0) zad)) (zat _)) (zah (zao (zaq (dv 0) (dv 1) (λ_ _=>rfl)))) zaw) (zah (zao zae))),λds S Q ex h=>by
  unfold zhy at h
  split at h
  ·rename_i n k
   obtain⟨ns,h1,h2,h3⟩:=h
   simp only[zma,zbp,zpz,dRet,dRetN,dIf,zfr,zb9,dC,dOp,dUn,wI,wI0,wIf,zcR,dNot,dAnd,dOr,zm0,dOrV,zm9,dIfE,zmF,zc7,zdV,dTup,dLst,wIx,zjN,zhN,zpF,wAbs,wBest,zf6,wEq,wNe,wIsN,wNotN,wNeg,zdx,Vaj,List.map_nil,Vaq,List.length_nil,VaS,List.nil_append,Nat.reduceAdd,Nat.reduceSub,List.replicate,List.getElem?_cons_zero,List.getElem?_cons_succ,List.set_cons_zero,List.set_cons_succ,ite_true,ite_false,if_true,if_false,Nat.reduceLeDiff,eq_self,p40,p41,p20,zg7,powB,Int.reduceLT,Int.reduceLE,Int.reduceNeg,decide_true,Bool.and_self,Bool.and_true,Bool.true_and,L3.eq1,L3.eq2,L3.eqT,L3.eqF,L3.eqL]
   have hA:lAt S n=some (.frz (ns.map D.int)):=zbd h1 rfl
   simp only[hA,zan,Vaf]
   refine ite2 (λc=>?_) (λc=>?_)
   ·have c':k<(ns.length:Int):=of_decide_eq_true c
    have hk:k.toNat<ns.length:=(by omega)
    have e:atI (ns.map D.int) k=some (.int ns[k.toNat]):=by
     have z:=zdM (xs:=ns.map D.int) (j:=k.toNat) (v:=.int ns[k.toNat]) (by simp[hk])
     rw[show ((k.toNat:Nat):Int)=k by omega] at z
     exact z
    simp only[e]
    rw[Vai,Vaw hk] at h3
    exact h3
   ·have c':¬ k<(ns.length:Int):=λz=>c (decide_eq_true z)
    rw[Vai,List.getElem?_eq_none (by omega)] at h3
    exact h3
  ·exact h.elim⟩)
def zua  (zki:Df K mg "figures_of" zk7 zhg)(zd1:mg "reversed"=none)(zbb:mg "str"=none):Fk P w K mg base 1 "figures_of" zhg zge:=
 zki.mk' (zmZ (zaQ (k:=0) zki.F zjw (zpy (zvY)) λcdv A outer s H E hr=>⟨_,(zaf (zak (i:=1) zjw.nd rfl (Or.inl rfl) (zaj znZ zae zae)) (zaf (zak (i:=2) zjw.nd rfl (Or.inl rfl) (zbQ zad)) (zaf (zkh PassesOwn.never (zay do_ge (dv 0) (dv 1) (zat _)) (zaf (zbN (zdD (dv 2) (zre (zbO (zaU ze4) rfl zbb Boot.«str» (zaa (zaj zeL (dv 0) (dv 1)) zad)) (zaa zae zad)))) (zah (zak (i:=0) zjw.nd rfl (Or.inl rfl) (zaj zk1 (dv 0) (dv 1)))))) (zaf (zbN (zdD (dv 2) (zbO (zaU ze4) rfl zbb Boot.«str» (zaa (dv 0) zad)))) (zah (zao (zqk rfl rfl zd1 Boot.«reversed» zai (dv 2)))))))),λds S Q ex h=>by
  obtain⟨Q0,ex0,rfl,rfl,h⟩:=h
  unfold zge at h
  split at h
  ·rename_i n
   obtain⟨⟨n0,nb⟩,h⟩:=h
   have eP:(10:Int)^Int.toNat 64=10^64:=rfl
   have sP:Sz 220 ((10:Int)^Int.toNat 64):=by unfold Sz; decide
   refine⟨λm dl' S'=>∃(k:Int) (ls:List (List Nat)),0≤k∧S'=S++[.lst (ls.map λl=>D.str (mk l))]∧dl'=[some (.int k),some (.int (10^Int.toNat 64)),some (.ref S.length)]∧dec n.natAbs=dec k.natAbs++ls.reverse.flatten∧(∀l∈ls,l.length=64)∧ls.length≤3∧k.natAbs*(10^64)^ls.length<10^200∧m=k.toNat,⟨n.toNat,n,[],n0,rfl,rfl,by simp,by simp,by simp,by simpa using nb,rfl⟩,?_⟩
   rintro m dl' S' ⟨k,ls,k0,rfl,rfl,ed,el,l3,kb,rfl⟩
   refine ifD (λc=>?_) (λc=>?_)
   ·have c':(10:Int)^64≤k:=c
    have kn:10^64≤k.natAbs:=by omega
    have l2:ls.length≤2:=by
     by_cases z:ls.length=3
     ·rw[z] at kb
      have:=Nat.mul_le_mul_right ((10^64)^3) kn
      have e:(10:Nat)^64*(10^64)^3=10^256:=by decide
      have e2:(10:Nat)^200≤10^256:=by decide
      omega
     ·omega
    have rr:=zgV (a:=k) (b:=10^Int.toNat 64) (by decide)
    have er:k%10^Int.toNat 64=((k.natAbs%10^64:Nat):Int):=by rw[eP]; omega
    have eq':(k/10^Int.toNat 64).natAbs=k.natAbs/10^64:=by rw[eP]; omega
    have lr:(dec (k.natAbs%10^64)).length≤64:=zeT (by decide) (Nat.mod_lt _ (by decide))
    refine zpV (S:=S) (xs:=ls.map λl=>D.str (mk l)) (y:=.str (mk (pad 64 (k.natAbs%10^64)))) (λK hK=>by exact hK) (λK hK=>?_) (by rw[Vaf]; omega) ?_
    ·refine zjE (S1:=S++[.lst (ls.map λl=>D.str (mk l))]) (S2:=S++[.lst (ls.map λl=>D.str (mk l))]) (x:=mk (dec (k.natAbs%10^64))) (y:=.int 64) (λK hK=>?_) (λK hK=>by exact hK) ⟨⟨by decide,by decide⟩,?_⟩
     ·refine⟨show (0:Int)<10^Int.toNat 64 by decide,?_⟩
      refine ze2 (zfG (k:=64) (by show (k%10^Int.toNat 64).natAbs<_; rw[er,Int.natAbs_natCast]; exact Nat.mod_lt _ (by decide)) (by decide)) ?_
      show K (.str (Str.ofString (toString (k%10^Int.toNat 64)))) _
      rw[zd4,zfg (by omega),er,Int.natAbs_natCast]
      exact hK
     ·show K (.str (Txt.zfill (mk (dec (k.natAbs%10^64))) 64)) _
      rw[zvA lr]
      exact hK
    ·refine⟨sP.fd (by decide),?_⟩
     refine⟨(k/10^Int.toNat 64).toNat,?_,k/10^Int.toNat 64,ls++[pad 64 (k.natAbs%10^64)],?_,by rw[Vaz]; rfl,rfl,?_,?_,by simp; omega,?_,rfl⟩
     ·rw[eP]; omega
     ·rw[eP]; omega
     ·rw[ed,eq',List.reverse_append,List.reverse_singleton,List.singleton_append,List.flatten_cons,← VaA]
      congr 1
      have z:=zqf (q:=k.natAbs/10^64) (by omega) 64 (k.natAbs%10^64) (by decide) (Nat.mod_lt _ (by decide))
      rw[Nat.div_add_mod' k.natAbs (10^64)] at z
      exact z
     ·intro l hl
      rcases Val.mp hl with z | z
      ·exact el l z
      ·have e:l=pad 64 (k.natAbs%10^64):=by simpa using z
       rw[e]
       unfold pad
       rw[Vag,List.length_replicate]
       omega
     ·rw[eq',Vag,List.length_singleton]
      exact zt7 kb
   ·have c':¬ (10:Int)^64≤k:=c
    have lk:(dec k.natAbs).length≤64:=zeT (by decide) (by omega)
    refine zpV (S:=S) (xs:=ls.map λl=>D.str (mk l)) (y:=.str (mk (dec k.natAbs))) (λK hK=>by exact hK) (λK hK=>?_) (by rw[Vaf]; omega) ?_
    ·refine ze2 (zfG (k:=64) (by omega) (by decide)) ?_
     rw[zd4,zfg k0]
     exact hK
    ·have em:(ls.map λl=>D.str (mk l))++[D.str (mk (dec k.natAbs))]=(ls++[dec k.natAbs]).map λl=>D.str (mk l):=by rw[Vaz]; rfl
     rw[em]
     refine zrj (sep:="") (n:=S.length) (S1:=S++[.lst ((ls++[dec k.natAbs]).map λl=>D.str (mk l))]) (S2:=S++[.lst ((ls++[dec k.natAbs]).map λl=>D.str (mk l))]) (ds:=(ls++[dec k.natAbs]).map λl=>D.str (mk l)) (zs:=(ls++[dec k.natAbs]).map mk) (λK hK=>by exact hK) (λK hK=>by exact hK) (zax _ _) (zmU _) (by decide) (λz hz=>?_) (by simp; omega) ?_
     ·obtain⟨l,hl,rfl⟩:=VaI.mp hz
      rw[zbo]
      rcases Val.mp hl with z | z
      ·rw[el l z]; decide
      ·have e:l=dec k.natAbs:=by simpa using z
       rw[e]; omega
     ·rw[← List.map_reverse,zwy,List.reverse_append,List.reverse_singleton,List.singleton_append,List.flatten_cons,← ed]
      exact⟨Pre.refl.push,.str _,h⟩
  ·exact h.elim⟩))
def zwK  (ziF:Df K mg "written" zko zez)(zjD:Fk P w K mg base 1 "figures_of" zhg zge)(zcA:mg "abs"=none):Fk P w K mg base 2 "written" zez ze7:=
 ziF.mk' (zaQ (k:=1) ziF.F zkJ (zw1) λcdv A outer s H E hr=>⟨_,(zaf (zak (i:=1) zkJ.nd rfl (Or.inl rfl) (zaL zjD hr (zaa (zbB zlu rfl zcA Boot.«abs» (zaa (zaq (dv 0) zae (λ_ _=>rfl)) zad)) zad))) (zaf (zav (zay zgf (zaq (dv 0) zae (λ_ _=>rfl)) zae (zat _)) (zah (zak (i:=1) zkJ.nd rfl (Or.inl rfl) (zaj zbF zai (dv 1)))) zaw) (zaf (zav (zay (zcv hr) (zaq (dv 0) zae (λ_ _=>rfl)) zae (zat _)) (zah (zak (i:=1) zkJ.nd rfl (Or.inl rfl) (zaj zbF (zaj zbF (dv 1) zai) (zaL zjD hr (zaa (zaq (dv 0) zae (λ_ _=>rfl)) zad))))) zaw) (zah (zao (dv 1)))))),λds S Q ex h=>by
  unfold ze7 at h
  split at h
  ·rename_i t b
   obtain⟨⟨ht,b1,hb⟩,h⟩:=h
   have l1:=zgo (k:=200) (by decide) ht
   have d1:=zeT (k:=200) (by decide) ht
   have d2:=zeT (k:=200) (by decide) hb
   have eabs:(if t<0 then -t else t).natAbs=t.natAbs:=by split <;> omega
   refine⟨⟨zmb t,by show (if t<0 then -t else t).natAbs<_; rw[eabs]; exact ht⟩,?_⟩
   have fin:∀x:Str,x=mk (num t)→dIf (zcR (dOp (wNe eq2) (dOp wIx (zb9 0) (dC (D.int 1))) (dC (D.int 1)))) (zfr 1 (dOp zi9 (dOp zi9 (zb9 1) (dC (D.str "/"))) (zhN (λ_ _ _=>False) zge (zdV (dOp wIx (zb9 0) (dC (D.int 1))) zc7)))) zma { nx:=λdl' S'=>dRet (zb9 1) { nx:=λ_ S'=>Q .non S',rt:=Q } dl' S',rt:=Q } [some (.tup [.int t,.int b]),some (.str x)] S:=λx ex'=>by
    subst ex'
    refine ifN (λe=>?_) (λe=>?_)
    ·have s1:mk (num t)++("/":Str)=mk (num t++[47]):=by rw[zj9]; exact zd3 (num t) [47]
     refine⟨by rw[zbo]; show _+1≤1000; omega,?_⟩
     refine⟨⟨by omega,hb⟩,?_⟩
     refine⟨by rw[s1,zbo,zbo]; simp; omega,?_⟩
     have s2:mk (num t)++("/":Str)++mk (dec b.natAbs)=mk (zaI t b):=by
      rw[s1,zd3,VaA]
      unfold zaI
      rw[if_neg e,zfg (show 0≤b by omega)]
      rfl
     show Q (.str (mk (num t)++("/":Str)++mk (dec b.natAbs))) S
     rw[s2]
     exact h
    ·have s2:mk (num t)=mk (zaI t b):=by
      unfold zaI
      rw[if_pos e,VaB]
     show Q (.str (mk (num t))) S
     rw[s2]
     exact h
   refine ifD (λe=>?_) (λe=>?_)
   ·refine⟨by show 1+(mk (dec _)).length≤1000; rw[zbo,eabs]; omega,?_⟩
    refine fin _ ?_
    show ("-":Str)++mk (dec (if t<0 then -t else t).natAbs)=mk (num t)
    rw[eabs,znv,zl7 e]
    exact zd3 [45] _
   ·refine fin _ ?_
    show mk (dec (if t<0 then -t else t).natAbs)=mk (num t)
    rw[eabs,zfg (by omega)]
  ·exact h.elim⟩)
def zvb  (n:Nat)(zee:Df K mg "shown" zgS zdG)(zcs:Fk P w K mg base (2+1*n) "shown" zdG (zdE n))(zdu:Fk P w K mg base 2 "written" zez ze7)(g_SIGNS:GD P w K mg "SIGNS" [("plus","+"),("minus","-"),("times","*")]):Fk P w K mg base (2+1*n+1) "shown" zdG (zdE (n+1)):=
 zee.mk' (zaQ (k:=(2+1*n+0)) zee.F zgp (zvS (n+1)) λcdv A outer s H E hr=>⟨_,(zaf (zak (i:=3) zgp.nd rfl (Or.inl rfl) (zaX (dv 0) (dv 1) (λ_ _=>rfl))) (zaf (zav (zay (zaN hr) (zaq (dv 3) zae (λ_ _=>rfl)) zai (zat _)) (zah (zao (zbE zdu (hr.mono (by omega)) za9 rfl (zaa (zbl (zaa (zaq (dv 3) zae (λ_ _=>rfl)) (zaa (zaq (dv 3) zae (λ_ _=>rfl)) zad))) zad)))) zaw) (zaf (zav (zay (zaN hr) (zaq (dv 3) zae (λ_ _=>rfl)) zai (zat _)) (zah (zao (zaX (dv 2) (zaq (dv 3) zae (λ_ _=>rfl)) (λ_ _=>rfl)))) zaw) (zaf (zak (i:=4) zgp.nd rfl (Or.inl rfl) (zbE zcs (hr.mono (by omega)) za9 rfl (zaa (dv 0) (zaa (zaq (dv 3) zae (λ_ _=>rfl)) (zaa (dv 2) zad))))) (zaf (zav (zay (zaN hr) (zaq (dv 3) zae (λ_ _=>rfl)) zai (zat _)) (zaf (zak (i:=5) zgp.nd rfl (Or.inl rfl) (zaq (dv 3) zae (λ_ _=>rfl))) (zah (zao (zp1 (zew (zir (dv 4) (zew (zir (dv 5) (zew zmS))))))))) zaw) (zaf (zak (i:=6) zgp.nd rfl (Or.inl rfl) (zlX g_SIGNS rfl (zaq (dv 3) zae (λ_ _=>rfl)) (λ_ _=>rfl))) (zaf (zak (i:=7) zgp.nd rfl (Or.inl rfl) (zbE zcs (hr.mono (by omega)) za9 rfl (zaa (dv 0) (zaa (zaq (dv 3) zae (λ_ _=>rfl)) (zaa (dv 2) zad))))) (zah (zao (zp1 (zew (zir (dv 4) (zew (zir (dv 6) (zew (zir (dv 7) (zew zmS))))))))))))))))),λds S Q ex h=>by
  unfold zdE at h
  split at h
  ·rename_i p at_ pn
   obtain⟨ns,hs,nm,q,hp,hn,ok,rfl,hq,hl,h⟩:=h
   obtain⟨v,f1,f2,f3,_⟩:=ok.nok.front q hq
   have hk:(hs.take q).length=q:=by rw[VaK]; have:=ok.nok.len; omega
   have mem:=Vas f1
   have eq:=(zda (nm:=nm) ok.nok).2 q v f1
   have len:=(zgb ok hq).1
   rw[eq] at h len
   refine zaR (o:=.lst (ns.map Nd.d)) hp (d:=v.d) (zdM (j:=q) (by show (ns.map Nd.d)[q]?=_; rw[Vao,f1]; rfl)) ?_
   cases v with
   | number t b=>
    obtain⟨a,_⟩:=ok.num t b mem
    have z:=a.top
    have y:=a.bot
    have x:=a.pos
    have big:(10:Nat)^9≤10^200:=VaX (by decide) (by decide)
    exact⟨⟨by omega,x,by omega⟩,h⟩
   | unknown k=>
    obtain⟨k0,k1⟩:=ok.unk k mem
    have hk':k.toNat<nm.length:=by omega
    have z:=zcG hk'
    rw[show ((k.toNat:Nat):Int)=k by omega] at z
    refine zaR (o:=.lst (nm.map D.str)) hn (d:=.str nm[k.toNat]) z ?_
    have e:shT (ndT nm (trs nm ns) (.unknown k))=nm[k.toNat]:=by
     show mk (cs (nm.getD k.toNat ""))=_
     rw[zcS,Vai,Vaw hk']
     rfl
    rw[e] at h
    exact h
   | power i m=>
    obtain⟨⟨i0,i1⟩,m2⟩:=f3
    rw[hk] at i1
    refine⟨ns,hs,nm,i.toNat,hp,hn,ok,by omega,by omega,by omega,?_⟩
    have e:=zpg ((trs nm ns).getD i.toNat dT0) m
    have e2:shT (ndT nm (trs nm ns) (.power i m))=shT (.pw ((trs nm ns).getD i.toNat dT0) m):=rfl
    rw[e2,← e] at h len
    generalize shT ((trs nm ns).getD i.toNat dT0)=a at h len ⊢
    have l1:=zaP ((((Str.empty++("( ":Str))++a)++(" ^ ":Str))++mk (num m)) (" )":Str)
    have l2:=zaP (((Str.empty++("( ":Str))++a)++(" ^ ":Str)) (mk (num m))
    have l3:=zaP ((Str.empty++("( ":Str))++a) (" ^ ":Str)
    have l4:=zaP (Str.empty++("( ":Str)) a
    refine⟨by decide,by omega,by omega,zps m2,?_⟩
    rw[zd4]
    exact⟨by omega,by omega,by omega,h⟩
   | two x i j=>
    obtain⟨hx,⟨i0,i1⟩,⟨j0,j1⟩⟩:=f3
    rw[hk] at i1 j1
    rcases hx with rfl | rfl | rfl
    ·have e:=zkz 0 ((trs nm ns).getD i.toNat dT0) ((trs nm ns).getD j.toNat dT0)
     have e2:shT (ndT nm (trs nm ns) (.two "plus" i j))=shT (.bi 0 ((trs nm ns).getD i.toNat dT0) ((trs nm ns).getD j.toNat dT0)):=rfl
     rw[e2,← e] at h len
     refine⟨ns,hs,nm,i.toNat,hp,hn,ok,by omega,by omega,by omega,?_⟩
     refine zmf (k:="plus") (v:=sgD 0) (S1:=S) (λK hK=>by exact hK) (by decide) ?_
     refine⟨ns,hs,nm,j.toNat,hp,hn,ok,by omega,by omega,by omega,?_⟩
     generalize shT ((trs nm ns).getD i.toNat dT0)=a at h len ⊢
     generalize shT ((trs nm ns).getD j.toNat dT0)=b at h len ⊢
     have l1:=zaP ((((((Str.empty++("( ":Str))++a)++(" ":Str))++sgD 0)++(" ":Str))++b) (" )":Str)
     have l2:=zaP (((((Str.empty++("( ":Str))++a)++(" ":Str))++sgD 0)++(" ":Str)) b
     have l3:=zaP ((((Str.empty++("( ":Str))++a)++(" ":Str))++sgD 0) (" ":Str)
     have l4:=zaP (((Str.empty++("( ":Str))++a)++(" ":Str)) (sgD 0)
     have l5:=zaP ((Str.empty++("( ":Str))++a) (" ":Str)
     have l6:=zaP (Str.empty++("( ":Str)) a
     exact⟨by decide,by omega,by omega,by omega,by omega,by omega,by omega,by omega,h⟩
    ·have e:=zkz 1 ((trs nm ns).getD i.toNat dT0) ((trs nm ns).getD j.toNat dT0)
     have e2:shT (ndT nm (trs nm ns) (.two "minus" i j))=shT (.bi 1 ((trs nm ns).getD i.toNat dT0) ((trs nm ns).getD j.toNat dT0)):=rfl
     rw[e2,← e] at h len
     refine⟨ns,hs,nm,i.toNat,hp,hn,ok,by omega,by omega,by omega,?_⟩
     refine zmf (k:="minus") (v:=sgD 1) (S1:=S) (λK hK=>by exact hK) (by decide) ?_
     refine⟨ns,hs,nm,j.toNat,hp,hn,ok,by omega,by omega,by omega,?_⟩
     generalize shT ((trs nm ns).getD i.toNat dT0)=a at h len ⊢
     generalize shT ((trs nm ns).getD j.toNat dT0)=b at h len ⊢
     have l1:=zaP ((((((Str.empty++("( ":Str))++a)++(" ":Str))++sgD 1)++(" ":Str))++b) (" )":Str)
     have l2:=zaP (((((Str.empty++("( ":Str))++a)++(" ":Str))++sgD 1)++(" ":Str)) b
     have l3:=zaP ((((Str.empty++("( ":Str))++a)++(" ":Str))++sgD 1) (" ":Str)
     have l4:=zaP (((Str.empty++("( ":Str))++a)++(" ":Str)) (sgD 1)
     have l5:=zaP ((Str.empty++("( ":Str))++a) (" ":Str)
     have l6:=zaP (Str.empty++("( ":Str)) a
     exact⟨by decide,by omega,by omega,by omega,by omega,by omega,by omega,by omega,h⟩
    ·have e:=zkz 2 ((trs nm ns).getD i.toNat dT0) ((trs nm ns).getD j.toNat dT0)
     have e2:shT (ndT nm (trs nm ns) (.two "times" i j))=shT (.bi 2 ((trs nm ns).getD i.toNat dT0) ((trs nm ns).getD j.toNat dT0)):=rfl
     rw[e2,← e] at h len
     refine⟨ns,hs,nm,i.toNat,hp,hn,ok,by omega,by omega,by omega,?_⟩
     refine zmf (k:="times") (v:=sgD 2) (S1:=S) (λK hK=>by exact hK) (by decide) ?_
     refine⟨ns,hs,nm,j.toNat,hp,hn,ok,by omega,by omega,by omega,?_⟩
     generalize shT ((trs nm ns).getD i.toNat dT0)=a at h len ⊢
     generalize shT ((trs nm ns).getD j.toNat dT0)=b at h len ⊢
     have l1:=zaP ((((((Str.empty++("( ":Str))++a)++(" ":Str))++sgD 2)++(" ":Str))++b) (" )":Str)
     have l2:=zaP (((((Str.empty++("( ":Str))++a)++(" ":Str))++sgD 2)++(" ":Str)) b
     have l3:=zaP ((((Str.empty++("( ":Str))++a)++(" ":Str))++sgD 2) (" ":Str)
     have l4:=zaP (((Str.empty++("( ":Str))++a)++(" ":Str)) (sgD 2)
     have l5:=zaP ((Str.empty++("( ":Str))++a) (" ":Str)
     have l6:=zaP (Str.empty++("( ":Str)) a
     exact⟨by decide,by omega,by omega,by omega,by omega,by omega,by omega,by omega,h⟩
  ·exact h.elim⟩)
def zok (zee:Df K mg "shown" zgS zdG)(zdu:Fk P w K mg base 2 "written" zez ze7)(g_SIGNS:GD P w K mg "SIGNS" [("plus","+"),("minus","-"),("times","*")]):(n:Nat)→Fk P w K mg base (2+1*n) "shown" zdG (zdE n)
 | 0=>zee.vac _ λds S Q ex h=>by
  unfold zdE at h
  split at h
  ·obtain⟨_,_,_,q,_,_,_,_,_,h1,_⟩:=h
   omega
  ·exact h.elim
 | n+1=>
  let zcs:=zok zee zdu g_SIGNS n
  zvb n zee zcs zdu g_SIGNS
def zuQ  (zjB:Df K mg "_law_name" zjK zfm):Fk P w K mg base 1 "_law_name" zfm zfN:=
 zjB.mk' (zaQ (k:=0) zjB.F ziC (zu1) λcdv A outer s H E hr=>⟨_,(zaf (zak (i:=2) ziC.nd rfl (Or.inl rfl) (zaj zbF (zoA zai (zaj zbS (zaj zdg (dv 0) zae) zae) (λ_ _=>rfl)) (zoA zai (zaj zbS (dv 0) zae) (λ_ _=>rfl)))) (zaf (zak (i:=3) ziC.nd rfl (Or.inl rfl) (zgZ zai zdf (zci (zaj zbS (dv 1) zae)))) (zaf (zak (i:=4) ziC.nd rfl (Or.inl rfl) (zaj zbS (zaj zdg (dv 1) zae) zae)) (zah (zao (zaj zbF (zaj zbF (zgZ (dv 3) zdf (zci (dv 4))) (dv 2)) (zgZ (dv 3) (zci (dv 4)) zdf))))))),λds S Q ex h=>by
  unfold zfN at h
  split at h
  ·rename_i k sh
   obtain⟨k0,k1,s0,s1,h⟩:=h
   unfold nmA at h
   obtain⟨a,ea,ea'⟩:=zgQ (x:=k/7%10) (n:=10) (by omega) (by omega)
   obtain⟨b,eb,eb'⟩:=zgQ (x:=k%7) (n:=7) (by omega) (by omega)
   obtain⟨c,ec,ec'⟩:=zgQ (x:=sh%7) (n:=7) (by omega) (by omega)
   obtain⟨d,ed,ed'⟩:=zgQ (x:=sh/7%7) (n:=7) (by omega) (by omega)
   unfold stA at h
   rw[ea',eb',ec',ed'] at h
   refine⟨97+a.val,⟨by omega,by omega,by show k/7%10<10; omega⟩,by rw[ea']; exact nmI1 a,97+b.val,⟨by omega,by omega,by show k%7<7; omega⟩,by rw[eb']; exact nmI2 b,by show (1:Nat)+1≤1000; decide,?_⟩
   have lc:=nm_st c
   refine⟨by decide,?_⟩
   rw[ec,nmS1 c]
   refine⟨by show (mk ([97,98,98,97,97,98].take c.val)).length≤1000; omega,?_⟩
   rw[ed,nmS2 c d]
   have l2:(([97,98,98,97,97,98].take c.val).take d.val).length≤6:=by simp; omega
   have l3:(([97,98,98,97,97,98].take c.val).drop d.val).length≤6:=by simp; omega
   have e2:(⟨#[97+a.val]⟩:Str)++⟨#[97+b.val]⟩=mk [97+a.val,97+b.val]:=zd3 [97+a.val] [97+b.val]
   refine⟨?_,?_,?_⟩
   ·show _+(2:Nat)≤1000
    rw[zbo]
    omega
   ·show (mk ([97,98,98,97,97,98].take c.val)).length≤1000
    omega
   ·show zi9 (.str (mk (([97,98,98,97,97,98].take c.val).take d.val)++((⟨#[97+a.val]⟩:Str)++⟨#[97+b.val]⟩))) (.str (StrLaws.sliceText (mk ([97,98,98,97,97,98].take c.val)) (some (sh/7%7)) none)) S Q
    rw[ed,nmS3 c d,e2,zd3]
    refine⟨?_,?_⟩
    ·rw[zbo,zbo,Vag]
     show _+2+_≤1000
     omega
    ·show Q (.str (mk _++mk _)) S
     rw[zd3]
     exact h
  ·exact h.elim⟩)
def zxo  (zag:zcn K mg)(zky:Dm K zag.C "__init__" "Net.__init__" zjy zgd):Fm P w K mg base 1 zag.C "__init__" zgd (zgg zag.C):=
 zky.mk' (zaQ (k:=0) zky.F zq8 (zrR zag.C) λcdv A outer s H E hr=>⟨_,(zaf (zcx zag.cl zag.n_kept (dv 0) (zbQ zad)) (zaf (zcx zag.cl zag.n_weights (dv 0) (zbQ zad)) (zah (zcx zag.cl zag.n_numbers (dv 0) zs9)))),λds S Q ex h=>by
  unfold zgg at h
  split at h
  ·rename_i n
   obtain⟨T,rfl,rfl,h⟩:=h
   refine zcN (v:=.ref (T.length+1)) (S1:=T++[Ob.ins zag.C [],.lst []]) (S2:=T++[Ob.ins zag.C [],.lst []]) (n:=T.length) (fs:=[]) (λK hK=>by exact zgY (by simp) (by simp) hK) (λK hK=>by exact hK) (zdS ..) (by simp) ?_
   rw[zem]
   refine zcN (v:=.ref (T.length+2)) (S1:=T++[Ob.ins zag.C [("kept",.ref (T.length+1))],.lst [],.lst []]) (S2:=T++[Ob.ins zag.C [("kept",.ref (T.length+1))],.lst [],.lst []]) (n:=T.length) (fs:=[("kept",.ref (T.length+1))]) (λK hK=>by exact zgY (by simp[zaO]) (by simp) hK) (λK hK=>by exact hK) (zdS ..) (by simp) ?_
   rw[zem]
   refine zcN (v:=.ref (T.length+3)) (S1:=T++[Ob.ins zag.C [("kept",.ref (T.length+1)),("weights",.ref (T.length+2))],.lst [],.lst [],.dct []]) (S2:=T++[Ob.ins zag.C [("kept",.ref (T.length+1)),("weights",.ref (T.length+2))],.lst [],.lst [],.dct []]) (n:=T.length) (fs:=[("kept",.ref (T.length+1)),("weights",.ref (T.length+2))]) (λK hK=>by exact zt0 (by simp; rfl) (by simp) hK) (λK hK=>by exact hK) (zdS ..) (by simp) ?_
   rw[zem]
   exact h
  ·exact h.elim⟩)
def zuC  (zac:zc2 K mg)(zag:zcn K mg)(ziv:Dm K zac.C "__init__" "Task.__init__" ziy zgT)(zcH:Fm P w K mg base 1 zag.C "__init__" zgd (zgg zag.C)):Fm P w K mg base 3 zac.C "__init__" zgT (zhp zag.C zac.C):=
 ziv.mk' (zaQ (k:=2) ziv.F zt9 (zu3 zag.C zac.C) λcdv A outer s H E hr=>⟨_,(zaf (zcx zac.cl zac.n_net (dv 0) (zlS ⟨zag.makes,zcH.m.at_,zcH.m.fn,zag.kp⟩ zcH.ok (hr.mono (by decide)) rfl zag.m zcH.b zmp)) (zaf (zcx zac.cl zac.n_meanings (dv 0) zss) (zaf (zcx zac.cl zac.n_unknown_names (dv 0) (zbQ zad)) (zaf (zcx zac.cl zac.n_unknown_ends (dv 0) (zbQ zad)) (zah (zcx zac.cl zac.n_told_rows (dv 0) (zbQ zad))))))),λds S Q ex h=>by
  unfold zhp at h
  split at h
  ·rename_i n
   obtain⟨T,rfl,rfl,h⟩:=h
   refine zwl ?_
   refine⟨T++[.ins zac.C []],rfl,rfl,rfl,?_⟩
   rw[show (T++[Ob.ins zac.C []]).length=T.length+1 by simp,VaA]
   refine zsk (n:=T.length) (S2:=T++([Ob.ins zac.C []]++[Ob.ins zag.C (zby (T.length+1+1) (T.length+1+2) (T.length+1+3)),.lst [],.lst [],.dct []])) (fs:=[]) (v:=.ref (T.length+1)) (λK hK=>by exact hK) (zdS ..) (by decide) ?_
   rw[List.singleton_append,zem]
   refine zcN (v:=.ref (T.length+5)) (S1:=T++Ob.ins zac.C (zaO "net" (.ref (T.length+1)) [])::[Ob.ins zag.C (zby (T.length+1+1) (T.length+1+2) (T.length+1+3)),.lst [],.lst [],.dct [],.dck []]) (n:=T.length) (fs:=zaO "net" (.ref (T.length+1)) []) (λK hK=>by exact zwX (by simp) (by simp) hK) (λK hK=>by exact hK) (zdS ..) (show 1<1000 by decide) ?_
   rw[zem]
   refine zcN (v:=.ref (T.length+6)) (S1:=T++Ob.ins zac.C (zaO "meanings" (.ref (T.length+5)) (zaO "net" (.ref (T.length+1)) []))::[Ob.ins zag.C (zby (T.length+1+1) (T.length+1+2) (T.length+1+3)),.lst [],.lst [],.dct [],.dck [],.lst []]) (n:=T.length) (fs:=zaO "meanings" (.ref (T.length+5)) (zaO "net" (.ref (T.length+1)) [])) (λK hK=>by exact zgY (by simp) (by simp) hK) (λK hK=>by exact hK) (zdS ..) (show 2<1000 by decide) ?_
   rw[zem]
   refine zcN (v:=.ref (T.length+7)) (S1:=T++Ob.ins zac.C (zaO "unknown_names" (.ref (T.length+6)) (zaO "meanings" (.ref (T.length+5)) (zaO "net" (.ref (T.length+1)) [])))::[Ob.ins zag.C (zby (T.length+1+1) (T.length+1+2) (T.length+1+3)),.lst [],.lst [],.dct [],.dck [],.lst [],.lst []]) (n:=T.length) (fs:=zaO "unknown_names" (.ref (T.length+6)) (zaO "meanings" (.ref (T.length+5)) (zaO "net" (.ref (T.length+1)) []))) (λK hK=>by exact zgY (by simp) (by simp) hK) (λK hK=>by exact hK) (zdS ..) (show 3<1000 by decide) ?_
   rw[zem]
   refine zcN (v:=.ref (T.length+8)) (S1:=T++Ob.ins zac.C (zaO "unknown_ends" (.ref (T.length+7)) (zaO "unknown_names" (.ref (T.length+6)) (zaO "meanings" (.ref (T.length+5)) (zaO "net" (.ref (T.length+1)) []))))::[Ob.ins zag.C (zby (T.length+1+1) (T.length+1+2) (T.length+1+3)),.lst [],.lst [],.dct [],.dck [],.lst [],.lst [],.lst []]) (n:=T.length) (fs:=zaO "unknown_ends" (.ref (T.length+7)) (zaO "unknown_names" (.ref (T.length+6)) (zaO "meanings" (.ref (T.length+5)) (zaO "net" (.ref (T.length+1)) [])))) (λK hK=>by exact zgY (by simp) (by simp) hK) (λK hK=>by exact hK) (zdS ..) (show 4<1000 by decide) ?_
   rw[zem]
   exact h _ _ (Ng.app (zjQ zac.C zag.C T.length)) (λx hx=>by simp only[zbc,Vaa,Vad,or_false] at hx; omega) (zvE T)
  ·exact h.elim⟩)
def zrs  (zag:zcn K mg)(zjr:Dm K zag.C "nodes" "Net.nodes" zkE zfO)(zbC:mg "list"=none):Fm P w K mg base 1 zag.C "nodes" zfO (zfT zag.C):=
 zjr.mk' (zaQ (k:=0) zjr.F zvt (zso zag.C) λcdv A outer s H E hr=>⟨_,(zah (zao (zbO (zaU zeZ) rfl zbC Boot.«list» (zaa (zaY zag.cl zag.n_kept (dv 0)) zad)))),λds S Q ex h=>by
  unfold zfT at h
  split at h
  ·rename_i n
   obtain⟨a,b,c,xs,h1,h2,h⟩:=h
   refine zaV (to:=zb9 0) (n:=n) (λK hK=>by exact hK) h1 (zmt a b c) ?_
   exact zeS (o:=.lst xs) (zbd h2 rfl) h
  ·exact h.elim⟩)
def zt6  (zag:zcn K mg)(zac:zc2 K mg)(zjC:Dm K zac.C "nodes" "Task.nodes" zkm zhr)(zdm:Fm P w K mg base 1 zag.C "nodes" zfO (zfT zag.C)):Fm P w K mg base 2 zac.C "nodes" zhr (zif zag.C zac.C):=
 zjC.mk' (zaQ (k:=1) zjC.F zsY (zqK zag.C zac.C) λcdv A outer s H E hr=>⟨_,(zah (zao (zbq (C:=zag.C) (zaY zac.cl zac.n_net (dv 0)) zag.cl zdm.m zdm.ok (hr.mono (by decide)) zdm.b za9))),λds S Q ex h=>by
  unfold zif at h
  split at h
  ·rename_i n
   obtain⟨ow,k,⟨N,a,b,c,m,u,e,r,rfl,tp⟩,h⟩:=h
   refine zaD (S1:=S) (n:=N) (λK hK=>zaV (S1:=S) (n:=n) (λK hK=>by exact hK) tp.tsk rfl hK) tp.net.net rfl ?_
   exact⟨a,b,c,k.ns.map Nd.d,tp.net.net,tp.net.kept,h⟩
  ·exact h.elim⟩)
def zvH  (zla:Df K mg "words_of" zi1 zio)(zbh:mg "isinstance"=none)(zbb:mg "str"=none)(zcM:Kit K "str"):Fk P w K mg base 1 "words_of" zio zhc:=
 zla.mk' (zaQ (k:=0) zla.F znC (zsN) λcdv A outer s H E hr=>⟨_,(zaf (zav (zb4 (zbt (zf7 zcM rfl zbh rfl zbb Boot.«str» (dv 0)))) (zah zdd) zaw) (zaf (zak (i:=1) znC.nd rfl (Or.inl rfl) (ztH (dv 0) (zaa zai zad))) (zaf (zav (zay (zxe hr) zai (dv 1) rfl) (zah zdd) zaw) (zah (zao (dv 1)))))),λds S Q ex h=>by
  unfold zhc at h
  split at h
  ·rename_i x
   obtain⟨⟨hx,hn⟩,h⟩:=h
   refine zqL (x:=x) (y:=" ") (S1:=S) (λK hK=>by exact hK) (λK hK=>by exact hK) (by decide) hx ?_
   refine zuu (o:=.lst ((Txt.split x " ").map D.str)) (zax _ _) rfl ?_
   rw[zwF hn]
   exact h
  ·exact h.elim⟩)
def zwS  (ziW:Df K mg "place_of_sign" zjm zgX)(g_ROW_WORDS:GD P w K mg "ROW_WORDS" [("=","zero"),(">=","least")])(zd8:mg "enumerate"=none):Fk P w K mg base 1 "place_of_sign" zgX zhs:=
 ziW.mk' (zaQ (k:=0) ziW.F zo6 (zqY) λcdv A outer s H E hr=>⟨_,(zaf (zsT (is:=[1,2]) PassesOwn.never rfl zo6.nd (Nms.cons (i:=1) rfl (Or.inl rfl) (by first | exact .inl rfl | exact .inr rfl) (Nms.cons (i:=2) rfl (Or.inl rfl) (by first | exact .inl rfl | exact .inr rfl) Nms.nil)) rfl rfl zd8 Boot.«enumerate» (zaa (dv 0) zad) (zah (zav (zsI g_ROW_WORDS rfl (dv 2)) (zah (zao (dv 1))) zaw))) (zah zdd)),λds S Q ex h=>by
  unfold zhs at h
  split at h
  ·rename_i wm
   obtain⟨L,R,sg,hw,hL,hs,h⟩:=h
   refine zwi (n:=wm) (xs:=(L++sg::R).map D.str) (S1:=S) (λk dl' S'=>S'=S∧k≤L.length∧∃o1 o2:Option D,dl'=[some (.ref wm),o1,o2]) (λK hK=>by exact hK) (λk dl' S' w=>by rw[w.1]; exact hw) ⟨rfl,VaG _,none,none,rfl⟩ ?_ ?_
   ·rintro k x dl' S' nx ct hx ⟨rfl,hk,o1,o2,rfl⟩ hnx
    by_cases c:k<L.length
    ·have ex':x=.str L[k]:=by
      rw[Vao,Vah c,Vaw c] at hx
      exact(Option.some.inj hx).symm
     subst ex'
     have z:=hL _ (VaQ c)
     refine zm6 (k:=L[k]) (S1:=S') (λK hK=>by exact hK) ?_
     rw[show ([(("=":Str),("zero":Str)),(">=","least")].lookup L[k])=none from zqm z.1 z.2]
     exact hnx _ _ ⟨rfl,c,_,_,rfl⟩
    ·have ek:k=L.length:=by omega
     subst ek
     have ex':x=.str sg:=by
      rw[Vao,VaE (Vab _),Nat.sub_self] at hx
      exact(Option.some.inj hx).symm
     subst ex'
     refine zm6 (k:=sg) (S1:=S') (λK hK=>by exact hK) ?_
     rw[show ([(("=":Str),("zero":Str)),(">=","least")].lookup sg).isSome=true by rcases hs with rfl | rfl <;> decide]
     exact h
   ·rintro dl' S' ⟨_,hk,_⟩
    simp at hk
    omega
  ·exact h.elim⟩)
def zr2  (zab:zcq K mg)(zlc:Dm K zab.C "__init__" "Reader.__init__" zkH zhP):Fm P w K mg base 1 zab.C "__init__" zhP (zhi zab.C):=
 zlc.mk' (zaQ (k:=0) zlc.F ztL (zs2 zab.C) λcdv A outer s H E hr=>⟨_,(zaf (zcx zab.cl zab.n_words (dv 0) (dv 1)) (zaf (zcx zab.cl zab.n_place (dv 0) zae) (zah (zcx zab.cl zab.n_depth (dv 0) zae)))),λds S Q ex h=>by
  unfold zhi at h
  split at h
  ·rename_i n wm
   obtain⟨T,rfl,rfl,h⟩:=h
   refine zcN (v:=.ref wm) (n:=T.length) (fs:=[]) (λK hK=>by exact hK) (λK hK=>by exact hK) (zax _ _) (by decide) ?_
   rw[zmj]
   refine zcN (v:=.int 0) (n:=T.length) (fs:=zaO "words" (.ref wm) []) (λK hK=>by exact hK) (λK hK=>by exact hK) (zax _ _) (show 1<1000 by decide) ?_
   rw[zmj]
   refine zcN (v:=.int 0) (n:=T.length) (fs:=zaO "place" (.int 0) (zaO "words" (.ref wm) [])) (λK hK=>by exact hK) (λK hK=>by exact hK) (zax _ _) (show 2<1000 by decide) ?_
   rw[zmj]
   exact h
  ·exact h.elim⟩)
def zr9  (zab:zcq K mg)(zkU:Dm K zab.C "at_end" "Reader.at_end" zjY zfh)(zaF:mg "len"=none):Fm P w K mg base 1 zab.C "at_end" zfh (zfd zab.C):=
 zkU.mk' (zaQ (k:=0) zkU.F zvR (zs7 zab.C) λcdv A outer s H E hr=>⟨_,(zah (zao (zdU (zaN hr) (zaY zab.cl zab.n_place (dv 0)) (zbB (zaU zbZ) rfl zaF Boot.«len» (zaa (zaY zab.cl zab.n_words (dv 0)) zad)) (zat _)))),λds S Q ex h=>by
  unfold zfd at h
  split at h
  ·rename_i n
   obtain⟨wm,ws,p,d,rd,h⟩:=h
   refine zaV (S1:=S) (λK hK=>by exact hK) rd.rd rfl ?_
   refine zaV (S1:=S) (λK hK=>by exact hK) rd.rd rfl ?_
   refine zcD rd.wd ?_
   rw[Vaf]
   have e:decide ((p:Int)=((ws.length:Nat):Int))=decide (p=ws.length):=decide_eq_decide.mpr (by omega)
   show Q (.bl (decide ((p:Int)=((ws.length:Nat):Int)))) S
   rw[e]
   exact h
  ·exact h.elim⟩)
def zsX  (zab:zcq K mg)(zka:Dm K zab.C "take" "Reader.take" ziD zc9)(zar:Ec K mg "NoRow")(zb0:Fm P w K mg base 1 zab.C "at_end" zfh (zfd zab.C)):Fm P w K mg base 2 zab.C "take" zc9 (zdc zab.C zar.c):=
 zka.mk' (zcZ (k:=1) zka.F zoO (zs0 zab.C zar.c) λcdv A outer s H E ex hr hpx hrx=>⟨_,(zaf (zav (zbt (zbq (C:=zab.C) (dv 0) zab.cl zb0.m zb0.ok (hr.mono (by decide)) zb0.b hpx)) (zah (zcE zar.xc PySem.F.excBase_ValueError hrx hr.hd rfl (zaa zai zad))) zaw) (zaf (zak (i:=1) zoO.nd rfl (Or.inl rfl) (zaX (zaY zab.cl zab.n_words (dv 0)) (zaY zab.cl zab.n_place (dv 0)) (λ_ _=>rfl))) (zaf (znH zab.cl zab.n_place (dv 0) zae) (zah (zao (dv 1)))))),λds S Q h=>by
  unfold zdc at h
  split at h
  ·rename_i n
   obtain⟨wm,ws,p,d,rd,h⟩:=h
   refine zaD (S1:=S) (n:=n) (λK hK=>by exact hK) rd.rd rfl ?_
   refine⟨wm,ws,p,d,rd,?_⟩
   by_cases c:p=ws.length
   ·rw[decide_eq_true c]
    rw[VaY (by omega)] at h
    refine zbX ?_
    exact h
   ·rw[decide_eq_false c]
    have lp:p<ws.length:=by have:=rd.pl; omega
    rw[List.drop_eq_getElem_cons lp] at h
    refine zaV (S1:=S) (λK hK=>by exact hK) rd.rd rfl ?_
    refine zaV (S1:=S) (λK hK=>by exact hK) rd.rd rfl ?_
    refine zaR (o:=.lst (ws.map D.str)) rd.wd (zcG lp) ?_
    refine zlz (S1:=S) (S2:=S) (n:=n) (λK hK=>by exact hK) rd.rd rfl (λK hK=>by exact hK) rd.rd (show 3<1000 by decide) ?_
    exact h
  ·exact h.elim⟩)
def zs6  (zi8:Df K mg "made_of" zhb zgq)(zen:mg "all"=none)(zaF:mg "len"=none):Fk P w K mg base 1 "made_of" zgq zf0:=
 zi8.mk' (zmZ (zaQ (k:=0) zi8.F zwY (zpy (zwG)) λcdv A outer s H E hr=>⟨_,(zah (zao (zii (zuA znR znR zae (zbB zq7 rfl zaF Boot.«len» (zaa (dv 0) zad)) (dv 2)) (zhU (zbB (zaU (zqX rfl)) rfl zen Boot.«all» (zaa (ztA (x:="sign") (N:=["signs"]) (caps:=[1]) (ar:=zau zhb) rfl rfl csc rfl (by decide) (dv 0) (λ_ _ _ _ _ _=>zlD) (λ_ _ _ _ _ _=>(zdU zu4 (dv 0) (dv 1) rfl))) zad)))))),λds S Q ex h=>by
  obtain⟨Q0,ex0,rfl,rfl,h⟩:=h
  unfold zf0 at h
  split at h
  ·rename_i w sg m
   obtain⟨hl,h⟩:=h
   refine⟨hl,ifD (λe1=>?_) (λe1=>?_)⟩
   ·refine ifD (λe2=>?_) (λe2=>?_)
    ·refine zwM (z:=w) (λc=>.bl (decide (c∈sg.cps.toList))) (λK hK=>hK) hl (λc hc S2 K _ hK=>⟨c,rfl,hK⟩) ?_
     apply zqS
     ·exact zax _ _
     ·exact zpX _ _
     rw[decide_eq_true e1,decide_eq_true e2,Bool.true_and,Bool.true_and] at h
     refine⟨Pre.refl.push,.bl _,?_⟩
     rw[all_map]
     exact h
    ·rw[decide_eq_false e2,Bool.and_false,VaW] at h
     exact⟨Pre.refl,.bl _,h⟩
   ·rw[decide_eq_false e1,VaW,VaW] at h
    exact⟨Pre.refl,.bl _,h⟩
  ·exact h.elim⟩))
def zw8  {t_MOST_LETTERS:Tok}{t_LETTERS:Tok}(ziH:Df K mg "is_name" zkr zdB)(zfb:Fk P w K mg base 1 "made_of" zgq zf0)(g_KEPT_WORDS:GT K mg "KEPT_WORDS" ["let","in","grid","fine","looks","solve","boxes","point","right","islands"])(g_MOST_LETTERS:mg "MOST_LETTERS"=some (.int 8 t_MOST_LETTERS))(g_LETTERS:mg "LETTERS"=some (.str "abcdefghijklmnopqrstuvwxyz" t_LETTERS)):Fk P w K mg base 2 "is_name" zdB zdC:=
 ziH.mk' (zaQ (k:=1) ziH.F zuF (zvC) λcdv A outer s H E hr=>⟨_,(zah (zao (zii (zaL zfb hr (zaa (dv 0) (zaa (zlm g_LETTERS rfl) (zaa (zdy g_MOST_LETTERS rfl) zad)))) (zhU (zq0 g_KEPT_WORDS rfl (dv 0)))))),λds S Q ex h=>by
  unfold zdC at h
  split at h
  ·rename_i w
   obtain⟨hl,h⟩:=h
   unfold zaG at h
   refine⟨hl,ifB (λe=>?_) (λe=>?_)⟩
   ·rw[e,Bool.true_and] at h
    exact h
   ·rw[e,VaW] at h
    exact h
  ·exact h.elim⟩)
def zu2  (ziP:Df K mg "greatest_divisor" zj0 zhk):Fk P w K mg base 1 "greatest_divisor" zhk zho:=
 ziP.mk' (zaQ (k:=0) ziP.F ziu (zxj) λcdv A outer s H E hr=>⟨_,(zaf (zkh PassesOwn.never (zay (zcv hr) (dv 1) zae (zat _)) (zaf (zak (i:=2) ziu.nd rfl (Or.inl rfl) (zaj zeL (dv 0) (dv 1))) (zaf (zak (i:=0) ziu.nd rfl (Or.inl rfl) (dv 1)) (zah (zak (i:=1) ziu.nd rfl (Or.inl rfl) (dv 2)))))) (zah (zao (dv 0)))),λds S Q ex h=>by
  unfold zho at h
  split at h
  ·rename_i a b
   obtain⟨⟨ha,hb⟩,h⟩:=h
   refine⟨λm dl' S'=>S'=S∧∃(x y:Int) (o:Option D),dl'=[some (.int x),some (.int y),o]∧0≤x∧0≤y∧Int.gcd x y=Int.gcd a b∧m=y.toNat,⟨b.toNat,rfl,a,b,none,rfl,ha,hb,rfl,rfl⟩,?_⟩
   rintro m dl' S' ⟨rfl,x,y,o,rfl,hx,hy,hg,rfl⟩
   refine ifN (λc=>?_) (λc=>?_)
   ·have c':0<y:=by omega
    exact⟨c',⟨(x%y).toNat,by have:=zgV (a:=x) c'; omega,rfl,y,x%y,_,rfl,hy,(zgV (a:=x) c').1,(zvI x y).trans hg,rfl⟩⟩
   ·subst c
    have e:((Int.gcd a b:Nat):Int)=x:=by rw[← hg,Int.gcd_zero_right]; omega
    rw[e] at h
    exact h
  ·exact h.elim⟩)
def zsJ  (zjn:Df K mg "is_whole" zi3 zgK)(zbh:mg "isinstance"=none)(zd9:mg "bool"=none)(zbK:mg "int"=none)(zfv:Kit K "bool")(zfA:Kit K "int"):Fk P w K mg base 1 "is_whole" zgK zg4:=
 zjn.mk' (zaQ (k:=0) zjn.F zuZ (zqW) λcdv A outer s H E hr=>⟨_,(zah (zao (zii (zf7 zfA rfl zbh rfl zbK Boot.«int» (dv 0)) (zhU (znX (zf7 zfv rfl zbh rfl zd9 Boot.«bool» (dv 0))))))),λds S Q ex h=>by
  unfold zg4 at h
  split at h
  ·exact h
  ·exact h.elim⟩)
def ztF  (zkf:Df K mg "fraction" zk8 zhQ)(zaA:Ec K mg "NoNumber")(zlR:Fk P w K mg base 1 "greatest_divisor" zhk zho)(zkR:Fk P w K mg base 1 "is_whole" zgK zg4)(zcA:mg "abs"=none):Fk P w K mg base 2 "fraction" zhQ (zha zaA.c):=
 zkf.mk' (zcZ (k:=1) zkf.F zmm (zr4 zaA.c) λcdv A outer s H E ex hr hpx hrx=>⟨_,(zaf (zav (PDW.pt (zb8 (zb4 (zbt (zbE zkR (hr.mono (by decide)) hpx rfl (zaa (dv 0) zad)))) (zb8 (zb4 (zbt (zbE zkR (hr.mono (by decide)) hpx rfl (zaa (dv 1) zad)))) (zc4 (zay (zaN hr) (dv 1) zae (zat _)))))) (zah (zcE zaA.xc PySem.F.excBase_ValueError hrx hr.hd rfl (zaa zai zad))) zaw) (zaf (zak (i:=2) zmm.nd rfl (Or.inl rfl) (zbE zlR (hr.mono (by decide)) hpx rfl (zaa (zbB zlu rfl zcA Boot.«abs» (zaa (dv 0) zad)) (zaa (zbB zlu rfl zcA Boot.«abs» (zaa (dv 1) zad)) zad)))) (zaf (zav (zay zgf (dv 1) zae (zat _)) (zah (zak (i:=2) zmm.nd rfl (Or.inl rfl) (znE zmP (dv 2)))) zaw) (zah (zao (zbl (zaa (zaj znz (dv 0) (dv 2)) (zaa (zaj znz (dv 1) (dv 2)) zad)))))))),λds S Q h=>by
  unfold zha at h
  split at h
  ·rename_i T B
   rcases h with ⟨hB,h⟩ | ⟨⟨hB,sB⟩,h⟩
   ·exact ifT (decide_eq_true hB) h
   ·have e:((Int.gcd (zbY T) (zbY B):Nat):Int)=((Int.gcd T B:Nat):Int):=by rw[zvs]
    have sg:Sz 4000 ((Int.gcd T B:Nat):Int):=by
     have gle:Int.gcd T B≤B.natAbs:=Nat.le_of_dvd (by omega) (Int.gcd_dvd_natAbs_right T B)
     unfold Sz at sB ⊢
     omega
    refine ifD (λc=>absurd c hB) (λc=>?_)
    refine⟨⟨zmb T,zmb B⟩,?_⟩
    refine ifD (λc2=>?_) (λc2=>?_)
    ·have f:=zpk (T:=T) (B:=B) (d:=-((Int.gcd (zbY T) (zbY B):Nat):Int)) hB (by rw[if_pos c2,e])
     obtain⟨f1,f2,f3,f4,f5,f6⟩:=f
     have s2:Sz 4000 (-((Int.gcd (zbY T) (zbY B):Nat):Int)):=by rw[e]; exact sg.neg
     exact⟨⟨f1,s2.log f1⟩,⟨f1,s2.log f1⟩,h _ _ f4 f6 f5 (zkV f1 f2) (zkV f1 f3)⟩
    ·have f:=zpk (T:=T) (B:=B) (d:=((Int.gcd (zbY T) (zbY B):Nat):Int)) hB (by rw[if_neg c2,e])
     obtain⟨f1,f2,f3,f4,f5,f6⟩:=f
     have s2:Sz 4000 ((Int.gcd (zbY T) (zbY B):Nat):Int):=by rw[e]; exact sg
     exact⟨⟨f1,s2.log f1⟩,⟨f1,s2.log f1⟩,h _ _ f4 f6 f5 (zkV f1 f2) (zkV f1 f3)⟩
  ·exact h.elim⟩)
def zt3  {t_MOST_FIGURES:Tok}{t_FIGURES:Tok}(zkG:Df K mg "number_of" zjb ze5)(zar:Ec K mg "NoRow")(zaA:Ec K mg "NoNumber")(zdu:Fk P w K mg base 2 "written" zez ze7)(zlJ:Fk P w K mg base 2 "fraction" zhQ (zha zaA.c))(zfb:Fk P w K mg base 1 "made_of" zgq zf0)(g_MOST_FIGURES:mg "MOST_FIGURES"=some (.int 9 t_MOST_FIGURES))(g_FIGURES:mg "FIGURES"=some (.str "0123456789" t_FIGURES))(zbK:mg "int"=none):Fk P w K mg base 3 "number_of" ze5 (zeO zar.c zaA.c):=
 zkG.mk' (zcZ (k:=2) zkG.F zfF (zwu zar.c zaA.c) λcdv A outer s H E ex hr hpx hrx=>⟨_,(zaf (zak (i:=1) zfF.nd rfl (Or.inl rfl) (ztT (dv 0) (zaa zai zad))) (zaf (zak (i:=2) zfF.nd rfl (Or.inl rfl) (zaq (dv 1) zae (λ_ _=>rfl))) (zaf (zak (i:=3) zfF.nd rfl (Or.inl rfl) (zqc (zay (zaN hr) (zaq (dv 1) zae (λ_ _=>rfl)) zai (zat _)) (zaq (dv 1) zae (λ_ _=>rfl)) zai)) (zaf (zak (i:=4) zfF.nd rfl (Or.inl rfl) (zqc (zbt (zuE (dv 2) (zaa zai zad))) (zgZ (dv 2) (zci zae) zdf) (dv 2))) (zaf (zav (PDW.pt (zb8 (zb4 (zbt (zbE zfb (hr.mono (by decide)) hpx rfl (zaa (dv 4) (zaa (zlm g_FIGURES rfl) (zaa (zdy g_MOST_FIGURES rfl) zad)))))) (zc4 (zb4 (zbt (zbE zfb (hr.mono (by decide)) hpx rfl (zaa (dv 3) (zaa (zlm g_FIGURES rfl) (zaa (zdy g_MOST_FIGURES rfl) zad))))))))) (zah (zcE zar.xc PySem.F.excBase_ValueError hrx hr.hd rfl (zaa zai zad))) zaw) (zaf (zav (zay (zaN hr) (zbO (zaU zkp) rfl zbK Boot.«int» (zaa (dv 3) zad)) zae (zat _)) (zah (zcE zar.xc PySem.F.excBase_ValueError hrx hr.hd rfl (zaa zai zad))) zaw) (zaf (zak (i:=5) zfF.nd rfl (Or.inl rfl) (zbE zlJ (hr.mono (by decide)) hpx rfl (zaa (zbO (zaU zkp) rfl zbK Boot.«int» (zaa (dv 2) zad)) (zaa (zbO (zaU zkp) rfl zbK Boot.«int» (zaa (dv 3) zad)) zad)))) (zaf (zav (zay (zcv hr) (zbE zdu (hr.mono (by decide)) hpx rfl (zaa (dv 5) zad)) (dv 0) (zat _)) (zah (zcE zar.xc PySem.F.excBase_ValueError hrx hr.hd rfl (zaa zai zad))) zaw) (zah (zao (dv 5))))))))))),λds S Q h=>by
  unfold zeO at h
  split at h
  ·rename_i w
   obtain⟨hl,h1,h2⟩:=h
   have lw:=zhD w
   refine cut4 (α:=D×List Nat×List Nat×List Nat) (λa=>match a with | ⟨d,T,B,F⟩=>[some (.str w),some d,some (.str (mk T)),some (.str (mk B)),some (.str (mk F)),none]) (λa=>match a with | ⟨_,T,B,F⟩=>zi5 (cs w) T B∧Sig T F) (λmain=>?_) ?_
   ·have sig:∀(d:D) (T B:List Nat) (nx:Ev→Sto→Prop),zi5 (cs w) T B→T.length≤900→(∀F,Sig T F→nx [some (.str w),some d,some (.str (mk T)),some (.str (mk B)),some (.str (mk F)),none] S)→zfr 4 (dIfE (zcR (zcy zms (zb9 2) (zdV (dC (D.str "-")) zc7))) (dSlS (zb9 2) (zn2 (dC (D.int 1))) zoC) (zb9 2)) { nx:=nx,rt:=Q } [some (.str w),some d,some (.str (mk T)),some (.str (mk B)),none,none] S:=λd T B nx sh lT go=>by
     refine zjE (S1:=S) (S2:=S) (x:=mk T) (y:=.str "-") (λK hK=>by exact hK) (λK hK=>by exact hK) ?_
     show if Txt.startswith (mk T) "-"=true then _ else _
     rw[zqR,zbe]
     refine ifD (λc=>?_) (λc=>?_)
     ·cases T with
      | nil=>cases c
      | cons x r=>
       have ex':x=45:=by simpa using c
       subst ex'
       refine⟨by rw[zbo]; omega,?_⟩
       have et:=zuk (x:=mk (45::r)) (r:=r) (zbe _)
       show nx (List.set _ 4 (some (.str (StrLaws.sliceText (mk (45::r)) (some 1) none)))) S
       rw[et]
       exact go r (.inl rfl)
     ·exact go T (.inr ⟨rfl,c⟩)
    by_cases h47:47∈cs w
    ·obtain⟨A',B,e,nA⟩:=znh _ h47
     refine zjE (S1:=S) (S2:=S) (x:=w) (y:=.str "/") (λK hK=>by exact hK) (λK hK=>by exact hK) ⟨⟨by decide,by omega⟩,?_⟩
     rw[zqZ e nA]
     have lA:A'.length≤900:=by
      have:(cs w).length=A'.length+(B.length+1):=by rw[e]; simp
      omega
     exact sig _ A' B _ ⟨.inr e,nA⟩ lA (λF sg=>main (_,A',B,F) ⟨⟨.inr e,nA⟩,sg⟩)
    ·refine zjE (S1:=S) (S2:=S) (x:=w) (y:=.str "/") (λK hK=>by exact hK) (λK hK=>by exact hK) ⟨⟨by decide,by omega⟩,?_⟩
     rw[zuq h47]
     have sh:zi5 (cs w) (cs w) [49]:=⟨.inl ⟨rfl,rfl⟩,h47⟩
     have z:=sig (.tup [.str w,.str Str.empty,.str Str.empty]) (cs w) [49] _ sh (by omega) (λF sg=>main (_,cs w,[49],F) ⟨sh,sg⟩)
     rw[zcS] at z
     exact z
   ·rintro⟨d,T,B,F⟩ ⟨sh,sg⟩
    have lens:T.length≤900∧B.length≤900∧F.length≤900:=by
     have lT:T.length≤900∧B.length≤900:=by
      rcases sh.1 with ⟨e,rfl⟩ | e
      ·rw[← e]; exact⟨by omega,by decide⟩
      ·have:(cs w).length=T.length+(B.length+1):=by rw[e]; simp
       omega
     refine⟨lT.1,lT.2,?_⟩
     rcases sg with e | ⟨e,_⟩
     ·rw[e] at lT
      simp at lT
      omega
     ·rw[← e]; exact lT.1
    refine⟨by rw[zbo]; omega,?_⟩
    by_cases fF:zdz (mk F)=true
    ·refine ifF (c:=!zdz (mk F)) (by rw[fF]; rfl) ?_
     refine⟨by rw[zbo]; omega,?_⟩
     by_cases fB:zdz (mk B)=true
     ·refine ifF (c:=!zdz (mk B)) (by rw[fB]; rfl) ?_
      have gF:=(zlU _).mp fF
      have gB:=(zlU _).mp fB
      rw[zbe] at gF gB
      obtain⟨rB,_⟩:=zoD gB.2.2 gB.1 (by omega)
      obtain⟨rF1,rF2⟩:=zoD gF.2.2 gF.1 (by omega)
      have vF:PySem.NumText.digitsVal F<10^9:=Vak (zoZ F gF.2.2) (VaX (by decide) gF.2.1)
      have vB:PySem.NumText.digitsVal B<10^9:=Vak (zoZ B gB.2.2) (VaX (by decide) gB.2.1)
      refine ziL rB (by rw[zbo]; omega) ?_
      refine ifD (λe0=>?_) (λe0=>?_)
      ·refine h2 λt b n=>?_
       obtain⟨_,_,eB⟩:=zfu n sh sg
       rw[eB,zfS] at e0
       have:=n.pos
       omega
      ·obtain⟨tv,rT,av,own⟩:∃tv:Int,PySem.intText? (mk T)=some tv∧tv.natAbs<10^9∧∀t b,zaZ (cs w) t b→tv=t:=by
        rcases id sg with e | ⟨e,z⟩
        ·refine⟨_,by rw[e]; exact rF2,by omega,λt b n=>?_⟩
         obtain⟨eT,eF,_⟩:=zfu n sh sg
         rw[eF,zfS]
         rw[e] at eT
         unfold num at eT
         split at eT
         ·omega
         ·have:=zdw eT.symm
          omega
        ·refine⟨_,by rw[e]; exact rF1,by omega,λt b n=>?_⟩
         obtain⟨eT,eF,_⟩:=zfu n sh sg
         rw[eF,zfS]
         unfold num at eT
         split at eT
         ·rw[eT] at z
          exact absurd rfl z
         ·omega
       have lT:T.length≤10:=by
        have:=gF.2.1
        rcases sg with e | ⟨e,_⟩
        ·rw[e,Vaq]; omega
        ·rw[e]; omega
       refine ziL rT (by rw[zbo]; omega) ?_
       refine ziL rB (by rw[zbo]; omega) ?_
       refine .inr ⟨⟨e0,(Sz.of (n:=40) (10^9) (by omega)).mono (by decide)⟩,λt b b1 ecr g st sb=>?_⟩
       have big:(10:Nat)^9≤10^200:=VaX (by decide) (by decide)
       refine⟨⟨by omega,b1,by omega⟩,?_⟩
       refine ifN (λc=>?_) (λc=>?_)
       ·refine h2 λt' b' n=>c ?_
        obtain⟨_,_,eB⟩:=zfu n sh sg
        have et:=own t' b' n
        have eb:((PySem.NumText.digitsVal B:Nat):Int)=b':=by
         rw[eB,zfS]
         have:=n.pos
         omega
        rw[et,eb] at ecr
        obtain⟨rfl,rfl⟩:=zvo b1 n.pos g n.low ecr
        refine zbL ?_
        rw[zbe]
        exact n.eq.symm
       ·refine h1 t b ⟨b1,g,by omega,by omega,?_⟩
        rw[← c,zbe]
     ·refine ifT (c:=!zdz (mk B)) (by simp[fB]) ?_
      refine h2 λt b n=>fB ?_
      obtain⟨_,_,eB⟩:=zfu n sh sg
      rw[eB]
      exact zos (by have:=n.bot; have:=n.pos; omega)
    ·refine ifT (c:=!zdz (mk F)) (by simp[fF]) ?_
     refine h2 λt b n=>fF ?_
     obtain⟨_,eF,_⟩:=zfu n sh sg
     rw[eF]
     exact zos n.top
  ·exact h.elim⟩)
def zrJ  (zab:zcq K mg)(ziJ:Dm K zab.C "sees" "Reader.sees" ziO zep)(zb0:Fm P w K mg base 1 zab.C "at_end" zfh (zfd zab.C)):Fm P w K mg base 2 zab.C "sees" zep (zdZ zab.C):=
 ziJ.mk' (zaQ (k:=1) ziJ.F ztb (zu9 zab.C) λcdv A outer s H E hr=>⟨_,(zah (zao (zii (znX (zbq (C:=zab.C) (dv 0) zab.cl zb0.m zb0.ok (hr.mono (by decide)) zb0.b za9)) (zhU (zdU (zsi hr) (zaX (zaY zab.cl zab.n_words (dv 0)) (zaY zab.cl zab.n_place (dv 0)) (λ_ _=>rfl)) (dv 1) rfl))))),λds S Q ex h=>by
  unfold zdZ at h
  split at h
  ·rename_i n es
   obtain⟨cs,rfl,wm,ws,p,d,rd,h⟩:=h
   refine zaD (S1:=S) (n:=n) (λK hK=>by exact hK) rd.rd rfl ?_
   refine⟨wm,ws,p,d,rd,?_⟩
   by_cases c:p=ws.length
   ·rw[decide_eq_true c]
    rw[VaY (by omega)] at h
    exact h
   ·rw[decide_eq_false c]
    have lp:p<ws.length:=by have:=rd.pl; omega
    rw[List.drop_eq_getElem_cons lp] at h
    refine zaV (S1:=S) (λK hK=>by exact hK) rd.rd rfl ?_
    refine zaV (S1:=S) (λK hK=>by exact hK) rd.rd rfl ?_
    refine zaR (o:=.lst (ws.map D.str)) rd.wd (zcG lp) ?_
    exact zrh h
  ·rename_i n m
   obtain⟨cs,hm,wm,ws,p,d,rd,h⟩:=h
   refine zaD (S1:=S) (n:=n) (λK hK=>by exact hK) rd.rd rfl ?_
   refine⟨wm,ws,p,d,rd,?_⟩
   by_cases c:p=ws.length
   ·rw[decide_eq_true c]
    rw[VaY (by omega)] at h
    exact h
   ·rw[decide_eq_false c]
    have lp:p<ws.length:=by have:=rd.pl; omega
    rw[List.drop_eq_getElem_cons lp] at h
    refine zaV (S1:=S) (λK hK=>by exact hK) rd.rd rfl ?_
    refine zaV (S1:=S) (λK hK=>by exact hK) rd.rd rfl ?_
    refine zaR (o:=.lst (ws.map D.str)) rd.wd (zcG lp) ?_
    exact zt8 hm h
  ·exact h.elim⟩)
def ztp  {t_MOST_BRACKETS:Tok}(n:Nat)(zab:zcq K mg)(zey:Dm K zab.C "bracket" "Reader.bracket" zhz zfJ)(zar:Ec K mg "NoRow")(zaA:Ec K mg "NoNumber")(za0:Fm P w K mg base 2 zab.C "take" zc9 (zdc zab.C zar.c))(zcX:Fm P w K mg base (3+5*n) zab.C "expression" zd7 (zd5 n zab.C zar.c zaA.c))(g_MOST_BRACKETS:mg "MOST_BRACKETS"=some (.int 16 t_MOST_BRACKETS)):Fm P w K mg base (3+5*n+1) zab.C "bracket" zfJ (zg0 (n+1) zab.C zar.c zaA.c):=
 zey.mk' (zcZ (k:=(3+5*n+0)) zey.F zoM (zu5 (n+1) zab.C zar.c zaA.c) λcdv A outer s H E ex hr hpx hrx=>⟨_,(zaf (znH zab.cl zab.n_depth (dv 0) zae) (zaf (zav (zay zkq (zaY zab.cl zab.n_depth (dv 0)) (zdy g_MOST_BRACKETS rfl) (zat _)) (zah (zcE zar.xc PySem.F.excBase_ValueError hrx hr.hd rfl (zaa zai zad))) zaw) (zaf (zak (i:=1) zoM.nd rfl (Or.inl rfl) (zbq (C:=zab.C) (dv 0) zab.cl zcX.m zcX.ok (hr.mono (by omega)) zcX.b hpx)) (zaf (zav (zay (zcv hr) (zbq (C:=zab.C) (dv 0) zab.cl za0.m za0.ok (hr.mono (by omega)) za0.b hpx) zai (zat _)) (zah (zcE zar.xc PySem.F.excBase_ValueError hrx hr.hd rfl (zaa zai zad))) zaw) (zaf (ztB zab.cl zab.n_depth (dv 0) zae) (zah (zao (dv 1)))))))),λds S Q h=>by
  unfold zg0 at h
  split at h
  ·rename_i n0
   obtain⟨wm,ws,p,d,rd,d16,lv,h⟩:=h
   unfold brS at h
   refine zlz (S1:=S) (S2:=S) (n:=n0) (λK hK=>by exact hK) rd.rd rfl (λK hK=>by exact hK) rd.rd (show 3<1000 by decide) ?_
   obtain⟨rd1,x1⟩:=rd.put (p':=p) (d':=d+1) (p:Int) ((d:Int)+1) rfl (by omega) rd.pl
   rw[show zaO "depth" (.int ((d:Int)+1)) (rdF wm (p:Int) (d:Int))=rdF wm (p:Int) ((d:Int)+1) from rfl]
   generalize S.set n0 (.ins zab.C (rdF wm (p:Int) ((d:Int)+1)))=S1 at rd1 x1 ⊢
   refine zaV (S1:=S1) (n:=n0) (λK hK=>by exact hK) rd1.rd rfl ?_
   refine ifD (λc=>?_) (λc=>?_)
   ·have e:d=16:=by omega
    subst e
    exact h _ x1
   ·have e:16-d=(16-(d+1))+1:=by omega
    have ei:inS (16-d) (ws.drop p)=exS (16-(d+1)) (ws.drop p):=by rw[e]; rfl
    rw[ei] at h
    refine zaD (S1:=S1) (n:=n0) (λK hK=>by exact hK) rd1.rd rfl ?_
    refine⟨wm,ws,p,d+1,rd1,by omega,by omega,?_⟩
    cases ee:exS (16-(d+1)) (ws.drop p) with
    | none=>
     rw[ee] at h
     exact λT xT=>h T (x1.trans xT)
    | some tr=>
     obtain⟨t,r⟩:=tr
     obtain⟨er,lr⟩:=zeu (zlL _) ee
     rw[ee] at h
     intro T xT rdT
     refine zaD (S1:=T) (n:=n0) (λK hK=>by exact hK) rdT.rd rfl ?_
     refine⟨wm,ws,ws.length-r.length,d+1,rdT,?_⟩
     rw[er]
     cases r with
     | nil=>exact h T (x1.trans xT)
     | cons w2 r2=>
      rw[Vaq] at lr rdT ⊢
      obtain⟨rd2,x2⟩:=rdT.put (p':=ws.length-r2.length) (d':=d+1) (((ws.length-(r2.length+1):Nat):Int)+1) (((d+1:Nat)):Int) (by omega) rfl (by omega)
      dsimp only[dC]
      refine txNe ?_
      by_cases c2:w2=")"
      ·rw[decide_eq_true c2]
       dsimp only at h
       rw[if_pos ((zoE w2).mpr c2)] at h
       generalize T.set n0 (.ins zab.C (rdF wm (((ws.length-(r2.length+1):Nat):Int)+1) (((d+1:Nat)):Int)))=T2 at rd2 x2 ⊢
       refine zlz (S1:=T2) (S2:=T2) (n:=n0) (λK hK=>by exact hK) rd2.rd rfl (λK hK=>by exact hK) rd2.rd (show 3<1000 by decide) ?_
       obtain⟨rd3,x3⟩:=rd2.put (p':=ws.length-r2.length) (d':=d) ((ws.length-r2.length:Nat):Int) (((d+1:Nat):Int)-1) rfl (by omega) rd2.pl
       exact h _ (x1.trans (xT.trans (x2.trans x3))) rd3
      ·rw[decide_eq_false c2]
       dsimp only at h
       rw[if_neg λz=>c2 ((zoE w2).mp z)] at h
       exact h _ (x1.trans (xT.trans x2))
  ·exact h.elim⟩)
def zty  (n:Nat)(zab:zcq K mg)(ze8:Dm K zab.C "atom" "Reader.atom" zhT zf4)(zar:Ec K mg "NoRow")(zaA:Ec K mg "NoNumber")(zdi:Fk P w K mg base 3 "number_of" ze5 (zeO zar.c zaA.c))(zb7:Fk P w K mg base 2 "is_name" zdB zdC)(zgH:Fm P w K mg base (3+5*n+1) zab.C "bracket" zfJ (zg0 (n+1) zab.C zar.c zaA.c))(za0:Fm P w K mg base 2 zab.C "take" zc9 (zdc zab.C zar.c)):Fm P w K mg base (3+5*n+2) zab.C "atom" zf4 (zh0 (n+1) zab.C zar.c zaA.c):=
 ze8.mk' (zcZ (k:=(3+5*n+1)) ze8.F zmB (zvO (n+1) zab.C zar.c zaA.c) λcdv A outer s H E ex hr hpx hrx=>⟨_,(zaf (zak (i:=1) zmB.nd rfl (Or.inl rfl) (zbq (C:=zab.C) (dv 0) zab.cl za0.m za0.ok (hr.mono (by omega)) za0.b hpx)) (zaf (zav (zay (zaN hr) (dv 1) zai (zat _)) (zah (zao (zbq (C:=zab.C) (dv 0) zab.cl zgH.m zgH.ok (hr.mono (by omega)) zgH.b hpx))) zaw) (zaf (zav (zbt (zbE zb7 (hr.mono (by omega)) hpx rfl (zaa (dv 1) zad))) (zah (zao (zbl (zaa zai (zaa (dv 1) zad))))) zaw) (zaf (zak (i:=2) zmB.nd rfl (Or.inl rfl) (zbE zdi (hr.mono (by omega)) hpx rfl (zaa (dv 1) zad))) (zah (zao (zbl (zaa zai (zaa (zaq (dv 2) zae (λ_ _=>rfl)) (zaa (zaq (dv 2) zae (λ_ _=>rfl)) zad)))))))))),λds S Q h=>by
  unfold zh0 at h
  split at h
  ·rename_i n0
   obtain⟨wm,ws,p,d,rd,d16,lv,h⟩:=h
   refine zaD (S1:=S) (n:=n0) (λK hK=>by exact hK) rd.rd rfl ?_
   refine⟨wm,ws,p,d,rd,?_⟩
   by_cases c:p=ws.length
   ·rw[VaY (by omega)] at h ⊢
    exact h S (zaT.refl rd.lt)
   have lp:p<ws.length:=by have:=rd.pl; omega
   have wl:=rd.wl ws[p] (VaQ lp)
   obtain⟨rd1,x1⟩:=rd.put (p':=p+1) (d':=d) ((p:Int)+1) (d:Int) (by omega) rfl lp
   have ll:(ws.drop (p+1)).length=ws.length-(p+1):=List.length_drop ..
   rw[List.drop_eq_getElem_cons lp] at h ⊢
   generalize ws[p]=w at h wl ⊢
   dsimp only
   generalize S.set n0 (.ins zab.C (rdF wm ((p:Int)+1) (d:Int)))=S1 at rd1 x1 ⊢
   refine ztd (i:=1) (a:=w) rfl (λc1=>?_) (λc1=>?_)
   ·rw[zsK c1] at h
    refine zaD (S1:=S1) (n:=n0) (λK hK=>by exact hK) rd1.rd rfl ?_
    refine⟨wm,ws,p+1,d,rd1,d16,lv,?_⟩
    cases eb:brS (16-d) (ws.drop (p+1)) with
    | none=>
     rw[eb] at h
     exact λT xT=>h T (x1.trans xT)
    | some tr=>
     rw[eb] at h
     exact λT xT rdT=>h T (x1.trans xT) rdT
   ·rw[zvp c1] at h
    refine⟨by omega,?_⟩
    cases cn:zaG w with
    | true=>
     rw[zgF cn] at h
     have z:=h S1 x1 (by rw[ll,show ws.length-(ws.length-(p+1))=p+1 by omega]; exact rd1)
     have e:trD (.nm (cs w))=.tup [.str "name",.str w]:=by
      show D.tup [.str "name",.str (mk (cs w))]=_
      rw[zcS]
     rw[e] at z
     exact z
    | false=>
     refine⟨by omega,λt b hn=>?_,λhb=>?_⟩
     ·rw[zm4 cn hn] at h
      exact h S1 x1 (by rw[ll,show ws.length-(ws.length-(p+1))=p+1 by omega]; exact rd1)
     ·rw[zn9 cn hb] at h
      exact h S1 x1
  ·exact h.elim⟩)
def zte  (n:Nat)(zab:zcq K mg)(zeB:Dm K zab.C "factor" "Reader.factor" zgy zfU)(zar:Ec K mg "NoRow")(zaA:Ec K mg "NoNumber")(za0:Fm P w K mg base 2 zab.C "take" zc9 (zdc zab.C zar.c))(zbA:Fm P w K mg base 2 zab.C "sees" zep (zdZ zab.C))(zhx:Fm P w K mg base (3+5*n+2) zab.C "atom" zf4 (zh0 (n+1) zab.C zar.c zaA.c))(g_POWERS:GT K mg "POWERS" ["2","3","4","5","6"])(zbK:mg "int"=none):Fm P w K mg base (3+5*n+3) zab.C "factor" zfU (zhw (n+1) zab.C zar.c zaA.c):=
 zeB.mk' (zcZ (k:=(3+5*n+2)) zeB.F zoo (zqr (n+1) zab.C zar.c zaA.c) λcdv A outer s H E ex hr hpx hrx=>⟨_,(zaf (zak (i:=1) zoo.nd rfl (Or.inl rfl) (zbq (C:=zab.C) (dv 0) zab.cl zhx.m zhx.ok (hr.mono (by omega)) zhx.b hpx)) (zaf (zav (zb4 (zbt (zbz (C:=zab.C) (dv 0) zab.cl zbA.m zbA.ok (hr.mono (by omega)) zbA.b hpx (zaa (zbl (zaa zai zad)) zad)))) (zah (zao (dv 1))) zaw) (zaf (zbN (zbq (C:=zab.C) (dv 0) zab.cl za0.m za0.ok (hr.mono (by omega)) za0.b hpx)) (zaf (zav (zb4 (zbt (zbz (C:=zab.C) (dv 0) zab.cl zbA.m zbA.ok (hr.mono (by omega)) zbA.b hpx (zaa (zve g_POWERS rfl) zad)))) (zah (zcE zar.xc PySem.F.excBase_ValueError hrx hr.hd rfl (zaa zai zad))) zaw) (zah (zao (zbl (zaa zai (zaa (dv 1) (zaa (zbO (zaU zkp) rfl zbK Boot.«int» (zaa (zbq (C:=zab.C) (dv 0) zab.cl za0.m za0.ok (hr.mono (by omega)) za0.b hpx) zad)) zad)))))))))),λds S Q h=>by
  unfold zhw at h
  split at h
  ·rename_i n0
   obtain⟨wm,ws,p,d,rd,d16,lv,h⟩:=h
   refine zaD (S1:=S) (n:=n0) (λK hK=>by exact hK) rd.rd rfl ?_
   refine⟨wm,ws,p,d,rd,d16,lv,?_⟩
   cases ea:zbD kS avS (inS (16-d)) (ws.drop p) with
   | none=>
    rw[zsA ea] at h
    exact h
   | some tr=>
    obtain⟨t,r⟩:=tr
    obtain⟨er,lr⟩:=zeu (zmr zc8 (zfx _)) ea
    intro T xT rdT
    refine zaD (S1:=T) (n:=n0) (λK hK=>by exact hK) rdT.rd rfl ?_
    refine⟨["^"],rfl,wm,ws,ws.length-r.length,d,rdT,?_⟩
    rw[er]
    cases r with
    | nil=>
     rw[zsj ea] at h
     exact h T xT rdT
    | cons w r2=>
     rw[Vaq] at lr rdT er
     dsimp only
     by_cases cw:w="^"
     ·rw[show (List.any (["^"]:List Str) λx=>x==w)=true by rw[cw]; decide]
      refine zaD (S1:=T) (n:=n0) (λK hK=>by exact hK) rdT.rd rfl ?_
      refine⟨wm,ws,ws.length-(r2.length+1),d,rdT,?_⟩
      rw[er]
      have er2:=zmx er lr
      obtain⟨rd2,x2⟩:=rdT.put (p':=ws.length-r2.length) (d':=d) (((ws.length-(r2.length+1):Nat):Int)+1) (d:Int) (by omega) rfl (by omega)
      dsimp only
      generalize T.set n0 (.ins zab.C (rdF wm (((ws.length-(r2.length+1):Nat):Int)+1) (d:Int)))=T2 at rd2 x2 ⊢
      refine zaD (S1:=T2) (n:=n0) (λK hK=>by exact hK) rd2.rd rfl ?_
      obtain⟨rd3,x3⟩:=rd2.app [.tpl POW]
      refine⟨POW,zax _ _,wm,ws,ws.length-r2.length,d,rd3,?_⟩
      rw[er2]
      cases r2 with
      | nil=>
       rw[zsm ea cw] at h
       exact h _ (xT.trans (x2.trans x3))
      | cons q r3=>
       rw[Vaq] at lr rd3 er2
       rw[zrW ea cw] at h
       dsimp only
       rw[zv2]
       cases ep:pvS q with
       | none=>
        rw[ep] at h
        exact h _ (xT.trans (x2.trans x3))
       | some k=>
        rw[ep] at h
        obtain⟨i1,i2⟩:=zsZ ep
        rw[show (!(some k:Option Int).isSome)=false from rfl]
        refine zbw ?_
        refine zaD (S1:=T2++[Ob.tpl POW]) (n:=n0) (λK hK=>by exact hK) rd3.rd rfl ?_
        refine⟨wm,ws,ws.length-(r3.length+1),d,rd3,?_⟩
        rw[er2]
        obtain⟨rd4,x4⟩:=rd3.put (p':=ws.length-r3.length) (d':=d) (((ws.length-(r3.length+1):Nat):Int)+1) (d:Int) (by omega) rfl (by omega)
        refine ziL i1 i2 ?_
        exact h _ (xT.trans (x2.trans (x3.trans x4))) rd4
     ·rw[show (List.any (["^"]:List Str) λx=>x==w)=false by simpa using Ne.symm cw]
      rw[ztD ea cw] at h
      exact h T xT rdT
  ·exact h.elim⟩)
def zvc  (n:Nat)(zab:zcq K mg)(zfc:Dm K zab.C "term" "Reader.term" ziq zfK)(zar:Ec K mg "NoRow")(zaA:Ec K mg "NoNumber")(zbA:Fm P w K mg base 2 zab.C "sees" zep (zdZ zab.C))(zeh:Fm P w K mg base (3+5*n+3) zab.C "factor" zfU (zhw (n+1) zab.C zar.c zaA.c))(za0:Fm P w K mg base 2 zab.C "take" zc9 (zdc zab.C zar.c)):Fm P w K mg base (3+5*n+4) zab.C "term" zfK (zgA (n+1) zab.C zar.c zaA.c):=
 zfc.mk' (zcZ (k:=(3+5*n+3)) zfc.F zmd (zqw (n+1) zab.C zar.c zaA.c) λcdv A outer s H E ex hr hpx hrx=>⟨_,(zaf (zak (i:=1) zmd.nd rfl (Or.inl rfl) (zbq (C:=zab.C) (dv 0) zab.cl zeh.m zeh.ok (hr.mono (by omega)) zeh.b hpx)) (zaf (zkh PassesOwn.leaving (zbt (zbz (C:=zab.C) (dv 0) zab.cl zbA.m zbA.ok (hr.mono (by omega)) zbA.b hpx (zaa (zbl (zaa zai zad)) zad))) (zaf (zbN (zbq (C:=zab.C) (dv 0) zab.cl za0.m za0.ok (hr.mono (by omega)) za0.b hpx)) (zah (zak (i:=1) zmd.nd rfl (Or.inl rfl) (zbl (zaa zai (zaa (dv 1) (zaa (zbq (C:=zab.C) (dv 0) zab.cl zeh.m zeh.ok (hr.mono (by omega)) zeh.b hpx) zad)))))))) (zah (zao (dv 1))))),λds S Q h=>by
  unfold zgA at h
  split at h
  ·rename_i n0
   obtain⟨wm,ws,p,d,rd,d16,lv,h⟩:=h
   refine zaD (S1:=S) (n:=n0) (λK hK=>by exact hK) rd.rd rfl ?_
   refine⟨wm,ws,p,d,rd,d16,lv,?_⟩
   cases ea:za3 kS avS pvS (inS (16-d)) (ws.drop p) with
   | none=>
    rw[zwg ea] at h
    exact h
   | some tr=>
    obtain⟨t,r⟩:=tr
    obtain⟨er,lr⟩:=zeu (zkg zc8 zeP (zfx _)) ea
    have el:=VaF (ziK (λ_ _ _ e=>zhC e) ea)
    rw[ztR ea] at h
    generalize (ws.drop p).length=N at h el
    intro T xT rdT
    refine⟨λm dl' S'=>∃(t:Tr) (r:List Str) (N:Nat),m=r.length∧r.length≤N∧ws.drop (ws.length-r.length)=r∧r.length≤ws.length∧zaT n0 S S'∧za7 zab.C S' n0 wm ws (ws.length-r.length) d∧dl'=[some (.ref n0),some (trD t)]∧match zbI kS avS pvS (inS (16-d)) N t r with | none=>∀T:Sto,zaT n0 S T→ex zar.c T | some (t,r)=>∀T:Sto,zaT n0 S T→za7 zab.C T n0 wm ws (ws.length-r.length) d→Q (trD t) T,⟨r.length,t,r,N,rfl,el,er,lr,xT,rdT,rfl,h⟩,?_⟩
    clear h el er lr xT rdT ea
    rintro m dl' S' ⟨t,r,N,rfl,el,er,lr,xS,rdS,rfl,h⟩
    refine zaD (S1:=S') (n:=n0) (λK hK=>by exact hK) rdS.rd rfl ?_
    refine⟨["*"],rfl,wm,ws,ws.length-r.length,d,rdS,?_⟩
    rw[er]
    cases r with
    | nil=>
     rw[ziz Nst.nil] at h
     exact h S' xS rdS
    | cons w r2=>
     rw[Vaq] at lr rdS er el
     dsimp only
     by_cases cw:w="*"
     ·rw[show (List.any (["*"]:List Str) λx=>x==w)=true by rw[cw]; decide]
      obtain⟨N',rfl⟩:∃N',N=N'+1:=⟨N-1,by omega⟩
      refine zbX ?_
      refine zaD (S1:=S') (n:=n0) (λK hK=>by exact hK) rdS.rd rfl ?_
      refine⟨wm,ws,ws.length-(r2.length+1),d,rdS,?_⟩
      rw[er]
      have er2:=zmx er lr
      obtain⟨rd2,x2⟩:=rdS.put (p':=ws.length-r2.length) (d':=d) (((ws.length-(r2.length+1):Nat):Int)+1) (d:Int) (by omega) rfl (by omega)
      dsimp only
      generalize S'.set n0 (.ins zab.C (rdF wm (((ws.length-(r2.length+1):Nat):Int)+1) (d:Int)))=S2 at rd2 x2 ⊢
      refine zaD (S1:=S2) (n:=n0) (λK hK=>by exact hK) rd2.rd rfl ?_
      refine⟨wm,ws,ws.length-r2.length,d,rd2,d16,lv,?_⟩
      rw[er2]
      cases ef:za3 kS avS pvS (inS (16-d)) r2 with
      | none=>
       rw[zvG cw ef] at h
       exact λT xT=>h T (xS.trans (x2.trans xT))
      | some tr=>
       obtain⟨t2,r3⟩:=tr
       rw[zrt cw ef] at h
       have e2:za3 kS avS pvS (inS (16-d)) (ws.drop (ws.length-r2.length))=some (t2,r3):=by rw[er2]; exact ef
       obtain⟨er3,lr3⟩:=zeu (zkg zc8 zeP (zfx _)) e2
       have l3:=ziK (λ_ _ _ e=>zhC e) ef
       intro T3 x3 rd3
       exact⟨r3.length,by rw[Vaq]; omega,.bi 2 t t2,r3,N',rfl,by omega,er3,lr3,xS.trans (x2.trans x3),rd3,rfl,h⟩
     ·rw[show (List.any (["*"]:List Str) λx=>x==w)=false by simpa using Ne.symm cw]
      rw[ziz (Nst.cons λz=>cw ((zl6 w).mp z))] at h
      exact h S' xS rdS
  ·exact h.elim⟩)
def zrK  (n:Nat)(zab:zcq K mg)(zej:Dm K zab.C "expression" "Reader.expression" zhh zd7)(zar:Ec K mg "NoRow")(zaA:Ec K mg "NoNumber")(zbA:Fm P w K mg base 2 zab.C "sees" zep (zdZ zab.C))(zef:Fm P w K mg base (3+5*n+4) zab.C "term" zfK (zgA (n+1) zab.C zar.c zaA.c))(za0:Fm P w K mg base 2 zab.C "take" zc9 (zdc zab.C zar.c))(g_SUMS:GD P w K mg "SUMS" [("+","plus"),("-","minus")]):Fm P w K mg base (3+5*n+5) zab.C "expression" zd7 (zd5 (n+1) zab.C zar.c zaA.c):=
 zej.mk' (zcZ (k:=(3+5*n+4)) zej.F zjL (zth (n+1) zab.C zar.c zaA.c) λcdv A outer s H E ex hr hpx hrx=>⟨_,(zaf (zak (i:=1) zjL.nd rfl (Or.inl rfl) (zbq (C:=zab.C) (dv 0) zab.cl zef.m zef.ok (hr.mono (by omega)) zef.b hpx)) (zaf (zkh PassesOwn.leaving (zbt (zbz (C:=zab.C) (dv 0) zab.cl zbA.m zbA.ok (hr.mono (by omega)) zbA.b hpx (zaa (zbl (zaa zai (zaa zai zad))) zad))) (zaf (zak (i:=2) zjL.nd rfl (Or.inl rfl) (zlX g_SUMS rfl (zbq (C:=zab.C) (dv 0) zab.cl za0.m za0.ok (hr.mono (by omega)) za0.b hpx) (λ_ _=>rfl))) (zah (zak (i:=1) zjL.nd rfl (Or.inl rfl) (zbl (zaa (dv 2) (zaa (dv 1) (zaa (zbq (C:=zab.C) (dv 0) zab.cl zef.m zef.ok (hr.mono (by omega)) zef.b hpx) zad)))))))) (zah (zao (dv 1))))),λds S Q h=>by
  unfold zd5 at h
  split at h
  ·rename_i n0
   obtain⟨wm,ws,p,d,rd,d16,lv,h⟩:=h
   rw[show exS (16-d) (ws.drop p)=zcc kS avS pvS (inS (16-d)) (ws.drop p) from congrFun (zmc kS avS pvS (16-d)) _] at h
   refine zaD (S1:=S) (n:=n0) (λK hK=>by exact hK) rd.rd rfl ?_
   refine⟨wm,ws,p,d,rd,d16,lv,?_⟩
   cases ea:zbf kS avS pvS (inS (16-d)) (ws.drop p) with
   | none=>
    rw[zuV ea] at h
    exact h
   | some tr=>
    obtain⟨t,r⟩:=tr
    obtain⟨er,lr⟩:=zeu (zg1 zc8 zeP (zfx _)) ea
    have el:=VaF (zia (λ_ _ _ e=>zhC e) ea)
    rw[zvj ea] at h
    generalize (ws.drop p).length=N at h el
    intro T xT rdT
    refine⟨λm dl' S'=>∃(t:Tr) (r:List Str) (N:Nat),m=r.length∧r.length≤N∧ws.drop (ws.length-r.length)=r∧r.length≤ws.length∧zaT n0 S S'∧za7 zab.C S' n0 wm ws (ws.length-r.length) d∧(∃u2:Option D,dl'=[some (.ref n0),some (trD t),u2])∧match zbR kS avS pvS (inS (16-d)) N t r with | none=>∀T:Sto,zaT n0 S T→ex zar.c T | some (t,r)=>∀T:Sto,zaT n0 S T→za7 zab.C T n0 wm ws (ws.length-r.length) d→Q (trD t) T,⟨r.length,t,r,N,rfl,el,er,lr,xT,rdT,⟨_,rfl⟩,h⟩,?_⟩
    clear h el er lr xT rdT ea
    rintro m dl' S' ⟨t,r,N,rfl,el,er,lr,xS,rdS,⟨u2,rfl⟩,h⟩
    refine zaD (S1:=S') (n:=n0) (λK hK=>by exact hK) rdS.rd rfl ?_
    refine⟨["+","-"],rfl,wm,ws,ws.length-r.length,d,rdS,?_⟩
    rw[er]
    cases r with
    | nil=>
     rw[zke (λ_ _ e=>by cases e)] at h
     exact h S' xS rdS
    | cons w r2=>
     rw[Vaq] at lr rdS er el
     dsimp only
     have er2:=zmx er lr
     obtain⟨rd2,x2⟩:=rdS.put (p':=ws.length-r2.length) (d':=d) (((ws.length-(r2.length+1):Nat):Int)+1) (d:Int) (by omega) rfl (by omega)
     obtain⟨N',rfl⟩:∃N',N=N'+1:=⟨N-1,by omega⟩
     by_cases c1:w="+"
     ·rw[show (List.any (["+","-"]:List Str) λx=>x==w)=true by rw[c1]; decide]
      refine zbX ?_
      refine zlH ?_
      refine zaD (S1:=S') (n:=n0) (λK hK=>by exact hK) rdS.rd rfl ?_
      refine⟨wm,ws,ws.length-(r2.length+1),d,rdS,?_⟩
      rw[er]
      dsimp only
      rw[show List.lookup w ([("+","plus"),("-","minus")]:List (Str×Str))=some "plus" by rw[c1]; decide]
      generalize S'.set n0 (.ins zab.C (rdF wm (((ws.length-(r2.length+1):Nat):Int)+1) (d:Int)))=S2 at rd2 x2 ⊢
      refine zaD (S1:=S2) (n:=n0) (λK hK=>by exact hK) rd2.rd rfl ?_
      refine⟨wm,ws,ws.length-r2.length,d,rd2,d16,lv,?_⟩
      rw[er2]
      have ck:zdh (kS w)=some 0:=by rw[(zoV w).mpr c1]; rfl
      cases ef:zbf kS avS pvS (inS (16-d)) r2 with
      | none=>
       rw[zpI ck ef] at h
       exact λT xT=>h T (xS.trans (x2.trans xT))
      | some tr=>
       obtain⟨t2,r3⟩:=tr
       rw[znu ck ef] at h
       have e2:zbf kS avS pvS (inS (16-d)) (ws.drop (ws.length-r2.length))=some (t2,r3):=by rw[er2]; exact ef
       obtain⟨er3,lr3⟩:=zeu (zg1 zc8 zeP (zfx _)) e2
       have l3:=zia (λ_ _ _ e=>zhC e) ef
       intro T3 x3 rd3
       exact⟨r3.length,by rw[Vaq]; omega,.bi 0 t t2,r3,N',rfl,by omega,er3,lr3,xS.trans (x2.trans x3),rd3,⟨_,rfl⟩,h⟩
     by_cases c2:w="-"
     ·rw[show (List.any (["+","-"]:List Str) λx=>x==w)=true by rw[c2]; decide]
      refine zbX ?_
      refine zlH ?_
      refine zaD (S1:=S') (n:=n0) (λK hK=>by exact hK) rdS.rd rfl ?_
      refine⟨wm,ws,ws.length-(r2.length+1),d,rdS,?_⟩
      rw[er]
      dsimp only
      rw[show List.lookup w ([("+","plus"),("-","minus")]:List (Str×Str))=some "minus" by rw[c2]; decide]
      generalize S'.set n0 (.ins zab.C (rdF wm (((ws.length-(r2.length+1):Nat):Int)+1) (d:Int)))=S2 at rd2 x2 ⊢
      refine zaD (S1:=S2) (n:=n0) (λK hK=>by exact hK) rd2.rd rfl ?_
      refine⟨wm,ws,ws.length-r2.length,d,rd2,d16,lv,?_⟩
      rw[er2]
      have ck:zdh (kS w)=some 1:=by rw[(zmR w).mpr c2]; rfl
      cases ef:zbf kS avS pvS (inS (16-d)) r2 with
      | none=>
       rw[zpI ck ef] at h
       exact λT xT=>h T (xS.trans (x2.trans xT))
      | some tr=>
       obtain⟨t2,r3⟩:=tr
       rw[znu ck ef] at h
       have e2:zbf kS avS pvS (inS (16-d)) (ws.drop (ws.length-r2.length))=some (t2,r3):=by rw[er2]; exact ef
       obtain⟨er3,lr3⟩:=zeu (zg1 zc8 zeP (zfx _)) e2
       have l3:=zia (λ_ _ _ e=>zhC e) ef
       intro T3 x3 rd3
       exact⟨r3.length,by rw[Vaq]; omega,.bi 1 t t2,r3,N',rfl,by omega,er3,lr3,xS.trans (x2.trans x3),rd3,⟨_,rfl⟩,h⟩
     ·rw[show (List.any (["+","-"]:List Str) λx=>x==w)=false by simp[Ne.symm c1,Ne.symm c2]]
      rw[zke (λ_ _ e=>by cases e; exact ztW c1 c2)] at h
      exact h S' xS rdS
  ·exact h.elim⟩)
def znM {t_MOST_BRACKETS:Tok}(zab:zcq K mg)(zar:Ec K mg "NoRow")(zaA:Ec K mg "NoNumber")(zey:Dm K zab.C "bracket" "Reader.bracket" zhz zfJ)(za0:Fm P w K mg base 2 zab.C "take" zc9 (zdc zab.C zar.c))(g_MOST_BRACKETS:mg "MOST_BRACKETS"=some (.int 16 t_MOST_BRACKETS))(ze8:Dm K zab.C "atom" "Reader.atom" zhT zf4)(zdi:Fk P w K mg base 3 "number_of" ze5 (zeO zar.c zaA.c))(zb7:Fk P w K mg base 2 "is_name" zdB zdC)(zeB:Dm K zab.C "factor" "Reader.factor" zgy zfU)(zbA:Fm P w K mg base 2 zab.C "sees" zep (zdZ zab.C))(g_POWERS:GT K mg "POWERS" ["2","3","4","5","6"])(zbK:mg "int"=none)(zfc:Dm K zab.C "term" "Reader.term" ziq zfK)(zej:Dm K zab.C "expression" "Reader.expression" zhh zd7)(g_SUMS:GD P w K mg "SUMS" [("+","plus"),("-","minus")]):(n:Nat)→Fm P w K mg base (3+5*n) zab.C "expression" zd7 (zd5 n zab.C zar.c zaA.c)
 | 0=>zej.vac _ λds S Q ex h=>by
  unfold zd5 at h
  split at h
  ·obtain⟨wm,ws,p,d,_,h1,h2,_⟩:=h
   omega
  ·exact h.elim
 | n+1=>
  let zcX:=znM zab zar zaA zey za0 g_MOST_BRACKETS ze8 zdi zb7 zeB zbA g_POWERS zbK zfc zej g_SUMS n
  let zgH:=ztp n zab zey zar zaA za0 zcX g_MOST_BRACKETS
  let zhx:=zty n zab ze8 zar zaA zdi zb7 zgH za0
  let zeh:=zte n zab zeB zar zaA za0 zbA zhx g_POWERS zbK
  let zef:=zvc n zab zfc zar zaA zbA zeh za0
  zrK n zab zej zar zaA zbA zef za0 g_SUMS
def zw7  {t_MOST_WORDS:Tok}(zab:zcq K mg)(zjU:Df K mg "tree_of" zjS zfk)(zar:Ec K mg "NoRow")(zaA:Ec K mg "NoNumber")(zb0:Fm P w K mg base 1 zab.C "at_end" zfh (zfd zab.C))(zcX:Fm P w K mg base 88 zab.C "expression" zd7 (zd5 17 zab.C zar.c zaA.c))(zfo:Fm P w K mg base 1 zab.C "__init__" zhP (zhi zab.C))(g_MOST_WORDS:mg "MOST_WORDS"=some (.int 120 t_MOST_WORDS))(zaF:mg "len"=none):Fk P w K mg base 89 "tree_of" zfk (zfQ zab.C zar.c zaA.c):=
 zjU.mk' (zcZ (k:=88) zjU.F zmw (zvk zab.C zar.c zaA.c) λcdv A outer s H E ex hr hpx hrx=>⟨_,(zaf (zav (zay zkq (zbB (zaU zbZ) rfl zaF Boot.«len» (zaa (dv 0) zad)) (zdy g_MOST_WORDS rfl) (zat _)) (zah (zcE zar.xc PySem.F.excBase_ValueError hrx hr.hd rfl (zaa zai zad))) zaw) (zaf (zak (i:=1) zmw.nd rfl (Or.inl rfl) (zui ⟨zab.makes,zfo.m.at_,zfo.m.fn,zab.kp⟩ zfo.ok (hr.mono (by decide)) rfl zab.m zfo.b hpx (zaa (dv 0) zad))) (zaf (zak (i:=2) zmw.nd rfl (Or.inl rfl) (zbq (C:=zab.C) (dv 1) zab.cl zcX.m zcX.ok (hr.mono (by decide)) zcX.b hpx)) (zaf (zav (zb4 (zbt (zbq (C:=zab.C) (dv 1) zab.cl zb0.m zb0.ok (hr.mono (by decide)) zb0.b hpx))) (zah (zcE zar.xc PySem.F.excBase_ValueError hrx hr.hd rfl (zaa zai zad))) zaw) (zah (zao (dv 2))))))),λds S Q h=>by
  unfold zfQ at h
  split at h
  ·rename_i wm
   obtain⟨ws,hw,l9,wl,h⟩:=h
   refine zcD hw ?_
   rw[Vaf]
   refine ifD (λc=>?_) (λc=>?_)
   ·rw[show trS ws=none by unfold trS; rw[if_pos (by omega)]] at h
    exact h S Pre.refl
   ·have lw:=za8 hw
    refine⟨S,rfl,rfl,rfl,?_⟩
    have rd:za7 zab.C (S++[.ins zab.C (rdF wm 0 0)]) S.length wm ws 0 0:=⟨zax _ _,zam hw,VaG _,l9,wl⟩
    have x0:∀T:Sto,zaT S.length (S++[.ins zab.C (rdF wm 0 0)]) T→Pre S T:=λT x y o e=>x.2 y o (λz=>by have:=za8 e; omega) (zam e)
    generalize S++[Ob.ins zab.C (rdF wm 0 0)]=S1 at rd x0 ⊢
    refine zaD (S1:=S1) (n:=S.length) (λK hK=>by exact hK) rd.rd rfl ?_
    refine⟨wm,ws,0,0,rd,by omega,by omega,?_⟩
    have l12:¬ 120<ws.length:=by omega
    rw[List.drop_zero]
    cases ee:exS (16-0) ws with
    | none=>
     rw[ztG l12 ee] at h
     exact λT xT=>h T (x0 T xT)
    | some tr=>
     obtain⟨t,r⟩:=tr
     intro T xT rdT
     refine zaD (S1:=T) (n:=S.length) (λK hK=>by exact hK) rdT.rd rfl ?_
     refine⟨wm,ws,ws.length-r.length,0,rdT,?_⟩
     have lr:=zmJ 16 (show exS 16 ws=some (t,r) from ee)
     cases r with
     | nil=>
      rw[zox l12 ee] at h
      rw[decide_eq_true (show ws.length-([]:List Str).length=ws.length from rfl)]
      exact h T (x0 T xT)
     | cons w r2=>
      rw[zsC l12 ee] at h
      rw[decide_eq_false (by rw[Vaq] at lr ⊢; omega)]
      exact h T (x0 T xT)
  ·exact h.elim⟩)
def zwC  (zac:zc2 K mg)(ziM:Dm K zac.C "check_known" "Task.check_known" zkb zgk)(zb7:Fk P w K mg base 2 "is_name" zdB zdC):Fm P w K mg base 3 zac.C "check_known" zgk (zf3 zac.C):=
 ziM.mk' (zaQ (k:=2) ziM.F znY (zuw zac.C) λcdv A outer s H E hr=>⟨_,(zah (zg8 (i:=2) PassesOwn.never rfl znY.nd rfl (Or.inl rfl) (dv 1) (zah (zav (PDW.pt (zpq (zbt (zaL zb7 hr (zaa (dv 2) zad))) (zoQ (zxm hr (dv 2) (zaY zac.cl zac.n_meanings (dv 0)))))) (zah zdd) zaw)))),λds S Q ex h=>by
  unfold zf3 at h
  split at h
  ·rename_i n wm
   obtain⟨ws,N,m,u,e,r,ml,h1,h2,hw,hk,h⟩:=h
   refine zvN (n:=wm) (o:=.lst (ws.map D.str)) (λx=>∃w∈ws,x=.str w) hw (show 2<3 by decide) (λx hx=>?_) ?_ ?_
   ·obtain⟨w,hw',rfl⟩:=VaI.mp hx
    exact⟨w,hw',rfl⟩
   ·rintro x nx ct ⟨w,hw',rfl⟩ hnx
    obtain⟨l9,kn⟩:=hk w hw'
    refine⟨by omega,?_⟩
    cases c:zaG w with
    | false=>exact hnx
    | true=>
     obtain⟨j,ej⟩:=kn c
     refine zti (n:=m) (S2:=S) (y:=.str w) (k:=.inr w) (λK hK=>by exact hK) (λK hK=>zaV (S1:=S) (n:=n) (λK hK=>by exact hK) h1 rfl hK) h2 rfl ?_
     rw[zh3,ej]
     exact hnx
   ·intro v
    exact h
  ·exact h.elim⟩)
def zxp  (zjG:Df K mg "weight_of" zj7 zgw):Fk P w K mg base 1 "weight_of" zgw zim:=
 zjG.mk' (zaQ (k:=0) zjG.F zwA (zrB) λcdv A outer s H E hr=>⟨_,(zaf (zav (zay (zoJ (k:=0) hr (by decide)) (zaq (dv 0) zae (λ_ _=>rfl)) (zbl (zaa zai (zaa zai zad))) rfl) (zah (zao zae)) zaw) (zaf (zav (zay (zaN hr) (zaq (dv 0) zae (λ_ _=>rfl)) zai (zat _)) (zah (zao (zaj zeX (zaq (dv 0) zae (λ_ _=>rfl)) (zaX (dv 1) (zaq (dv 0) zae (λ_ _=>rfl)) (λ_ _=>rfl))))) zaw) (zah (zao (zaj zeC (zaX (dv 1) (zaq (dv 0) zae (λ_ _=>rfl)) (λ_ _=>rfl)) (zaX (dv 1) (zaq (dv 0) zae (λ_ _=>rfl)) (λ_ _=>rfl))))))),λds S Q ex h=>by
  unfold zim at h
  split at h
  ·rename_i d r
   obtain⟨v,hs,rfl,hl,ok,sm,h⟩:=h
   cases v with
   | number t b=>exact h
   | unknown k=>exact h
   | power i n=>
    obtain⟨hi,n2,n6⟩:=ok
    have b:=zhR sm hi
    refine zaR (o:=.lst (hs.map D.int)) hl (zfW hi) ?_
    exact⟨zev (m:=400) (n:=400) (Sz.of (10^20) (by omega)) (Sz.of (10^20) (by omega)),h⟩
   | two x i j=>
    obtain⟨hx,hi,hj⟩:=ok
    rcases hx with rfl | rfl | rfl
    all_goals
     refine zaR (o:=.lst (hs.map D.int)) hl (zfW hi) ?_
     refine zaR (o:=.lst (hs.map D.int)) hl (zfW hj) ?_
     exact h
  ·exact h.elim⟩)
def zw6  {t_MOST_NODES:Tok}{t_MOST_WEIGHT:Tok}(zag:zcn K mg)(zi4:Dm K zag.C "put" "Net.put" ziX zec)(zaJ:Ec K mg "TooMuch")(zmK:Fk P w K mg base 1 "weight_of" zgw zim)(g_MOST_NODES:mg "MOST_NODES"=some (.int 60 t_MOST_NODES))(g_MOST_WEIGHT:mg "MOST_WEIGHT"=some (.int 16 t_MOST_WEIGHT))(zaF:mg "len"=none):Fm P w K mg base 2 zag.C "put" zec (zdt zag.C zaJ.c):=
 zi4.mk' (zcZ (k:=1) zi4.F zl0 (zuo zag.C zaJ.c) λcdv A outer s H E ex hr hpx hrx=>⟨_,(zaf (zav (zrD hr (dv 1) (zaY zag.cl zag.n_numbers (dv 0))) (zah (zao (zwP hr (zaY zag.cl zag.n_numbers (dv 0)) (dv 1) (λ_ _=>rfl)))) zaw) (zaf (zak (i:=2) zl0.nd rfl (Or.inl rfl) (zbE zmK (hr.mono (by decide)) hpx rfl (zaa (dv 1) (zaa (zaY zag.cl zag.n_weights (dv 0)) zad)))) (zaf (zav (zay zkq (dv 2) (zdy g_MOST_WEIGHT rfl) (zat _)) (zah (zcE zaJ.xc PySem.F.excBase_ValueError hrx hr.hd rfl (zaa zai zad))) zaw) (zaf (zak (i:=3) zl0.nd rfl (Or.inl rfl) (zbB (zaU zbZ) rfl zaF Boot.«len» (zaa (zaY zag.cl zag.n_kept (dv 0)) zad))) (zaf (zav (zay (zaN hr) (dv 3) (zdy g_MOST_NODES rfl) (zat _)) (zah (zcE zaJ.xc PySem.F.excBase_ValueError hrx hr.hd rfl (zaa zai zad))) zaw) (zaf (zbN (zdD (zaY zag.cl zag.n_kept (dv 0)) (dv 1))) (zaf (zbN (zdD (zaY zag.cl zag.n_weights (dv 0)) (dv 2))) (zaf (zrM hr (zaY zag.cl zag.n_numbers (dv 0)) (dv 1) (dv 3)) (zah (zao (dv 3))))))))))),λds S Q h=>by
  unfold zdt at h
  split at h
  ·rename_i n d
   obtain⟨v,ns,hs,a,b,c,rfl,N,ok,sm,hl,h⟩:=h
   have nk:∀K:DK,K (.ref c) S→zh1 zag.C "numbers" (zb9 0) (zdx ["self","node","own_weight","number"] [.ref n,v.d]) S K:=λK hK=>zaV (n:=n) (λK hK=>by exact hK) N.net (zp3 a b c) hK
   refine zuI (n:=c) (k:=v.k) (λK hK=>by exact hK) nk N.numbers v.key ?_
   rw[zjT]
   cases e:idx v ns with
   | some j=>
    refine zbX ?_
    rcases h with ⟨j',h1,h⟩ | ⟨h1,_⟩ | ⟨h1,_⟩
    ·rw[e] at h1
     cases h1
     exact zwO (n:=c) (k:=v.k) (v:=.int (j:Int)) nk (λK hK=>by exact hK) N.numbers v.key (by rw[zjT,e]; simp) h
    ·rw[e] at h1; cases h1
    ·rw[e] at h1; cases h1
   | none=>
    refine zbw ?_
    refine zaV (n:=n) (λK hK=>by exact hK) N.net (znJ a b c) ?_
    refine⟨v,hs,rfl,N.weights,ok,sm,?_⟩
    refine ifD (λhw=>?_) (λhw=>?_)
    ·rcases h with ⟨j',h1,h⟩ | ⟨h1,_,h⟩ | ⟨h1,h2,_⟩
     ·rw[e] at h1; cases h1
     ·exact h
     ·omega
    ·refine zaV (n:=n) (λK hK=>by exact hK) N.net (zmt a b c) ?_
     refine zcD N.kept ?_
     rw[Vaf]
     refine ifD (λhw2=>?_) (λhw2=>?_)
     ·rcases h with ⟨j',h1,h⟩ | ⟨h1,_,h⟩ | ⟨h1,h2,h3,_⟩
      ·rw[e] at h1; cases h1
      ·exact h
      ·omega
     ·rcases h with ⟨j',h1,h⟩ | ⟨h1,h2,h⟩ | ⟨h1,h2,h3,h⟩
      ·rw[e] at h1; cases h1
      ·omega
      ·have nna:a≠n:=λz=>by have:=N.net; rw[← z,N.kept] at this; cases this
       have nnb:b≠n:=λz=>by have:=N.net; rw[← z,N.weights] at this; cases this
       have nac:a≠c:=λz=>by have:=N.numbers; rw[← z,N.kept] at this; cases this
       have nbc:b≠c:=λz=>by have:=N.numbers; rw[← z,N.weights] at this; cases this
       refine zeE (n:=a) (S1:=S) (xs:=ns.map Nd.d) (y:=v.d) (λK hK=>by exact zaV (n:=n) (λK hK=>by exact hK) N.net (zmt a b c) hK) N.kept (λK hK=>by exact hK) (by rw[Vaf]; omega) ?_
       have n1:=zek (u:=.lst (ns.map Nd.d++[v.d])) N.net nna
       have w1:=zek (u:=.lst (ns.map Nd.d++[v.d])) N.weights N.ne
       have d1:=zek (u:=.lst (ns.map Nd.d++[v.d])) N.numbers nac
       refine zeE (n:=b) (S1:=S.set a (.lst (ns.map Nd.d++[v.d]))) (xs:=hs.map D.int) (y:=.int (v.w hs)) (λK hK=>by exact zaV (n:=n) (λK hK=>by exact hK) n1 (znJ a b c) hK) w1 (λK hK=>by exact hK) (by rw[Vaf,← N.len]; omega) ?_
       have n2:=zek (u:=.lst (hs.map D.int++[.int (v.w hs)])) n1 nnb
       have d2:=zek (u:=.lst (hs.map D.int++[.int (v.w hs)])) d1 nbc
       refine zvi (n:=c) (k:=v.k) (y:=v.d) (v:=.int (ns.length:Nat)) (λK hK=>by exact hK) (λK hK=>by exact zaV (n:=n) (λK hK=>by exact hK) n2 (zp3 a b c) hK) (λK hK=>by exact hK) d2 v.key (by rw[zwn]; omega) ?_
       have ek:zcf (zct 0 ns) v.k (.int (ns.length:Nat))=zct 0 (ns++[v]):=by
        rw[← zpU v 0 ns,Nat.zero_add]
        unfold zcf
        rw[zqC (by rw[zjT,e]; rfl)]
        rfl
       rw[ek]
       exact h
  ·exact h.elim⟩)
def ztm  (zag:zcn K mg)(zk9:Df K mg "copy_of" zjW zfZ)(zaJ:Ec K mg "TooMuch")(zdm:Fm P w K mg base 1 zag.C "nodes" zfO (zfT zag.C))(zbk:Fm P w K mg base 2 zag.C "put" zec (zdt zag.C zaJ.c))(zcH:Fm P w K mg base 1 zag.C "__init__" zgd (zgg zag.C)):Fk P w K mg base 3 "copy_of" zfZ (zgj zag.C):=
 zk9.mk' (zaQ (k:=2) zk9.F zlK (zue zag.C) λcdv A outer s H E hr=>⟨_,(zaf (zak (i:=1) zlK.nd rfl (Or.inl rfl) (zlS ⟨zag.makes,zcH.m.at_,zcH.m.fn,zag.kp⟩ zcH.ok (hr.mono (by decide)) rfl zag.m zcH.b zmp)) (zaf (zg8 (i:=2) PassesOwn.never rfl zlK.nd rfl (Or.inl rfl) (zbq (C:=zag.C) (dv 0) zag.cl zdm.m zdm.ok (hr.mono (by decide)) zdm.b za9) (zah (zbN (zbz (C:=zag.C) (dv 1) zag.cl zbk.m zbk.ok (hr.mono (by decide)) zbk.b za9 (zaa (dv 2) zad))))) (zah (zao (dv 1))))),λds S Q ex h=>by
  unfold zgj at h
  split at h
  ·rename_i nn
   obtain⟨ns,hs,a,b,c,N,nok,h⟩:=h
   refine⟨S,rfl,rfl,rfl,?_⟩
   have N1:zba zag.C (S++[Ob.ins zag.C (zby (S.length+1) (S.length+2) (S.length+3)),.lst [],.lst [],.dct []]) S.length (S.length+1) (S.length+2) (S.length+3) [] []:=zvv
   have g1:Ng [] S (S++[Ob.ins zag.C (zby (S.length+1) (S.length+2) (S.length+3)),.lst [],.lst [],.dct []]):=Ng.app _
   generalize S++[Ob.ins zag.C (zby (S.length+1) (S.length+2) (S.length+3)),.lst [],.lst [],.dct []]=S1 at N1 g1 ⊢
   refine zaD (S1:=S1) (n:=nn) (λK hK=>by exact hK) (g1.2 _ _ (by simp) N.net) rfl ?_
   refine⟨a,b,c,ns.map Nd.d,g1.2 _ _ (by simp) N.net,g1.2 _ _ (by simp) N.kept,?_⟩
   have hl:=nok.len
   refine ziE (o:=.lst (ns.map Nd.d)) (λk dl' S'=>(∃ox:Option D,dl'=[some (.ref nn),some (.ref S.length),ox])∧zba zag.C S' S.length (S.length+1) (S.length+2) (S.length+3) (ns.take k) (hs.take k)∧Ng [S.length+1,S.length+2,S.length+3] (S1++[Ob.lst (ns.map Nd.d)]) S') ⟨⟨none,rfl⟩,by rw[List.take_zero,List.take_zero]; exact N1.app _,Ng.refl⟩ (λk dl2 S2 w=>w.2.2.2 _ _ (by have:=za8 N1.numbers; simp; omega) (zax _ _)) ?_ ?_
   ·rintro k x dl2 S2 nx2 ct2 hx ⟨⟨ox,rfl⟩,N2,g2⟩ hnx
    have hk:k<ns.length:=by have:=(Vac.mp hx).1; simpa [zan] using this
    obtain⟨v,f1,f2,f3,f4,f5,f6,f7⟩:=nok.front k hk
    have ex':x=v.d:=by
     have z:(ns.map Nd.d)[k]?=some x:=hx
     rw[Vao,f1] at z
     exact(Option.some.inj z).symm
    subst ex'
    refine zaD (S1:=S2) (n:=S.length) (λK hK=>by exact hK) N2.net rfl ?_
    obtain⟨N3,g3⟩:=N2.put v
    have l6:=nok.sixty
    refine⟨v,ns.take k,hs.take k,_,_,_,rfl,N2,f3,f2.small,f2.sixty,.inr (.inr ⟨f4,f5,by rw[VaK]; omega,?_⟩)⟩
    exact hnx _ _ ⟨⟨_,rfl⟩,by rw[f6,f7]; exact N3,g2.same g3⟩
   ·rintro dl2 S2 ⟨⟨ox,rfl⟩,N2,g2⟩
    have ei:(zan (.lst (ns.map Nd.d))).length=ns.length:=by show (ns.map Nd.d).length=_; rw[Vaf]
    rw[ei,List.take_length,hl,List.take_length] at N2
    have lN:=za8 N1.numbers
    refine h S2 S.length _ _ _ ?_ (Vab _) (by omega) (by omega) (by omega) N2
    exact(g1.trans (ow':=[]) (Ng.app _) (by simp)).trans g2 (by simp)
  ·exact h.elim⟩)
def zwh  (n:Nat)(zag:zcn K mg)(zeo:Df K mg "put_tree" zg3 zdI)(zaJ:Ec K mg "TooMuch")(zbk:Fm P w K mg base 2 zag.C "put" zec (zdt zag.C zaJ.c))(zc1:Fk P w K mg base (2+1*n) "put_tree" zdI (zcU n zag.C zaJ.c)):Fk P w K mg base (2+1*n+1) "put_tree" zdI (zcU (n+1) zag.C zaJ.c):=
 zeo.mk' (zcZ (k:=(2+1*n+0)) zeo.F zmE (zvq (n+1) zag.C zaJ.c) λcdv A outer s H E ex hr hpx hrx=>⟨_,(zaf (zav (zay (zaN hr) (zaq (dv 1) zae (λ_ _=>rfl)) zai (zat _)) (zah (zao (zrT hr (dv 2) (zaq (dv 1) zae (λ_ _=>rfl)) (λ_ _=>rfl)))) zaw) (zaf (zav (zay (zaN hr) (zaq (dv 1) zae (λ_ _=>rfl)) zai (zat _)) (zah (zao (zbz (C:=zag.C) (dv 0) zag.cl zbk.m zbk.ok (hr.mono (by omega)) zbk.b hpx (zaa (dv 1) zad)))) zaw) (zaf (zak (i:=3) zmE.nd rfl (Or.inl rfl) (zbE zc1 (hr.mono (by omega)) hpx rfl (zaa (dv 0) (zaa (zaq (dv 1) zae (λ_ _=>rfl)) (zaa (dv 2) zad))))) (zaf (zav (zay (zaN hr) (zaq (dv 1) zae (λ_ _=>rfl)) zai (zat _)) (zah (zao (zbz (C:=zag.C) (dv 0) zag.cl zbk.m zbk.ok (hr.mono (by omega)) zbk.b hpx (zaa (zbl (zaa zai (zaa (dv 3) (zaa (zaq (dv 1) zae (λ_ _=>rfl)) zad)))) zad)))) zaw) (zaf (zak (i:=4) zmE.nd rfl (Or.inl rfl) (zbE zc1 (hr.mono (by omega)) hpx rfl (zaa (dv 0) (zaa (zaq (dv 1) zae (λ_ _=>rfl)) (zaa (dv 2) zad))))) (zah (zao (zbz (C:=zag.C) (dv 0) zag.cl zbk.m zbk.ok (hr.mono (by omega)) zbk.b hpx (zaa (zbl (zaa (zaq (dv 1) zae (λ_ _=>rfl)) (zaa (dv 3) (zaa (dv 4) zad)))) zad))))))))),λds S Q h=>by
  unfold zcU at h
  split at h
  ·rename_i nn d m
   obtain⟨t,ns,hs,a,b,c,ml,rfl,hd,N,nok,mok,hm,gd,nms,h⟩:=h
   have own:∀ {T:Sto},Ng [a,b,c] S T→T[m]?=some (.dck (mlK ml)):=λg=>g.2 m _ (λz=>by
    simp only[Vaa,Vad,or_false] at z
    rcases z with z | z | z
    ·exact za5 hm N.kept (by intro z; cases z) z
    ·exact za5 hm N.weights (by intro z; cases z) z
    ·exact za5 hm N.numbers (by intro z; cases z) z) hm
   cases t with
   | nm w=>
    obtain⟨j,ej⟩:=nms (mk w) (Vat.mpr rfl)
    refine ztQ (n:=m) (kvs:=mlK ml) (y:=.str (mk w)) (k:=.inr (mk w)) (v:=.int (j:Int)) (λK hK=>by exact hK) (λK hK=>by exact hK) hm rfl (by rw[zh3,ej]; rfl) ?_
    have e:zaz (λw=>ml.lookup w) (.nm w) (ns,hs)=some ((ns,hs),j):=by
     show (ml.lookup (mk w)).map _=_
     rw[ej]
     rfl
    rw[e] at h
    exact h S Ng.refl N
   | nb t b=>
    refine zaD (S1:=S) (n:=nn) (λK hK=>by exact hK) N.net rfl ?_
    exact⟨.number t b,ns,hs,a,_,c,rfl,N,trivial,nok.small,nok.sixty,zfz (ex:=λT=>ex zaJ.c T) N h⟩
   | pw t k=>
    have hd':t.dp+1<n+1:=hd
    refine⟨t,ns,hs,a,b,c,ml,rfl,by omega,N,nok,mok,hm,gd.1,nms,?_⟩
    have e:zaz (λw=>ml.lookup w) (.pw t k) (ns,hs)=(match zaz (λw=>ml.lookup w) t (ns,hs) with | some (N1,i)=>zaS N1 (.power i k) | none=>none):=rfl
    rw[e] at h
    cases e1:zaz (λw=>ml.lookup w) t (ns,hs) with
    | none=>rw[e1] at h; exact h
    | some x=>
     obtain⟨⟨n1,h1⟩,i⟩:=x
     rw[e1] at h
     obtain⟨o1,l1,_,_⟩:=zcL t nok mok gd.1 e1
     have hl:=o1.len
     intro T gT NT
     refine zaD (S1:=T) (n:=nn) (λK hK=>by exact hK) NT.net rfl ?_
     exact⟨.power (i:Int) k,n1,h1,a,b,c,rfl,NT,⟨⟨by omega,by omega⟩,gd.2⟩,o1.small,o1.sixty,zfz (ex:=λT=>ex zaJ.c T) NT (ziG gT h)⟩
   | bi d tl tr=>
    have hd':max tl.dp tr.dp+1<n+1:=hd
    have e:zaz (λw=>ml.lookup w) (.bi d tl tr) (ns,hs)=(match zaz (λw=>ml.lookup w) tl (ns,hs) with | some (N1,i)=>(match zaz (λw=>ml.lookup w) tr N1 with | some (N2,j)=>zaS N2 (.two (kdS d) i j) | none=>none) | none=>none):=rfl
    rw[e] at h
    match d,gd with
    | 0,gd=>
     refine⟨tl,ns,hs,a,b,c,ml,rfl,by omega,N,nok,mok,hm,gd.1,λw hw=>nms w (VaD _ hw),?_⟩
     cases e1:zaz (λw=>ml.lookup w) tl (ns,hs) with
     | none=>rw[e1] at h; exact h
     | some x=>
      obtain⟨⟨n1,h1⟩,i⟩:=x
      rw[e1] at h
      obtain⟨o1,l1,⟨r1,rfl⟩,⟨s1,rfl⟩⟩:=zcL tl nok mok gd.1 e1
      intro T gT NT
      refine⟨tr,ns++r1,hs++s1,a,b,c,ml,rfl,by omega,NT,o1,λw j q=>by have:=mok w j q; rw[Vag]; omega,own gT,gd.2.1,λw hw=>nms w (Vav _ hw),?_⟩
      dsimp only at h
      cases e2:zaz (λw=>ml.lookup w) tr (ns++r1,hs++s1) with
      | none=>rw[e2] at h; exact λU u=>h U (gT.same u)
      | some y=>
       obtain⟨⟨n2,h2⟩,i2⟩:=y
       rw[e2] at h
       obtain⟨o2,l2,⟨r2,rfl⟩,⟨s2,rfl⟩⟩:=zcL tr o1 (λw j q=>by have:=mok w j q; rw[Vag]; omega) gd.2.1 e2
       have hl:=o2.len
       have l1':i<(ns++r1++r2).length:=by rw[Vag]; omega
       have li:inL (hs++s1++s2) (i:Int):=⟨by omega,by rw[← hl]; exact VaZ.mpr l1'⟩
       have lj:inL (hs++s1++s2) (i2:Int):=⟨by omega,by rw[← hl]; exact VaZ.mpr l2⟩
       intro U gU NU
       refine zaD (S1:=U) (n:=nn) (λK hK=>by exact hK) NU.net rfl ?_
       exact⟨.two (kdS 0) (i:Int) (i2:Int),_,_,a,b,c,rfl,NU,⟨zfD gd.2.2,li,lj⟩,o2.small,o2.sixty,zfz (ex:=λT=>ex zaJ.c T) NU (ziG (gT.same gU) h)⟩
    | 1,gd=>
     refine⟨tl,ns,hs,a,b,c,ml,rfl,by omega,N,nok,mok,hm,gd.1,λw hw=>nms w (VaD _ hw),?_⟩
     cases e1:zaz (λw=>ml.lookup w) tl (ns,hs) with
     | none=>rw[e1] at h; exact h
     | some x=>
      obtain⟨⟨n1,h1⟩,i⟩:=x
      rw[e1] at h
      obtain⟨o1,l1,⟨r1,rfl⟩,⟨s1,rfl⟩⟩:=zcL tl nok mok gd.1 e1
      intro T gT NT
      refine⟨tr,ns++r1,hs++s1,a,b,c,ml,rfl,by omega,NT,o1,λw j q=>by have:=mok w j q; rw[Vag]; omega,own gT,gd.2.1,λw hw=>nms w (Vav _ hw),?_⟩
      dsimp only at h
      cases e2:zaz (λw=>ml.lookup w) tr (ns++r1,hs++s1) with
      | none=>rw[e2] at h; exact λU u=>h U (gT.same u)
      | some y=>
       obtain⟨⟨n2,h2⟩,i2⟩:=y
       rw[e2] at h
       obtain⟨o2,l2,⟨r2,rfl⟩,⟨s2,rfl⟩⟩:=zcL tr o1 (λw j q=>by have:=mok w j q; rw[Vag]; omega) gd.2.1 e2
       have hl:=o2.len
       have l1':i<(ns++r1++r2).length:=by rw[Vag]; omega
       have li:inL (hs++s1++s2) (i:Int):=⟨by omega,by rw[← hl]; exact VaZ.mpr l1'⟩
       have lj:inL (hs++s1++s2) (i2:Int):=⟨by omega,by rw[← hl]; exact VaZ.mpr l2⟩
       intro U gU NU
       refine zaD (S1:=U) (n:=nn) (λK hK=>by exact hK) NU.net rfl ?_
       exact⟨.two (kdS 1) (i:Int) (i2:Int),_,_,a,b,c,rfl,NU,⟨zfD gd.2.2,li,lj⟩,o2.small,o2.sixty,zfz (ex:=λT=>ex zaJ.c T) NU (ziG (gT.same gU) h)⟩
    | 2,gd=>
     refine⟨tl,ns,hs,a,b,c,ml,rfl,by omega,N,nok,mok,hm,gd.1,λw hw=>nms w (VaD _ hw),?_⟩
     cases e1:zaz (λw=>ml.lookup w) tl (ns,hs) with
     | none=>rw[e1] at h; exact h
     | some x=>
      obtain⟨⟨n1,h1⟩,i⟩:=x
      rw[e1] at h
      obtain⟨o1,l1,⟨r1,rfl⟩,⟨s1,rfl⟩⟩:=zcL tl nok mok gd.1 e1
      intro T gT NT
      refine⟨tr,ns++r1,hs++s1,a,b,c,ml,rfl,by omega,NT,o1,λw j q=>by have:=mok w j q; rw[Vag]; omega,own gT,gd.2.1,λw hw=>nms w (Vav _ hw),?_⟩
      dsimp only at h
      cases e2:zaz (λw=>ml.lookup w) tr (ns++r1,hs++s1) with
      | none=>rw[e2] at h; exact λU u=>h U (gT.same u)
      | some y=>
       obtain⟨⟨n2,h2⟩,i2⟩:=y
       rw[e2] at h
       obtain⟨o2,l2,⟨r2,rfl⟩,⟨s2,rfl⟩⟩:=zcL tr o1 (λw j q=>by have:=mok w j q; rw[Vag]; omega) gd.2.1 e2
       have hl:=o2.len
       have l1':i<(ns++r1++r2).length:=by rw[Vag]; omega
       have li:inL (hs++s1++s2) (i:Int):=⟨by omega,by rw[← hl]; exact VaZ.mpr l1'⟩
       have lj:inL (hs++s1++s2) (i2:Int):=⟨by omega,by rw[← hl]; exact VaZ.mpr l2⟩
       intro U gU NU
       refine zaD (S1:=U) (n:=nn) (λK hK=>by exact hK) NU.net rfl ?_
       exact⟨.two (kdS 2) (i:Int) (i2:Int),_,_,a,b,c,rfl,NU,⟨zfD gd.2.2,li,lj⟩,o2.small,o2.sixty,zfz (ex:=λT=>ex zaJ.c T) NU (ziG (gT.same gU) h)⟩
    | d+3,gd=>exact absurd gd.2.2 (by omega)
  ·exact h.elim⟩)
def zpu (zag:zcn K mg)(zaJ:Ec K mg "TooMuch")(zeo:Df K mg "put_tree" zg3 zdI)(zbk:Fm P w K mg base 2 zag.C "put" zec (zdt zag.C zaJ.c)):(n:Nat)→Fk P w K mg base (2+1*n) "put_tree" zdI (zcU n zag.C zaJ.c)
 | 0=>zeo.vac _ λds S Q ex h=>by
  unfold zcU at h
  split at h
  ·obtain⟨t,_,_,_,_,_,_,_,h1,_⟩:=h
   omega
  ·exact h.elim
 | n+1=>
  let zc1:=zpu zag zaJ zeo zbk n
  zwh n zag zeo zaJ zbk zc1
def zqt  {t_MOST_ROWS:Tok}(zac:zc2 K mg)(zag:zcn K mg)(zab:zcq K mg)(zji:Dm K zac.C "tell_row" "Task.tell_row" zjM zhI)(zaJ:Ec K mg "TooMuch")(zar:Ec K mg "NoRow")(zaA:Ec K mg "NoNumber")(zc1:Fk P w K mg base 132 "put_tree" zdI (zcU 130 zag.C zaJ.c))(zgl:Fk P w K mg base 3 "copy_of" zfZ (zgj zag.C))(zdb:Fm P w K mg base 3 zac.C "check_known" zgk (zf3 zac.C))(zeK:Fk P w K mg base 89 "tree_of" zfk (zfQ zab.C zar.c zaA.c))(zml:Fk P w K mg base 1 "place_of_sign" zgX zhs)(g_ROW_WORDS:GD P w K mg "ROW_WORDS" [("=","zero"),(">=","least")])(g_MOST_ROWS:mg "MOST_ROWS"=some (.int 12 t_MOST_ROWS))(zaF:mg "len"=none):Fm P w K mg base 133 zac.C "tell_row" zhI (zh2 zag.C zac.C):=
 zji.mk' (zaQ (k:=132) zji.F zf8 (zqz zag.C zac.C) λcdv A outer s H E hr=>⟨_,(zaf (zak (i:=2) zf8.nd rfl (Or.inl rfl) (zaL zml hr (zaa (dv 1) zad))) (zaf (zak (i:=3) zf8.nd rfl (Or.inl rfl) (zaL zeK hr (zaa (zeN (dv 1) zdf (zci (dv 2))) zad))) (zaf (zak (i:=4) zf8.nd rfl (Or.inl rfl) (zaL zeK hr (zaa (zeN (dv 1) (zci (zaj zeC (dv 2) zae)) zdf) zad))) (zaf (zbN (zbz (C:=zac.C) (dv 0) zac.cl zdb.m zdb.ok (hr.mono (by decide)) zdb.b za9 (zaa (dv 1) zad))) (zaf (zav (zay (zaN hr) (zbB (zaU zbZ) rfl zaF Boot.«len» (zaa (zaY zac.cl zac.n_told_rows (dv 0)) zad)) (zdy g_MOST_ROWS rfl) (zat _)) (zah zdd) zaw) (zaf (zak (i:=5) zf8.nd rfl (Or.inl rfl) (zaL zgl hr (zaa (zaY zac.cl zac.n_net (dv 0)) zad))) (zaf (zak (i:=6) zf8.nd rfl (Or.inl rfl) (zaL zc1 hr (zaa (dv 5) (zaa (zbl (zaa zai (zaa (dv 3) (zaa (dv 4) zad)))) (zaa (zaY zac.cl zac.n_meanings (dv 0)) zad))))) (zaf (zcx zac.cl zac.n_net (dv 0) (dv 5)) (zaf (zbN (zdD (zaY zac.cl zac.n_told_rows (dv 0)) (zbl (zaa (zlX g_ROW_WORDS rfl (zaX (dv 1) (dv 2) (λ_ _=>rfl)) (λ_ _=>rfl)) (zaa (dv 6) zad))))) (zah (zao zai))))))))))),λds S Q ex h=>by
  unfold zh2 at h
  split at h
  ·rename_i n wm
   obtain⟨ow,k,k',ws,⟨N,a,b,c,m,u,e,r,rfl,tp⟩,hw,nw,⟨L,R,sg,t,s1,M,j,rfl,hL,hs,et,es,kn,lr,ep,rfl⟩,h⟩:=h
   have io:zan (.lst ((L++sg::R).map D.str))=(L++sg::R).map D.str:=rfl
   obtain⟨le,xl,xk,xe⟩:=zks et
   obtain⟨gd,nms⟩:=zl8 xe
   have dp:=zkQ xe
   obtain⟨le',xl',xk',xe'⟩:=zks es
   obtain⟨gd',nms'⟩:=zl8 xe'
   have dp':=zkQ xe'
   refine⟨L,R,sg,hw,hL,hs,?_⟩
   refine zeG (n:=wm) (o:=.lst ((L++sg::R).map D.str)) (S3:=S) (lo:=none) (hi:=some (L.length:Int)) (λK hK=>by exact hK) (λK hK=>by exact hK) (λK hK=>by exact hK) hw ?_
   rw[io,cw_to,List.take_left]
   refine⟨L,zax _ _,by omega,λw hw=>(kn w (VaD _ hw)).1,?_⟩
   rw[et]
   intro T pT
   have g1:Ng [] S T:=(Ng.app _).same (Ng.of pT)
   have hw1:=g1.2 _ _ (by simp) hw
   refine zeG (n:=wm) (o:=.lst ((L++sg::R).map D.str)) (S3:=T) (lo:=some ((L.length:Int)+1)) (hi:=none) (λK hK=>by exact hK) (λK hK=>by exact hK) (λK hK=>by exact hK) hw1 ?_
   rw[io,ztn,zrE]
   refine⟨R,zax _ _,by omega,λw hw=>(kn w (Vav _ (Vap _ hw))).1,?_⟩
   rw[es]
   intro T2 pT2
   have g2:Ng [] S T2:=(g1.same (Ng.app _)).same (Ng.of pT2)
   have tp2:=tp.up g2
   have hw2:=g2.2 _ _ (by simp) hw
   refine zaD (S1:=T2) (n:=n) (λK hK=>by exact hK) tp2.tsk rfl ?_
   refine⟨L++sg::R,N,m,u,e,r,k.ml,tp2.tsk,tp2.mea,hw2,kn,?_⟩
   refine zaV (S1:=T2) (n:=n) (λK hK=>by exact hK) tp2.tsk rfl ?_
   refine zcD tp2.rows ?_
   rw[Vaf]
   refine ifD (λc1=>absurd c1 (by omega)) (λc1=>?_)
   refine zaV (S1:=T2) (n:=n) (λK hK=>by exact hK) tp2.tsk rfl ?_
   refine⟨k.ns,k.hs,a,b,c,tp2.net,tp2.nok,λT3 n2 a2 b2 c2 g3 q1 q2 q3 q4 N3=>?_⟩
   have tp3:=tp2.up g3
   refine zaV (S1:=T3) (n:=n) (λK hK=>by exact hK) tp3.tsk rfl ?_
   refine zv9 ?_
   have np:∀(Q:DK) (ex:Addr→Sto→Prop),(match zaz (λw=>k.ml.lookup w) (.bi 1 t s1) (k.ns,k.hs) with | none=>∀T:Sto,Ng [a2,b2,c2] T3 T→ex zaJ.c T | some (N,j)=>∀T:Sto,Ng [a2,b2,c2] T3 T→zba zag.C T n2 a2 b2 c2 N.1 N.2→Q (.int (j:Int)) T)→zcU 130 zag.C zaJ.c [.ref n2,trD (.bi 1 t s1),.ref m] T3 Q ex:=λQ ex h=>⟨.bi 1 t s1,k.ns,k.hs,a2,b2,c2,k.ml,rfl,by show max t.dp s1.dp+1<130; omega,N3,tp.nok,tp.mok,tp3.mea,⟨gd,gd',by decide⟩,λw hw=>by
    rcases Val.1 hw with hw | hw
    ·obtain⟨z1,z2⟩:=nms w hw
     exact(kn w (VaD _ z1)).2 z2
    ·obtain⟨z1,z2⟩:=nms' w hw
     exact(kn w (Vav _ (Vap _ z1))).2 z2,h⟩
   refine np _ _ ?_
   have ep':zaz (λw=>k.ml.lookup w) (.bi 1 t s1) (k.ns,k.hs)=some (M,j):=ep
   rw[ep']
   intro T4 g4 N4
   obtain⟨o1,lj,⟨x1,y1⟩,_⟩:=zcL (.bi 1 t s1) tp.nok tp.mok ⟨gd,gd',by decide⟩ ep
   have nw2:zc6 zag.C T2 T4 n2 a2 b2 c2 M.1 M.2:=zc6.of g3 q1 q2 q3 q4 g4 N4
   obtain⟨tp5,g5,f5⟩:=tp2.row (sg:=sgS sg) (j:=j) nw2 o1 (by rw[y1,Vag]; omega)
   refine zcN (v:=.ref n2) (S1:=T4) (S2:=T4) (n:=n) (fs:=zcj N m u e r) (λK hK=>by exact hK) (λK hK=>by exact hK) (nw2.old tp2.tsk) (show 5<1000 by decide) ?_
   have ap:=tp.apart
   simp only[zbc,Vaa,Vad,or_false,not_or] at nw
   refine zeE (S1:=T4.set n (.ins zac.C (zcj n2 m u e r))) (n:=r) (xs:=k.rw.map rwT) (y:=rwT (sgS sg,j)) (λK hK=>zaV (n:=n) (λK hK=>by exact hK) (zcz (nw2.old tp2.tsk)) rfl hK) (zap (nw2.old tp2.rows) (Ne.symm ap.nr)) (λK hK=>?_) (by rw[Vaf]; omega) ?_
   ·refine zlH ?_
    refine zaR (o:=.lst ((L++sg::R).map D.str)) (zap (nw2.old hw2) nw.1) (d:=.str sg) (zrg L R sg) ?_
    dsimp only
    rw[zuc hs]
    exact hK
   ·exact h _ _ ((g2.nil).same g5) (λx hx=>by
     rcases f5 x hx with z | z
     ·exact .inl z
     ·exact .inr (Vax g2.1 z)) ⟨n2,a2,b2,c2,m,u,e,r,rfl,tp5⟩
  ·exact h.elim⟩)
def zsD  (zkj:Df K mg "less" zjz zgJ):Fk P w K mg base 1 "less" zgJ zhV:=
 zkj.mk' (zaQ (k:=0) zkj.F zuM (zxk) λcdv A outer s H E hr=>⟨_,(zah (zao (zdU zgf (zaj zeX (zaq (dv 0) zae (λ_ _=>rfl)) (zaq (dv 1) zae (λ_ _=>rfl))) (zaj zeX (zaq (dv 1) zae (λ_ _=>rfl)) (zaq (dv 0) zae (λ_ _=>rfl))) (zat _)))),λds S Q ex h=>by
  unfold zhV at h
  split at h
  ·obtain⟨⟨h1,h2⟩,h⟩:=h
   exact⟨h1,h2,h⟩
  ·exact h.elim⟩)
def ztV  (zjX:Df K mg "ends_of" ziI zhM)(zar:Ec K mg "NoRow")(zaA:Ec K mg "NoNumber")(zmi:Fk P w K mg base 1 "less" zgJ zhV)(zdi:Fk P w K mg base 3 "number_of" ze5 (zeO zar.c zaA.c))(zb7:Fk P w K mg base 2 "is_name" zdB zdC)(zaF:mg "len"=none):Fk P w K mg base 4 "ends_of" zhM zhS:=
 zjX.mk' (zaQ (k:=3) zjX.F zmq (zxc) λcdv A outer s H E hr=>⟨_,(zaf (zav (PDW.pt (zb8 (zay (zcv hr) (zbB (zaU zbZ) rfl zaF Boot.«len» (zaa (dv 0) zad)) zae (zat _)) (zc4 (zb4 (zbt (zaL zb7 hr (zaa (zaX (dv 0) zae (λ_ _=>rfl)) zad))))))) (zah zdd) zaw) (zaf (zak (i:=1) zmq.nd rfl (Or.inl rfl) (zaL zdi hr (zaa (zaX (dv 0) zae (λ_ _=>rfl)) zad))) (zaf (zak (i:=2) zmq.nd rfl (Or.inl rfl) (zaL zdi hr (zaa (zaX (dv 0) zae (λ_ _=>rfl)) zad))) (zaf (zav (zbt (zaL zmi hr (zaa (dv 2) (zaa (dv 1) zad)))) (zah zdd) zaw) (zah (zao (zbl (zaa (dv 1) (zaa (dv 2) zad))))))))),λds S Q ex h=>by
  unfold zhS at h
  split at h
  ·rename_i wm
   obtain⟨w0,lo,hi,t1,b1,t2,b2,hw,n0,l1,l2,i1,i2,nl,h⟩:=h
   refine zcD hw ?_
   refine zaR (o:=.lst ([w0,"in",lo,hi].map D.str)) hw (d:=.str w0) rfl ?_
   refine⟨by have:=zja n0; omega,?_⟩
   rw[n0]
   refine zaR (o:=.lst ([w0,"in",lo,hi].map D.str)) hw (d:=.str lo) rfl ?_
   refine⟨l1,λt b n=>?_,λbad=>(bad _ _ i1).elim⟩
   obtain⟨rfl,rfl⟩:=n.one i1
   refine zaR (o:=.lst ([w0,"in",lo,hi].map D.str)) hw (d:=.str hi) rfl ?_
   refine⟨l2,λt' b' n'=>?_,λbad=>(bad _ _ i2).elim⟩
   obtain⟨rfl,rfl⟩:=n'.one i2
   have q1:=i1.top
   have q2:=i1.bot
   have q3:=i1.pos
   have q4:=i2.top
   have q5:=i2.bot
   have q6:=i2.pos
   refine⟨⟨zev (m:=40) (n:=40) (Sz.of (10^9) (by omega)) (Sz.of (10^9) (by omega)),zev (m:=40) (n:=40) (Sz.of (10^9) (by omega)) (Sz.of (10^9) (by omega))⟩,?_⟩
   refine ifD (λc=>absurd c nl) (λc=>?_)
   exact h
  ·exact h.elim⟩)
def zvV  (zac:zc2 K mg)(zjg:Dm K zac.C "check_new" "Task.check_new" zju zfj):Fm P w K mg base 1 zac.C "check_new" zfj (zfp zac.C):=
 zjg.mk' (zaQ (k:=0) zjg.F zqV (ztI zac.C) λcdv A outer s H E hr=>⟨_,(zah (zav (zxl hr (dv 1) (zaY zac.cl zac.n_meanings (dv 0))) (zah zdd) zaw)),λds S Q ex h=>by
  unfold zfp at h
  split at h
  ·rename_i n w
   obtain⟨N,m,u,e,r,ml,h1,h2,h3,h⟩:=h
   refine zqo (n:=m) (S2:=S) (y:=.str w) (k:=.inr w) (λK hK=>by exact hK) (λK hK=>zaV (S1:=S) (n:=n) (λK hK=>by exact hK) h1 rfl hK) h2 rfl ?_
   rw[zh3,h3]
   exact h
  ·exact h.elim⟩)
def zxi  {t_MOST_UNKNOWNS:Tok}(zac:zc2 K mg)(zag:zcn K mg)(zkD:Dm K zac.C "tell_unknown" "Task.tell_unknown" zkx zhJ)(zaJ:Ec K mg "TooMuch")(zbk:Fm P w K mg base 2 zag.C "put" zec (zdt zag.C zaJ.c))(zdo:Fm P w K mg base 1 zac.C "check_new" zfj (zfp zac.C))(zmD:Fk P w K mg base 4 "ends_of" zhM zhS)(g_MOST_UNKNOWNS:mg "MOST_UNKNOWNS"=some (.int 4 t_MOST_UNKNOWNS))(zaF:mg "len"=none):Fm P w K mg base 5 zac.C "tell_unknown" zhJ (zgN zag.C zac.C):=
 zkD.mk' (zaQ (k:=4) zkD.F zlB (zr7 zag.C zac.C) λcdv A outer s H E hr=>⟨_,(zaf (zak (i:=2) zlB.nd rfl (Or.inl rfl) (zaL zmD hr (zaa (dv 1) zad))) (zaf (zbN (zbz (C:=zac.C) (dv 0) zac.cl zdo.m zdo.ok (hr.mono (by decide)) zdo.b za9 (zaa (zaX (dv 1) zae (λ_ _=>rfl)) zad))) (zaf (zak (i:=3) zlB.nd rfl (Or.inl rfl) (zbB (zaU zbZ) rfl zaF Boot.«len» (zaa (zaY zac.cl zac.n_unknown_names (dv 0)) zad))) (zaf (zav (zay (zaN hr) (dv 3) (zdy g_MOST_UNKNOWNS rfl) (zat _)) (zah zdd) zaw) (zaf (zpe hr (zaY zac.cl zac.n_meanings (dv 0)) (zaX (dv 1) zae (λ_ _=>rfl)) (zbz (C:=zag.C) (zaY zac.cl zac.n_net (dv 0)) zag.cl zbk.m zbk.ok (hr.mono (by decide)) zbk.b za9 (zaa (zbl (zaa zai (zaa (dv 3) zad))) zad))) (zaf (zbN (zdD (zaY zac.cl zac.n_unknown_names (dv 0)) (zaX (dv 1) zae (λ_ _=>rfl)))) (zaf (zbN (zdD (zaY zac.cl zac.n_unknown_ends (dv 0)) (dv 2))) (zah (zao zai))))))))),λds S Q ex h=>by
  unfold zgN at h
  split at h
  ·rename_i n wm
   obtain⟨ow,k,k',ws,⟨N,a,b,c,m,u,e,r,rfl,tp⟩,hw,nw,⟨w0,lo,hi,t1,b1,t2,b2,M,j,rfl,n0,l1,l2,i1,i2,nl,lk,lm,lu,le,ep,rfl⟩,h⟩:=h
   have ap:=tp.apart
   refine⟨w0,lo,hi,t1,b1,t2,b2,hw,n0,l1,l2,i1,i2,nl,?_⟩
   refine zaD (S1:=S) (n:=n) (λK hK=>by exact hK) tp.tsk rfl ?_
   refine zaR (o:=.lst ([w0,"in",lo,hi].map D.str)) hw (d:=.str w0) rfl ?_
   refine⟨N,m,u,e,r,k.ml,tp.tsk,tp.mea,lk,?_⟩
   refine zaV (S1:=S) (n:=n) (λK hK=>by exact hK) tp.tsk rfl ?_
   refine zcD tp.nam ?_
   rw[Vaf]
   refine ifD (λc1=>absurd c1 (by omega)) (λc1=>?_)
   obtain⟨o1,lj,⟨x1,y1⟩,_⟩:=zku tp.nok (v:=.unknown (k.un.length:Int)) trivial ep
   refine zqb ?_
   refine zaD (S1:=S) (n:=N) (λK hK=>zaV (S1:=S) (n:=n) (λK hK=>by exact hK) tp.tsk rfl hK) tp.net.net rfl ?_
   have np:∀(Q:DK) (ex:Addr→Sto→Prop),(match zaS (k.ns,k.hs) (.unknown (k.un.length:Int)) with | none=>∀T:Sto,Ng [a,b,c] S T→ex zaJ.c T | some (M,j)=>∀T:Sto,Ng [a,b,c] S T→zba zag.C T N a b c M.1 M.2→Q (.int (j:Int)) T)→zdt zag.C zaJ.c [.ref N,.tup [.str "unknown",.int (k.un.length:Int)]] S Q ex:=λQ ex h=>⟨.unknown (k.un.length:Int),k.ns,k.hs,a,b,c,rfl,tp.net,trivial,tp.nok.small,tp.nok.sixty,zfz (ex:=λT=>ex zaJ.c T) tp.net h⟩
   refine args1 (d:=.tup [.str "unknown",.int (k.un.length:Int)]) (S1:=S) (λK hK=>by exact hK) ?_
   refine np _ _ ?_
   rw[ep]
   intro T gT NT
   obtain⟨tp2,g2⟩:=tp.unk (w0:=w0) (d:=enD t1 b1 t2 b2) gT NT o1 lj (by rw[y1,Vag]; omega)
   have mv:∀ {x:Nat} {o:Ob},S[x]?=some o→x≠a→x≠b→x≠c→T[x]?=some o:=λhx n1 n2 n3=>gT.2 _ _ (by simp[n1,n2,n3]) hx
   simp only[zbc,Vaa,Vad,or_false,not_or] at nw
   obtain⟨w1,w2,w3,w4,w5,w6,w7,w8,w9⟩:=nw
   have tw:=mv hw w3 w4 w5
   have tt:=mv tp.tsk ap.na ap.nb ap.nc
   have tm:=mv tp.mea (Ne.symm ap.am) (Ne.symm ap.bm) (Ne.symm ap.cm)
   have tu:=mv tp.nam (Ne.symm ap.au) (Ne.symm ap.bu) (Ne.symm ap.cu)
   have te:=mv tp.ends (Ne.symm ap.ae) (Ne.symm ap.be) (Ne.symm ap.ce)
   refine zoi (n:=m) (S2:=T) (y:=.str w0) (k:=.inr w0) (λK hK=>zaV (S1:=T) (n:=n) (λK hK=>by exact hK) tt rfl hK) (λK hK=>zaR (o:=.lst ([w0,"in",lo,hi].map D.str)) tw (d:=.str w0) rfl hK) tm rfl (by rw[zo2]; omega) ?_
   rw[zoG j lk]
   refine zeE (S1:=T.set m (.dck (mlK (k.ml++[(w0,j)])))) (n:=u) (xs:=k.un.map D.str) (y:=.str w0) (λK hK=>zaV (n:=n) (λK hK=>by exact hK) (zap tt ap.nm) rfl hK) (zap tu (Ne.symm ap.mu)) (λK hK=>zaR (o:=.lst ([w0,"in",lo,hi].map D.str)) (zap tw w6) (d:=.str w0) rfl hK) (by rw[Vaf]; omega) ?_
   refine zeE (n:=e) (xs:=k.en) (y:=enD t1 b1 t2 b2) (λK hK=>zaV (n:=n) (λK hK=>by exact hK) (zap (zap tt ap.nm) ap.nu) rfl hK) (zap (zap te (Ne.symm ap.me)) (Ne.symm ap.ue)) (λK hK=>by exact hK) (by omega) ?_
   exact h _ _ g2 (λx hx=>.inl hx) ⟨N,a,b,c,m,u,e,r,rfl,tp2⟩
  ·exact h.elim⟩)
def zuD  (zac:zc2 K mg)(zag:zcn K mg)(zab:zcq K mg)(zjZ:Dm K zac.C "tell_part" "Task.tell_part" ziU zgu)(zaJ:Ec K mg "TooMuch")(zar:Ec K mg "NoRow")(zaA:Ec K mg "NoNumber")(zc1:Fk P w K mg base 132 "put_tree" zdI (zcU 130 zag.C zaJ.c))(zgl:Fk P w K mg base 3 "copy_of" zfZ (zgj zag.C))(zdb:Fm P w K mg base 3 zac.C "check_known" zgk (zf3 zac.C))(zdo:Fm P w K mg base 1 zac.C "check_new" zfj (zfp zac.C))(zeK:Fk P w K mg base 89 "tree_of" zfk (zfQ zab.C zar.c zaA.c))(zb7:Fk P w K mg base 2 "is_name" zdB zdC)(zaF:mg "len"=none):Fm P w K mg base 133 zac.C "tell_part" zgu (zgD zag.C zac.C):=
 zjZ.mk' (zaQ (k:=132) zjZ.F zmA (zrc zag.C zac.C) λcdv A outer s H E hr=>⟨_,(zaf (zav (PDW.pt (zb8 (zay zgf (zbB (zaU zbZ) rfl zaF Boot.«len» (zaa (dv 1) zad)) zae (zat _)) (zb8 (zb4 (zbt (zaL zb7 hr (zaa (zaX (dv 1) zae (λ_ _=>rfl)) zad)))) (zc4 (zay (zcv hr) (zaX (dv 1) zae (λ_ _=>rfl)) zai (zat _)))))) (zah zdd) zaw) (zaf (zak (i:=2) zmA.nd rfl (Or.inl rfl) (zaL zeK hr (zaa (zeN (dv 1) (zci zae) zdf) zad))) (zaf (zbN (zbz (C:=zac.C) (dv 0) zac.cl zdo.m zdo.ok (hr.mono (by decide)) zdo.b za9 (zaa (zaX (dv 1) zae (λ_ _=>rfl)) zad))) (zaf (zbN (zbz (C:=zac.C) (dv 0) zac.cl zdb.m zdb.ok (hr.mono (by decide)) zdb.b za9 (zaa (zeN (dv 1) (zci zae) zdf) zad))) (zaf (zak (i:=3) zmA.nd rfl (Or.inl rfl) (zaL zgl hr (zaa (zaY zac.cl zac.n_net (dv 0)) zad))) (zaf (zpe hr (zaY zac.cl zac.n_meanings (dv 0)) (zaX (dv 1) zae (λ_ _=>rfl)) (zaL zc1 hr (zaa (dv 3) (zaa (dv 2) (zaa (zaY zac.cl zac.n_meanings (dv 0)) zad))))) (zaf (zcx zac.cl zac.n_net (dv 0) (dv 3)) (zah (zao zai))))))))),λds S Q ex h=>by
  unfold zgD at h
  split at h
  ·rename_i n wm
   obtain⟨ow,k,k',ws,⟨N,a,b,c,m,u,e,r,rfl,tp⟩,hw,nw,⟨nm,es,t,M,j,rfl,n0,et,lk,lm,kn,ep,rfl⟩,h⟩:=h
   have io:zan (.lst ((("let":Str)::nm::("=":Str)::es).map D.str))=(("let":Str)::nm::("=":Str)::es).map D.str:=rfl
   obtain⟨le,xl,xk,xe⟩:=zks et
   obtain⟨gd,nms⟩:=zl8 xe
   have dp:=zkQ xe
   refine zcD hw ?_
   rw[Vaf]
   rw[show ((("let":Str)::nm::("=":Str)::es).length)=es.length+3 from rfl]
   refine zaR (o:=.lst ((("let":Str)::nm::("=":Str)::es).map D.str)) hw (d:=.str nm) (zcG (ws:=("let":Str)::nm::("=":Str)::es) (p:=1) (by simp)) ?_
   refine⟨by have:=zja n0; omega,?_⟩
   rw[n0]
   refine zaR (o:=.lst ((("let":Str)::nm::("=":Str)::es).map D.str)) hw (d:=.str "=") (zcG (ws:=("let":Str)::nm::("=":Str)::es) (p:=2) (by simp)) ?_
   refine zeG (n:=wm) (o:=.lst ((("let":Str)::nm::("=":Str)::es).map D.str)) (S3:=S) (lo:=some 3) (hi:=none) (λK hK=>by exact hK) (λK hK=>by exact hK) (λK hK=>by exact hK) hw ?_
   rw[io,show (some (3:Int))=some ((3:Nat):Int) from rfl,zlC]
   refine⟨es,zax _ _,by omega,λw hw=>(kn w hw).1,?_⟩
   rw[et]
   intro T pT
   have g1:Ng [] S T:=(Ng.app _).same (Ng.of pT)
   have tp1:=tp.up g1
   have hw1:=g1.2 _ _ (by simp) hw
   refine zaD (S1:=T) (n:=n) (λK hK=>by exact hK) tp1.tsk rfl ?_
   refine zaR (o:=.lst ((("let":Str)::nm::("=":Str)::es).map D.str)) hw1 (d:=.str nm) (zcG (ws:=("let":Str)::nm::("=":Str)::es) (p:=1) (by simp)) ?_
   refine⟨N,m,u,e,r,k.ml,tp1.tsk,tp1.mea,lk,?_⟩
   refine zaD (S1:=T) (n:=n) (λK hK=>by exact hK) tp1.tsk rfl ?_
   refine zeG (n:=wm) (o:=.lst ((("let":Str)::nm::("=":Str)::es).map D.str)) (S3:=T) (lo:=some 3) (hi:=none) (λK hK=>by exact hK) (λK hK=>by exact hK) (λK hK=>by exact hK) hw1 ?_
   rw[io,show (some (3:Int))=some ((3:Nat):Int) from rfl,zlC]
   have g2:Ng [] S (T++[Ob.lst ((((("let":Str)::nm::("=":Str)::es).drop 3)).map D.str)]):=g1.same (Ng.app _)
   have la:(T++[Ob.lst ((((("let":Str)::nm::("=":Str)::es).drop 3)).map D.str)])[T.length]?=some (.lst (es.map D.str)):=zax _ _
   generalize T++[Ob.lst ((((("let":Str)::nm::("=":Str)::es).drop 3)).map D.str)]=T2 at g2 la ⊢
   have tp2:=tp.up g2
   have hw2:=g2.2 _ _ (by simp) hw
   refine⟨es,N,m,u,e,r,k.ml,tp2.tsk,tp2.mea,la,kn,?_⟩
   refine zaV (S1:=T2) (n:=n) (λK hK=>by exact hK) tp2.tsk rfl ?_
   refine⟨k.ns,k.hs,a,b,c,tp2.net,tp2.nok,λT3 n2 a2 b2 c2 g3 q1 q2 q3 q4 N3=>?_⟩
   have tp3:=tp2.up g3
   refine zqb ?_
   refine args3 (d1:=.ref n2) (d2:=trD t) (d3:=.ref m) (S1:=T3) (S2:=T3) (S3:=T3) (λK hK=>by exact hK) (λK hK=>by exact hK) (λK hK=>zaV (S1:=T3) (n:=n) (λK hK=>by exact hK) tp3.tsk rfl hK) ?_
   have np:∀(Q:DK) (ex:Addr→Sto→Prop),(match zaz (λw=>k.ml.lookup w) t (k.ns,k.hs) with | none=>∀T:Sto,Ng [a2,b2,c2] T3 T→ex zaJ.c T | some (N,j)=>∀T:Sto,Ng [a2,b2,c2] T3 T→zba zag.C T n2 a2 b2 c2 N.1 N.2→Q (.int (j:Int)) T)→zcU 130 zag.C zaJ.c [.ref n2,trD t,.ref m] T3 Q ex:=λQ ex h=>⟨t,k.ns,k.hs,a2,b2,c2,k.ml,rfl,by omega,N3,tp.nok,tp.mok,tp3.mea,gd,λw hw=>by
    obtain⟨z1,z2⟩:=nms w hw
    exact(kn w z1).2 z2,h⟩
   refine np _ _ ?_
   have ep':zaz (λw=>k.ml.lookup w) t (k.ns,k.hs)=some (M,j):=ep
   rw[ep']
   intro T4 g4 N4
   obtain⟨o1,lj,⟨x1,y1⟩,_⟩:=zcL t tp.nok tp.mok gd ep
   have nw2:zc6 zag.C T2 T4 n2 a2 b2 c2 M.1 M.2:=zc6.of g3 q1 q2 q3 q4 g4 N4
   obtain⟨tp5,g5,f5⟩:=tp2.par (nm:=nm) nw2 o1 lj (by rw[y1,Vag]; omega)
   refine zoi (n:=m) (S2:=T4) (y:=.str nm) (k:=.inr nm) (λK hK=>zaV (S1:=T4) (n:=n) (λK hK=>by exact hK) (nw2.old tp2.tsk) rfl hK) (λK hK=>zaR (o:=.lst ((("let":Str)::nm::("=":Str)::es).map D.str)) (nw2.old hw2) (d:=.str nm) (zcG (ws:=("let":Str)::nm::("=":Str)::es) (p:=1) (by simp)) hK) (nw2.old tp2.mea) rfl (by rw[zo2]; omega) ?_
   rw[zoG j lk]
   refine zcN (v:=.ref n2) (S1:=T4.set m (.dck (mlK (k.ml++[(nm,j)])))) (S2:=T4.set m (.dck (mlK (k.ml++[(nm,j)])))) (n:=n) (fs:=zcj N m u e r) (λK hK=>by exact hK) (λK hK=>by exact hK) (zap (nw2.old tp2.tsk) tp.apart.nm) (show 5<1000 by decide) ?_
   exact h _ _ ((g2.nil).same g5) (λx hx=>by
    rcases f5 x hx with z | z
    ·exact .inl z
    ·exact .inr (Vax g2.1 z)) ⟨n2,a2,b2,c2,m,u,e,r,rfl,tp5⟩
  ·exact h.elim⟩)
def zwV  (zac:zc2 K mg)(zag:zcn K mg)(zj1:Dm K zac.C "tell" "Task.tell" zjf zh9)(zil:Fm P w K mg base 133 zac.C "tell_row" zhI (zh2 zag.C zac.C))(zij:Fm P w K mg base 133 zac.C "tell_part" zgu (zgD zag.C zac.C))(zhZ:Fm P w K mg base 5 zac.C "tell_unknown" zhJ (zgN zag.C zac.C))(zlZ:Fk P w K mg base 1 "words_of" zio zhc):Fm P w K mg base 134 zac.C "tell" zh9 (zhK zag.C zac.C):=
 zj1.mk' (zaQ (k:=133) zj1.F zp7 (zq1 zag.C zac.C) λcdv A outer s H E hr=>⟨_,(zaf (zak (i:=2) zp7.nd rfl (Or.inl rfl) (zaL zlZ hr (zaa (dv 1) zad))) (zaf (zav (zay (zpD hr) (zeN (dv 2) (zci zae) (zci zae)) (zbQ (zaa zai zad)) (zat _)) (zah (zao (zbz (C:=zac.C) (dv 0) zac.cl zhZ.m zhZ.ok (hr.mono (by decide)) zhZ.b za9 (zaa (dv 2) zad)))) zaw) (zaf (zav (zay (zaN hr) (zaX (dv 2) zae (λ_ _=>rfl)) zai (zat _)) (zah (zao (zbz (C:=zac.C) (dv 0) zac.cl zij.m zij.ok (hr.mono (by decide)) zij.b za9 (zaa (dv 2) zad)))) zaw) (zah (zao (zbz (C:=zac.C) (dv 0) zac.cl zil.m zil.ok (hr.mono (by decide)) zil.b za9 (zaa (dv 2) zad))))))),λds S Q ex h=>by
  unfold zhK at h
  split at h
  ·rename_i n x
   obtain⟨⟨lx,nx⟩,ow,k,k',an,tk,tc,h⟩:=h
   refine⟨⟨lx,nx⟩,?_⟩
   generalize hx:Txt.split x " "=ws at tc nx ⊢
   refine zeG (n:=S.length) (o:=.lst (ws.map D.str)) (S3:=S++[.lst (ws.map D.str)]) (lo:=some 1) (hi:=some 2) (λK hK=>by exact hK) (λK hK=>by exact hK) (λK hK=>by exact hK) (zax _ _) ?_
   rw[show zan (Ob.lst (ws.map D.str))=ws.map D.str from rfl]
   refine zl3 (xs:=za4 (ws.map D.str) (some 1) (some 2)) (ys:=[.str "in"]) (zam (zax _ _)) (zax _ _) (in_eq ws) ?_
   have g1:Ng [] S (S++[Ob.lst (ws.map D.str)]++[Ob.lst (za4 (ws.map D.str) (some 1) (some 2))]++[Ob.lst [.str "in"]]):=((Ng.app _).same (Ng.app _)).same (Ng.app _)
   have hw:(S++[Ob.lst (ws.map D.str)]++[Ob.lst (za4 (ws.map D.str) (some 1) (some 2))]++[Ob.lst [.str "in"]])[S.length]?=some (.lst (ws.map D.str)):=zam (zam (zax _ _))
   have ll:S.length≤(S++[Ob.lst (ws.map D.str)]++[Ob.lst (za4 (ws.map D.str) (some 1) (some 2))]++[Ob.lst [.str "in"]]).length:=g1.1
   generalize S++[Ob.lst (ws.map D.str)]++[Ob.lst (za4 (ws.map D.str) (some 1) (some 2))]++[Ob.lst [.str "in"]]=S3 at g1 hw ll ⊢
   have tk3:=tk.up g1
   have nw:S.length ∉ ow:=λz=>VaC _ (tk.lt _ z)
   obtain⟨N,m,u,e,r,ht⟩:=tk3.tsk
   have fin:∀(T:Sto) (ow':List Nat),Ng ow S3 T→Fr ow ow' S3.length→zbx zac.C zag.C T n ow' k'→Q (.str an) T:=λT ow' g f t=>h T ow' ((g1.nil).same g) (f.le ll) t
   cases tc with
   | unk h0=>
    have e1:ws[1]?=some ("in":Str):=by
     obtain⟨w0,lo,hi,_,_,_,_,_,_,rfl,_⟩:=h0.ex
     rfl
    rw[decide_eq_true e1]
    refine zaD (S1:=S3) (n:=n) (λK hK=>by exact hK) ht rfl ?_
    exact⟨ow,k,k',ws,tk3,hw,nw,h0,fin⟩
   | par h0=>
    have e1:¬ ws[1]?=some ("in":Str)∧∃r,ws=("let":Str)::r:=by
     obtain⟨nm,es,_,_,_,rfl,n0,_⟩:=h0.ex
     exact⟨λz=>(zv3 n0).1 (Option.some.inj z),_,rfl⟩
    rw[decide_eq_false e1.1]
    obtain⟨r0,er⟩:=e1.2
    refine zaR (o:=.lst (ws.map D.str)) hw (d:=.str "let") (by rw[er]; exact zcG (ws:=("let":Str)::r0) (p:=0) (by simp)) ?_
    refine zaD (S1:=S3) (n:=n) (λK hK=>by exact hK) ht rfl ?_
    exact⟨ow,k,k',ws,tk3,hw,nw,h0,fin⟩
   | row h0=>
    have e1:¬ ws[1]?=some ("in":Str)∧∃w0 r,ws=w0::r∧w0≠"let":=by
     obtain⟨L,R,sg,t,s1,M,j,rfl,hL,hs,et,_⟩:=h0.ex
     obtain⟨_,xl,xk,xe⟩:=zks et
     have ne:=ex_ne xe
     cases L with
     | nil=>exact absurd rfl ne
     | cons w0 L=>
      refine⟨λz=>?_,w0,L++sg::R,rfl,(zqe xe (Vau ..)).2⟩
      cases L with
      | nil=>
       have z':sg="in":=Option.some.inj z
       rcases hs with rfl | rfl <;> revert z' <;> decide
      | cons w1 L=>exact(zqe xe (Vap _ (Vau ..))).1 (Option.some.inj z)
    rw[decide_eq_false e1.1]
    obtain⟨w0,r0,er,nl⟩:=e1.2
    refine zaR (o:=.lst (ws.map D.str)) hw (d:=.str w0) (by rw[er]; exact zcG (ws:=w0::r0) (p:=0) (by simp)) ?_
    refine ifD (λc=>absurd c nl) (λc=>?_)
    refine zaD (S1:=S3) (n:=n) (λK hK=>by exact hK) ht rfl ?_
    exact⟨ow,k,k',ws,tk3,hw,nw,h0,fin⟩
  ·exact h.elim⟩)
def ztv  (n:Nat)(zdR:Df K mg "_law_same" zgC zed)(zdX:Fk P w K mg base (0+1*n) "_law_same" zed (zdW n))(zaF:mg "len"=none)(zbh:mg "isinstance"=none)(zc3:mg "tuple"=none)(zdr:Kit K "tuple"):Fk P w K mg base (0+1*n+1) "_law_same" zed (zdW (n+1)):=
 zdR.mk' (zaQ (k:=(0+1*n+0)) zdR.F zmn (zt4 (n+1)) λcdv A outer s H E hr=>⟨_,(zaf (zak (i:=4) zmn.nd rfl (Or.inl rfl) (zaX (dv 0) (dv 1) (λ_ _=>rfl))) (zaf (zak (i:=5) zmn.nd rfl (Or.inl rfl) (zaX (dv 2) (dv 3) (λ_ _=>rfl))) (zaf (zav (PDW.pt (zb8 (zb4 (zbt (zf7 zdr rfl zbh rfl zc3 Boot.«tuple» (dv 5)))) (zb8 (zay (zcv hr) (zbB (zaU zbZ) rfl zaF Boot.«len» (zaa (dv 5) zad)) (zbB (zaU zbZ) rfl zaF Boot.«len» (zaa (dv 4) zad)) (zat _)) (zc4 (zay (zcv hr) (zaq (dv 5) zae (λ_ _=>rfl)) (zaq (dv 4) zae (λ_ _=>rfl)) (zat _)))))) (zah (zao zdl)) zaw) (zaf (zav (PDW.pt (zb8 (zay (zaN hr) (zaq (dv 4) zae (λ_ _=>rfl)) zai (zat _)) (zc4 (zay (zaN hr) (zaq (dv 4) zae (λ_ _=>rfl)) zai (zat _))))) (zah (zao (zdU (zaN hr) (dv 5) (dv 4) (zat _)))) zaw) (zaf (zav (zb4 (zbt (zbE zdX (hr.mono (by omega)) za9 rfl (zaa (dv 0) (zaa (zaq (dv 4) zae (λ_ _=>rfl)) (zaa (dv 2) (zaa (zaq (dv 5) zae (λ_ _=>rfl)) zad))))))) (zah (zao zdl)) zaw) (zaf (zav (zay (zaN hr) (zaq (dv 4) zae (λ_ _=>rfl)) zai (zat _)) (zah (zao (zdU (zaN hr) (zaq (dv 5) zae (λ_ _=>rfl)) (zaq (dv 4) zae (λ_ _=>rfl)) (zat _)))) zaw) (zah (zao (zbE zdX (hr.mono (by omega)) za9 rfl (zaa (dv 0) (zaa (zaq (dv 4) zae (λ_ _=>rfl)) (zaa (dv 2) (zaa (zaq (dv 5) zae (λ_ _=>rfl)) zad))))))))))))),λds S Q ex h=>by
  unfold zdW at h
  split at h
  ·rename_i p at_ p2 at2
   obtain⟨ns,hs,ns2,hs2,nm,q,q2,hp,hp2,nok,nok2,nd,hv,hv2,rfl,rfl,hq,hq2,hl,e,h⟩:=h
   obtain⟨v,f1,f2,f3,_⟩:=nok.front q hq
   obtain⟨u,g1,g2,g3,_⟩:=nok2.front q2 hq2
   have hk:(hs.take q).length=q:=by rw[VaK]; have:=nok.len; omega
   have hk2:(hs2.take q2).length=q2:=by rw[VaK]; have:=nok2.len; omega
   rw[(zda (nm:=nm) nok).2 q v f1,(zda (nm:=nm) nok2).2 q2 u g1] at e
   have sm:=sm_of f3 g3 (hv v (Vas f1)) (hv2 u (Vas g1)) nd e
   refine zaR (o:=.lst (ns.map Nd.d)) hp (d:=v.d) (zdM (j:=q) (by show (ns.map Nd.d)[q]?=_; rw[Vao,f1]; rfl)) ?_
   refine zaR (o:=.lst (ns2.map Nd.d)) hp2 (d:=u.d) (zdM (j:=q2) (by show (ns2.map Nd.d)[q2]?=_; rw[Vao,g1]; rfl)) ?_
   cases sm with
   | num t b=>
    refine zcF (zcF (zft (zbw ?_)))
    exact zoB (v:=.number t b) h
   | unk k=>
    refine zcF (zcF (zft (zbw ?_)))
    exact zoB (v:=.unknown k) h
   | pow i j n e1=>
    obtain⟨⟨i0,i1⟩,n2⟩:=f3
    obtain⟨⟨j0,j1⟩,_⟩:=g3
    rw[hk] at i1
    rw[hk2] at j1
    refine zcF (zcF (zft (zbw ?_)))
    refine⟨ns,hs,ns2,hs2,nm,i.toNat,j.toNat,hp,hp2,nok,nok2,nd,hv,hv2,by omega,by omega,by omega,by omega,by omega,e1,?_⟩
    exact zxf h
   | two x i j k l e1 e2=>
    obtain⟨hx,⟨i0,i1⟩,⟨j0,j1⟩⟩:=f3
    obtain⟨_,⟨k0,k1⟩,⟨l0,l1⟩⟩:=g3
    rw[hk] at i1 j1
    rw[hk2] at k1 l1
    rcases hx with rfl | rfl | rfl
    ·refine zcF (zcF (zft (zbw ?_)))
     exact⟨ns,hs,ns2,hs2,nm,i.toNat,k.toNat,hp,hp2,nok,nok2,nd,hv,hv2,by omega,by omega,by omega,by omega,by omega,e1,ns,hs,ns2,hs2,nm,j.toNat,l.toNat,hp,hp2,nok,nok2,nd,hv,hv2,by omega,by omega,by omega,by omega,by omega,e2,h⟩
    ·refine zcF (zcF (zft (zbw ?_)))
     exact⟨ns,hs,ns2,hs2,nm,i.toNat,k.toNat,hp,hp2,nok,nok2,nd,hv,hv2,by omega,by omega,by omega,by omega,by omega,e1,ns,hs,ns2,hs2,nm,j.toNat,l.toNat,hp,hp2,nok,nok2,nd,hv,hv2,by omega,by omega,by omega,by omega,by omega,e2,h⟩
    ·refine zcF (zcF (zft (zbw ?_)))
     exact⟨ns,hs,ns2,hs2,nm,i.toNat,k.toNat,hp,hp2,nok,nok2,nd,hv,hv2,by omega,by omega,by omega,by omega,by omega,e1,ns,hs,ns2,hs2,nm,j.toNat,l.toNat,hp,hp2,nok,nok2,nd,hv,hv2,by omega,by omega,by omega,by omega,by omega,e2,h⟩
  ·exact h.elim⟩)
def znG (zdR:Df K mg "_law_same" zgC zed)(zaF:mg "len"=none)(zbh:mg "isinstance"=none)(zc3:mg "tuple"=none)(zdr:Kit K "tuple"):(n:Nat)→Fk P w K mg base (0+1*n) "_law_same" zed (zdW n)
 | 0=>zdR.vac _ λds S Q ex h=>by
  unfold zdW at h
  split at h
  ·obtain⟨_,_,_,_,_,q,_,_,_,_,_,_,_,_,_,_,_,_,h1,_⟩:=h
   omega
  ·exact h.elim
 | n+1=>
  let zdX:=znG zdR zaF zbh zc3 zdr n
  ztv n zdR zdX zaF zbh zc3 zdr
def zrV  (n:Nat)(zer:Df K mg "_law_text" zh5 zdK)(zcW:Fk P w K mg base (0+1*n) "_law_text" zdK (zds n))(zbb:mg "str"=none):Fk P w K mg base (0+1*n+1) "_law_text" zdK (zds (n+1)):=
 zer.mk' (zaQ (k:=(0+1*n+0)) zer.F zeq (ztN (n+1)) λcdv A outer s H E hr=>⟨_,(zaf (zak (i:=3) zeq.nd rfl (Or.inl rfl) (zaX (dv 0) (dv 1) (λ_ _=>rfl))) (zaf (zav (zay (zaN hr) (zaq (dv 3) zae (λ_ _=>rfl)) zai (zat _)) (zaf (zav (zay (zaN hr) (zaq (dv 3) zae (λ_ _=>rfl)) zae (zat _)) (zah (zao (zbO (zaU ze4) rfl zbb Boot.«str» (zaa (zaq (dv 3) zae (λ_ _=>rfl)) zad)))) zaw) (zah (zao (zaj zbF (zaj zbF (zbO (zaU ze4) rfl zbb Boot.«str» (zaa (zaq (dv 3) zae (λ_ _=>rfl)) zad)) zai) (zbO (zaU ze4) rfl zbb Boot.«str» (zaa (zaq (dv 3) zae (λ_ _=>rfl)) zad)))))) zaw) (zaf (zav (zay (zaN hr) (zaq (dv 3) zae (λ_ _=>rfl)) zai (zat _)) (zah (zao (zaX (dv 2) (zaq (dv 3) zae (λ_ _=>rfl)) (λ_ _=>rfl)))) zaw) (zaf (zak (i:=4) zeq.nd rfl (Or.inl rfl) (zbQ (zaa zai (zaa (zbE zcW (hr.mono (by omega)) za9 rfl (zaa (dv 0) (zaa (zaq (dv 3) zae (λ_ _=>rfl)) (zaa (dv 2) zad)))) zad)))) (zaf (zav (zay (zaN hr) (zaq (dv 3) zae (λ_ _=>rfl)) zai (zat _)) (zah (zak (i:=4) zeq.nd rfl (Or.inl rfl) (zaj zlG (dv 4) (zbQ (zaa zai (zaa (zbO (zaU ze4) rfl zbb Boot.«str» (zaa (zaq (dv 3) zae (λ_ _=>rfl)) zad)) zad)))))) (zaf (zak (i:=5) zeq.nd rfl (Or.inl rfl) zai) (zaf (zav (zay (zaN hr) (zaq (dv 3) zae (λ_ _=>rfl)) zai (zat _)) (zah (zak (i:=5) zeq.nd rfl (Or.inl rfl) zai)) zaw) (zaf (zav (zay (zaN hr) (zaq (dv 3) zae (λ_ _=>rfl)) zai (zat _)) (zah (zak (i:=5) zeq.nd rfl (Or.inl rfl) zai)) zaw) (zah (zak (i:=4) zeq.nd rfl (Or.inl rfl) (zaj zlG (dv 4) (zbQ (zaa (dv 5) (zaa (zbE zcW (hr.mono (by omega)) za9 rfl (zaa (dv 0) (zaa (zaq (dv 3) zae (λ_ _=>rfl)) (zaa (dv 2) zad)))) zad)))))))))) (zah (zao (ztZ zai (zaa (zaj zlG (dv 4) (zbQ (zaa zai zad))) zad))))))))),λds S Q ex h=>by
  unfold zds at h
  split at h
  ·rename_i p at_ pn
   obtain⟨ns,hs,nm,q,hp,hn,ok,rfl,hq,hl,h⟩:=h
   obtain⟨v,f1,f2,f3,_⟩:=ok.nok.front q hq
   have hk:(hs.take q).length=q:=by rw[VaK]; have:=ok.nok.len; omega
   have mem:=Vas f1
   have eq:=(zda (nm:=nm) ok.nok).2 q v f1
   have len:=(zgb ok hq).1
   rw[eq] at h len
   refine zaR (o:=.lst (ns.map Nd.d)) hp (d:=v.d) (zdM (j:=q) (by show (ns.map Nd.d)[q]?=_; rw[Vao,f1]; rfl)) ?_
   cases v with
   | number t b=>
    obtain⟨a,_⟩:=ok.num t b mem
    have z:=a.top
    have y:=a.bot
    have x:=a.pos
    have h:Q (.str (mk (zaI t b))) S:=h S (λ_ _ e=>e)
    have lt:=zgo (k:=9) (by decide) z
    have lb:=zgo (i:=b) (k:=9) (by decide) (by omega)
    refine ifD (λe=>?_) (λe=>?_)
    ·refine ze2 (zfG (k:=9) z (by decide)) ?_
     rw[zd4]
     have et:zaI t b=num t:=by unfold zaI; rw[if_pos e,VaB]
     rw[et] at h
     exact h
    ·refine ze2 (zfG (k:=9) z (by decide)) ?_
     rw[zd4]
     refine⟨by rw[zbo]; show _+1≤1000; omega,?_⟩
     refine ze2 (zfG (k:=9) (by omega) (by decide)) ?_
     rw[zd4]
     have s1:mk (num t)++("/":Str)=mk (num t++[47]):=by rw[zj9]; exact zd3 (num t) [47]
     have et:mk (num t)++("/":Str)++mk (num b)=mk (zaI t b):=by
      rw[s1,zd3,VaA]
      unfold zaI
      rw[if_neg e]
      rfl
     refine⟨by rw[s1,zbo,zbo]; simp; omega,?_⟩
     show Q (.str (mk (num t)++("/":Str)++mk (num b))) S
     rw[et]
     exact h
   | unknown k=>
    obtain⟨k0,k1⟩:=ok.unk k mem
    have hk':k.toNat<nm.length:=by omega
    have z:=zcG hk'
    rw[show ((k.toNat:Nat):Int)=k by omega] at z
    refine zaR (o:=.lst (nm.map D.str)) hn (d:=.str nm[k.toNat]) z ?_
    have e:shT (ndT nm (trs nm ns) (.unknown k))=nm[k.toNat]:=by
     show mk (cs (nm.getD k.toNat ""))=_
     rw[zcS,Vai,Vaw hk']
     rfl
    rw[e] at h
    exact h S (λ_ _ e=>e)
   | power i m=>
    obtain⟨⟨i0,i1⟩,m2⟩:=f3
    rw[hk] at i1
    have li:=(zgb ok (q:=i.toNat) (by omega)).1
    refine⟨ns,hs,nm,i.toNat,hp,hn,ok,by omega,by omega,by omega,λT p1=>?_⟩
    refine ze2 (zps m2) ?_
    rw[zd4]
    refine zeg (xs:=[.str "(",.str (shT ((trs nm ns).getD i.toNat dT0))]) (ys:=[.str "^",.str (mk (num m))]) (zam (zax _ _)) (zax _ _) (by show (4:Nat)≤1000; decide) ?_
    refine zit (sep:=" ") (zs:=[("(":Str),shT ((trs nm ns).getD i.toNat dT0),"^",mk (num m),")"]) (λK hK=>by exact hK) (λK hK=>zeg (xs:=[.str "(",.str (shT ((trs nm ns).getD i.toNat dT0)),.str "^",.str (mk (num m))]) (ys:=[.str ")"]) (zam (zax _ _)) (zax _ _) (by show (5:Nat)≤1000; decide) hK) (by decide) (zax _ _) rfl (λz hz=>?_) (by show (5:Nat)≤1000; decide) ?_
    ·have lp:(mk (num m)).length≤12:=(zne m2).le
     simp only[Vaa,Vad,or_false] at hz
     rcases hz with rfl | rfl | rfl | rfl | rfl
     ·decide
     ·omega
     ·decide
     ·omega
     ·decide
    ·rw[ziw,tx_pw]
     exact h _ (zbs (zbs (zbs (zbs (zbs p1 _) _) _) _) _)
   | two x i j=>
    obtain⟨hx,⟨i0,i1⟩,⟨j0,j1⟩⟩:=f3
    rw[hk] at i1 j1
    have li:=(zgb ok (q:=i.toNat) (by omega)).1
    have lj:=(zgb ok (q:=j.toNat) (by omega)).1
    rcases hx with rfl | rfl | rfl
    ·refine⟨ns,hs,nm,i.toNat,hp,hn,ok,by omega,by omega,by omega,λT p1=>?_⟩
     refine⟨ns,hs,nm,j.toNat,zam (p1 _ _ hp),zam (p1 _ _ hn),ok,by omega,by omega,by omega,λU p2=>?_⟩
     have la:(T++[Ob.lst [.str "(",.str (shT ((trs nm ns).getD i.toNat dT0))]])[T.length]?=some (.lst [.str "(",.str (shT ((trs nm ns).getD i.toNat dT0))]):=zax _ _
     refine zeg (xs:=[.str "(",.str (shT ((trs nm ns).getD i.toNat dT0))]) (ys:=[.str "+",.str (shT ((trs nm ns).getD j.toNat dT0))]) (zam (p2 _ _ la)) (zax _ _) (by show (4:Nat)≤1000; decide) ?_
     refine zit (sep:=" ") (zs:=[("(":Str),shT ((trs nm ns).getD i.toNat dT0),"+",shT ((trs nm ns).getD j.toNat dT0),")"]) (λK hK=>by exact hK) (λK hK=>zeg (xs:=[.str "(",.str (shT ((trs nm ns).getD i.toNat dT0)),.str "+",.str (shT ((trs nm ns).getD j.toNat dT0))]) (ys:=[.str ")"]) (zam (zax _ _)) (zax _ _) (by show (5:Nat)≤1000; decide) hK) (by decide) (zax _ _) rfl (λz hz=>?_) (by show (5:Nat)≤1000; decide) ?_
     ·simp only[Vaa,Vad,or_false] at hz
      rcases hz with rfl | rfl | rfl | rfl | rfl
      ·decide
      ·omega
      ·decide
      ·omega
      ·decide
     ·rw[ziw,show ("+":Str)=sgD 0 from rfl,zl4]
      exact h _ (zbs (zbs (zbs (zbs (λx o e=>p2 x o (zam (p1 x o e))) _) _) _) _)
    ·refine⟨ns,hs,nm,i.toNat,hp,hn,ok,by omega,by omega,by omega,λT p1=>?_⟩
     refine⟨ns,hs,nm,j.toNat,zam (p1 _ _ hp),zam (p1 _ _ hn),ok,by omega,by omega,by omega,λU p2=>?_⟩
     have la:(T++[Ob.lst [.str "(",.str (shT ((trs nm ns).getD i.toNat dT0))]])[T.length]?=some (.lst [.str "(",.str (shT ((trs nm ns).getD i.toNat dT0))]):=zax _ _
     refine zeg (xs:=[.str "(",.str (shT ((trs nm ns).getD i.toNat dT0))]) (ys:=[.str "-",.str (shT ((trs nm ns).getD j.toNat dT0))]) (zam (p2 _ _ la)) (zax _ _) (by show (4:Nat)≤1000; decide) ?_
     refine zit (sep:=" ") (zs:=[("(":Str),shT ((trs nm ns).getD i.toNat dT0),"-",shT ((trs nm ns).getD j.toNat dT0),")"]) (λK hK=>by exact hK) (λK hK=>zeg (xs:=[.str "(",.str (shT ((trs nm ns).getD i.toNat dT0)),.str "-",.str (shT ((trs nm ns).getD j.toNat dT0))]) (ys:=[.str ")"]) (zam (zax _ _)) (zax _ _) (by show (5:Nat)≤1000; decide) hK) (by decide) (zax _ _) rfl (λz hz=>?_) (by show (5:Nat)≤1000; decide) ?_
     ·simp only[Vaa,Vad,or_false] at hz
      rcases hz with rfl | rfl | rfl | rfl | rfl
      ·decide
      ·omega
      ·decide
      ·omega
      ·decide
     ·rw[ziw,show ("-":Str)=sgD 1 from rfl,zl4]
      exact h _ (zbs (zbs (zbs (zbs (λx o e=>p2 x o (zam (p1 x o e))) _) _) _) _)
    ·refine⟨ns,hs,nm,i.toNat,hp,hn,ok,by omega,by omega,by omega,λT p1=>?_⟩
     refine⟨ns,hs,nm,j.toNat,zam (p1 _ _ hp),zam (p1 _ _ hn),ok,by omega,by omega,by omega,λU p2=>?_⟩
     have la:(T++[Ob.lst [.str "(",.str (shT ((trs nm ns).getD i.toNat dT0))]])[T.length]?=some (.lst [.str "(",.str (shT ((trs nm ns).getD i.toNat dT0))]):=zax _ _
     refine zeg (xs:=[.str "(",.str (shT ((trs nm ns).getD i.toNat dT0))]) (ys:=[.str "*",.str (shT ((trs nm ns).getD j.toNat dT0))]) (zam (p2 _ _ la)) (zax _ _) (by show (4:Nat)≤1000; decide) ?_
     refine zit (sep:=" ") (zs:=[("(":Str),shT ((trs nm ns).getD i.toNat dT0),"*",shT ((trs nm ns).getD j.toNat dT0),")"]) (λK hK=>by exact hK) (λK hK=>zeg (xs:=[.str "(",.str (shT ((trs nm ns).getD i.toNat dT0)),.str "*",.str (shT ((trs nm ns).getD j.toNat dT0))]) (ys:=[.str ")"]) (zam (zax _ _)) (zax _ _) (by show (5:Nat)≤1000; decide) hK) (by decide) (zax _ _) rfl (λz hz=>?_) (by show (5:Nat)≤1000; decide) ?_
     ·simp only[Vaa,Vad,or_false] at hz
      rcases hz with rfl | rfl | rfl | rfl | rfl
      ·decide
      ·omega
      ·decide
      ·omega
      ·decide
     ·rw[ziw,show ("*":Str)=sgD 2 from rfl,zl4]
      exact h _ (zbs (zbs (zbs (zbs (λx o e=>p2 x o (zam (p1 x o e))) _) _) _) _)
  ·exact h.elim⟩)
def zot (zer:Df K mg "_law_text" zh5 zdK)(zbb:mg "str"=none):(n:Nat)→Fk P w K mg base (0+1*n) "_law_text" zdK (zds n)
 | 0=>zer.vac _ λds S Q ex h=>by
  unfold zds at h
  split at h
  ·obtain⟨_,_,_,q,_,_,_,_,_,h1,_⟩:=h
   omega
  ·exact h.elim
 | n+1=>
  let zcW:=zot zer zbb n
  zrV n zer zcW zbb
def zsF  (zac:zc2 K mg)(zjx:Dm K zac.C "rows" "Task.rows" zjd zgB)(zbC:mg "list"=none):Fm P w K mg base 1 zac.C "rows" zgB (zgt zac.C):=
 zjx.mk' (zaQ (k:=0) zjx.F zwZ (zwq zac.C) λcdv A outer s H E hr=>⟨_,(zah (zao (zbO (zaU zeZ) rfl zbC Boot.«list» (zaa (zaY zac.cl zac.n_told_rows (dv 0)) zad)))),λds S Q ex h=>by
  unfold zgt at h
  split at h
  ·rename_i n
   obtain⟨N,m,u,e,r,rs,h1,h2,h⟩:=h
   refine zaV (S1:=S) (n:=n) (λK hK=>by exact hK) h1 rfl ?_
   exact zeS (o:=.lst (rs.map rwT)) (zbd h2 rfl) h
  ·exact h.elim⟩)
def zwd  (zac:zc2 K mg)(zag:zcn K mg)(zi6:Df K mg "_law_read" zjs zh4)(zcs:Fk P w K mg base 42 "shown" zdG (zdE 40))(zdX:Fk P w K mg base 40 "_law_same" zed (zdW 40))(zib:Fm P w K mg base 1 zac.C "rows" zgB (zgt zac.C))(zc0:Fm P w K mg base 2 zac.C "nodes" zhr (zif zag.C zac.C))(zbV:Fm P w K mg base 134 zac.C "tell" zh9 (zhK zag.C zac.C))(zdq:Fk P w K mg base 1 "_law_name" zfm zfN)(zcW:Fk P w K mg base 40 "_law_text" zdK (zds 40))(zfi:Fm P w K mg base 3 zac.C "__init__" zgT (zhp zag.C zac.C))(zbC:mg "list"=none)(zbh:mg "isinstance"=none)(zbb:mg "str"=none)(zcC:mg "range"=none)(zcM:Kit K "str"):Fk P w K mg base 135 "_law_read" zh4 zhF:=
 zi6.mk' (zaQ (k:=134) zi6.F zeb (zsx) λcdv A outer s H E hr=>⟨_,(zaf (zak (i:=5) zeb.nd rfl (Or.inl rfl) (zlS ⟨zac.makes,zfi.m.at_,zfi.m.fn,zac.kp⟩ zfi.ok (hr.mono (by decide)) rfl zac.m zfi.b zmp)) (zaf (zg8 (i:=6) PassesOwn.never rfl zeb.nd rfl (Or.inl rfl) (dv 2) (zah (zbN (zbz (C:=zac.C) (dv 5) zac.cl zbV.m zbV.ok (hr.mono (by decide)) zbV.b za9 (zaa (zaj zbF (dv 6) zai) zad))))) (zaf (zon (i:=7) PassesOwn.never rfl zeb.nd rfl (Or.inl rfl) rfl zcC (zaa (dv 4) zad) (zah (zbN (zbz (C:=zac.C) (dv 5) zac.cl zbV.m zbV.ok (hr.mono (by decide)) zbV.b za9 (zaa (zaj zbF (zaj zbF (zaj zbF zai (zaL zdq hr (zaa (zaj zeC zae (dv 7)) (zaa zae zad)))) zai) (zbO (zaU ze4) rfl zbb Boot.«str» (zaa (zaj zhq (zaj zeX zae (dv 7)) zae) zad))) zad))))) (zaf (zak (i:=8) zeb.nd rfl (Or.inl rfl) (zaL zcs hr (zaa (dv 0) (zaa (dv 1) (zaa (zbO (zaU zeZ) rfl zbC Boot.«list» (zaa (dv 2) zad)) zad))))) (zaf (zav (PDW.pt (zb8 (zb4 (zbt (zf7 zcM rfl zbh rfl zbb Boot.«str» (dv 8)))) (zc4 (zay (zcv hr) (dv 8) (zaL zcW hr (zaa (dv 0) (zaa (dv 1) (zaa (dv 2) zad)))) (zat _))))) (zah (zao zdl)) zaw) (zaf (zav (zay (zcv hr) (zbz (C:=zac.C) (dv 5) zac.cl zbV.m zbV.ok (hr.mono (by decide)) zbV.b za9 (zaa (zaj zbF (zaj zbF (zaj zbF zai (zaL zdq hr (zaa zae (zaa zae zad)))) zai) (dv 8)) zad)) zai (zat _)) (zah (zao zdl)) zaw) (zaf (zak (i:=9) zeb.nd rfl (Or.inl rfl) (zbq (C:=zac.C) (dv 5) zac.cl zc0.m zc0.ok (hr.mono (by decide)) zc0.b za9)) (zaf (zav (PDW.pt (zb8 (zay (zcv hr) (zbz (C:=zac.C) (dv 5) zac.cl zbV.m zbV.ok (hr.mono (by decide)) zbV.b za9 (zaa (zaj zbF (zaj zbF (zaj zbF zai (zaL zdq hr (zaa zae (zaa zae zad)))) zai) (dv 8)) zad)) zai (zat _)) (zc4 (zay (zpp hr) (zbq (C:=zac.C) (dv 5) zac.cl zc0.m zc0.ok (hr.mono (by decide)) zc0.b za9) (dv 9) (zat _))))) (zah (zao zdl)) zaw) (zaf (zav (zay zkq (dv 3) zae (zat _)) (zah (zao zdl)) zaw) (zaf (zav (zay (zcv hr) (zbz (C:=zac.C) (dv 5) zac.cl zbV.m zbV.ok (hr.mono (by decide)) zbV.b za9 (zaa (zaj zbF (zaL zdq hr (zaa zae (zaa zae zad))) zai) zad)) zai (zat _)) (zah (zao zdl)) zaw) (zaf (zak (i:=10) zeb.nd rfl (Or.inl rfl) (zbq (C:=zac.C) (dv 5) zac.cl zc0.m zc0.ok (hr.mono (by decide)) zc0.b za9)) (zaf (zak (i:=11) zeb.nd rfl (Or.inl rfl) (zaq (zaX (dv 10) (zaq (zaX (zbq (C:=zac.C) (dv 5) zac.cl zib.m zib.ok (hr.mono (by decide)) zib.b za9) zae (λ_ _=>rfl)) zae (λ_ _=>rfl)) (λ_ _=>rfl)) zae (λ_ _=>rfl))) (zah (zao (zii (zaL zdX hr (zaa (dv 0) (zaa (dv 1) (zaa (dv 10) (zaa (dv 11) zad))))) (zhU (zdU (zaN hr) (zaL zcs hr (zaa (dv 10) (zaa (dv 11) (zaa (zbO (zaU zeZ) rfl zbC Boot.«list» (zaa (dv 2) zad)) zad)))) (dv 8) (zat _)))))))))))))))))),λds S Q ex h=>by
  unfold zhF at h
  split at h
  ·rename_i p at_ pn hv sm
   obtain⟨ns,hs,a,b,c,d,q,hp,hpn,ok,nd,dis,rfl,hq,l30,rfl,s0,s5,h⟩:=h
   have no3:∀k:Int,0≤k→k<70→nmA k 3 ∉ [a,b,c,d]∧nmA k 9 ∉ [a,b,c,d]:=λk k0 k1=>by
    have ek:(((⟨k.toNat,by omega⟩:Fin 70).val:Nat):Int)=k:=by show ((k.toNat:Nat):Int)=k; omega
    constructor <;> intro z <;> have y:=dis _ z ⟨k.toNat,by omega⟩ <;> rw[ek] at y
    ·exact y.1 rfl
    ·exact y.2 rfl
   have nm3:∀w∈[a,b,c,d],zaG w=true:=ok.nam
   obtain⟨g,ak,wt⟩:=zmT ok q hq
   obtain⟨len,x3,l76,wo,dp15⟩:=zgb ok hq
   obtain⟨_,_,_,dpw,szw⟩:=zeR _ g ak
   have hl:=ok.nok.len
   have w16:=(ok.nok.small (hs.getD q 0) (by rw[Vai,Vaw (by omega)]; exact VaQ _)).2
   have nmw:=zsQ ok q hq
   obtain⟨t,et⟩:∃t,(trs [a,b,c,d] ns).getD q dT0=t:=⟨_,rfl⟩
   rw[et] at g ak wt len x3 l76 wo dp15 dpw szw nmw
   obtain⟨wq,ewq⟩:∃w,hs.getD q 0=w:=⟨_,rfl⟩
   refine zeH (λdl' S'=>∃(ow:List Nat) (n:Nat),dl'=[some (.ref p),some (.int (q:Int)),some (.ref pn),some (.int (hs.getD q 0)),some (.int sm),some (.ref n),none,none,none,none,none,none]∧RdS zac.C zag.C S S' n ow (kU a b c d 0)) (λnx hn=>?_) ?_
   ·exact⟨S,rfl,rfl,λU ow g fr tk=>⟨rfl,hn _ _ ⟨ow,S.length,rfl,tk,λx o e=>g.2 x o (by simp) e,fr⟩⟩⟩
   rintro dl' S' ⟨ow,n,rfl,rs⟩
   refine zeH (λdl' S'=>∃(ow:List Nat) (o6:Option D),dl'=[some (.ref p),some (.int (q:Int)),some (.ref pn),some (.int (hs.getD q 0)),some (.int sm),some (.ref n),o6,none,none,none,none,none]∧RdS zac.C zag.C S S' n ow (kU a b c d 4)) (λnx hn=>?_) ?_
   ·refine ziE (n:=pn) (o:=.lst ([a,b,c,d].map D.str)) (λk dl' S'=>∃(ow:List Nat) (o6:Option D),dl'=[some (.ref p),some (.int (q:Int)),some (.ref pn),some (.int (hs.getD q 0)),some (.int sm),some (.ref n),o6,none,none,none,none,none]∧RdS zac.C zag.C S S' n ow (kU a b c d k)) ⟨ow,none,rfl,rs⟩ (λk dl' S' ⟨_,_,_,r⟩=>r.pre _ _ hpn) ?_ ?_
    ·rintro k x dl' S' nx ct ex' ⟨ow,o6,rfl,rs⟩ hn
     have ex2:([a,b,c,d].map D.str)[k]?=some x:=ex'
     rw[Vao] at ex2
     cases ew:[a,b,c,d][k]? with
     | none=>rw[ew] at ex2; cases ex2
     | some w=>
      rw[ew] at ex2
      cases ex2
      obtain⟨i1,i2,i3⟩:=zr1 (zfY (nm3 w (Vas ew)))
      obtain⟨N,m,u,e,r,ht⟩:=rs.tk.tsk
      refine zaD (S1:=S') (n:=n) (λK hK=>by exact hK) ht rfl ?_
      have l2:=zaP w (" in -1 1/2":Str)
      refine⟨by show w.length+(" in -1 1/2":Str).length≤1000; omega,?_⟩
      refine⟨⟨by show (w++(" in -1 1/2":Str)).length≤1000; omega,by show ("":Str) ∉ Txt.split (w++" in -1 1/2") " "; rw[i1]; exact i2⟩,ow,_,_,"unknown",rs.tk,by show zcV _ (Txt.split (w++" in -1 1/2") " ") _ "unknown"; rw[i1]; exact .unk (ztP nd nm3 k w ew),λT ow' g f t'=>?_⟩
      exact hn _ _ ⟨ow',_,rfl,rs.tell g f t'⟩
    ·rintro dl' S' ⟨ow,o6,rfl,rs⟩
     exact hn _ _ ⟨ow,o6,rfl,rs⟩
   clear rs
   rintro dl' S' ⟨ow,o6,rfl,rs⟩
   refine zeH (λdl' S'=>∃(ow:List Nat) (k:Tk) (o7:Option D) (c0:Nat),dl'=[some (.ref p),some (.int (q:Int)),some (.ref pn),some (.int (hs.getD q 0)),some (.int sm),some (.ref n),o6,o7,none,none,none,none]∧RdS zac.C zag.C S S' n ow k∧c0≤5∧KR k [a,b,c,d] (moN c0) (4+c0)) (λnx hn=>?_) ?_
   ·refine⟨⟨by omega,by omega⟩,λc0 dl' S'=>c0≤5∧∃(ow:List Nat) (k:Tk) (o7:Option D),dl'=[some (.ref p),some (.int (q:Int)),some (.ref pn),some (.int (hs.getD q 0)),some (.int sm),some (.ref n),o6,o7,none,none,none,none]∧RdS zac.C zag.C S S' n ow k∧KR k [a,b,c,d] (moN c0) (4+c0),⟨by decide,ow,_,none,rfl,rs,kr_4 nd⟩,?_⟩
    clear rs
    rintro c0 dl' S' ⟨c5,ow,k,o7,rfl,rs,kr⟩
    refine ite2 (λc1=>?_) (λc1=>?_)
    ·have c4:c0<5:=by omega
     obtain⟨v,ev⟩:∃v:Int,7*(c0:Int)-20=v:=⟨_,rfl⟩
     have vb:v.natAbs<1000:=by omega
     obtain⟨ak1,fw1,sh1⟩:=zrf vb
     obtain⟨N,m,u,e,r,ht⟩:=rs.tk.tsk
     have n20:=zlE (k:=20+(c0:Int)) (by omega) (by omega)
     have wd:=zfY n20.1
     have wl:=wd.le
     have l1:=zaP ("let ":Str) (nmA (20+(c0:Int)) 3)
     have l2:=zaP (("let ":Str)++nmA (20+(c0:Int)) 3) (" = ":Str)
     have l3:=zaP (("let ":Str)++nmA (20+(c0:Int)) 3++(" = ":Str)) (mk (num v))
     have z1:("let ":Str).length=4:=by decide
     have z2:(" = ":Str).length=3:=by decide
     have z3:(mk (num v)).length≤12:=by rw[← sh1]; exact(zo0 (t:=v) (b:=1) ak1.2).le
     obtain⟨i1,i2⟩:=zpN (ws:=fw (.nb v 1)) (zoj (nmA (20+(c0:Int)) 3)) (zgW _) wd (λw hw=>(zeR (.nb v 1) trivial ak1).2.2.1 w hw)
     have jn1:Str.join " " (fw (.nb v 1))=mk (num v):=sh1
     rw[jn1] at i1
     obtain⟨ns',hs',j,ep,pp⟩:=kr.fit (t:=.nb v 1) trivial (λw hw=>by cases hw) (by show (1:Int)≤16; decide) (by show 4+c0+1≤60; omega)
     have pl:=pp.le
     have kl:=kr.len
     have szb:(Tr.nb v 1).sz=1:=rfl
     have pr':=kr.par (t:=.nb v 1) trivial ak1 (λw hw=>by cases hw) (by show (1:Int)≤16; decide) n20.1 (no3 _ (by omega) (by omega)).1 (zqu (by omega)) (by show 4+(moN c0).length<900; unfold moN; rw[Vaf,List.length_range]; omega) ep
     have nx':=(kr.next (t:=.nb v 1) trivial ak1 (λw hw=>by cases hw) ep (w0:=nmA (20+(c0:Int)) 3) (l':=4+(c0+1)) (by omega)).1
     rw[← zr8] at nx'
     refine zaD (S1:=S') (n:=n) (λK hK=>by exact hK) ht rfl ?_
     refine⟨by omega,by omega,by decide,by decide,?_⟩
     refine⟨by show ("let ":Str).length+(nmA (20+(c0:Int)) 3).length≤1000; omega,?_⟩
     refine⟨by show (("let ":Str)++nmA (20+(c0:Int)) 3).length+(" = ":Str).length≤1000; omega,?_⟩
     refine⟨zev (m:=10) (n:=10) (Sz.of 10 (by decide)) (Sz.of 10 (by omega)),?_⟩
     refine ze2 (zfG (k:=9) (by show (7*(c0:Int)-20).natAbs<_; omega) (by decide)) ?_
     rw[show (7*((c0:Nat):Int)-20)=v from ev,zd4]
     refine⟨by show (("let ":Str)++nmA (20+(c0:Int)) 3++(" = ":Str)).length+(mk (num v)).length≤1000; omega,?_⟩
     refine⟨⟨by show (("let ":Str)++nmA (20+(c0:Int)) 3++(" = ":Str)++mk (num v)).length≤1000; omega,by show ("":Str) ∉ Txt.split (("let ":Str)++nmA (20+(c0:Int)) 3++(" = ":Str)++mk (num v)) " "; rw[i1]; exact i2⟩,ow,k,_,"part",rs.tk,by show zcV _ (Txt.split (("let ":Str)++nmA (20+(c0:Int)) 3++(" = ":Str)++mk (num v)) " ") _ "part"; rw[i1]; exact pr',λT ow' g f t'=>?_⟩
     exact⟨by omega,ow',_,_,rfl,rs.tell g f t',nx'⟩
    ·exact hn _ _ ⟨ow,k,o7,c0,rfl,rs,c5,kr⟩
   clear rs
   rintro dl' S' ⟨ow,k,o7,c0,rfl,rs,c5,kr⟩
   have szt:t.sz≤31:=by omega
   obtain⟨ns1,hs1,j,ep,pp⟩:=kr.fit g nmw (by omega) (by omega)
   have pl:=pp.le
   have kl:=kr.len
   have no9:=zwN (c:=c0) (by omega)
   have n60:=(zlE (k:=60) (by decide) (by decide)).2
   have n61:=(zlE (k:=61) (by decide) (by decide)).2
   have lm0:(moN c0).length≤5:=by unfold moN; rw[Vaf,List.length_range]; omega
   have pr1:=kr.par g ak nmw (by omega) n60 (no3 60 (by decide) (by decide)).2 no9.1 (by show 4+(moN c0).length<900; omega) ep
   obtain⟨kr1,tr1,jl⟩:=kr.next g ak nmw ep (w0:=nmA 60 9) (l':=40) (by omega)
   have ep2:zaz (λw=>(k.ml++[(nmA 60 9,j)]).lookup w) t (ns1,hs1)=some ((ns1,hs1),j):=by
    have z:=(zkS (ms':=λw=>(k.ml++[(nmA 60 9,j)]).lookup w) (λw i e=>zpG e) t ep).2.2 [] []
    rw[VaB,VaB] at z
    exact z
   have new61:nmA 61 9 ∉ moN c0++[nmA 60 9]:=λz=>by
    rcases Val.1 z with z | z
    ·exact no9.2 z
    ·exact zrq (Vat.mp z).symm
   have pr2:=kr1.par g ak nmw (by omega) n61 (no3 61 (by decide) (by decide)).2 new61 (by rw[Vag]; show 4+(_+1)<900; omega) ep2
   obtain⟨kr2,tr2,_⟩:=kr1.next g ak nmw ep2 (w0:=nmA 61 9) (l':=40) (by omega)
   have look61:(k.ml++[(nmA 60 9,j)]++[(nmA 61 9,j)]).lookup (nmA 61 9)=some j:=zqj (kr1.new (no3 61 (by decide) (by decide)).2 new61)
   have line:∀nmx:Str,zcp nmx→nmx.length=4→(("let ":Str)++nmx++(" = ":Str)++shT t).length≤1000∧Txt.split (("let ":Str)++nmx++(" = ":Str)++shT t) " "=("let":Str)::nmx::("=":Str)::fw t∧("":Str) ∉ ("let":Str)::nmx::("=":Str)::fw t∧("let ":Str).length+nmx.length≤1000∧(("let ":Str)++nmx).length+(" = ":Str).length≤1000∧(("let ":Str)++nmx++(" = ":Str)).length+(shT t).length≤1000:=λnmx wd l4=>by
    obtain⟨i1,i2⟩:=zpN (ws:=fw t) (zoj nmx) (zgW _) wd wo
    have l1:=zaP ("let ":Str) nmx
    have l2:=zaP (("let ":Str)++nmx) (" = ":Str)
    have l3:=zaP (("let ":Str)++nmx++(" = ":Str)) (shT t)
    have z1:("let ":Str).length=4:=by decide
    have z2:(" = ":Str).length=3:=by decide
    exact⟨by omega,i1,i2,by omega,by omega,by omega⟩
   refine zmC (λdl' S'=>∃(ow:List Nat),dl'=[some (.ref p),some (.int (q:Int)),some (.ref pn),some (.int (hs.getD q 0)),some (.int sm),some (.ref n),o6,o7,some (.str (shT t)),none,none,none]∧RdS zac.C zag.C S S' n ow { k with ns:=ns1,hs:=hs1,ml:=k.ml++[(nmA 60 9,j)] }) (λnx hn=>?_) ?_
   ·refine zeS (o:=.lst ([a,b,c,d].map D.str)) (zbd (rs.pre _ _ hpn) rfl) ?_
    refine⟨ns,hs,[a,b,c,d],q,zam (rs.pre _ _ hp),zax _ _,ok,rfl,hq,by omega,?_⟩
    rw[et]
    refine⟨ns,hs,[a,b,c,d],q,zam (rs.pre _ _ hp),zam (rs.pre _ _ hpn),ok,rfl,hq,by omega,λT pT=>?_⟩
    rw[et]
    have rs1:=(rs.up (Ng.app _)).up (Ng.of pT)
    refine zpc (zbw ?_)
    obtain⟨N,m,u,e,r,ht⟩:=rs1.tk.tsk
    refine zaD (S1:=T) (n:=n) (λK hK=>by exact hK) ht rfl ?_
    obtain⟨y1,y2,y3,y4,y5,y6⟩:=line (nmA 60 9) (zfY n60) (by decide)
    refine⟨by decide,by decide,by decide,by decide,y4,y5,y6,?_⟩
    refine⟨⟨y1,by show ("":Str) ∉ Txt.split (("let ":Str)++nmA 60 9++(" = ":Str)++shT t) " "; rw[y2]; exact y3⟩,ow,k,_,"part",rs1.tk,by show zcV _ (Txt.split (("let ":Str)++nmA 60 9++(" = ":Str)++shT t) " ") _ "part"; rw[y2]; exact pr1,λT2 ow' g' f' t'=>?_⟩
    exact hn _ _ ⟨ow',rfl,rs1.tell g' f' t'⟩
   clear rs
   rintro dl' S' ⟨ow,rfl,rs⟩
   refine zoh (λdl' S'=>∃(ow:List Nat) (p9:Nat),dl'=[some (.ref p),some (.int (q:Int)),some (.ref pn),some (.int (hs.getD q 0)),some (.int sm),some (.ref n),o6,o7,some (.str (shT t)),some (.ref p9),none,none]∧RdS zac.C zag.C S S' n ow { k with ns:=ns1,hs:=hs1,ml:=k.ml++[(nmA 60 9,j)]++[(nmA 61 9,j)] }) (λnx hn=>?_) ?_
   ·obtain⟨N,m,u,e,r,ht⟩:=rs.tk.tsk
    refine zaD (S1:=S') (n:=n) (λK hK=>by exact hK) ht rfl ?_
    refine⟨ow,_,rs.tk,?_⟩
    have n9:S'.length ∉ ow:=λz=>VaC _ (rs.tk.lt _ z)
    have rs1:=rs.up (T:=S'++[Ob.lst (ns1.map Nd.d)]) (Ng.app _)
    obtain⟨N,m,u,e,r,ht⟩:=rs1.tk.tsk
    refine zaD (S1:=S'++[Ob.lst (ns1.map Nd.d)]) (n:=n) (λK hK=>by exact hK) ht rfl ?_
    obtain⟨y1,y2,y3,y4,y5,y6⟩:=line (nmA 61 9) (zfY n61) (by decide)
    refine⟨by decide,by decide,by decide,by decide,y4,y5,y6,?_⟩
    refine⟨⟨y1,by show ("":Str) ∉ Txt.split (("let ":Str)++nmA 61 9++(" = ":Str)++shT t) " "; rw[y2]; exact y3⟩,ow,_,_,"part",rs1.tk,by show zcV _ (Txt.split (("let ":Str)++nmA 61 9++(" = ":Str)++shT t) " ") _ "part"; rw[y2]; exact pr2,λT2 ow' g' f' t'=>?_⟩
    have rs2:=rs1.tell g' f' t'
    obtain⟨N,m,u,e,r,ht⟩:=rs2.tk.tsk
    refine zaD (S1:=T2) (n:=n) (λK hK=>by exact hK) ht rfl ?_
    refine⟨ow',_,rs2.tk,?_⟩
    refine zpd (xs:=ns1.map Nd.d) (ys:=ns1.map Nd.d) (zax _ _) (zam (g'.2 _ _ n9 (zax _ _))) (b:=true) (zlo _) ?_
    exact hn _ _ ⟨ow',_,rfl,rs2.up (Ng.app _)⟩
   clear rs
   rintro dl' S' ⟨ow,p9,rfl,rs⟩
   refine ifD (λe=>h _ rs.pre) (λe=>?_)
   have w15:t.wt≤15:=by have e':¬ (15<hs.getD q 0):=e; omega
   obtain⟨nsF,hsF,qF,z,telr,nokF,⟨rF,erF⟩,ndsF,atF⟩:=kr2.row n61 look61 (wt:=t.wt) pp.wt w15 jl (by decide)
   refine zmC (λdl' S'=>∃(ow:List Nat) (p10:Nat),dl'=[some (.ref p),some (.int (q:Int)),some (.ref pn),some (.int (hs.getD q 0)),some (.int sm),some (.ref n),o6,o7,some (.str (shT t)),some (.ref p9),some (.ref p10),none]∧RdS zac.C zag.C S S' n ow { k with ns:=nsF,hs:=hsF,ml:=k.ml++[(nmA 60 9,j)]++[(nmA 61 9,j)],rw:=[(("least":Str),qF)] }∧S'[p10]?=some (.lst (nsF.map Nd.d))) (λnx hn=>?_) ?_
   ·obtain⟨N,m,u,e,r,ht⟩:=rs.tk.tsk
    refine zaD (S1:=S') (n:=n) (λK hK=>by exact hK) ht rfl ?_
    obtain⟨i1,i2,i3⟩:=zwt (zfY n61)
    have l1:=zaP (nmA 61 9) (" >= 0":Str)
    refine⟨by decide,by decide,by decide,by decide,by show (nmA 61 9).length+(" >= 0":Str).length≤1000; omega,?_⟩
    refine⟨⟨by show (nmA 61 9++(" >= 0":Str)).length≤1000; omega,by show ("":Str) ∉ Txt.split (nmA 61 9++" >= 0") " "; rw[i1]; exact i2⟩,ow,_,_,"row",rs.tk,by show zcV _ (Txt.split (nmA 61 9++" >= 0") " ") _ "row"; rw[i1]; exact telr,λT2 ow' g' f' t'=>?_⟩
    have rs2:=rs.tell g' f' t'
    obtain⟨N,m,u,e,r,ht⟩:=rs2.tk.tsk
    refine zaD (S1:=T2) (n:=n) (λK hK=>by exact hK) ht rfl ?_
    refine⟨ow',_,rs2.tk,?_⟩
    exact hn _ _ ⟨ow',_,rfl,rs2.up (Ng.app _),zax _ _⟩
   clear rs
   rintro dl' S' ⟨ow,p10,rfl,rs,h10⟩
   have trF:(trs [a,b,c,d] nsF).getD j dT0=t:=by rw[erF,zmk kr2.nok jl]; exact tr2
   have jlF:j<nsF.length:=by rw[erF,Vag]; show j<ns1.length+_; omega
   have k2l:ns1.length≤40:=kr2.len
   obtain⟨N,m,u,e,r,ht⟩:=rs.tk.tsk
   refine zaD (S1:=S') (n:=n) (λK hK=>by exact hK) ht rfl ?_
   obtain⟨N,a',b',c',m,u,e,r,eo,tp⟩:=rs.tk
   refine⟨N,m,u,e,r,[(("least":Str),qF)],tp.tsk,tp.rows,?_⟩
   have rs1:=rs.up (T:=S'++[Ob.lst ([(("least":Str),qF)].map rwT)]) (Ng.app _)
   refine zaR (o:=.lst ([(("least":Str),qF)].map rwT)) (zax _ _) (d:=rwT (("least":Str),qF)) rfl ?_
   refine zaR (o:=.lst (nsF.map Nd.d)) (zam h10) (d:=(Nd.two "minus" (j:Int) z).d) (zdM (j:=qF) (by show (nsF.map Nd.d)[qF]?=_; rw[Vao,atF]; rfl)) ?_
   refine⟨ns,hs,nsF,hsF,[a,b,c,d],q,j,rs1.pre _ _ hp,zam h10,ok.nok,nokF,nd,ok.nds,ndsF,rfl,rfl,hq,jlF,by omega,by rw[et,trF],?_⟩
   refine zeS (o:=.lst ([a,b,c,d].map D.str)) (zbd (rs1.pre _ _ hpn) rfl) ?_
   refine⟨nsF,hsF,[a,b,c,d],j,zam (zam h10),zax _ _,zcl.of nokF ndsF nm3,rfl,jlF,by omega,?_⟩
   rw[trF]
   refine zpJ ?_
   exact h _ (rs1.up (Ng.app _)).pre
  ·exact h.elim⟩)
def zrN  (zi7:Df K mg "law" zdH zkc)(zfL:Fk P w K mg base 1 "_law_cell_at" zht zhy)(zlM:Fk P w K mg base 135 "_law_read" zh4 zhF)(zcW:Fk P w K mg base 40 "_law_text" zdK (zds 40))(zcs:Fk P w K mg base 42 "shown" zdG (zdE 40))(zlP:Fk P w K mg base 2 "_law_net" zhX zgO)(zdq:Fk P w K mg base 1 "_law_name" zfm zfN)(zaF:mg "len"=none)(zcC:mg "range"=none)(zbh:mg "isinstance"=none)(zbb:mg "str"=none)(zbC:mg "list"=none)(zcM:Kit K "str"):Fk P w K mg base 136 "law" zkc zfw:=
 zi7.mk' (zaQ (k:=135) zi7.F zcK zuW λcdv A outer s H E hr=>⟨_,(zaf (zak (i:=1) zcK.nd rfl (Or.inr rfl) (zaj zbS (zaL zfL hr (zaa (dv 0) (zaa zae zad))) zae)) (zaf (ztl (x:="_law_k") (N:=["_law_shape"]) (caps:=[1]) (ar:=zau zdH) rfl rfl csc rfl (by decide) (i:=2) zcK.nd rfl rfl rfl zcC (zaa zae zad) (λ_ _ _ _ _ _=>zlD) (λ_ _ _ _ _ _=>(zaj zbF (zaL zdq hr (zaa (dv 0) (zaa (dv 1) zad))) zai))) (zaf (zrk (x:="_law_name_here") (N:=[]) (caps:=[]) (ar:=zau zdH) rfl rfl csc rfl (by decide) (i:=2) zcK.nd rfl rfl (dv 2) (λ_ _ _ _ _ _=>zlD) (λ_ _ _ _ _ _=>(zgZ (dv 0) (zci (znE zmP zae)) zdf))) (zaf (zak (i:=3) zcK.nd rfl (Or.inl rfl) (zaL zlP hr (zaa (zeN (dv 0) (zci zae) (zci zae)) zad))) (zaf (zak (i:=4) zcK.nd rfl (Or.inl rfl) (zaq (dv 3) zae (λ_ _=>rfl))) (zaf (zak (i:=5) zcK.nd rfl (Or.inl rfl) (zaq (dv 3) zae (λ_ _=>rfl))) (zaf (zav (zay (zpD hr) (dv 4) (zbQ zad) (zat _)) (zah (zao (zdU (zaN hr) (zaL zcs hr (zaa (zbQ (zaa (zbl (zaa zai (zaa zae zad))) zad)) (zaa zae (zaa (zbO (zaU zeZ) rfl zbC Boot.«list» (zaa (dv 2) zad)) zad)))) (zaX (dv 2) zae (λ_ _=>rfl)) (zat _)))) zaw) (zaf (zon (i:=6) PassesOwn.never rfl zcK.nd rfl (Or.inl rfl) rfl zcC (zaa (zbB (zaU zbZ) rfl zaF Boot.«len» (zaa (dv 4) zad)) zad) (zaf (zak (i:=7) zcK.nd rfl (Or.inl rfl) (zbO (zaU zeZ) rfl zbC Boot.«list» (zaa (dv 4) zad))) (zaf (zak (i:=8) zcK.nd rfl (Or.inl rfl) (zaL zcs hr (zaa (dv 7) (zaa (dv 6) (zaa (zbO (zaU zeZ) rfl zbC Boot.«list» (zaa (dv 2) zad)) zad))))) (zah (zav (PDW.pt (zb8 (zb4 (zbt (zf7 zcM rfl zbh rfl zbb Boot.«str» (dv 8)))) (zb8 (zay (zcv hr) (dv 8) (zaL zcW hr (zaa (dv 4) (zaa (dv 6) (zaa (dv 2) zad)))) (zat _)) (zc4 (zay (zpp hr) (dv 7) (dv 4) (zat _)))))) (zah (zao zdl)) zaw))))) (zaf (zak (i:=9) zcK.nd rfl (Or.inl rfl) (zaj zeX (zaj zbS (zaL zfL hr (zaa (dv 0) (zaa zae zad))) zae) (zaj zbS (zaj zdg (zaL zfL hr (zaa (dv 0) (zaa zae zad))) zae) zae))) (zaf (zg8 (i:=6) PassesOwn.never rfl zcK.nd rfl (Or.inl rfl) (zbQ (zaa (zaj zhq (zbB (zaU zbZ) rfl zaF Boot.«len» (zaa (dv 4) zad)) zae) (zaa (zaj zeL (zaj zdg (zaL zfL hr (zaa (dv 0) (zaa zae zad))) zae) (zbB (zaU zbZ) rfl zaF Boot.«len» (zaa (dv 4) zad))) zad))) (zah (zav (zb4 (zbt (zaL zlM hr (zaa (dv 4) (zaa (dv 6) (zaa (dv 2) (zaa (zaX (dv 5) (dv 6) (λ_ _=>rfl)) (zaa (dv 9) zad)))))))) (zah (zao zdl)) zaw))) (zah (zao zdl)))))))))))),λds S Q ex h=>by
  obtain⟨sc,rfl,rfl,hl,h⟩:=h
  obtain⟨sh,esh⟩:∃v,sc.getD (0:Int).toNat 0%49=v:=⟨_,rfl⟩
  have sh0:0≤sh:=by omega
  have sh1:sh<49:=by omega
  obtain⟨nd,nam,dis,l8⟩:=zu8 sh0 sh1
  refine zeH (λdl' S'=>dl'=[some (.ref 0),some (.int sh),none,none,none,none,none,none,none,none]∧S'=[.frz (sc.map D.int)]) (λnx hn=>?_) ?_
  ·exact⟨sc,rfl,by decide,hn _ _ ⟨by rw[← esh]; rfl,rfl⟩⟩
  rintro dl' S' ⟨rfl,rfl⟩
  refine zoh (λdl' S'=>∃pn:Nat,dl'=[some (.ref 0),some (.int sh),some (.ref pn),none,none,none,none,none,none,none]∧S'[0]?=some (.frz (sc.map D.int))∧S'[pn]?=some (.lst ([nmZ 0 sh,nmZ 1 sh,nmZ 2 sh,nmZ 3 sh].map D.str))) (λnx hn=>?_) ?_
  ·skip
   refine zrF (j:=4) (S1:=[.frz (sc.map D.int)]) (λk:Nat=>.str (nmA (k:Int) sh++"z")) (λK hK=>by exact hK) (by omega) (λk hk S2 K p2 hK=>?_) ?_
   ·have hk4:k<4:=hk
    have:=l8 k hk4
    refine⟨by omega,by omega,by omega,by omega,?_⟩
    refine⟨by show (nmA (k:Int) sh).length+1≤1000; omega,?_⟩
    exact hK
   ·refine zrx (n:=1) (S1:=[.frz (sc.map D.int),.lst ((List.range (4:Int).toNat).map λk:Nat=>.str (nmA (k:Int) sh++"z"))]) (o:=.lst ((List.range (4:Int).toNat).map λk:Nat=>.str (nmA (k:Int) sh++"z"))) (λd=>match d with | .str x=>.str (StrLaws.sliceText x (some (-8)) none) | _=>.non) (λK hK=>by exact hK) rfl (by show (List.map _ (List.range 4)).length≤1000; rw[Vaf]; decide) (λx hx S2 K p2 hK=>?_) ?_
    ·obtain⟨k,hk,rfl⟩:=VaI.mp (show x∈(List.range 4).map λk:Nat=>D.str (nmA (k:Int) sh++"z") from hx)
     have:=l8 k (VaU.mp hk)
     have la:=zaP (nmA (k:Int) sh) ("z":Str)
     have lz:("z":Str).length=1:=by decide
     exact⟨by omega,hK⟩
    ·exact hn _ _ ⟨2,rfl,rfl,rfl⟩
  rintro dl' S' ⟨pn,rfl,h0,hpn⟩
  refine zmC (λdl' S'=>∃(pa pb:Nat) (ns:List Nd) (hs:List Int),dl'=[some (.ref 0),some (.int sh),some (.ref pn),some (.tup [.ref pa,.ref pb]),some (.ref pa),some (.ref pb),none,none,none,none]∧S'[0]?=some (.frz (sc.map D.int))∧S'[pn]?=some (.lst ([nmZ 0 sh,nmZ 1 sh,nmZ 2 sh,nmZ 3 sh].map D.str))∧S'[pa]?=some (.lst (ns.map Nd.d))∧S'[pb]?=some (.lst (hs.map D.int))∧NOk ns hs∧(∀v∈ns,zeM v)∧ns.length≤30) (λnx hn=>?_) ?_
  ·obtain⟨cl,ecl,lcl⟩:=zqx sc
   refine zeG (n:=0) (S3:=S') (o:=.frz (sc.map D.int)) (lo:=some 2) (hi:=some 32) (λK hK=>by exact hK) (λK hK=>by exact hK) (λK hK=>by exact hK) h0 ?_
   rw[show zan (.frz (sc.map D.int))=sc.map D.int from rfl,ecl]
   refine⟨cl,zax _ _,lcl,λns hs pa pb T nok law l30 ha hb pT=>?_⟩
   exact hn _ _ ⟨pa,pb,ns,hs,rfl,pT _ _ (zam h0),pT _ _ (zam hpn),ha,hb,nok,law,l30⟩
  clear h0 hpn
  rintro dl' S' ⟨pa,pb,ns,hs,rfl,h0,hpn,hpa,hpb,nok,law,l30⟩
  have ok:zcl ns hs [nmZ 0 sh,nmZ 1 sh,nmZ 2 sh,nmZ 3 sh]:=zpa nok law rfl nam
  refine zeH (λdl' S'=>ns≠[]∧dl'=[some (.ref 0),some (.int sh),some (.ref pn),some (.tup [.ref pa,.ref pb]),some (.ref pa),some (.ref pb),none,none,none,none]∧S'[0]?=some (.frz (sc.map D.int))∧S'[pn]?=some (.lst ([nmZ 0 sh,nmZ 1 sh,nmZ 2 sh,nmZ 3 sh].map D.str))∧S'[pa]?=some (.lst (ns.map Nd.d))∧S'[pb]?=some (.lst (hs.map D.int))) (λnx hn=>?_) ?_
  ·cases ns with
   | nil=>
    refine zl3 (xs:=[]) (ys:=[]) (zam hpa) (zax _ _) (b:=true) rfl ?_
    have ok1:zcl [Nd.unknown 2] [1] [nmZ 0 sh,nmZ 1 sh,nmZ 2 sh,nmZ 3 sh]:=zpa zrG (λv hv=>by rw[Vat.mp hv]; exact⟨by decide,by decide⟩) rfl nam
    refine zeS (o:=.lst ([nmZ 0 sh,nmZ 1 sh,nmZ 2 sh,nmZ 3 sh].map D.str)) (zbd (zam (zam hpn)) rfl) ?_
    refine⟨[.unknown 2],[1],[nmZ 0 sh,nmZ 1 sh,nmZ 2 sh,nmZ 3 sh],0,zam (zax _ _),zax _ _,ok1,rfl,by decide,by decide,?_⟩
    refine zaR (o:=.lst ([nmZ 0 sh,nmZ 1 sh,nmZ 2 sh,nmZ 3 sh].map D.str)) (zam (zam (zam hpn))) (d:=.str (nmZ 2 sh)) rfl ?_
    have e2:shT ((trs [nmZ 0 sh,nmZ 1 sh,nmZ 2 sh,nmZ 3 sh] [.unknown 2]).getD 0 dT0)=nmZ 2 sh:=by
     show mk (cs (nmZ 2 sh))=_
     rw[zcS]
    rw[e2]
    exact zpJ (h _)
   | cons v vs=>
    refine zl3 (xs:=(v::vs).map Nd.d) (ys:=[]) (zam hpa) (zax _ _) (b:=false) rfl ?_
    exact hn _ _ ⟨by simp,rfl,zam h0,zam hpn,zam hpa,zam hpb⟩
  clear h0 hpn hpa hpb
  rintro dl' S' ⟨ne,rfl,h0,hpn,hpa,hpb⟩
  have npos:0<ns.length:=List.length_pos_iff.mpr ne
  have hlen:=nok.len
  refine zeH (λdl' S'=>∃o6 o7 o8:Option D,dl'=[some (.ref 0),some (.int sh),some (.ref pn),some (.tup [.ref pa,.ref pb]),some (.ref pa),some (.ref pb),o6,o7,o8,none]∧S'[0]?=some (.frz (sc.map D.int))∧S'[pn]?=some (.lst ([nmZ 0 sh,nmZ 1 sh,nmZ 2 sh,nmZ 3 sh].map D.str))∧S'[pa]?=some (.lst (ns.map Nd.d))∧S'[pb]?=some (.lst (hs.map D.int))) (λnx hn=>?_) ?_
  ·refine zcD hpa ?_
   rw[Vaf]
   refine⟨⟨by omega,by omega⟩,λc0 dl' S'=>∃o6 o7 o8:Option D,dl'=[some (.ref 0),some (.int sh),some (.ref pn),some (.tup [.ref pa,.ref pb]),some (.ref pa),some (.ref pb),o6,o7,o8,none]∧S'[0]?=some (.frz (sc.map D.int))∧S'[pn]?=some (.lst ([nmZ 0 sh,nmZ 1 sh,nmZ 2 sh,nmZ 3 sh].map D.str))∧S'[pa]?=some (.lst (ns.map Nd.d))∧S'[pb]?=some (.lst (hs.map D.int)),⟨_,_,_,rfl,h0,hpn,hpa,hpb⟩,?_⟩
   clear h0 hpn hpa hpb
   rintro c0 dl' S' ⟨o6,o7,o8,rfl,h0,hpn,hpa,hpb⟩
   refine ite2 (λc1=>?_) (λc1=>?_)
   ·have c2:c0<ns.length:=by omega
    refine zeS (o:=.lst (ns.map Nd.d)) (zbd hpa rfl) ?_
    refine zeS (o:=.lst ([nmZ 0 sh,nmZ 1 sh,nmZ 2 sh,nmZ 3 sh].map D.str)) (zbd (zam hpn) rfl) ?_
    refine⟨ns,hs,[nmZ 0 sh,nmZ 1 sh,nmZ 2 sh,nmZ 3 sh],c0,zam (zax _ _),zax _ _,ok,rfl,c2,by omega,?_⟩
    refine⟨ns,hs,[nmZ 0 sh,nmZ 1 sh,nmZ 2 sh,nmZ 3 sh],c0,zam (zam hpa),zam (zam hpn),ok,rfl,c2,by omega,λT pT=>?_⟩
    refine zpc (zbw ?_)
    refine zpd (xs:=ns.map Nd.d) (ys:=ns.map Nd.d) (pT _ _ (zam (zax _ _))) (pT _ _ (zam (zam hpa))) (b:=true) (zlo _) ?_
    exact⟨_,_,_,rfl,pT _ _ (zam (zam h0)),pT _ _ (zam (zam hpn)),pT _ _ (zam (zam hpa)),pT _ _ (zam (zam hpb))⟩
   ·exact hn _ _ ⟨o6,o7,o8,rfl,h0,hpn,hpa,hpb⟩
  clear h0 hpn hpa hpb
  rintro dl' S' ⟨o6,o7,o8,rfl,h0,hpn,hpa,hpb⟩
  obtain⟨c,ec⟩:∃v,sc.getD (1:Int).toNat 0=v:=⟨_,rfl⟩
  obtain⟨sm,esm⟩:∃v,c%2*(c/2%6)=v:=⟨_,rfl⟩
  have sm5:0≤sm∧sm≤5:=by
   have z:c%2=0∨c%2=1:=by omega
   rcases z with z | z <;> rw[z] at esm <;> omega
  refine zeH (λdl' S''=>S''=S'∧dl'=[some (.ref 0),some (.int sh),some (.ref pn),some (.tup [.ref pa,.ref pb]),some (.ref pa),some (.ref pb),o6,o7,o8,some (.int sm)]) (λnx hn=>?_) ?_
  ·refine⟨sc,h0,by decide,sc,h0,by decide,?_⟩
   refine⟨zev (m:=10) (n:=10) (Sz.of 10 (by omega)) (Sz.of 10 (by omega)),?_⟩
   exact hn _ _ ⟨rfl,by rw[← esm,← ec]; rfl⟩
  rintro dl' S'' ⟨rfl,rfl⟩
  refine zcD hpa ?_
  refine⟨sc,h0,by decide,?_⟩
  refine zcD hpa ?_
  refine⟨by show 0<(((ns.map Nd.d).length:Nat):Int); rw[Vaf]; omega,?_⟩
  have hL:(ns.map Nd.d).length=ns.length:=Vaf ..
  refine ziE (n:=S''.length) (o:=.lst [.int (((ns.map Nd.d).length:Int)-1),.int (sc.getD (1:Int).toNat 0/12%((ns.map Nd.d).length:Int))]) (λk dl' T=>Pre (S''++[.lst [.int (((ns.map Nd.d).length:Int)-1),.int (sc.getD (1:Int).toNat 0/12%((ns.map Nd.d).length:Int))]]) T∧∃o6:Option D,dl'=[some (.ref 0),some (.int sh),some (.ref pn),some (.tup [.ref pa,.ref pb]),some (.ref pa),some (.ref pb),o6,o7,o8,some (.int sm)]) ⟨Pre.refl,o6,rfl⟩ (λk dl' T ⟨pT,_⟩=>pT _ _ (zax _ _)) ?_ ?_
  ·rintro k x dl' T nx ct ex' ⟨pT,o6,rfl⟩ hn
   have ex2:[D.int (((ns.map Nd.d).length:Int)-1),D.int (sc.getD (1:Int).toNat 0/12%((ns.map Nd.d).length:Int))][k]?=some x:=ex'
   have hx:∃i:Int,x=.int i∧0≤i∧i<ns.length:=by
    have m:=Vas ex2
    simp only[Vaa,Vad,or_false] at m
    rcases m with rfl | rfl
    ·exact⟨_,rfl,by omega,by omega⟩
    ·exact⟨_,rfl,Int.emod_nonneg _ (by omega),by rw[hL]; exact Int.emod_lt_of_pos _ (by omega)⟩
   obtain⟨i,rfl,i0,i1⟩:=hx
   have pT2:Pre S'' T:=λx o e=>pT x o (zam e)
   refine zaR (o:=.lst (hs.map D.int)) (pT2 _ _ hpb) (d:=.int (hs.getD i.toNat 0)) (by
    have z:=zdM (xs:=hs.map D.int) (j:=i.toNat) (v:=.int (hs.getD i.toNat 0)) (by rw[Vao,Vai,Vaw (by omega)]; rfl)
    rw[show ((i.toNat:Nat):Int)=i by omega] at z
    exact z) ?_
   refine⟨ns,hs,_,_,_,_,i.toNat,pT2 _ _ hpa,pT2 _ _ hpn,ok,nd,dis,by omega,by omega,l30,rfl,sm5.1,sm5.2,λU pU=>?_⟩
   exact hn _ _ ⟨λx o e=>pU x o (pT x o e),_,rfl⟩
  ·rintro dl' T ⟨pT,o6,rfl⟩
   exact h _⟩)
end
theorem zuY {l:PySem.W.OpenLaw}{w:World}{K:PySem.W.Frag}{h:Heap}{mg:Str→Option Value}{fa:Addr}(X:K.In h)(G:h.Ns mainGlobals mg)(hfa:mg "law"=some (.ref fa))
  {zck:Addr}(zj8:PySem.W.nsIn K mainGlobals "Net"=some (some (.ref zck)))(zkv:PySem.W.plainGet K zck Str.empty=true)(zkB:PySem.W.hasDictIn K zck=true)(zkY:PySem.W.plainOver K zck=true)(zj6:PySem.W.findIn K (.ref zck) "__setattr__"=some (some (.builtin "object.__setattr__")))(zk3:PySem.W.makesIn K zck=true)(zli:PySem.W.keepIn K (.ref zck)=true)
  (zll:PySem.W.findIn K (.ref zck) "numbers"=some none)
  (zj4:PySem.W.findIn K (.ref zck) "weights"=some none)
  (zi2:PySem.W.findIn K (.ref zck) "kept"=some none)
  {zbu:Addr}(zje:PySem.W.nsIn K mainGlobals "Task"=some (some (.ref zbu)))(zkZ:PySem.W.plainGet K zbu Str.empty=true)(zkM:PySem.W.hasDictIn K zbu=true)(zjl:PySem.W.plainOver K zbu=true)(zjH:PySem.W.findIn K (.ref zbu) "__setattr__"=some (some (.builtin "object.__setattr__")))(zjF:PySem.W.makesIn K zbu=true)(zlh:PySem.W.keepIn K (.ref zbu)=true)
  (zkO:PySem.W.findIn K (.ref zbu) "told_rows"=some none)
  (ziT:PySem.W.findIn K (.ref zbu) "unknown_ends"=some none)
  (ziZ:PySem.W.findIn K (.ref zbu) "unknown_names"=some none)
  (ziQ:PySem.W.findIn K (.ref zbu) "meanings"=some none)
  (zjO:PySem.W.findIn K (.ref zbu) "net"=some none)
  {zbH:Addr}(zjh:PySem.W.nsIn K mainGlobals "Reader"=some (some (.ref zbH)))(ziA:PySem.W.plainGet K zbH Str.empty=true)(zk0:PySem.W.hasDictIn K zbH=true)(zjc:PySem.W.plainOver K zbH=true)(zjv:PySem.W.findIn K (.ref zbH) "__setattr__"=some (some (.builtin "object.__setattr__")))(zkC:PySem.W.makesIn K zbH=true)(zle:PySem.W.keepIn K (.ref zbH)=true)
  (zkw:PySem.W.findIn K (.ref zbH) "depth"=some none)
  (zjI:PySem.W.findIn K (.ref zbH) "place"=some none)
  (ziB:PySem.W.findIn K (.ref zbH) "words"=some none)
  {f0 h0:Addr}{m0:Value}(a0:nsA K "_law_node" f0)(l0:lkA K f0 "_law_node" "_law_node" zlg m0 h0)(c0:cdA K h0 "_law_node")
  {f1 h1:Addr}{m1:Value}(a1:nsA K "_law_weight" f1)(l1:lkA K f1 "_law_weight" "_law_weight" zjk m1 h1)(c1:cdA K h1 "_law_weight")
  {f2 h2:Addr}{m2:Value}(a2:nsA K "_law_net" f2)(l2:lkA K f2 "_law_net" "_law_net" zkA m2 h2)(c2:cdA K h2 "_law_net")
  {f3 h3:Addr}{m3:Value}(a3:nsA K "_law_cell_at" f3)(l3:lkA K f3 "_law_cell_at" "_law_cell_at" zk2 m3 h3)(c3:cdA K h3 "_law_cell_at")
  {f4 h4:Addr}{m4:Value}(a4:nsA K "figures_of" f4)(l4:lkA K f4 "figures_of" "figures_of" zk7 m4 h4)(c4:cdA K h4 "figures_of")
  {f5 h5:Addr}{m5:Value}(a5:nsA K "written" f5)(l5:lkA K f5 "written" "written" zko m5 h5)(c5:cdA K h5 "written")
  {f6 h6:Addr}{m6:Value}(a6:nsA K "shown" f6)(l6:lkA K f6 "shown" "shown" zgS m6 h6)(c6:cdA K h6 "shown")
  {f7 h7:Addr}{m7:Value}(a7:nsA K "_law_name" f7)(l7:lkA K f7 "_law_name" "_law_name" zjK m7 h7)(c7:cdA K h7 "_law_name")
  {f8 h8:Addr}{m8:Value}(a8:fdA K zck "__init__" f8)(l8:lkA K f8 "__init__" "Net.__init__" zjy m8 h8)(c8:cdA K h8 "Net.__init__")
  {f9 h9:Addr}{m9:Value}(a9:fdA K zbu "__init__" f9)(l9:lkA K f9 "__init__" "Task.__init__" ziy m9 h9)(c9:cdA K h9 "Task.__init__")
  {f10 h10:Addr}{m10:Value}(a10:fdA K zck "nodes" f10)(l10:lkA K f10 "nodes" "Net.nodes" zkE m10 h10)(c10:cdA K h10 "Net.nodes")
  {f11 h11:Addr}{m11:Value}(a11:fdA K zbu "nodes" f11)(l11:lkA K f11 "nodes" "Task.nodes" zkm m11 h11)(c11:cdA K h11 "Task.nodes")
  {f12 h12:Addr}{m12:Value}(a12:nsA K "words_of" f12)(l12:lkA K f12 "words_of" "words_of" zi1 m12 h12)(c12:cdA K h12 "words_of")
  {f13 h13:Addr}{m13:Value}(a13:nsA K "place_of_sign" f13)(l13:lkA K f13 "place_of_sign" "place_of_sign" zjm m13 h13)(c13:cdA K h13 "place_of_sign")
  {f14 h14:Addr}{m14:Value}(a14:fdA K zbH "__init__" f14)(l14:lkA K f14 "__init__" "Reader.__init__" zkH m14 h14)(c14:cdA K h14 "Reader.__init__")
  {f15 h15:Addr}{m15:Value}(a15:fdA K zbH "at_end" f15)(l15:lkA K f15 "at_end" "Reader.at_end" zjY m15 h15)(c15:cdA K h15 "Reader.at_end")
  {f16 h16:Addr}{m16:Value}(a16:fdA K zbH "take" f16)(l16:lkA K f16 "take" "Reader.take" ziD m16 h16)(c16:cdA K h16 "Reader.take")
  {f17 h17:Addr}{m17:Value}(a17:nsA K "made_of" f17)(l17:lkA K f17 "made_of" "made_of" zhb m17 h17)(c17:cdA K h17 "made_of")
  {f18 h18:Addr}{m18:Value}(a18:nsA K "is_name" f18)(l18:lkA K f18 "is_name" "is_name" zkr m18 h18)(c18:cdA K h18 "is_name")
  {f19 h19:Addr}{m19:Value}(a19:nsA K "greatest_divisor" f19)(l19:lkA K f19 "greatest_divisor" "greatest_divisor" zj0 m19 h19)(c19:cdA K h19 "greatest_divisor")
  {f20 h20:Addr}{m20:Value}(a20:nsA K "is_whole" f20)(l20:lkA K f20 "is_whole" "is_whole" zi3 m20 h20)(c20:cdA K h20 "is_whole")
  {f21 h21:Addr}{m21:Value}(a21:nsA K "fraction" f21)(l21:lkA K f21 "fraction" "fraction" zk8 m21 h21)(c21:cdA K h21 "fraction")
  {f22 h22:Addr}{m22:Value}(a22:nsA K "number_of" f22)(l22:lkA K f22 "number_of" "number_of" zjb m22 h22)(c22:cdA K h22 "number_of")
  {f23 h23:Addr}{m23:Value}(a23:fdA K zbH "bracket" f23)(l23:lkA K f23 "bracket" "Reader.bracket" zhz m23 h23)(c23:cdA K h23 "Reader.bracket")
  {f24 h24:Addr}{m24:Value}(a24:fdA K zbH "atom" f24)(l24:lkA K f24 "atom" "Reader.atom" zhT m24 h24)(c24:cdA K h24 "Reader.atom")
  {f25 h25:Addr}{m25:Value}(a25:fdA K zbH "sees" f25)(l25:lkA K f25 "sees" "Reader.sees" ziO m25 h25)(c25:cdA K h25 "Reader.sees")
  {f26 h26:Addr}{m26:Value}(a26:fdA K zbH "factor" f26)(l26:lkA K f26 "factor" "Reader.factor" zgy m26 h26)(c26:cdA K h26 "Reader.factor")
  {f27 h27:Addr}{m27:Value}(a27:fdA K zbH "term" f27)(l27:lkA K f27 "term" "Reader.term" ziq m27 h27)(c27:cdA K h27 "Reader.term")
  {f28 h28:Addr}{m28:Value}(a28:fdA K zbH "expression" f28)(l28:lkA K f28 "expression" "Reader.expression" zhh m28 h28)(c28:cdA K h28 "Reader.expression")
  {f29 h29:Addr}{m29:Value}(a29:nsA K "tree_of" f29)(l29:lkA K f29 "tree_of" "tree_of" zjS m29 h29)(c29:cdA K h29 "tree_of")
  {f30 h30:Addr}{m30:Value}(a30:fdA K zbu "check_known" f30)(l30:lkA K f30 "check_known" "Task.check_known" zkb m30 h30)(c30:cdA K h30 "Task.check_known")
  {f31 h31:Addr}{m31:Value}(a31:nsA K "weight_of" f31)(l31:lkA K f31 "weight_of" "weight_of" zj7 m31 h31)(c31:cdA K h31 "weight_of")
  {f32 h32:Addr}{m32:Value}(a32:fdA K zck "put" f32)(l32:lkA K f32 "put" "Net.put" ziX m32 h32)(c32:cdA K h32 "Net.put")
  {f33 h33:Addr}{m33:Value}(a33:nsA K "copy_of" f33)(l33:lkA K f33 "copy_of" "copy_of" zjW m33 h33)(c33:cdA K h33 "copy_of")
  {f34 h34:Addr}{m34:Value}(a34:nsA K "put_tree" f34)(l34:lkA K f34 "put_tree" "put_tree" zg3 m34 h34)(c34:cdA K h34 "put_tree")
  {f35 h35:Addr}{m35:Value}(a35:fdA K zbu "tell_row" f35)(l35:lkA K f35 "tell_row" "Task.tell_row" zjM m35 h35)(c35:cdA K h35 "Task.tell_row")
  {f36 h36:Addr}{m36:Value}(a36:nsA K "less" f36)(l36:lkA K f36 "less" "less" zjz m36 h36)(c36:cdA K h36 "less")
  {f37 h37:Addr}{m37:Value}(a37:nsA K "ends_of" f37)(l37:lkA K f37 "ends_of" "ends_of" ziI m37 h37)(c37:cdA K h37 "ends_of")
  {f38 h38:Addr}{m38:Value}(a38:fdA K zbu "check_new" f38)(l38:lkA K f38 "check_new" "Task.check_new" zju m38 h38)(c38:cdA K h38 "Task.check_new")
  {f39 h39:Addr}{m39:Value}(a39:fdA K zbu "tell_unknown" f39)(l39:lkA K f39 "tell_unknown" "Task.tell_unknown" zkx m39 h39)(c39:cdA K h39 "Task.tell_unknown")
  {f40 h40:Addr}{m40:Value}(a40:fdA K zbu "tell_part" f40)(l40:lkA K f40 "tell_part" "Task.tell_part" ziU m40 h40)(c40:cdA K h40 "Task.tell_part")
  {f41 h41:Addr}{m41:Value}(a41:fdA K zbu "tell" f41)(l41:lkA K f41 "tell" "Task.tell" zjf m41 h41)(c41:cdA K h41 "Task.tell")
  {f42 h42:Addr}{m42:Value}(a42:nsA K "_law_same" f42)(l42:lkA K f42 "_law_same" "_law_same" zgC m42 h42)(c42:cdA K h42 "_law_same")
  {f43 h43:Addr}{m43:Value}(a43:nsA K "_law_text" f43)(l43:lkA K f43 "_law_text" "_law_text" zh5 m43 h43)(c43:cdA K h43 "_law_text")
  {f44 h44:Addr}{m44:Value}(a44:fdA K zbu "rows" f44)(l44:lkA K f44 "rows" "Task.rows" zjd m44 h44)(c44:cdA K h44 "Task.rows")
  {f45 h45:Addr}{m45:Value}(a45:nsA K "_law_read" f45)(l45:lkA K f45 "_law_read" "_law_read" zjs m45 h45)(c45:cdA K h45 "_law_read")
  {f46 h46:Addr}{m46:Value}(a46:nsA K "law" f46)(l46:lkA K f46 "law" "law" zdH m46 h46)(c46:cdA K h46 "law")
  {ga_SIGNS:Addr}{gn_SIGNS:Nat}{w0_SIGNS v0_SIGNS w1_SIGNS v1_SIGNS w2_SIGNS v2_SIGNS:Tok}(g_SIGNS:PySem.W.nsIn K mainGlobals "SIGNS"=some (some (.ref ga_SIGNS)))(gl_SIGNS:K.lookup ga_SIGNS=some ⟨.type "dict",none,.dict #[⟨zcu w (.inr "plus"),.str "plus" w0_SIGNS,.str "+" v0_SIGNS⟩,⟨zcu w (.inr "minus"),.str "minus" w1_SIGNS,.str "-" v1_SIGNS⟩,⟨zcu w (.inr "times"),.str "times" w2_SIGNS,.str "*" v2_SIGNS⟩] gn_SIGNS,#[]⟩)(gs_SIGNS:(ga_SIGNS==sysModules)=false)
  {ga_ROW_WORDS:Addr}{gn_ROW_WORDS:Nat}{w0_ROW_WORDS v0_ROW_WORDS w1_ROW_WORDS v1_ROW_WORDS:Tok}(g_ROW_WORDS:PySem.W.nsIn K mainGlobals "ROW_WORDS"=some (some (.ref ga_ROW_WORDS)))(gl_ROW_WORDS:K.lookup ga_ROW_WORDS=some ⟨.type "dict",none,.dict #[⟨zcu w (.inr "="),.str "=" w0_ROW_WORDS,.str "zero" v0_ROW_WORDS⟩,⟨zcu w (.inr ">="),.str ">=" w1_ROW_WORDS,.str "least" v1_ROW_WORDS⟩] gn_ROW_WORDS,#[]⟩)(gs_ROW_WORDS:(ga_ROW_WORDS==sysModules)=false)
  {ga_KEPT_WORDS:Addr}{gn_KEPT_WORDS:Nat}{go_KEPT_WORDS:Option Addr}{gs_KEPT_WORDS:Array (Option Value)}{w0_KEPT_WORDS w1_KEPT_WORDS w2_KEPT_WORDS w3_KEPT_WORDS w4_KEPT_WORDS w5_KEPT_WORDS w6_KEPT_WORDS w7_KEPT_WORDS w8_KEPT_WORDS w9_KEPT_WORDS:Tok}(g_KEPT_WORDS:PySem.W.nsIn K mainGlobals "KEPT_WORDS"=some (some (.ref ga_KEPT_WORDS)))(gl_KEPT_WORDS:K.lookup ga_KEPT_WORDS=some ⟨.type "tuple",go_KEPT_WORDS,.seq #[.str "let" w0_KEPT_WORDS,.str "in" w1_KEPT_WORDS,.str "grid" w2_KEPT_WORDS,.str "fine" w3_KEPT_WORDS,.str "looks" w4_KEPT_WORDS,.str "solve" w5_KEPT_WORDS,.str "boxes" w6_KEPT_WORDS,.str "point" w7_KEPT_WORDS,.str "right" w8_KEPT_WORDS,.str "islands" w9_KEPT_WORDS] gn_KEPT_WORDS,gs_KEPT_WORDS⟩)
  {t_MOST_LETTERS:Tok}(g_MOST_LETTERS:PySem.W.nsIn K mainGlobals "MOST_LETTERS"=some (some (.int 8 t_MOST_LETTERS)))
  {t_LETTERS:Tok}(g_LETTERS:PySem.W.nsIn K mainGlobals "LETTERS"=some (some (.str "abcdefghijklmnopqrstuvwxyz" t_LETTERS)))
  {t_MOST_FIGURES:Tok}(g_MOST_FIGURES:PySem.W.nsIn K mainGlobals "MOST_FIGURES"=some (some (.int 9 t_MOST_FIGURES)))
  {t_FIGURES:Tok}(g_FIGURES:PySem.W.nsIn K mainGlobals "FIGURES"=some (some (.str "0123456789" t_FIGURES)))
  {t_MOST_BRACKETS:Tok}(g_MOST_BRACKETS:PySem.W.nsIn K mainGlobals "MOST_BRACKETS"=some (some (.int 16 t_MOST_BRACKETS)))
  {ga_POWERS:Addr}{gn_POWERS:Nat}{go_POWERS:Option Addr}{gs_POWERS:Array (Option Value)}{w0_POWERS w1_POWERS w2_POWERS w3_POWERS w4_POWERS:Tok}(g_POWERS:PySem.W.nsIn K mainGlobals "POWERS"=some (some (.ref ga_POWERS)))(gl_POWERS:K.lookup ga_POWERS=some ⟨.type "tuple",go_POWERS,.seq #[.str "2" w0_POWERS,.str "3" w1_POWERS,.str "4" w2_POWERS,.str "5" w3_POWERS,.str "6" w4_POWERS] gn_POWERS,gs_POWERS⟩)
  {ga_SUMS:Addr}{gn_SUMS:Nat}{w0_SUMS v0_SUMS w1_SUMS v1_SUMS:Tok}(g_SUMS:PySem.W.nsIn K mainGlobals "SUMS"=some (some (.ref ga_SUMS)))(gl_SUMS:K.lookup ga_SUMS=some ⟨.type "dict",none,.dict #[⟨zcu w (.inr "+"),.str "+" w0_SUMS,.str "plus" v0_SUMS⟩,⟨zcu w (.inr "-"),.str "-" w1_SUMS,.str "minus" v1_SUMS⟩] gn_SUMS,#[]⟩)(gs_SUMS:(ga_SUMS==sysModules)=false)
  {t_MOST_WORDS:Tok}(g_MOST_WORDS:PySem.W.nsIn K mainGlobals "MOST_WORDS"=some (some (.int 120 t_MOST_WORDS)))
  {t_MOST_NODES:Tok}(g_MOST_NODES:PySem.W.nsIn K mainGlobals "MOST_NODES"=some (some (.int 60 t_MOST_NODES)))
  {t_MOST_WEIGHT:Tok}(g_MOST_WEIGHT:PySem.W.nsIn K mainGlobals "MOST_WEIGHT"=some (some (.int 16 t_MOST_WEIGHT)))
  {t_MOST_ROWS:Tok}(g_MOST_ROWS:PySem.W.nsIn K mainGlobals "MOST_ROWS"=some (some (.int 12 t_MOST_ROWS)))
  {t_MOST_UNKNOWNS:Tok}(g_MOST_UNKNOWNS:PySem.W.nsIn K mainGlobals "MOST_UNKNOWNS"=some (some (.int 4 t_MOST_UNKNOWNS)))
  (zaF:PySem.W.nsIn K mainGlobals "len"=some none)
  (zd1:PySem.W.nsIn K mainGlobals "reversed"=some none)
  (zbb:PySem.W.nsIn K mainGlobals "str"=some none)
  (zcA:PySem.W.nsIn K mainGlobals "abs"=some none)
  (zbC:PySem.W.nsIn K mainGlobals "list"=some none)
  (zbh:PySem.W.nsIn K mainGlobals "isinstance"=some none)
  (zd8:PySem.W.nsIn K mainGlobals "enumerate"=some none)
  (zen:PySem.W.nsIn K mainGlobals "all"=some none)
  (zd9:PySem.W.nsIn K mainGlobals "bool"=some none)
  (zbK:PySem.W.nsIn K mainGlobals "int"=some none)
  (zc3:PySem.W.nsIn K mainGlobals "tuple"=some none)
  (zcC:PySem.W.nsIn K mainGlobals "range"=some none)
  (zcM:Kit K "str")
  (zfv:Kit K "bool")
  (zfA:Kit K "int")
  (zdr:Kit K "tuple")
  {e_NoRow:Addr}(n_NoRow:PySem.W.nsIn K mainGlobals "NoRow"=some (some (.ref e_NoRow)))(x_NoRow:PySem.W.excIn K e_NoRow VE "ValueError.__new__"=true)
  {e_NoNumber:Addr}(n_NoNumber:PySem.W.nsIn K mainGlobals "NoNumber"=some (some (.ref e_NoNumber)))(x_NoNumber:PySem.W.excIn K e_NoNumber VE "ValueError.__new__"=true)
  {e_TooMuch:Addr}(n_TooMuch:PySem.W.nsIn K mainGlobals "TooMuch"=some (some (.ref e_TooMuch)))(x_TooMuch:PySem.W.excIn K e_TooMuch VE "ValueError.__new__"=true)
  :∃fd:FuncData,(∀(s:Shared) (v:Value),BindsTo s fd ⟨[v],[]⟩ [("_law_script",v)])∧∀base:Heap,K.In base→base.Ns mainGlobals mg→zbg l.prog w K mg base (CXE l.prog w) 136 fa fd ["_law_script"] (upF K zfw):=by
 have e:=hfa.symm.trans (PySem.W.mg_of X G a46)
 cases e
 let zag:zcn K mg:=⟨zck,PySem.W.mg_of X G zj8,⟨zkv,zkB,zkY,zj6⟩,zll,zj4,zi2,zk3,zli⟩
 let zac:zc2 K mg:=⟨zbu,PySem.W.mg_of X G zje,⟨zkZ,zkM,zjl,zjH⟩,zkO,ziT,ziZ,ziQ,zjO,zjF,zlh⟩
 let zab:zcq K mg:=⟨zbH,PySem.W.mg_of X G zjh,⟨ziA,zk0,zjc,zjv⟩,zkw,zjI,ziB,zkC,zle⟩
 let zlb:Df K mg "_law_node" zlg zhm:=dfo X G a0 l0 c0 λ_ _ _ _ _ _=>ln2 λ_ _=>rfl
 let zld:Df K mg "_law_weight" zjk zgz:=dfo X G a1 l1 c1 λ_ _ _ _ _ _=>ln2 λ_ _=>rfl
 let zk5:Df K mg "_law_net" zkA zhX:=dfo X G a2 l2 c2 λ_ _ _ _ _ _=>ln1 λ_=>rfl
 let zkT:Df K mg "_law_cell_at" zk2 zht:=dfo X G a3 l3 c3 λ_ _ _ _ _ _=>ln2 λ_ _=>rfl
 let zki:Df K mg "figures_of" zk7 zhg:=dfo X G a4 l4 c4 λ_ _ _ _ _ _=>ln1 λ_=>rfl
 let ziF:Df K mg "written" zko zez:=dfo X G a5 l5 c5 λ_ _ _ _ _ _=>ln1 λ_=>rfl
 let zee:Df K mg "shown" zgS zdG:=dfo X G a6 l6 c6 λ_ _ _ _ _ _=>ln3 λ_ _ _=>rfl
 let zjB:Df K mg "_law_name" zjK zfm:=dfo X G a7 l7 c7 λ_ _ _ _ _ _=>ln2 λ_ _=>rfl
 let zky:Dm K zag.C "__init__" "Net.__init__" zjy zgd:=dmo a8 l8 c8 λ_ _ _ _ _ _=>ln1 λ_=>rfl
 let ziv:Dm K zac.C "__init__" "Task.__init__" ziy zgT:=dmo a9 l9 c9 λ_ _ _ _ _ _=>ln1 λ_=>rfl
 let zjr:Dm K zag.C "nodes" "Net.nodes" zkE zfO:=dmo a10 l10 c10 λ_ _ _ _ _ _=>ln1 λ_=>rfl
 let zjC:Dm K zac.C "nodes" "Task.nodes" zkm zhr:=dmo a11 l11 c11 λ_ _ _ _ _ _=>ln1 λ_=>rfl
 let zla:Df K mg "words_of" zi1 zio:=dfo X G a12 l12 c12 λ_ _ _ _ _ _=>ln1 λ_=>rfl
 let ziW:Df K mg "place_of_sign" zjm zgX:=dfo X G a13 l13 c13 λ_ _ _ _ _ _=>ln1 λ_=>rfl
 let zlc:Dm K zab.C "__init__" "Reader.__init__" zkH zhP:=dmo a14 l14 c14 λ_ _ _ _ _ _=>ln2 λ_ _=>rfl
 let zkU:Dm K zab.C "at_end" "Reader.at_end" zjY zfh:=dmo a15 l15 c15 λ_ _ _ _ _ _=>ln1 λ_=>rfl
 let zka:Dm K zab.C "take" "Reader.take" ziD zc9:=dmo a16 l16 c16 λ_ _ _ _ _ _=>ln1 λ_=>rfl
 let zi8:Df K mg "made_of" zhb zgq:=dfo X G a17 l17 c17 λ_ _ _ _ _ _=>ln3 λ_ _ _=>rfl
 let ziH:Df K mg "is_name" zkr zdB:=dfo X G a18 l18 c18 λ_ _ _ _ _ _=>ln1 λ_=>rfl
 let ziP:Df K mg "greatest_divisor" zj0 zhk:=dfo X G a19 l19 c19 λ_ _ _ _ _ _=>ln2 λ_ _=>rfl
 let zjn:Df K mg "is_whole" zi3 zgK:=dfo X G a20 l20 c20 λ_ _ _ _ _ _=>ln1 λ_=>rfl
 let zkf:Df K mg "fraction" zk8 zhQ:=dfo X G a21 l21 c21 λ_ _ _ _ _ _=>ln2 λ_ _=>rfl
 let zkG:Df K mg "number_of" zjb ze5:=dfo X G a22 l22 c22 λ_ _ _ _ _ _=>ln1 λ_=>rfl
 let zey:Dm K zab.C "bracket" "Reader.bracket" zhz zfJ:=dmo a23 l23 c23 λ_ _ _ _ _ _=>ln1 λ_=>rfl
 let ze8:Dm K zab.C "atom" "Reader.atom" zhT zf4:=dmo a24 l24 c24 λ_ _ _ _ _ _=>ln1 λ_=>rfl
 let ziJ:Dm K zab.C "sees" "Reader.sees" ziO zep:=dmo a25 l25 c25 λ_ _ _ _ _ _=>ln2 λ_ _=>rfl
 let zeB:Dm K zab.C "factor" "Reader.factor" zgy zfU:=dmo a26 l26 c26 λ_ _ _ _ _ _=>ln1 λ_=>rfl
 let zfc:Dm K zab.C "term" "Reader.term" ziq zfK:=dmo a27 l27 c27 λ_ _ _ _ _ _=>ln1 λ_=>rfl
 let zej:Dm K zab.C "expression" "Reader.expression" zhh zd7:=dmo a28 l28 c28 λ_ _ _ _ _ _=>ln1 λ_=>rfl
 let zjU:Df K mg "tree_of" zjS zfk:=dfo X G a29 l29 c29 λ_ _ _ _ _ _=>ln1 λ_=>rfl
 let ziM:Dm K zac.C "check_known" "Task.check_known" zkb zgk:=dmo a30 l30 c30 λ_ _ _ _ _ _=>ln2 λ_ _=>rfl
 let zjG:Df K mg "weight_of" zj7 zgw:=dfo X G a31 l31 c31 λ_ _ _ _ _ _=>ln2 λ_ _=>rfl
 let zi4:Dm K zag.C "put" "Net.put" ziX zec:=dmo a32 l32 c32 λ_ _ _ _ _ _=>ln2 λ_ _=>rfl
 let zk9:Df K mg "copy_of" zjW zfZ:=dfo X G a33 l33 c33 λ_ _ _ _ _ _=>ln1 λ_=>rfl
 let zeo:Df K mg "put_tree" zg3 zdI:=dfo X G a34 l34 c34 λ_ _ _ _ _ _=>ln3 λ_ _ _=>rfl
 let zji:Dm K zac.C "tell_row" "Task.tell_row" zjM zhI:=dmo a35 l35 c35 λ_ _ _ _ _ _=>ln2 λ_ _=>rfl
 let zkj:Df K mg "less" zjz zgJ:=dfo X G a36 l36 c36 λ_ _ _ _ _ _=>ln2 λ_ _=>rfl
 let zjX:Df K mg "ends_of" ziI zhM:=dfo X G a37 l37 c37 λ_ _ _ _ _ _=>ln1 λ_=>rfl
 let zjg:Dm K zac.C "check_new" "Task.check_new" zju zfj:=dmo a38 l38 c38 λ_ _ _ _ _ _=>ln2 λ_ _=>rfl
 let zkD:Dm K zac.C "tell_unknown" "Task.tell_unknown" zkx zhJ:=dmo a39 l39 c39 λ_ _ _ _ _ _=>ln2 λ_ _=>rfl
 let zjZ:Dm K zac.C "tell_part" "Task.tell_part" ziU zgu:=dmo a40 l40 c40 λ_ _ _ _ _ _=>ln2 λ_ _=>rfl
 let zj1:Dm K zac.C "tell" "Task.tell" zjf zh9:=dmo a41 l41 c41 λ_ _ _ _ _ _=>ln2 λ_ _=>rfl
 let zdR:Df K mg "_law_same" zgC zed:=dfo X G a42 l42 c42 λ_ _ _ _ _ _=>ln4 λ_ _ _ _=>rfl
 let zer:Df K mg "_law_text" zh5 zdK:=dfo X G a43 l43 c43 λ_ _ _ _ _ _=>ln3 λ_ _ _=>rfl
 let zjx:Dm K zac.C "rows" "Task.rows" zjd zgB:=dmo a44 l44 c44 λ_ _ _ _ _ _=>ln1 λ_=>rfl
 let zi6:Df K mg "_law_read" zjs zh4:=dfo X G a45 l45 c45 λ_ _ _ _ _ _=>ln5 λ_ _ _ _ _=>rfl
 let zi7:Df K mg "law" zdH zkc:=dfo X G a46 l46 c46 λ_ _ _ _ _ _=>ln1 λ_=>rfl
 have zaF:=PySem.W.mg_none_of X G zaF
 have zd1:=PySem.W.mg_none_of X G zd1
 have zbb:=PySem.W.mg_none_of X G zbb
 have zcA:=PySem.W.mg_none_of X G zcA
 have zbC:=PySem.W.mg_none_of X G zbC
 have zbh:=PySem.W.mg_none_of X G zbh
 have zd8:=PySem.W.mg_none_of X G zd8
 have zen:=PySem.W.mg_none_of X G zen
 have zd9:=PySem.W.mg_none_of X G zd9
 have zbK:=PySem.W.mg_none_of X G zbK
 have zc3:=PySem.W.mg_none_of X G zc3
 have zcC:=PySem.W.mg_none_of X G zcC
 have g_SIGNS:GD l.prog w K mg "SIGNS" _:=zwB (PySem.W.mg_of X G g_SIGNS) gl_SIGNS ⟨rfl,rfl,rfl⟩ rfl (by decide) gs_SIGNS
 have g_ROW_WORDS:GD l.prog w K mg "ROW_WORDS" _:=zov (PySem.W.mg_of X G g_ROW_WORDS) gl_ROW_WORDS ⟨rfl,rfl,rfl⟩ rfl (by decide) gs_ROW_WORDS
 have g_KEPT_WORDS:GT K mg "KEPT_WORDS" ["let","in","grid","fine","looks","solve","boxes","point","right","islands"]:=⟨ga_KEPT_WORDS,_,_,_,PySem.W.mg_of X G g_KEPT_WORDS,gl_KEPT_WORDS,rfl,rfl,(show 10≤sizeLine from zbG (by decide)),(.cons ⟨_,rfl⟩ (.cons ⟨_,rfl⟩ (.cons ⟨_,rfl⟩ (.cons ⟨_,rfl⟩ (.cons ⟨_,rfl⟩ (.cons ⟨_,rfl⟩ (.cons ⟨_,rfl⟩ (.cons ⟨_,rfl⟩ (.cons ⟨_,rfl⟩ (.cons ⟨_,rfl⟩ .nil))))))))))⟩
 have g_MOST_LETTERS:=PySem.W.mg_of X G g_MOST_LETTERS
 have g_LETTERS:=PySem.W.mg_of X G g_LETTERS
 have g_MOST_FIGURES:=PySem.W.mg_of X G g_MOST_FIGURES
 have g_FIGURES:=PySem.W.mg_of X G g_FIGURES
 have g_MOST_BRACKETS:=PySem.W.mg_of X G g_MOST_BRACKETS
 have g_POWERS:GT K mg "POWERS" ["2","3","4","5","6"]:=⟨ga_POWERS,_,_,_,PySem.W.mg_of X G g_POWERS,gl_POWERS,rfl,rfl,(show 5≤sizeLine from zbG (by decide)),(.cons ⟨_,rfl⟩ (.cons ⟨_,rfl⟩ (.cons ⟨_,rfl⟩ (.cons ⟨_,rfl⟩ (.cons ⟨_,rfl⟩ .nil)))))⟩
 have g_SUMS:GD l.prog w K mg "SUMS" _:=zov (PySem.W.mg_of X G g_SUMS) gl_SUMS ⟨rfl,rfl,rfl⟩ rfl (by decide) gs_SUMS
 have g_MOST_WORDS:=PySem.W.mg_of X G g_MOST_WORDS
 have g_MOST_NODES:=PySem.W.mg_of X G g_MOST_NODES
 have g_MOST_WEIGHT:=PySem.W.mg_of X G g_MOST_WEIGHT
 have g_MOST_ROWS:=PySem.W.mg_of X G g_MOST_ROWS
 have g_MOST_UNKNOWNS:=PySem.W.mg_of X G g_MOST_UNKNOWNS
 let zar:Ec K mg "NoRow":=⟨e_NoRow,PySem.W.mg_of X G n_NoRow,x_NoRow⟩
 let zaA:Ec K mg "NoNumber":=⟨e_NoNumber,PySem.W.mg_of X G n_NoNumber,x_NoNumber⟩
 let zaJ:Ec K mg "TooMuch":=⟨e_TooMuch,PySem.W.mg_of X G n_TooMuch,x_TooMuch⟩
 refine⟨PySem.W.fnOf "law" "law" (zeW zdH) (zdO zdH) (zau zdH) .none .none .none m46 none (.ref h46) .none,λs v=>.of_eq rfl,λbase _ _=>?_⟩
 let zmM:=zvx (P:=l.prog) (w:=w) (base:=base) zlb
 let zis:=zwf (P:=l.prog) (w:=w) (base:=base) zld
 let zlP:=zxg (P:=l.prog) (w:=w) (base:=base) zk5 zis zmM zaF
 let zfL:=zrP (P:=l.prog) (w:=w) (base:=base) zkT zaF
 let zjD:=zua (P:=l.prog) (w:=w) (base:=base) zki zd1 zbb
 let zdu:=zwK (P:=l.prog) (w:=w) (base:=base) ziF zjD zcA
 let zcs:=zok (P:=l.prog) (w:=w) (base:=base) zee zdu g_SIGNS 40
 let zdq:=zuQ (P:=l.prog) (w:=w) (base:=base) zjB
 let zcH:=zxo (P:=l.prog) (w:=w) (base:=base) zag zky
 let zfi:=zuC (P:=l.prog) (w:=w) (base:=base) zac zag ziv zcH
 let zdm:=zrs (P:=l.prog) (w:=w) (base:=base) zag zjr zbC
 let zc0:=zt6 (P:=l.prog) (w:=w) (base:=base) zag zac zjC zdm
 let zlZ:=zvH (P:=l.prog) (w:=w) (base:=base) zla zbh zbb zcM
 let zml:=zwS (P:=l.prog) (w:=w) (base:=base) ziW g_ROW_WORDS zd8
 let zfo:=zr2 (P:=l.prog) (w:=w) (base:=base) zab zlc
 let zb0:=zr9 (P:=l.prog) (w:=w) (base:=base) zab zkU zaF
 let za0:=zsX (P:=l.prog) (w:=w) (base:=base) zab zka zar zb0
 let zfb:=zs6 (P:=l.prog) (w:=w) (base:=base) zi8 zen zaF
 let zb7:=zw8 (P:=l.prog) (w:=w) (base:=base) ziH zfb g_KEPT_WORDS g_MOST_LETTERS g_LETTERS
 let zlR:=zu2 (P:=l.prog) (w:=w) (base:=base) ziP
 let zkR:=zsJ (P:=l.prog) (w:=w) (base:=base) zjn zbh zd9 zbK zfv zfA
 let zlJ:=ztF (P:=l.prog) (w:=w) (base:=base) zkf zaA zlR zkR zcA
 let zdi:=zt3 (P:=l.prog) (w:=w) (base:=base) zkG zar zaA zdu zlJ zfb g_MOST_FIGURES g_FIGURES zbK
 let zbA:=zrJ (P:=l.prog) (w:=w) (base:=base) zab ziJ zb0
 let zcX:=znM (P:=l.prog) (w:=w) (base:=base) zab zar zaA zey za0 g_MOST_BRACKETS ze8 zdi zb7 zeB zbA g_POWERS zbK zfc zej g_SUMS 17
 let zeK:=zw7 (P:=l.prog) (w:=w) (base:=base) zab zjU zar zaA zb0 zcX zfo g_MOST_WORDS zaF
 let zdb:=zwC (P:=l.prog) (w:=w) (base:=base) zac ziM zb7
 let zmK:=zxp (P:=l.prog) (w:=w) (base:=base) zjG
 let zbk:=zw6 (P:=l.prog) (w:=w) (base:=base) zag zi4 zaJ zmK g_MOST_NODES g_MOST_WEIGHT zaF
 let zgl:=ztm (P:=l.prog) (w:=w) (base:=base) zag zk9 zaJ zdm zbk zcH
 let zc1:=zpu (P:=l.prog) (w:=w) (base:=base) zag zaJ zeo zbk 130
 let zil:=zqt (P:=l.prog) (w:=w) (base:=base) zac zag zab zji zaJ zar zaA zc1 zgl zdb zeK zml g_ROW_WORDS g_MOST_ROWS zaF
 let zmi:=zsD (P:=l.prog) (w:=w) (base:=base) zkj
 let zmD:=ztV (P:=l.prog) (w:=w) (base:=base) zjX zar zaA zmi zdi zb7 zaF
 let zdo:=zvV (P:=l.prog) (w:=w) (base:=base) zac zjg
 let zhZ:=zxi (P:=l.prog) (w:=w) (base:=base) zac zag zkD zaJ zbk zdo zmD g_MOST_UNKNOWNS zaF
 let zij:=zuD (P:=l.prog) (w:=w) (base:=base) zac zag zab zjZ zaJ zar zaA zc1 zgl zdb zdo zeK zb7 zaF
 let zbV:=zwV (P:=l.prog) (w:=w) (base:=base) zac zag zj1 zil zij zhZ zlZ
 let zdX:=znG (P:=l.prog) (w:=w) (base:=base) zdR zaF zbh zc3 zdr 40
 let zcW:=zot (P:=l.prog) (w:=w) (base:=base) zer zbb 40
 let zib:=zsF (P:=l.prog) (w:=w) (base:=base) zac zjx zbC
 let zlM:=zwd (P:=l.prog) (w:=w) (base:=base) zac zag zi6 zcs zdX zib zc0 zbV zdq zcW zfi zbC zbh zbb zcC zcM
 let G_law:=zrN (P:=l.prog) (w:=w) (base:=base) zi7 zfL zlM zcW zcs zlP zdq zaF zcC zbh zbb zbC zcM
 exact G_law.ok
end Mine
open PySem PySem.W PyProof.Rows
set_option maxRecDepth 100003 in
set_option maxHeartbeats 0 in
theorem PySem.Challenge.cw_boxnarrow_k18_shown_read_again_holds : PySem.Challenge.rw_boxnarrow_k18_shown_read_again.Holds := by
 w_on; o_law
 refine PySem.W.holds_open (q:=Mine.vw) (loose:=[PySem.Str.ofString "SIGNS",PySem.Str.ofString "SUMS",PySem.Str.ofString "ROW_WORDS"]) (Xt:=Mine.xt) (XP:=XL Mine.vw []) (Yf:=Hook.obs (kHook Mine.kp Mine.ks Mine.zgn)) (Ya:=Hook.val (kHook Mine.kp Mine.ks Mine.zgn))
  (YP:=Hook.says (kHook Mine.kp Mine.ks Mine.zgn)) (N:=7310) Mine.left (Hook.of (kHook Mine.kp Mine.ks Mine.zgn)) (Hook.keeps (kHook Mine.kp Mine.ks Mine.zgn)) (λs e=>xl_of s (Bool.and_eq_true_iff.mp e).1) XL.keeps
  (by rfl) (by rfl) (by rfl) (λs e=>recFacts_of (Bool.and_eq_true_iff.mp e).2) (by rfl) (by first | assumption | decide +kernel)
  (by decide +kernel) ⟨rfl,rfl,rfl,rfl,rfl,by decide +kernel⟩ ?hw ?hc
 (case hw=>w_witness2)
 k_fill
 refine L3.zul (l:=PySem.Challenge.rw_boxnarrow_k18_shown_read_again) (x:="_law_script") 136 rfl rfl ⟨rfl,by decide,by decide⟩ (λw h Y=>PySem.W.kIn_of Y) ?F
 case F=>
  intro w mg fa h KX G hmg
  refine' Mine.zuY KX G hmg (zj8:=?zj8) (zkv:=?zkv) (zkB:=?zkB) (zkY:=?zkY) (zj6:=?zj6) (zk3:=?zk3) (zli:=?zli) (zll:=?zll) (zj4:=?zj4) (zi2:=?zi2) (zje:=?zje) (zkZ:=?zkZ) (zkM:=?zkM) (zjl:=?zjl) (zjH:=?zjH) (zjF:=?zjF) (zlh:=?zlh) (zkO:=?zkO) (ziT:=?ziT) (ziZ:=?ziZ) (ziQ:=?ziQ) (zjO:=?zjO) (zjh:=?zjh) (ziA:=?ziA) (zk0:=?zk0) (zjc:=?zjc) (zjv:=?zjv) (zkC:=?zkC) (zle:=?zle) (zkw:=?zkw) (zjI:=?zjI) (ziB:=?ziB) (a0:=?a0) (l0:=?l0) (c0:=?c0) (a1:=?a1) (l1:=?l1) (c1:=?c1) (a2:=?a2) (l2:=?l2) (c2:=?c2) (a3:=?a3) (l3:=?l3) (c3:=?c3) (a4:=?a4) (l4:=?l4) (c4:=?c4) (a5:=?a5) (l5:=?l5) (c5:=?c5) (a6:=?a6) (l6:=?l6) (c6:=?c6) (a7:=?a7) (l7:=?l7) (c7:=?c7) (a8:=?a8) (l8:=?l8) (c8:=?c8) (a9:=?a9) (l9:=?l9) (c9:=?c9) (a10:=?a10) (l10:=?l10) (c10:=?c10) (a11:=?a11) (l11:=?l11) (c11:=?c11) (a12:=?a12) (l12:=?l12) (c12:=?c12) (a13:=?a13) (l13:=?l13) (c13:=?c13) (a14:=?a14) (l14:=?l14) (c14:=?c14) (a15:=?a15) (l15:=?l15) (c15:=?c15) (a16:=?a16) (l16:=?l16) (c16:=?c16) (a17:=?a17) (l17:=?l17) (c17:=?c17) (a18:=?a18) (l18:=?l18) (c18:=?c18) (a19:=?a19) (l19:=?l19) (c19:=?c19) (a20:=?a20) (l20:=?l20) (c20:=?c20) (a21:=?a21) (l21:=?l21) (c21:=?c21) (a22:=?a22) (l22:=?l22) (c22:=?c22) (a23:=?a23) (l23:=?l23) (c23:=?c23) (a24:=?a24) (l24:=?l24) (c24:=?c24) (a25:=?a25) (l25:=?l25) (c25:=?c25) (a26:=?a26) (l26:=?l26) (c26:=?c26) (a27:=?a27) (l27:=?l27) (c27:=?c27) (a28:=?a28) (l28:=?l28) (c28:=?c28) (a29:=?a29) (l29:=?l29) (c29:=?c29) (a30:=?a30) (l30:=?l30) (c30:=?c30) (a31:=?a31) (l31:=?l31) (c31:=?c31) (a32:=?a32) (l32:=?l32) (c32:=?c32) (a33:=?a33) (l33:=?l33) (c33:=?c33) (a34:=?a34) (l34:=?l34) (c34:=?c34) (a35:=?a35) (l35:=?l35) (c35:=?c35) (a36:=?a36) (l36:=?l36) (c36:=?c36) (a37:=?a37) (l37:=?l37) (c37:=?c37) (a38:=?a38) (l38:=?l38) (c38:=?c38) (a39:=?a39) (l39:=?l39) (c39:=?c39) (a40:=?a40) (l40:=?l40) (c40:=?c40) (a41:=?a41) (l41:=?l41) (c41:=?c41) (a42:=?a42) (l42:=?l42) (c42:=?c42) (a43:=?a43) (l43:=?l43) (c43:=?c43) (a44:=?a44) (l44:=?l44) (c44:=?c44) (a45:=?a45) (l45:=?l45) (c45:=?c45) (a46:=?a46) (l46:=?l46) (c46:=?c46) (g_SIGNS:=?g_SIGNS) (gl_SIGNS:=?gl_SIGNS) (gs_SIGNS:=?gs_SIGNS) (g_ROW_WORDS:=?g_ROW_WORDS) (gl_ROW_WORDS:=?gl_ROW_WORDS) (gs_ROW_WORDS:=?gs_ROW_WORDS) (g_KEPT_WORDS:=?g_KEPT_WORDS) (gl_KEPT_WORDS:=?gl_KEPT_WORDS) (g_MOST_LETTERS:=?g_MOST_LETTERS) (g_LETTERS:=?g_LETTERS) (g_MOST_FIGURES:=?g_MOST_FIGURES) (g_FIGURES:=?g_FIGURES) (g_MOST_BRACKETS:=?g_MOST_BRACKETS) (g_POWERS:=?g_POWERS) (gl_POWERS:=?gl_POWERS) (g_SUMS:=?g_SUMS) (gl_SUMS:=?gl_SUMS) (gs_SUMS:=?gs_SUMS) (g_MOST_WORDS:=?g_MOST_WORDS) (g_MOST_NODES:=?g_MOST_NODES) (g_MOST_WEIGHT:=?g_MOST_WEIGHT) (g_MOST_ROWS:=?g_MOST_ROWS) (g_MOST_UNKNOWNS:=?g_MOST_UNKNOWNS) (zaF:=?zaF) (zd1:=?zd1) (zbb:=?zbb) (zcA:=?zcA) (zbC:=?zbC) (zbh:=?zbh) (zd8:=?zd8) (zen:=?zen) (zd9:=?zd9) (zbK:=?zbK) (zc3:=?zc3) (zcC:=?zcC) (n_NoRow:=?n_NoRow) (x_NoRow:=?x_NoRow) (n_NoNumber:=?n_NoNumber) (x_NoNumber:=?x_NoNumber) (n_TooMuch:=?n_TooMuch) (x_TooMuch:=?x_TooMuch) (zcM:=?zcM) (zfv:=?zfv) (zfA:=?zfA) (zdr:=?zdr)
  (case zj8 | zkv | zkB | zkY | zj6 | zk3 | zli | zll | zj4 | zi2 | zje | zkZ | zkM | zjl | zjH | zjF | zlh | zkO | ziT | ziZ | ziQ | zjO | zjh | ziA | zk0 | zjc | zjv | zkC | zle | zkw | zjI | ziB | g_SIGNS | gl_SIGNS=>k_is)
  (case gs_SIGNS=>first | rfl | decide)
  (case g_ROW_WORDS | gl_ROW_WORDS=>k_is)
  (case gs_ROW_WORDS=>first | rfl | decide)
  (case g_KEPT_WORDS | gl_KEPT_WORDS | g_MOST_LETTERS | g_LETTERS | g_MOST_FIGURES | g_FIGURES | g_MOST_BRACKETS | g_POWERS | gl_POWERS | g_SUMS | gl_SUMS=>k_is)
  (case gs_SUMS=>first | rfl | decide)
  (case g_MOST_WORDS | g_MOST_NODES | g_MOST_WEIGHT | g_MOST_ROWS | g_MOST_UNKNOWNS | zaF | zd1 | zbb | zcA | zbC | zbh | zd8 | zen | zd9 | zbK | zc3 | zcC | n_NoRow=>k_is)
  (case x_NoRow=>k_exc)
  (case n_NoNumber=>k_is)
  (case x_NoNumber=>k_exc)
  (case n_TooMuch=>k_is)
  (case x_TooMuch=>k_exc)
  (case a0 | a1 | a2 | a3 | a4 | a5 | a6 | a7 | a12 | a13 | a17 | a18 | a19 | a20 | a21 | a22 | a29 | a31 | a33 | a34 | a36 | a37 | a42 | a43 | a45 | a46=>delta Mine.nsA; k_is)
  (case a8 | a9 | a10 | a11 | a14 | a15 | a16 | a23 | a24 | a25 | a26 | a27 | a28 | a30 | a32 | a35 | a38 | a39 | a40 | a41 | a44=>delta Mine.fdA; k_is)
  (case l0 | l1 | l2 | l3 | l4 | l5 | l6 | l7 | l8 | l9 | l10 | l11 | l12 | l13 | l14 | l15 | l16 | l17 | l18 | l19 | l20 | l21 | l22 | l23 | l24 | l25 | l26 | l27 | l28 | l29 | l30 | l31 | l32 | l33 | l34 | l35 | l36 | l37 | l38 | l39 | l40 | l41 | l42 | l43 | l44 | l45 | l46=>delta Mine.lkA; k_is)
  (case c0 | c1 | c2 | c3 | c4 | c5 | c6 | c7 | c8 | c9 | c10 | c11 | c12 | c13 | c14 | c15 | c16 | c17 | c18 | c19 | c20 | c21 | c22 | c23 | c24 | c25 | c26 | c27 | c28 | c29 | c30 | c31 | c32 | c33 | c34 | c35 | c36 | c37 | c38 | c39 | c40 | c41 | c42 | c43 | c44 | c45 | c46=>delta Mine.cdA; k_is)
  (case zcM=>exact L3.zj3 _ _ (by simp))
  (case zfv=>exact L3.zj3 _ _ (by simp))
  (case zfA=>exact L3.zj3 _ _ (by simp))
  (case zdr=>exact L3.zj3 _ _ (by simp))
