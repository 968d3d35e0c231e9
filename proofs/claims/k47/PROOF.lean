import PyProof.Rows.All
import Wide.All
import OpenK.AllK
import Wide.FinOn
import Lean
import PyProof.EqAt
import PyProof.EqKinds
import PyProof.TupleCall
import PySem.Challenge.RW_boxnarrow_k47_one_of_known_roots
theorem Vaa:type_of% @Nat.le_refl:=@Nat.le_refl
theorem Vab:type_of% @List.length_map:=@List.length_map
theorem Vac:type_of% @List.getElem?_eq_getElem:=@List.getElem?_eq_getElem
theorem Vad:type_of% @List.getElem?_eq_some_iff:=@List.getElem?_eq_some_iff
theorem Vae:type_of% @Int.mul_le_mul_of_nonneg_right:=@Int.mul_le_mul_of_nonneg_right
theorem Vaf:type_of% @List.getElem?_map:=@List.getElem?_map
theorem Vag:type_of% @List.mem_of_getElem?:=@List.mem_of_getElem?
theorem Vah:type_of% @List.mem_map:=@List.mem_map
theorem Vai:type_of% @List.getD_eq_getElem?_getD:=@List.getD_eq_getElem?_getD
theorem Vaj:type_of% @Option.map_eq_some_iff:=@Option.map_eq_some_iff
theorem Vak:type_of% @Nat.zero_le:=@Nat.zero_le
theorem Val:type_of% @List.getElem?_append_left:=@List.getElem?_append_left
theorem Vam:type_of% @Int.toNat_natCast:=@Int.toNat_natCast
theorem Van:type_of% @Nat.ne_of_lt:=@Nat.ne_of_lt
theorem Vao:type_of% @Bool.false_ne_true:=@Bool.false_ne_true
theorem Vap:type_of% @List.size_toArray:=@List.size_toArray
theorem Vaq:type_of% @List.length_take:=@List.length_take
theorem Var:type_of% @Int.pow_succ:=@Int.pow_succ
theorem Vas:type_of% @List.mem_cons:=@List.mem_cons
theorem Vat:type_of% @Int.le_refl:=@Int.le_refl
theorem Vau:type_of% @List.map_map:=@List.map_map
theorem Vav:type_of% @List.length_append:=@List.length_append
theorem Vaw:type_of% @Nat.lt_of_lt_of_le:=@Nat.lt_of_lt_of_le
theorem Vax:type_of% @Int.mul_nonneg:=@Int.mul_nonneg
theorem Vay:type_of% @List.take_length:=@List.take_length
theorem Vaz:type_of% @List.map_cons:=@List.map_cons
theorem VaA:type_of% @List.lookup_cons:=@List.lookup_cons
theorem VaB:type_of% @List.getElem_mem:=@List.getElem_mem
theorem VaC:type_of% @Int.mul_pos:=@Int.mul_pos
theorem VaD:type_of% @Nat.le_trans:=@Nat.le_trans
theorem VaE:type_of% @List.length_cons:=@List.length_cons
theorem VaF:type_of% @List.take_of_length_le:=@List.take_of_length_le
theorem VaG:type_of% @List.getElem?_append_right:=@List.getElem?_append_right
theorem VaH:type_of% @Nat.lt_irrefl:=@Nat.lt_irrefl
theorem VaI:type_of% @List.mem_append_right:=@List.mem_append_right
theorem VaJ:type_of% @List.mem_iff_getElem:=@List.mem_iff_getElem
theorem VaK:type_of% @Int.le_of_mul_le_mul_right:=@Int.le_of_mul_le_mul_right
theorem VaL:type_of% @Int.pow_pos:=@Int.pow_pos
theorem VaM:type_of% @List.getElem?_set_ne:=@List.getElem?_set_ne
theorem VaN:type_of% @Nat.pow_pos:=@Nat.pow_pos
theorem VaO:type_of% @Int.pow_nonneg:=@Int.pow_nonneg
theorem VaP:type_of% @List.getElem?_eq_none:=@List.getElem?_eq_none
theorem VaQ:type_of% @List.mem_append:=@List.mem_append
theorem VaR:type_of% @Int.mul_pow:=@Int.mul_pow
theorem VaS:type_of% @List.mem_singleton:=@List.mem_singleton
theorem VaT:type_of% @List.mem_cons_of_mem:=@List.mem_cons_of_mem
theorem VaU:type_of% @Int.zero_mul:=@Int.zero_mul
theorem VaV:type_of% @List.getElem?_eq_none_iff:=@List.getElem?_eq_none_iff
theorem VaW:type_of% @List.map_append:=@List.map_append
theorem VaX:type_of% @Nat.le_of_lt:=@Nat.le_of_lt
theorem VaY:type_of% @Int.mul_one:=@Int.mul_one
theorem VaZ:type_of% @Option.isSome_iff_exists:=@Option.isSome_iff_exists
theorem Va0:type_of% @Int.mul_comm:=@Int.mul_comm
theorem Va1:type_of% @Int.neg_mul:=@Int.neg_mul
theorem Va2:type_of% @List.take_succ:=@List.take_succ
theorem Va3:type_of% @List.length_nil:=@List.length_nil
theorem Va4:type_of% @List.find?_cons:=@List.find?_cons
theorem Va5:type_of% @Nat.mul_le_mul:=@Nat.mul_le_mul
theorem Va6:type_of% @List.mem_range:=@List.mem_range
theorem Va7:type_of% @List.mem_cons_self:=@List.mem_cons_self
theorem Va8:type_of% @List.getElem?_set_self:=@List.getElem?_set_self
theorem Va9:type_of% @Bool.eq_iff_iff:=@Bool.eq_iff_iff
theorem Vba:type_of% @List.replicate_succ:=@List.replicate_succ
theorem Vbb:type_of% @Nat.sub_self:=@Nat.sub_self
theorem Vbc:type_of% @List.length_range:=@List.length_range
theorem Vbd:type_of% @List.getElem?_range:=@List.getElem?_range
theorem Vbe:type_of% @List.append_nil:=@List.append_nil
theorem Vbf:type_of% @List.flatten_cons:=@List.flatten_cons
theorem Vbg:type_of% @Int.natAbs_mul:=@Int.natAbs_mul
theorem Vbh:type_of% @Int.pow_zero:=@Int.pow_zero
theorem Vbi:type_of% @Int.mul_le_mul:=@Int.mul_le_mul
theorem Vbj:type_of% @List.ext_getElem?:=@List.ext_getElem?
theorem Vbk:type_of% @Int.le_trans:=@Int.le_trans
set_option Elab.async false
set_option linter.all false
set_option maxRecDepth 100000
set_option maxHeartbeats 40000000
namespace L2
open PySem PySem.Spec PyProof.Rows
def zaN (s:Stmt)(j:Nat):Stmt:=match s with
 | .ClassDef _ _ _ body _ _ _ _ _ _ _=>body.getD j (.Pass ⟨0,0,0,0⟩)
 | _=>.Pass ⟨0,0,0,0⟩
def zeb (s:Stmt):Arguments:=match s with
 | .FunctionDef _ a _ _ _ _ _ _ _ _=>a
 | _=>{ posonlyargs:=[],args:=[],vararg:=none,kwonlyargs:=[],kw_defaults:=[],kwarg:=none,defaults:=[] }
def zdf (s:Stmt):List Stmt:=match s with
 | .FunctionDef _ _ b _ _ _ _ _ _ _=>b
 | _=>[]
def zam (s:Stmt):Scope:=match s with
 | .FunctionDef _ _ _ _ _ _ sc _ _ _=>sc
 | _=>{ kind:=.function,names:=[],isGenerator:=false,isCoroutine:=false }
end L2
namespace L3
open PySem PySem.W PyProof.Rows PySem.Calls
def goT (tb:String→Option Builtin)(p:Program)(w:World)(n₀:Nat)(ann:Option Value):Nat→SharedT→Thread→Option SharedT
 | 0,_,_=>none
 | k+1,s,t=>bif through t then some s else bif stepOk n₀ ann t then (stepT (denote tb) p w s t).bind (λr=>goT tb p w n₀ ann k r.1 r.2) else none
theorem zq7 {tb:String→Option Builtin}{p:Program}{w:World}{n₀:Nat}{ann:Option Value}:∀ {n:Nat} {s s':SharedT} {t:Thread},goT tb p w n₀ ann n s t=some s'→topRun tb p w n₀ ann n s.abs t=some s'.abs
 | 0,_,_,_,q=>nomatch q
 | n+1,s,s',t,q=>by
  unfold goT at q
  unfold topRun
  cases c1:through t
  ·rw[c1] at q
   cases c2:stepOk n₀ ann t
   ·rw[c2] at q
    exact nomatch q
   ·rw[c2] at q
    obtain⟨⟨s2,t2⟩,c3,q⟩:=Option.bind_eq_some_iff.mp q
    rw[stepT_spec c3]
    exact zq7 q
  ·rw[c1] at q
   cases q
   rfl
def zoc (os:Array Obj):Nat→Nat→Nat→BT
 | 0,_,_=>.nil
 | f+1,a,b=>match os[b]? with
  | some o=>.node o (zoc os f (2*a) (a+b)) (zoc os f (2*a) (2*a+b))
  | none=>.nil
noncomputable def bootT (P:Params):BT:=zoc (boot_heap P).objs 6 1 0
noncomputable abbrev zdd (w:World)(os:OsState):SharedT:=⟨bootT w.params,11,(boot_heap w.params).life,Array.mk [],boot_drawn,boot_toks,os⟩
def ziO (s:SharedT)(a:Addr):Option Obj:=if a<s.n then (match s.tree.get a with | some o=>alive o | none=>s.abs.heap.get? a) else none
theorem zwv (s:SharedT)(a:Addr):s.abs.heap.get? a=ziO s a:=by
 unfold ziO
 split
 ·rename_i h
  cases e:s.tree.get a with
  | none=>rfl
  | some o=>exact abs_get h e
 ·rename_i h
  exact abs_get_none h
theorem zrN (l:List Addr)(s:SharedT):l.map s.abs.heap.get?=l.map (ziO s):=List.map_congr_left λa _=>zwv s a
noncomputable abbrev seenT (p q:Program)(loose:List Str)(Xt:Shared→Bool){α:Type}(YT:SharedT→α)(g0:Bool)(w:World)(s:SharedT):=
 ((staticsOk (importedModules p.main.body) (boot_heap w.params) s.abs.heap&&namesBound p s.abs.heap&&gensDone s.abs&&laidKept (boot_heap w.params) s.abs.heap),openSeen q loose (importedModules p.main.body) Xt g0 s.abs,YT s)
theorem zsr {p q:Program}{loose:List Str}{Xt:Shared→Bool}{α:Type}{Yf:Shared→α}{YT:SharedT→α}{Ya:World→α}{N:Nat}{g0:Bool}{ann:Option Value}(hY:∀s:SharedT,Yf s.abs=YT s)(e:opening p=plainProg p.main.scope.names)(hN:Nat.ble 600 N=true)(f:∀s,fenceModules? p s=some s)
  (size:∀w:World,((boot_heap w.params).isNs mainGlobals&&(Array.mk []:Array GenState).size==0,(boot_heap w.params).objs.size,(boot_heap w.params).nsMap mainGlobals "__annotations__")=(true,11,ann))
  (run:∀w:World,(λos=>(goT treeTable p w 11 ann N (zdd w os) (topStub p)).map λs=>seenT p q loose Xt YT g0 w s)=λ_=>some (true,openGood q loose,Ya w)):LeftO p q loose Xt Yf Ya N g0:=λw=>by
 obtain⟨⟨h,gs,d,k,os⟩,e1,e'⟩:=Vaj.mp (boot_open e hN f w)
 obtain⟨rfl,rfl,rfl,rfl⟩:h=boot_heap w.params∧gs=Array.mk []∧d=boot_drawn∧k=boot_toks:=by simpa using e'
 obtain⟨y1,y2,y3⟩:_∧_∧_:=by simpa only [Prod.mk.injEq] using size w
 obtain⟨s',r1,r2⟩:=Vaj.mp (congrFun (run w) os)
 obtain⟨l1,l2,l3⟩:_∧_∧_:=by simpa only [Prod.mk.injEq] using r2
 have r:topRun treeTable p w 11 ann N ⟨boot_heap w.params,Array.mk [],boot_drawn,boot_toks,os⟩ (topStub p)=some s'.abs:=by
  have z:=zq7 r1
  exact z
 have t:topFrom treeTable p w N ⟨boot_heap w.params,Array.mk [],boot_drawn,boot_toks,os⟩=some s'.abs:=by
  unfold topFrom
  dsimp only
  rw[y1,y2,y3,r]
  show (match staticsOk (importedModules p.main.body) (boot_heap w.params) s'.abs.heap&&namesBound p s'.abs.heap&&gensDone s'.abs&&laidKept (boot_heap w.params) s'.abs.heap with | true=>_ | false=>_)=_
  rw[l1]
 unfold openEnds
 rw[e1]
 show Option.map _ (topFrom treeTable p w N _)=_
 rw[t]
 exact congrArg some (Prod.ext l2 ((hY s').trans l3))
noncomputable abbrev znc (p:Program)(w:World)(s:SharedT):Bool:=staticsOk (importedModules p.main.body) (boot_heap w.params) s.abs.heap&&namesBound p s.abs.heap&&gensDone s.abs&&laidKept (boot_heap w.params) s.abs.heap
theorem zt9 {p q:Program}{loose:List Str}{Xt:Shared→Bool}{α:Type}{Yf:Shared→α}{YT:SharedT→α}{Ya:World→α}{N:Nat}{g0:Bool}{ann:Option Value}(hY:∀s:SharedT,Yf s.abs=YT s)(e:opening p=plainProg p.main.scope.names)(hN:Nat.ble 600 N=true)(f:∀s,fenceModules? p s=some s)
  (size:∀w:World,((boot_heap w.params).isNs mainGlobals&&(Array.mk []:Array GenState).size==0,(boot_heap w.params).objs.size,(boot_heap w.params).nsMap mainGlobals "__annotations__")=(true,11,ann))
  (ra:∀w:World,(λos=>(goT treeTable p w 11 ann N (zdd w os) (topStub p)).map λs=>(znc p w s,(openSeen q loose (importedModules p.main.body) Xt g0 s.abs).1))=λ_=>some (true,(openGood q loose).1))
  (rb:∀w:World,(λos=>(goT treeTable p w 11 ann N (zdd w os) (topStub p)).map λs=>((openSeen q loose (importedModules p.main.body) Xt g0 s.abs).2.1,(openSeen q loose (importedModules p.main.body) Xt g0 s.abs).2.2.1))=λ_=>some ((openGood q loose).2.1,(openGood q loose).2.2.1))
  (rc:∀w:World,(λos=>(goT treeTable p w 11 ann N (zdd w os) (topStub p)).map λs=>(openSeen q loose (importedModules p.main.body) Xt g0 s.abs).2.2.2)=λ_=>some (openGood q loose).2.2.2)
  (objs:∀w:World,(λos=>(goT treeTable p w 11 ann N (zdd w os) (topStub p)).map YT)=λ_=>some (Ya w)):LeftO p q loose Xt Yf Ya N g0:=by
 refine zsr hY e hN f size λw=>funext λos=>?_
 obtain⟨s1,a1,b1⟩:=Vaj.mp (congrFun (ra w) os)
 obtain⟨s2,a2,b2⟩:=Vaj.mp (congrFun (rb w) os)
 obtain⟨s3,a3,b3⟩:=Vaj.mp (congrFun (rc w) os)
 obtain⟨s4,a4,b4⟩:=Vaj.mp (congrFun (objs w) os)
 rw[a1] at a2 a3 a4
 cases a2
 cases a3
 cases a4
 obtain⟨l1,l2⟩:=Prod.mk.inj b1
 obtain⟨l3,l4⟩:=Prod.mk.inj b2
 have l5:openSeen q loose (importedModules p.main.body) Xt g0 s1.abs=openGood q loose:=Prod.ext l2 (Prod.ext l3 (Prod.ext l4 b3))
 rw[a1]
 show some (znc p w s1,openSeen q loose (importedModules p.main.body) Xt g0 s1.abs,YT s1)=some (true,openGood q loose,Ya w)
 rw[l1,l5,b4]
end L3
namespace Mine
open PySem PySem.Spec PyProof.Rows L2 L3
def top (i:Nat):Stmt:=PySem.Challenge.pw_boxnarrow_k47_one_of_known_roots.main.body.getD i (.Pass ⟨0,0,0,0⟩)
theorem ws_eq:PySem.W.OpenLaw.wellSaid PySem.Challenge.rw_boxnarrow_k47_one_of_known_roots=true:=by decide +kernel
def vw:Program:={ PySem.Challenge.pw_boxnarrow_k47_one_of_known_roots with main:={ PySem.Challenge.pw_boxnarrow_k47_one_of_known_roots.main with body:=[top 0,top 2,top 3,top 4,top 5,top 6,top 7,top 8,top 10,top 11,top 13,top 14,top 16,top 17,top 18,top 19,top 20,top 21,top 22,top 23,top 24,top 26,top 27,top 28,top 29,top 30,top 31,top 32,top 33,top 34,top 36,top 37,top 39,top 41,top 42,top 43,top 44,top 45,top 46,top 47,top 48,top 49,top 50,top 51,top 52,top 53,top 55,top 56,top 57,top 58,top 59,top 60,top 61,top 62,top 63,top 64,top 65,top 66,top 67,top 68,top 69,top 70,top 71] } }
noncomputable abbrev de (P:Params)(s:Str)(t:Tok)(v:Value):DictEntry:=⟨PySem.PyData.keyHash P s,.str s t,v⟩
abbrev co (n q:Str)(a b c d:Tok)(i k:Int)(r s:Addr)(y z:Value)(t:Addr)(j:Int):Obj:=⟨.type "code",none,.fields #[.str n a,.str q b,.str "/claim/cut.py" c,.int i 0,.int k 0,.int 0 0,.int 0 0,.int 3 0,.ref r,.bool Bool.true,.int 181 0,.ref s,.none,y,z,.ref t,.int j 0,.int i 0,.str "/claim/cut.py" d],#[]⟩
abbrev fo (n q:Str)(st:Stmt)(m:Value)(c:Addr):Obj:=⟨.type "function",none,.func (PySem.W.fnOf n q (zeb st) (zdf st) (zam st) .none .none .none m none (.ref c) .none),#[]⟩
noncomputable def kp:Params→PySem.W.Frag:=λP=>
 (nat_lit 3,(.mk (.type "dict") none (.dict #[(de P "__name__" 165 (.str "law_boxnarrow_k47_one_of_known_roots" 976)),(de P "__doc__" 166 .none),(de P "__package__" 167 .none),(de P "__loader__" 168 (.builtin "__main__.__loader__#opaque")),(de P "__spec__" 169 .none),(de P "__annotations__" 170 (.ref 6)),(de P "__builtins__" 171 (.ref 4)),(de P "__file__" 173 (.str "/claim/cut.py" 172)),(de P "__cached__" 174 .none),(de P "_wall" 193 (.ref 21)),(de P "signed" 203 (.ref 28)),(de P "without" 209 (.ref 33)),(de P "cofactor" 218 (.ref 40)),(de P "determinant" 224 (.ref 45)),(de P "inverse_entry" 235 (.ref 52)),(de P "inverse_row" 241 (.ref 57)),(de P "inverse" 247 (.ref 62)),(de P "BoxError" 267 (.ref 72)),(de P "NoSpan" 283 (.ref 85)),(de P "raised" 295 (.ref 94)),(de P "less" 303 (.ref 101)),(de P "rounded_up" 313 (.ref 108)),(de P "span_of" 322 (.ref 115)),(de P "add_spans" 330 (.ref 122)),(de P "take_spans" 338 (.ref 129)),(de P "mul_spans" 348 (.ref 136)),(de P "raise_span" 354 (.ref 141)),(de P "scale_span" 362 (.ref 148)),(de P "deep" 370 (.ref 155)),(de P "middle" 377 (.ref 162)),(de P "Node" 399 (.ref 172)),(de P "Number" 467 (.ref 221)),(de P "Unknown" 527 (.ref 266)),(de P "Pair" 570 (.ref 297)),(de P "Plus" 639 (.ref 344)),(de P "Minus" 708 (.ref 391)),(de P "Times" 777 (.ref 438)),(de P "Power" 839 (.ref 483)),(de P "kind_of" 846 (.ref 492)),(de P "worths" 859 (.ref 499)),(de P "sure" 867 (.ref 506)),(de P "slopes" 881 (.ref 513)),(de P "equation_places" 889 (.ref 518)),(de P "picked" 895 (.ref 523)),(de P "middles" 901 (.ref 528)),(de P "box_of_middles" 907 (.ref 533)),(de P "sum_of_products" 919 (.ref 540)),(de P "lacking" 925 (.ref 545)),(de P "span_by" 931 (.ref 550)),(de P "step_by" 937 (.ref 555)),(de P "thin_worths" 947 (.ref 562)),(de P "slopes_at" 957 (.ref 569)),(de P "leasts_are_sure" 963 (.ref 574)),(de P "all_deep" 969 (.ref 579)),(de P "alone" 975 (.ref 584)),(de P "_law_cell" 985 (.ref 591)),(de P "_law_whole" 992 (.ref 598)),(de P "_law_span" 999 (.ref 605)),(de P "_law_spans" 1008 (.ref 612)),(de P "_law_lowest" 1018 (.ref 619)),(de P "_law_grid" 1025 (.ref 626)),(de P "_law_at" 1033 (.ref 633)),(de P "_law_holds" 1042 (.ref 640)),(de P "_law_deep" 1051 (.ref 647)),(de P "_law_numbers" 1066 (.ref 654)),(de P "_law_product_of" 1079 (.ref 661)),(de P "_law_answers" 1092 (.ref 668)),(de P "_law_about" 1105 (.ref 675)),(de P "_law_in" 1115 (.ref 682)),(de P "_law_two" 1121 (.ref 687)),(de P "_law_one" 1135 (.ref 694)),(de P "law" 1141 (.ref 699))] 72) #[]))::
 (nat_lit 27,co "signed" "signed" 196 197 198 202 5 2 22 23 (.ref 24) (.ref 25) 26 201)::
 (nat_lit 28,fo "signed" "signed" (top 2) (.str "boxnarrow.matrices" 194) 27)::
 (nat_lit 32,co "without" "without" 204 205 206 208 7 3 29 30 .none .none 31 207)::
 (nat_lit 33,fo "without" "without" (top 3) (.str "boxnarrow.matrices" 194) 32)::
 (nat_lit 39,co "cofactor" "cofactor" 210 211 212 217 10 3 34 35 (.ref 36) (.ref 37) 38 216)::
 (nat_lit 40,fo "cofactor" "cofactor" (top 4) (.str "boxnarrow.matrices" 194) 39)::
 (nat_lit 44,co "determinant" "determinant" 219 220 221 223 12 1 41 42 .none .none 43 222)::
 (nat_lit 45,fo "determinant" "determinant" (top 5) (.str "boxnarrow.matrices" 194) 44)::
 (nat_lit 51,co "inverse_entry" "inverse_entry" 225 226 227 234 16 5 46 47 (.ref 48) (.ref 49) 50 233)::
 (nat_lit 52,fo "inverse_entry" "inverse_entry" (top 6) (.str "boxnarrow.matrices" 194) 51)::
 (nat_lit 56,co "inverse_row" "inverse_row" 236 237 238 240 18 4 53 54 .none .none 55 239)::
 (nat_lit 57,fo "inverse_row" "inverse_row" (top 7) (.str "boxnarrow.matrices" 194) 56)::
 (nat_lit 61,co "inverse" "inverse" 242 243 244 246 20 2 58 59 .none .none 60 245)::
 (nat_lit 62,fo "inverse" "inverse" (top 8) (.str "boxnarrow.matrices" 194) 61)::
 (nat_lit 71,(.mk (.type "dict") none (.dict #[(de P "__module__" 257 (.str "boxnarrow.errors" 248)),(de P "__firstlineno__" 261 (.int 26 260)),(de P "__static_attributes__" 262 (.ref 70)),(de P "__weakref__" 264 (.ref 73)),(de P "__doc__" 265 .none)] 3) #[]))::
 (nat_lit 72,(.mk (.type "type") none (.cls (PySem.ClassData.mk "BoxError" [(.type "ValueError")] [(.ref 72),(.type "ValueError"),(.type "Exception"),(.type "BaseException"),(.type "object")] 71 "BoxError" Bool.true [] [(.ref 85)] Bool.false none Bool.false)) #[(some (.ref 63)),none,(some (.str "BoxError" 250)),(some (.str "BoxError" 258)),(some (.builtin "ValueError.__new__")),(some (.bool Bool.true))]))::
 (nat_lit 84,(.mk (.type "dict") none (.dict #[(de P "__module__" 275 (.str "boxnarrow.errors" 248)),(de P "__firstlineno__" 279 (.int 28 278)),(de P "__static_attributes__" 280 (.ref 83)),(de P "__doc__" 281 .none)] 2) #[]))::
 (nat_lit 85,(.mk (.type "type") none (.cls (PySem.ClassData.mk "NoSpan" [(.ref 72)] [(.ref 85),(.ref 72),(.type "ValueError"),(.type "Exception"),(.type "BaseException"),(.type "object")] 84 "NoSpan" Bool.true [] [] Bool.false none Bool.false)) #[(some (.ref 76)),none,(some (.str "NoSpan" 268)),(some (.str "NoSpan" 276)),(some (.builtin "ValueError.__new__")),(some (.bool Bool.true))]))::
 (nat_lit 93,co "raised" "raised" 286 287 288 294 31 2 88 89 (.ref 90) (.ref 91) 92 293)::
 (nat_lit 94,fo "raised" "raised" (top 13) (.str "boxnarrow.fractions" 284) 93)::
 (nat_lit 100,co "less" "less" 296 297 298 302 36 2 95 96 (.ref 97) (.ref 98) 99 301)::
 (nat_lit 101,fo "less" "less" (top 14) (.str "boxnarrow.fractions" 284) 100)::
 (nat_lit 107,co "rounded_up" "rounded_up" 306 307 308 312 39 2 102 103 (.ref 104) (.ref 105) 106 311)::
 (nat_lit 108,fo "rounded_up" "rounded_up" (top 16) (.str "boxnarrow.spans" 304) 107)::
 (nat_lit 114,co "span_of" "span_of" 314 315 316 321 41 3 109 110 (.ref 111) (.ref 112) 113 320)::
 (nat_lit 115,fo "span_of" "span_of" (top 17) (.str "boxnarrow.spans" 304) 114)::
 (nat_lit 121,co "add_spans" "add_spans" 323 324 325 329 45 2 116 117 (.ref 118) (.ref 119) 120 328)::
 (nat_lit 122,fo "add_spans" "add_spans" (top 18) (.str "boxnarrow.spans" 304) 121)::
 (nat_lit 128,co "take_spans" "take_spans" 331 332 333 337 47 2 123 124 (.ref 125) (.ref 126) 127 336)::
 (nat_lit 129,fo "take_spans" "take_spans" (top 19) (.str "boxnarrow.spans" 304) 128)::
 (nat_lit 135,co "mul_spans" "mul_spans" 339 340 341 347 49 3 130 131 (.ref 132) (.ref 133) 134 346)::
 (nat_lit 136,fo "mul_spans" "mul_spans" (top 20) (.str "boxnarrow.spans" 304) 135)::
 (nat_lit 140,co "raise_span" "raise_span" 349 350 351 353 52 3 137 138 .none .none 139 352)::
 (nat_lit 141,fo "raise_span" "raise_span" (top 21) (.str "boxnarrow.spans" 304) 140)::
 (nat_lit 147,co "scale_span" "scale_span" 355 356 357 361 59 2 142 143 (.ref 144) (.ref 145) 146 360)::
 (nat_lit 148,fo "scale_span" "scale_span" (top 22) (.str "boxnarrow.spans" 304) 147)::
 (nat_lit 154,co "deep" "deep" 363 364 365 369 61 2 149 150 (.ref 151) (.ref 152) 153 368)::
 (nat_lit 155,fo "deep" "deep" (top 23) (.str "boxnarrow.spans" 304) 154)::
 (nat_lit 161,co "middle" "middle" 371 372 373 376 63 1 156 157 (.ref 158) (.ref 159) 160 375)::
 (nat_lit 162,fo "middle" "middle" (top 24) (.str "boxnarrow.spans" 304) 161)::
 (nat_lit 171,(.mk (.type "dict") none (.dict #[(de P "__module__" 387 (.str "boxnarrow.kinds" 378)),(de P "__firstlineno__" 391 (.int 66 390)),(de P "__static_attributes__" 392 (.ref 170)),(de P "__dict__" 394 (.ref 173)),(de P "__weakref__" 396 (.ref 174)),(de P "__doc__" 397 .none)] 4) #[]))::
 (nat_lit 172,(.mk (.type "type") none (.cls (PySem.ClassData.mk "Node" [(.type "object")] [(.ref 172),(.type "object")] 171 "Node" Bool.true [] [(.ref 221),(.ref 266),(.ref 297),(.ref 483)] Bool.false none Bool.false)) #[none,none,(some (.str "Node" 380)),(some (.str "Node" 388)),(some (.builtin "object.__new__")),(some (.bool Bool.true))]))::
 (nat_lit 189,co "__init__" "Number.__init__" 412 413 414 419 70 3 184 185 (.ref 186) (.ref 187) 188 418)::
 (nat_lit 190,fo "__init__" "Number.__init__" (zaN (top 27) 0) (.str "boxnarrow.kinds" 378) 189)::
 (nat_lit 203,co "forth" "Number.forth" 430 431 432 439 77 4 198 199 (.ref 200) (.ref 201) 202 438)::
 (nat_lit 204,fo "forth" "Number.forth" (zaN (top 27) 2) (.str "boxnarrow.kinds" 378) 203)::
 (nat_lit 217,co "slope" "Number.slope" 451 452 453 460 84 5 212 213 (.ref 214) (.ref 215) 216 459)::
 (nat_lit 218,fo "slope" "Number.slope" (zaN (top 27) 4) (.str "boxnarrow.kinds" 378) 217)::
 (nat_lit 220,(.mk (.type "dict") none (.dict #[(de P "__module__" 407 (.str "boxnarrow.kinds" 378)),(de P "__firstlineno__" 411 (.int 68 410)),(de P "__init__" 420 (.ref 190)),(de P "exact" 429 (.ref 197)),(de P "forth" 440 (.ref 204)),(de P "back" 450 (.ref 211)),(de P "slope" 461 (.ref 218)),(de P "__static_attributes__" 464 (.ref 219)),(de P "__doc__" 465 .none)] 2) #[]))::
 (nat_lit 221,(.mk (.type "type") none (.cls (PySem.ClassData.mk "Number" [(.ref 172)] [(.ref 221),(.ref 172),(.type "object")] 220 "Number" Bool.true [] [] Bool.false none Bool.false)) #[(some (.ref 177)),none,(some (.str "Number" 400)),(some (.str "Number" 408)),(some (.builtin "object.__new__")),(some (.bool Bool.true))]))::
 (nat_lit 236,co "__init__" "Unknown.__init__" 480 481 482 486 88 2 231 232 (.ref 233) (.ref 234) 235 485)::
 (nat_lit 237,fo "__init__" "Unknown.__init__" (zaN (top 28) 0) (.str "boxnarrow.kinds" 378) 236)::
 (nat_lit 250,co "forth" "Unknown.forth" 497 498 499 505 94 4 245 246 (.ref 247) (.ref 248) 249 504)::
 (nat_lit 251,fo "forth" "Unknown.forth" (zaN (top 28) 2) (.str "boxnarrow.kinds" 378) 250)::
 (nat_lit 262,co "slope" "Unknown.slope" 517 518 519 521 100 5 259 260 .none .none 261 520)::
 (nat_lit 263,fo "slope" "Unknown.slope" (zaN (top 28) 4) (.str "boxnarrow.kinds" 378) 262)::
 (nat_lit 265,(.mk (.type "dict") none (.dict #[(de P "__module__" 475 (.str "boxnarrow.kinds" 378)),(de P "__firstlineno__" 479 (.int 86 478)),(de P "__init__" 487 (.ref 237)),(de P "exact" 496 (.ref 244)),(de P "forth" 506 (.ref 251)),(de P "back" 516 (.ref 258)),(de P "slope" 522 (.ref 263)),(de P "__static_attributes__" 524 (.ref 264)),(de P "__doc__" 525 .none)] 2) #[]))::
 (nat_lit 266,(.mk (.type "type") none (.cls (PySem.ClassData.mk "Unknown" [(.ref 172)] [(.ref 266),(.ref 172),(.type "object")] 265 "Unknown" Bool.true [] [] Bool.false none Bool.false)) #[(some (.ref 224)),none,(some (.str "Unknown" 468)),(some (.str "Unknown" 476)),(some (.builtin "object.__new__")),(some (.bool Bool.true))]))::
 (nat_lit 281,co "__init__" "Pair.__init__" 540 541 542 547 104 3 276 277 (.ref 278) (.ref 279) 280 546)::
 (nat_lit 282,fo "__init__" "Pair.__init__" (zaN (top 29) 0) (.str "boxnarrow.kinds" 378) 281)::
 (nat_lit 293,co "slope" "Pair.slope" 559 560 561 563 111 5 290 291 .none .none 292 562)::
 (nat_lit 294,fo "slope" "Pair.slope" (zaN (top 29) 2) (.str "boxnarrow.kinds" 378) 293)::
 (nat_lit 296,(.mk (.type "dict") none (.dict #[(de P "__module__" 535 (.str "boxnarrow.kinds" 378)),(de P "__firstlineno__" 539 (.int 102 538)),(de P "__init__" 548 (.ref 282)),(de P "back" 558 (.ref 289)),(de P "slope" 564 (.ref 294)),(de P "__static_attributes__" 567 (.ref 295)),(de P "__doc__" 568 .none)] 2) #[]))::
 (nat_lit 297,(.mk (.type "type") none (.cls (PySem.ClassData.mk "Pair" [(.ref 172)] [(.ref 297),(.ref 172),(.type "object")] 296 "Pair" Bool.true [] [(.ref 344),(.ref 391),(.ref 438)] Bool.false none Bool.false)) #[(some (.ref 269)),none,(some (.str "Pair" 528)),(some (.str "Pair" 536)),(some (.builtin "object.__new__")),(some (.bool Bool.true))]))::
 (nat_lit 319,co "forth" "Plus.forth" 592 593 594 600 120 4 314 315 (.ref 316) (.ref 317) 318 599)::
 (nat_lit 320,fo "forth" "Plus.forth" (zaN (top 30) 1) (.str "boxnarrow.kinds" 378) 319)::
 (nat_lit 340,co "slope_of_both" "Plus.slope_of_both" 624 625 626 634 129 6 335 336 (.ref 337) (.ref 338) 339 633)::
 (nat_lit 341,fo "slope_of_both" "Plus.slope_of_both" (zaN (top 30) 4) (.str "boxnarrow.kinds" 378) 340)::
 (nat_lit 343,(.mk (.type "dict") none (.dict #[(de P "__module__" 578 (.str "boxnarrow.kinds" 378)),(de P "__firstlineno__" 582 (.int 115 581)),(de P "exact" 591 (.ref 313)),(de P "forth" 601 (.ref 320)),(de P "first_left" 612 (.ref 327)),(de P "second_left" 623 (.ref 334)),(de P "slope_of_both" 635 (.ref 341)),(de P "__static_attributes__" 636 (.ref 342)),(de P "__doc__" 637 .none)] 2) #[]))::
 (nat_lit 344,(.mk (.type "type") none (.cls (PySem.ClassData.mk "Plus" [(.ref 297)] [(.ref 344),(.ref 297),(.ref 172),(.type "object")] 343 "Plus" Bool.true [] [] Bool.false none Bool.false)) #[(some (.ref 300)),none,(some (.str "Plus" 571)),(some (.str "Plus" 579)),(some (.builtin "object.__new__")),(some (.bool Bool.true))]))::
 (nat_lit 366,co "forth" "Minus.forth" 661 662 663 669 136 4 361 362 (.ref 363) (.ref 364) 365 668)::
 (nat_lit 367,fo "forth" "Minus.forth" (zaN (top 31) 1) (.str "boxnarrow.kinds" 378) 366)::
 (nat_lit 387,co "slope_of_both" "Minus.slope_of_both" 693 694 695 703 145 6 382 383 (.ref 384) (.ref 385) 386 702)::
 (nat_lit 388,fo "slope_of_both" "Minus.slope_of_both" (zaN (top 31) 4) (.str "boxnarrow.kinds" 378) 387)::
 (nat_lit 390,(.mk (.type "dict") none (.dict #[(de P "__module__" 647 (.str "boxnarrow.kinds" 378)),(de P "__firstlineno__" 651 (.int 131 650)),(de P "exact" 660 (.ref 360)),(de P "forth" 670 (.ref 367)),(de P "first_left" 681 (.ref 374)),(de P "second_left" 692 (.ref 381)),(de P "slope_of_both" 704 (.ref 388)),(de P "__static_attributes__" 705 (.ref 389)),(de P "__doc__" 706 .none)] 2) #[]))::
 (nat_lit 391,(.mk (.type "type") none (.cls (PySem.ClassData.mk "Minus" [(.ref 297)] [(.ref 391),(.ref 297),(.ref 172),(.type "object")] 390 "Minus" Bool.true [] [] Bool.false none Bool.false)) #[(some (.ref 347)),none,(some (.str "Minus" 640)),(some (.str "Minus" 648)),(some (.builtin "object.__new__")),(some (.bool Bool.true))]))::
 (nat_lit 413,co "forth" "Times.forth" 730 731 732 738 152 4 408 409 (.ref 410) (.ref 411) 412 737)::
 (nat_lit 414,fo "forth" "Times.forth" (zaN (top 32) 1) (.str "boxnarrow.kinds" 378) 413)::
 (nat_lit 434,co "slope_of_both" "Times.slope_of_both" 762 763 764 772 161 6 429 430 (.ref 431) (.ref 432) 433 771)::
 (nat_lit 435,fo "slope_of_both" "Times.slope_of_both" (zaN (top 32) 4) (.str "boxnarrow.kinds" 378) 434)::
 (nat_lit 437,(.mk (.type "dict") none (.dict #[(de P "__module__" 716 (.str "boxnarrow.kinds" 378)),(de P "__firstlineno__" 720 (.int 147 719)),(de P "exact" 729 (.ref 407)),(de P "forth" 739 (.ref 414)),(de P "first_left" 750 (.ref 421)),(de P "second_left" 761 (.ref 428)),(de P "slope_of_both" 773 (.ref 435)),(de P "__static_attributes__" 774 (.ref 436)),(de P "__doc__" 775 .none)] 2) #[]))::
 (nat_lit 438,(.mk (.type "type") none (.cls (PySem.ClassData.mk "Times" [(.ref 297)] [(.ref 438),(.ref 297),(.ref 172),(.type "object")] 437 "Times" Bool.true [] [] Bool.false none Bool.false)) #[(some (.ref 394)),none,(some (.str "Times" 709)),(some (.str "Times" 717)),(some (.builtin "object.__new__")),(some (.bool Bool.true))]))::
 (nat_lit 453,co "__init__" "Power.__init__" 790 791 792 797 165 3 448 449 (.ref 450) (.ref 451) 452 796)::
 (nat_lit 454,fo "__init__" "Power.__init__" (zaN (top 33) 0) (.str "boxnarrow.kinds" 378) 453)::
 (nat_lit 467,co "forth" "Power.forth" 808 809 810 816 172 4 462 463 (.ref 464) (.ref 465) 466 815)::
 (nat_lit 468,fo "forth" "Power.forth" (zaN (top 33) 2) (.str "boxnarrow.kinds" 378) 467)::
 (nat_lit 479,co "slope" "Power.slope" 828 829 830 832 178 5 476 477 .none .none 478 831)::
 (nat_lit 480,fo "slope" "Power.slope" (zaN (top 33) 4) (.str "boxnarrow.kinds" 378) 479)::
 (nat_lit 482,(.mk (.type "dict") none (.dict #[(de P "__module__" 785 (.str "boxnarrow.kinds" 378)),(de P "__firstlineno__" 789 (.int 163 788)),(de P "__init__" 798 (.ref 454)),(de P "exact" 807 (.ref 461)),(de P "forth" 817 (.ref 468)),(de P "back" 827 (.ref 475)),(de P "slope" 833 (.ref 480)),(de P "__static_attributes__" 836 (.ref 481)),(de P "__doc__" 837 .none)] 2) #[]))::
 (nat_lit 483,(.mk (.type "type") none (.cls (PySem.ClassData.mk "Power" [(.ref 172)] [(.ref 483),(.ref 172),(.type "object")] 482 "Power" Bool.true [] [] Bool.false none Bool.false)) #[(some (.ref 441)),none,(some (.str "Power" 778)),(some (.str "Power" 786)),(some (.builtin "object.__new__")),(some (.bool Bool.true))]))::
 (nat_lit 491,co "kind_of" "kind_of" 840 841 842 845 182 1 486 487 (.ref 488) (.ref 489) 490 844)::
 (nat_lit 492,fo "kind_of" "kind_of" (top 34) (.str "boxnarrow.kinds" 378) 491)::
 (nat_lit 498,co "worths" "worths" 849 850 851 858 195 3 493 494 (.ref 495) (.ref 496) 497 857)::
 (nat_lit 499,fo "worths" "worths" (top 36) (.str "boxnarrow.worths" 847) 498)::
 (nat_lit 505,co "sure" "sure" 860 861 862 866 200 2 500 501 (.ref 502) (.ref 503) 504 865)::
 (nat_lit 506,fo "sure" "sure" (top 37) (.str "boxnarrow.worths" 847) 505)::
 (nat_lit 512,co "slopes" "slopes" 870 871 872 880 205 3 507 508 (.ref 509) (.ref 510) 511 879)::
 (nat_lit 513,fo "slopes" "slopes" (top 39) (.str "boxnarrow.sloping" 868) 512)::
 (nat_lit 517,co "equation_places" "equation_places" 884 885 886 888 212 1 514 515 .none .none 516 887)::
 (nat_lit 518,fo "equation_places" "equation_places" (top 41) (.str "boxnarrow.alone" 882) 517)::
 (nat_lit 522,co "picked" "picked" 890 891 892 894 214 2 519 520 .none .none 521 893)::
 (nat_lit 523,fo "picked" "picked" (top 42) (.str "boxnarrow.alone" 882) 522)::
 (nat_lit 527,co "middles" "middles" 896 897 898 900 216 1 524 525 .none .none 526 899)::
 (nat_lit 528,fo "middles" "middles" (top 43) (.str "boxnarrow.alone" 882) 527)::
 (nat_lit 532,co "box_of_middles" "box_of_middles" 902 903 904 906 218 1 529 530 .none .none 531 905)::
 (nat_lit 533,fo "box_of_middles" "box_of_middles" (top 44) (.str "boxnarrow.alone" 882) 532)::
 (nat_lit 539,co "sum_of_products" "sum_of_products" 908 909 910 918 220 3 534 535 (.ref 536) (.ref 537) 538 917)::
 (nat_lit 540,fo "sum_of_products" "sum_of_products" (top 45) (.str "boxnarrow.alone" 882) 539)::
 (nat_lit 544,co "lacking" "lacking" 920 921 922 924 225 5 541 542 .none .none 543 923)::
 (nat_lit 545,fo "lacking" "lacking" (top 46) (.str "boxnarrow.alone" 882) 544)::
 (nat_lit 549,co "span_by" "span_by" 926 927 928 930 229 6 546 547 .none .none 548 929)::
 (nat_lit 550,fo "span_by" "span_by" (top 47) (.str "boxnarrow.alone" 882) 549)::
 (nat_lit 554,co "step_by" "step_by" 932 933 934 936 236 5 551 552 .none .none 553 935)::
 (nat_lit 555,fo "step_by" "step_by" (top 48) (.str "boxnarrow.alone" 882) 554)::
 (nat_lit 561,co "thin_worths" "thin_worths" 938 939 940 946 238 4 556 557 (.ref 558) (.ref 559) 560 945)::
 (nat_lit 562,fo "thin_worths" "thin_worths" (top 49) (.str "boxnarrow.alone" 882) 561)::
 (nat_lit 568,co "slopes_at" "slopes_at" 948 949 950 956 240 4 563 564 (.ref 565) (.ref 566) 567 955)::
 (nat_lit 569,fo "slopes_at" "slopes_at" (top 50) (.str "boxnarrow.alone" 882) 568)::
 (nat_lit 573,co "leasts_are_sure" "leasts_are_sure" 958 959 960 962 242 2 570 571 .none .none 572 961)::
 (nat_lit 574,fo "leasts_are_sure" "leasts_are_sure" (top 51) (.str "boxnarrow.alone" 882) 573)::
 (nat_lit 578,co "all_deep" "all_deep" 964 965 966 968 244 2 575 576 .none .none 577 967)::
 (nat_lit 579,fo "all_deep" "all_deep" (top 52) (.str "boxnarrow.alone" 882) 578)::
 (nat_lit 583,co "alone" "alone" 970 971 972 974 246 4 580 581 .none .none 582 973)::
 (nat_lit 584,fo "alone" "alone" (top 53) (.str "boxnarrow.alone" 882) 583)::
 (nat_lit 590,co "_law_cell" "_law_cell" 978 979 980 984 259 2 585 586 (.ref 587) (.ref 588) 589 983)::
 (nat_lit 591,fo "_law_cell" "_law_cell" (top 55) (.str "law_boxnarrow_k47_one_of_known_roots" 976) 590)::
 (nat_lit 597,co "_law_whole" "_law_whole" 986 987 988 991 263 1 592 593 (.ref 594) (.ref 595) 596 990)::
 (nat_lit 598,fo "_law_whole" "_law_whole" (top 56) (.str "law_boxnarrow_k47_one_of_known_roots" 976) 597)::
 (nat_lit 604,co "_law_span" "_law_span" 993 994 995 998 265 1 599 600 (.ref 601) (.ref 602) 603 997)::
 (nat_lit 605,fo "_law_span" "_law_span" (top 57) (.str "law_boxnarrow_k47_one_of_known_roots" 976) 604)::
 (nat_lit 611,co "_law_spans" "_law_spans" 1000 1001 1002 1007 269 2 606 607 (.ref 608) (.ref 609) 610 1006)::
 (nat_lit 612,fo "_law_spans" "_law_spans" (top 58) (.str "law_boxnarrow_k47_one_of_known_roots" 976) 611)::
 (nat_lit 618,co "_law_lowest" "_law_lowest" 1009 1010 1011 1017 276 2 613 614 (.ref 615) (.ref 616) 617 1016)::
 (nat_lit 619,fo "_law_lowest" "_law_lowest" (top 59) (.str "law_boxnarrow_k47_one_of_known_roots" 976) 618)::
 (nat_lit 625,co "_law_grid" "_law_grid" 1019 1020 1021 1024 282 1 620 621 (.ref 622) (.ref 623) 624 1023)::
 (nat_lit 626,fo "_law_grid" "_law_grid" (top 60) (.str "law_boxnarrow_k47_one_of_known_roots" 976) 625)::
 (nat_lit 632,co "_law_at" "_law_at" 1026 1027 1028 1032 288 2 627 628 (.ref 629) (.ref 630) 631 1031)::
 (nat_lit 633,fo "_law_at" "_law_at" (top 61) (.str "law_boxnarrow_k47_one_of_known_roots" 976) 632)::
 (nat_lit 639,co "_law_holds" "_law_holds" 1034 1035 1036 1041 292 3 634 635 (.ref 636) (.ref 637) 638 1040)::
 (nat_lit 640,fo "_law_holds" "_law_holds" (top 62) (.str "law_boxnarrow_k47_one_of_known_roots" 976) 639)::
 (nat_lit 646,co "_law_deep" "_law_deep" 1043 1044 1045 1050 294 2 641 642 (.ref 643) (.ref 644) 645 1049)::
 (nat_lit 647,fo "_law_deep" "_law_deep" (top 63) (.str "law_boxnarrow_k47_one_of_known_roots" 976) 646)::
 (nat_lit 653,co "_law_numbers" "_law_numbers" 1052 1053 1054 1065 299 5 648 649 (.ref 650) (.ref 651) 652 1064)::
 (nat_lit 654,fo "_law_numbers" "_law_numbers" (top 64) (.str "law_boxnarrow_k47_one_of_known_roots" 976) 653)::
 (nat_lit 660,co "_law_product_of" "_law_product_of" 1067 1068 1069 1078 308 3 655 656 (.ref 657) (.ref 658) 659 1077)::
 (nat_lit 661,fo "_law_product_of" "_law_product_of" (top 65) (.str "law_boxnarrow_k47_one_of_known_roots" 976) 660)::
 (nat_lit 667,co "_law_answers" "_law_answers" 1080 1081 1082 1091 318 3 662 663 (.ref 664) (.ref 665) 666 1090)::
 (nat_lit 668,fo "_law_answers" "_law_answers" (top 66) (.str "law_boxnarrow_k47_one_of_known_roots" 976) 667)::
 (nat_lit 674,co "_law_about" "_law_about" 1093 1094 1095 1104 326 2 669 670 (.ref 671) (.ref 672) 673 1103)::
 (nat_lit 675,fo "_law_about" "_law_about" (top 67) (.str "law_boxnarrow_k47_one_of_known_roots" 976) 674)::
 (nat_lit 681,co "_law_in" "_law_in" 1106 1107 1108 1114 334 3 676 677 (.ref 678) (.ref 679) 680 1113)::
 (nat_lit 682,fo "_law_in" "_law_in" (top 68) (.str "law_boxnarrow_k47_one_of_known_roots" 976) 681)::
 (nat_lit 686,co "_law_two" "_law_two" 1116 1117 1118 1120 339 3 683 684 .none .none 685 1119)::
 (nat_lit 687,fo "_law_two" "_law_two" (top 69) (.str "law_boxnarrow_k47_one_of_known_roots" 976) 686)::
 (nat_lit 693,co "_law_one" "_law_one" 1122 1123 1124 1134 354 3 688 689 (.ref 690) (.ref 691) 692 1133)::
 (nat_lit 694,fo "_law_one" "_law_one" (top 70) (.str "law_boxnarrow_k47_one_of_known_roots" 976) 693)::
 (nat_lit 698,co "law" "law" 1136 1137 1138 1140 363 1 695 696 .none .none 697 1139)::
 (nat_lit 699,fo "law" "law" (top 71) (.str "law_boxnarrow_k47_one_of_known_roots" 976) 698)::[]
def ks:List Addr:=nat_lit 3::nat_lit 27::nat_lit 28::nat_lit 32::nat_lit 33::nat_lit 39::nat_lit 40::nat_lit 44::nat_lit 45::nat_lit 51::nat_lit 52::nat_lit 56::nat_lit 57::nat_lit 61::nat_lit 62::nat_lit 71::nat_lit 72::nat_lit 84::nat_lit 85::nat_lit 93::nat_lit 94::nat_lit 100::nat_lit 101::nat_lit 107::nat_lit 108::nat_lit 114::nat_lit 115::nat_lit 121::nat_lit 122::nat_lit 128::nat_lit 129::nat_lit 135::nat_lit 136::nat_lit 140::nat_lit 141::nat_lit 147::nat_lit 148::nat_lit 154::nat_lit 155::nat_lit 161::nat_lit 162::nat_lit 171::nat_lit 172::nat_lit 189::nat_lit 190::nat_lit 203::nat_lit 204::nat_lit 217::nat_lit 218::nat_lit 220::nat_lit 221::nat_lit 236::nat_lit 237::nat_lit 250::nat_lit 251::nat_lit 262::nat_lit 263::nat_lit 265::nat_lit 266::nat_lit 281::nat_lit 282::nat_lit 293::nat_lit 294::nat_lit 296::nat_lit 297::nat_lit 319::nat_lit 320::nat_lit 340::nat_lit 341::nat_lit 343::nat_lit 344::nat_lit 366::nat_lit 367::nat_lit 387::nat_lit 388::nat_lit 390::nat_lit 391::nat_lit 413::nat_lit 414::nat_lit 434::nat_lit 435::nat_lit 437::nat_lit 438::nat_lit 453::nat_lit 454::nat_lit 467::nat_lit 468::nat_lit 479::nat_lit 480::nat_lit 482::nat_lit 483::nat_lit 491::nat_lit 492::nat_lit 498::nat_lit 499::nat_lit 505::nat_lit 506::nat_lit 512::nat_lit 513::nat_lit 517::nat_lit 518::nat_lit 522::nat_lit 523::nat_lit 527::nat_lit 528::nat_lit 532::nat_lit 533::nat_lit 539::nat_lit 540::nat_lit 544::nat_lit 545::nat_lit 549::nat_lit 550::nat_lit 554::nat_lit 555::nat_lit 561::nat_lit 562::nat_lit 568::nat_lit 569::nat_lit 573::nat_lit 574::nat_lit 578::nat_lit 579::nat_lit 583::nat_lit 584::nat_lit 590::nat_lit 591::nat_lit 597::nat_lit 598::nat_lit 604::nat_lit 605::nat_lit 611::nat_lit 612::nat_lit 618::nat_lit 619::nat_lit 625::nat_lit 626::nat_lit 632::nat_lit 633::nat_lit 639::nat_lit 640::nat_lit 646::nat_lit 647::nat_lit 653::nat_lit 654::nat_lit 660::nat_lit 661::nat_lit 667::nat_lit 668::nat_lit 674::nat_lit 675::nat_lit 681::nat_lit 682::nat_lit 686::nat_lit 687::nat_lit 693::nat_lit 694::nat_lit 698::nat_lit 699::[]
theorem zfw (P:Params):ks=(kp P).map (·.1):=by kernel_rfl
noncomputable abbrev hk:PySem.W.Hook:=PySem.W.kHook kp ks zfw
abbrev xt (s:Shared):Bool:=PySem.W.xlAt vw [] s&&PySem.W.recOk (PySem.W.RowW.records (PySem.W.OpenRow.toRowW (PySem.W.OpenLaw.row PySem.Challenge.rw_boxnarrow_k47_one_of_known_roots))) s
theorem znT:PySem.W.opening PySem.Challenge.pw_boxnarrow_k47_one_of_known_roots=PySem.W.plainProg PySem.Challenge.pw_boxnarrow_k47_one_of_known_roots.main.scope.names:=by kernel_rfl
theorem fe_eq (s:Shared):PySem.fenceModules? PySem.Challenge.pw_boxnarrow_k47_one_of_known_roots s=some s:=by kernel_rfl
theorem si_eq (w:World):((PySem.W.boot_heap w.params).isNs mainGlobals&&(Array.mk []:Array GenState).size==0,(PySem.W.boot_heap w.params).objs.size,(PySem.W.boot_heap w.params).nsMap mainGlobals "__annotations__")=(true,11,some (.ref 6)):=by kernel_rfl
open PySem.W PySem.Calls in
theorem ra_eq (w:World):(λos=>(L3.goT PySem.treeTable PySem.Challenge.pw_boxnarrow_k47_one_of_known_roots w 11 (some (.ref 6)) 9896 (L3.zdd w os) (PySem.W.topStub PySem.Challenge.pw_boxnarrow_k47_one_of_known_roots)).map λs=>(L3.znc PySem.Challenge.pw_boxnarrow_k47_one_of_known_roots w s,seen ((recsOf vw).map (·.name)) (ownsOf vw) [] { s.abs with gens:=#[] }))=λ_=>some (true,expectedOf vw):=by kernel_rfl
open PySem.W PySem.Calls in
theorem rb_eq (w:World):(λos=>(L3.goT PySem.treeTable PySem.Challenge.pw_boxnarrow_k47_one_of_known_roots w 11 (some (.ref 6)) 9896 (L3.zdd w os) (PySem.W.topStub PySem.Challenge.pw_boxnarrow_k47_one_of_known_roots)).map λs=>(s.abs.heap.bltView,s.abs.heap.keysOk (looseW vw []) ((recsOf vw).map (·.name)) ((litsOf vw).map (·.1)) ((clssOf vw (looseW vw [])).map (·.name))&&s.abs.heap.accountedOkI (importedModules PySem.Challenge.pw_boxnarrow_k47_one_of_known_roots.main.body)&&s.abs.heap.isNs mainGlobals&&s.abs.heap.isNs builtinsNs&&tablesOk vw s.abs.heap&&xt s.abs&&(if true then s.abs.gens.size==0 else !leftWithCleanup s.abs.gens)))=λ_=>some (bltViewBooted,true):=by kernel_rfl
open PySem.W PySem.Calls in
theorem rc_eq (w:World):(λos=>(L3.goT PySem.treeTable PySem.Challenge.pw_boxnarrow_k47_one_of_known_roots w 11 (some (.ref 6)) 9896 (L3.zdd w os) (PySem.W.topStub PySem.Challenge.pw_boxnarrow_k47_one_of_known_roots)).map λs=>(tabsOk vw s.abs,pinSeenD vw (drecsOf vw) s.abs,plainSeenE vw (looseW vw []) s.abs,plainSeenD vw [] s.abs,wideSeen vw s.abs,clsSeenW vw [] s.abs))=λ_=>some (true,pinGoodD (drecsOf vw),plainGoodE vw (looseW vw []),plainGoodD vw [],wideGood vw,clsGoodW vw []):=by kernel_rfl
theorem ob_eq (w:World):(λos=>(L3.goT PySem.treeTable PySem.Challenge.pw_boxnarrow_k47_one_of_known_roots w 11 (some (.ref 6)) 9896 (L3.zdd w os) (PySem.W.topStub PySem.Challenge.pw_boxnarrow_k47_one_of_known_roots)).map λs=>ks.map (L3.ziO s))=λ_=>some (hk.val w):=by kernel_rfl
theorem left:PySem.W.LeftO PySem.Challenge.pw_boxnarrow_k47_one_of_known_roots vw [] xt hk.obs hk.val 9896:=L3.zt9 (L3.zrN ks) znT (by decide) fe_eq si_eq ra_eq rb_eq rc_eq ob_eq
end Mine
set_option Elab.async false
set_option linter.all false
set_option maxRecDepth 100000
namespace L2
open PySem PySem.Spec PyProof.Rows
abbrev Key:=Sum Int Str
def zqa:Key→Value→Bool
 | .inl k,v=>Value.isInt k v
 | .inr x,v=>Value.isStrOf x v
def keyH (w:World):Key→Int
 | .inl k=>hashInt k
 | .inr x=>hashStr w x
theorem zc2:∀ {k:Key} {v:Value},zqa k v=true→(∃i t,k=Sum.inl i∧v=Value.int i t)∨(∃x t,k=Sum.inr x∧v=Value.str x t)
 | .inl i,v,h=>by
  obtain⟨t,e⟩:=Value.isInt_shape (k:=i) (v:=v) h
  exact .inl ⟨i,t,rfl,e⟩
 | .inr x,v,h=>by
  obtain⟨t,e⟩:=Value.isStrOf_shape (x:=x) (v:=v) h
  exact .inr ⟨x,t,rfl,e⟩
theorem zrn (a b:Int):decide ((Sum.inl a:Key)=Sum.inl b)=(a==b):=by
 by_cases e:a=b
 ·subst e; simp
 ·have h:¬ (Sum.inl a:Key)=Sum.inl b:=λq=>e (Sum.inl.inj q)
  rw[decide_eq_false h]
  exact(beq_eq_false_iff_ne.mpr e).symm
theorem zxe (a b:Str):decide ((Sum.inr a:Key)=Sum.inr b)=decide (a=b):=by
 by_cases e:a=b
 ·subst e; simp
 ·have h:¬ (Sum.inr a:Key)=Sum.inr b:=λq=>e (Sum.inr.inj q)
  rw[decide_eq_false h,decide_eq_false e]
theorem zsP (a:Int)(b:Str):decide ((Sum.inl a:Key)=Sum.inr b)=false:=decide_eq_false (λq=>nomatch q)
theorem zwF (a:Str)(b:Int):decide ((Sum.inr a:Key)=Sum.inl b)=false:=decide_eq_false (λq=>nomatch q)
def zmS (prog:Program)(w:World):PySem.KeyKind prog w Key where
 is:=zqa
 hash:=keyH w
 inj:=λv a b ha hb=>by
  rcases zc2 ha with ⟨i,t,rfl,rfl⟩ | ⟨x,t,rfl,rfl⟩
  ·rcases zc2 hb with ⟨j,u,rfl,e⟩ | ⟨y,u,rfl,e⟩
   ·injection e with e1 _; rw[e1]
   ·exact nomatch e
  ·rcases zc2 hb with ⟨j,u,rfl,e⟩ | ⟨y,u,rfl,e⟩
   ·exact nomatch e
   ·injection e with e1 _; rw[e1]
 byValue:=λk v h=>by
  rcases zc2 h with ⟨i,t,rfl,rfl⟩ | ⟨x,t,rfl,rfl⟩ <;> rfl
 pyHash:=λhv h=>by
  rcases zc2 hv with ⟨i,t,rfl,rfl⟩ | ⟨x,t,rfl,rfl⟩
  ·exact wpAny_pyHash_int h
  ·exact wpAny_pyHash_str h
 eqBool:=λhu hv h=>by
  rcases zc2 hu with ⟨i,t,rfl,rfl⟩ | ⟨x,t,rfl,rfl⟩
  ·rcases zc2 hv with ⟨j,u,rfl,rfl⟩ | ⟨y,u,rfl,rfl⟩
   ·rw[zrn] at h; exact wpAny_eqBool_int h
   ·rw[zsP] at h; exact SeqAt.EqAt.int_str i t y u _ _ _ _ h
  ·rcases zc2 hv with ⟨j,u,rfl,rfl⟩ | ⟨y,u,rfl,rfl⟩
   ·rw[zwF] at h; exact SeqAt.EqAt.str_int x t j u _ _ _ _ h
   ·rw[zxe] at h; exact wpAny_eqBool_str h
 «strs»:=λk x t v h=>by
  rcases zc2 h with ⟨i,u,rfl,e⟩ | ⟨y,u,rfl,e⟩
  ·exact nomatch e
  ·injection e with e1 _
   subst e1
   cases v <;> rfl
end L2
namespace L2
open PySem PySem.Spec PyProof.Rows
inductive V where
 | non | bl (b:Bool) | int (i:Int) | str (x:Str) | byt (b:Array UInt8) | flt (b:UInt64) | ref (a:Addr) | ty (n:String)
 deriving DecidableEq
def zav:V→Value→Prop
 | .non,u=>u=Value.none
 | .bl b,u=>u=Value.bool b
 | .int i,u=>∃t,u=Value.int i t
 | .str x,u=>∃t,u=Value.str x t
 | .byt b,u=>∃t,u=Value.bytes b t
 | .flt b,u=>∃t,u=Value.float b t
 | .ref a,u=>u=Value.ref a
 | .ty n,u=>u=Value.type n
abbrev zau:List V→List Value→Prop:=Paired zav
theorem zau.length {xs:List V}{us:List Value}(r:zau xs us):xs.length=us.length:=Paired.length r
theorem zau.get:∀ {xs:List V} {us:List Value} {i:Nat} {x:V},zau xs us→xs[i]?=some x→∃u,us[i]?=some u∧zav x u
 | _,_,_,_,.nil,e=>by simp at e
 | _,_,0,_,.cons r _,e=>by simp at e; subst e; exact⟨_,rfl,r⟩
 | _,_,i+1,x,.cons _ t,e=>by
  obtain⟨u,h1,h2⟩:=zau.get (i:=i) (x:=x) t (by simpa using e)
  exact⟨u,by simpa using h1,h2⟩
theorem zau.set {x:V}{u:Value}(r:zav x u):∀ {xs:List V} {us:List Value} (i:Nat),zau xs us→zau (xs.set i x) (us.set i u)
 | _,_,_,.nil=>.nil
 | _,_,0,.cons _ t=>.cons r t
 | _,_,i+1,.cons q t=>.cons q (zau.set r i t)
theorem zau.append:∀ {xs ys:List V} {us ws:List Value},zau xs us→zau ys ws→zau (xs++ys) (us++ws)
 | _,_,_,_,.nil,s=>s
 | _,_,_,_,.cons r t,s=>.cons r (zau.append t s)
theorem zau.take:∀ {xs:List V} {us:List Value} (n:Nat),zau xs us→zau (xs.take n) (us.take n)
 | _,_,0,_=>.nil
 | _,_,_+1,.nil=>.nil
 | _,_,n+1,.cons r t=>.cons r (zau.take n t)
theorem zau.drop:∀ {xs:List V} {us:List Value} (n:Nat),zau xs us→zau (xs.drop n) (us.drop n)
 | _,_,0,r=>r
 | _,_,_+1,.nil=>.nil
 | _,_,n+1,.cons _ t=>zau.drop n t
theorem zau.none_of:∀ {xs:List V} {us:List Value} {i:Nat},zau xs us→xs[i]?=none→us[i]?=none:=λ{xs us i} r e=>by
 have h1:=r.length
 have h2:xs.length≤i:=VaV.mp e
 exact VaV.mpr (by omega)
def zbS:Option V→Option Value→Prop
 | some v,some u=>zav v u
 | none,none=>True
 | _,_=>False
def KV {κ:Type}:List (κ×V)→List (κ×Value)→Prop:=Paired λ(p:κ×V) (q:κ×Value)=>p.1=q.1∧zav p.2 q.2
def kV:Key→V
 | .inl i=>.int i
 | .inr x=>.str x
inductive HO where
  | lst (xs:List V)
  | tup (xs:List V)
  | dK (kvs:List (Key×V)) | dT (kvs:List (List Key×V))
  | set (S:Int→Bool) (n:Nat)
  | ins (C dx:Addr) (fs:List (Str×V))
  | own (x:Addr)
  | xd (fs:List (Str×V))
  | met (f x:Addr)
  | rng (lo hi:Int)
  | frz (o:Obj) (u:HO)
  | tbl (ps:Array Value)
  | ext (φ:Heap→Prop)
abbrev Hp:=Addr→Option HO
def upd (H:Hp)(a:Addr)(o:HO):Hp:=λb=>if b=a then some o else H b
theorem zcw {H:Hp}{a:Addr}{o:HO}:upd H a o a=some o:=by unfold upd; rw[if_pos rfl]
theorem za1 {H:Hp}{a b:Addr}{o:HO}(h:b≠a):upd H a o b=H b:=by unfold upd; rw[if_neg h]
theorem zol {H:Hp}{a b:Addr}{o u:HO}(h:H a=some o)(h':H b=some u)(d:o≠u):a≠b:=by
 intro e; subst e; rw[h] at h'; exact d (Option.some.inj h')
theorem zdN {H:Hp}{a b:Addr}{o:HO}(h:H a=some o)(h':H b=none):a≠b:=by
 intro e; subst e; rw[h] at h'; cases h'
section
variable (P:Program)(w:World)
def zby (H:Hp)(h:Heap)(a:Addr):HO→Prop
 | .lst xs=>xs.length≤sizeLine∧∃(its:List Value) (n:Nat),zau xs its∧h.get? a=some { cls:=.type "list",data:=.seq its.toArray n }
 | .tup xs=>xs.length≤sizeLine∧∃its:List Value,zau xs its∧IsTup h a its.toArray
 | .dK kvs=>kvs.length≤sizeLine∧(a==sysModules)=false∧∃vs,KV kvs vs∧h.DictOf (zmS P w) a vs
 | .dT kvs=>kvs.length≤sizeLine∧(a==sysModules)=false∧∃xs:List (List Key×Addr×Value),
   Paired (λ(p:List Key×V) (q:List Key×Addr×Value)=>p.1=q.1∧H q.2.1=some (.tup (p.1.map kV))∧zav p.2 q.2.2) kvs xs∧
   ∃o es ep,h.get? a=some o∧o.ExactDict∧o.data=.dict es ep∧es.toList=xs.map (entryOfKey (tupleKind (zmS P w)))∧(xs.map (·.1)).Nodup
 | .set S n=>h.SetOf (intKind P w) a S n
 | .ins C dx fs=>H dx=some (.own a)∧fs.length≤1000∧dx≠a∧h.get? a=some (PySem.W.instObj C dx)∧
   ∃mA,h.Ns1 dx mA∧(∀f,zbS (fs.lookup f) (mA f))∧PySem.Within mA (fs.map (·.1))
 | .own _=>∃o,h.get? a=some o
 | .xd fs=>∃mA,h.Ns1 a mA∧∀f,zbS (fs.lookup f) (mA f)
 | .rng lo hi=>∃t u v,h.get? a=some { cls:=.type "range",data:=.fields #[.int lo t,.int hi u,.int 1 v] }
 | .frz o u=>h.get? a=some o∧zby H h a u
 | .tbl ps=>h.get? a=some { cls:=.none,data:=.fields ps }
 | .met f x=>h.get? a=some (PySem.W.methodObj (.ref f) (.ref x))
 | .ext φ=>φ h∧(∃o,h.get? a=some o)∧∀h1 h2:Heap,φ h1→(∀o,h1.get? a=some o→h2.get? a=some o)→φ h2
def HOk (H:Hp)(h:Heap):Prop:=∀a o,H a=some o→zby P w H h a o
end
section
variable {P:Program}{w:World}{H H':Hp}{h h':Heap}{a:Addr}{o:HO}
theorem zby.lt (x:zby P w H h a o):a<h.objs.size:=by
 cases o with
 | lst xs=>obtain⟨_,_,_,_,e⟩:=x; exact Heap.lt_size e
 | tup xs=>obtain⟨_,_,_,p⟩:=x; exact p.lt
 | dK kvs=>obtain⟨_,_,_,_,o,_,_,e,_⟩:=x; exact Heap.lt_size e
 | dT kvs=>obtain⟨_,_,_,_,o,_,_,e,_⟩:=x; exact Heap.lt_size e
 | set S n=>obtain⟨o,_,_,_,e,_⟩:=x; exact Heap.lt_size e
 | ins C dx fs=>obtain⟨_,_,_,e,_⟩:=x; exact Heap.lt_size e
 | own y=>obtain⟨_,e⟩:=x; exact Heap.lt_size e
 | xd fs=>obtain⟨_,⟨_,_,_,e,_⟩,_⟩:=x; exact Heap.lt_size e
 | rng lo hi=>obtain⟨_,_,_,e⟩:=x; exact Heap.lt_size e
 | frz ob u=>obtain⟨e,_⟩:=x; exact Heap.lt_size e
 | tbl ps=>exact Heap.lt_size (show h.get? a=some _ from x)
 | met f y=>exact Heap.lt_size (show h.get? a=some _ from x)
 | ext φ=>obtain⟨_,⟨_,e⟩,_⟩:=x; exact Heap.lt_size e
theorem Paired.mapP {α β:Type}{F G:α→β→Prop}:∀ {l₁:List α} {l₂:List β},Paired F l₁ l₂→(∀a b,F a b→G a b)→Paired G l₁ l₂
 | _,_,.nil,_=>.nil
 | _,_,.cons r t,f=>.cons (f _ _ r) (Paired.mapP t f)
theorem zby.stay (x:zby P w H h a o)(k:∀b u,(b=a∨H b=some (.own a))→h.get? b=some u→h'.get? b=some u)
  (ho:∀b,H b=some (.own a)→H' b=some (.own a))(ht:∀b xs,H b=some (.tup xs)→H' b=some (.tup xs)):zby P w H' h' a o:=by
 induction o with
 | lst xs=>obtain⟨z,its,n,r,e⟩:=x; exact⟨z,its,n,r,k _ _ (.inl rfl) e⟩
 | tup xs=>obtain⟨z,its,r,ob,e,c⟩:=x; exact⟨z,its,r,ob,k _ _ (.inl rfl) e,c⟩
 | dK kvs=>obtain⟨z,y,vs,r,ob,es,ep,e,c⟩:=x; exact⟨z,y,vs,r,ob,es,ep,k _ _ (.inl rfl) e,c⟩
 | dT kvs=>
  obtain⟨z,y,xs,r,ob,es,ep,e,c⟩:=x
  exact⟨z,y,xs,Paired.mapP r λp q z=>⟨z.1,ht _ _ z.2.1,z.2.2⟩,ob,es,ep,k _ _ (.inl rfl) e,c⟩
 | set S n=>obtain⟨ob,es,ep,t,e,c⟩:=x; exact⟨ob,es,ep,t,k _ _ (.inl rfl) e,c⟩
 | ins C dx fs=>
  obtain⟨d,z,ne,e,mA,⟨od,es,ep,e2,c⟩,r⟩:=x
  exact⟨ho _ d,z,ne,k _ _ (.inl rfl) e,mA,⟨od,es,ep,k _ _ (.inr d) e2,c⟩,r⟩
 | own y=>obtain⟨ob,e⟩:=x; exact⟨ob,k _ _ (.inl rfl) e⟩
 | xd fs=>obtain⟨mA,⟨od,es,ep,e,c⟩,r⟩:=x; exact⟨mA,⟨od,es,ep,k _ _ (.inl rfl) e,c⟩,r⟩
 | rng lo hi=>obtain⟨t,u,v,e⟩:=x; exact⟨t,u,v,k _ _ (.inl rfl) e⟩
 | frz ob u ih=>obtain⟨e,q⟩:=x; exact⟨k _ _ (.inl rfl) e,ih q⟩
 | tbl ps=>
  have e:h.get? a=some { cls:=.none,data:=.fields ps }:=x
  show h'.get? a=some { cls:=.none,data:=.fields ps }
  exact k a _ (.inl rfl) e
 | met f y=>
  have e:h.get? a=some (PySem.W.methodObj (.ref f) (.ref y)):=x
  show h'.get? a=some (PySem.W.methodObj (.ref f) (.ref y))
  exact k a _ (.inl rfl) e
 | ext φ=>obtain⟨p,⟨o,e⟩,st⟩:=x; exact⟨st _ _ p λo q=>k _ _ (.inl rfl) q,⟨o,k _ _ (.inl rfl) e⟩,st⟩
theorem HOk.lt (x:HOk P w H h)(e:H a=some o):a<h.objs.size:=(x a o e).lt
theorem HOk.fresh (x:HOk P w H h)(e:h.objs.size≤a):H a=none:=by
 cases q:H a with
 | none=>rfl
 | some u=>exact absurd (Vaw (x.lt q) e) (VaH _)
theorem HOk.kept (x:HOk P w H h)(k:∀b u,h.get? b=some u→h'.get? b=some u):HOk P w H h':=λa o e=>
 (x a o e).stay (λb u _ q=>k b u q) (λ_ q=>q) λ_ _ q=>q
theorem HOk.laid (x:HOk P w H h)(k:∀b u,h.get? b=some u→h'.get? b=some u)(hp:h.objs.size≤a)(new:zby P w (upd H a o) h' a o):HOk P w (upd H a o) h':=λb u e=>by
 have hn:=x.fresh hp
 by_cases hb:b=a
 ·subst hb; rw[zcw] at e; cases e; exact new
 ·rw[za1 hb] at e
  exact(x b u e).stay (λc v _ q=>k c v q) (λc q=>by rw[za1 (zdN q hn)]; exact q) λc xs q=>by rw[za1 (zdN q hn)]; exact q
end
def Rd (H:Hp)(a:Addr)(u:HO):Prop:=H a=some u∨∃o,H a=some (.frz o u)
theorem Rd.of {H:Hp}{a:Addr}{u:HO}(h:H a=some u):Rd H a u:=.inl h
theorem Rd.ok {P:Program}{w:World}{H:Hp}{h:Heap}{a:Addr}{u:HO}(r:Rd H a u)(x:HOk P w H h):zby P w H h a u:=by
 rcases r with r | ⟨o,r⟩
 ·exact x a u r
 ·obtain⟨_,q⟩:=x a _ r
  exact q
def Mut:Option HO→Prop
 | some (.lst _)=>True
 | some (.dK _)=>True
 | some (.dT _)=>True
 | some (.set _ _)=>True
 | some (.ins _ _ _)=>True
 | some (.ext _)=>True
 | _=>False
section
variable {P:Program}{w:World}{H:Hp}{h h':Heap}{x e:Addr}{o':HO}
theorem HOk.write (ok:HOk P w H h)(mu:Mut (H x))(he:e=x∨H e=some (.own x))(k:∀b u,b≠e→h.get? b=some u→h'.get? b=some u)(heo:∃u,h'.get? e=some u)
  (new:zby P w (upd H x o') h' x o'):HOk P w (upd H x o') h':=λb u q=>by
 have nown:∀c y,H c=some (.own y)→c≠x:=λc y r z=>by subst z; rw[r] at mu; exact mu
 have ntup:∀c xs,H c=some (.tup xs)→c≠x:=λc xs r z=>by subst z; rw[r] at mu; exact mu
 by_cases hb:b=x
 ·subst hb; rw[zcw] at q; cases q; exact new
 ·rw[za1 hb] at q
  by_cases hbe:b=e
  ·have q':H b=some (.own x):=by
    rcases he with z | z
    ·exact absurd (hbe.trans z) hb
    ·rw[hbe]; exact z
   rw[q] at q'; cases q'
   obtain⟨v,hv⟩:=heo
   exact⟨v,by rw[hbe]; exact hv⟩
  ·refine(ok b u q).stay (λc v hc r=>k c v ?_ r) (λc r=>by rw[za1 (nown c b r)]; exact r) λc xs r=>by rw[za1 (ntup c xs r)]; exact r
   rcases hc with rfl | hc
   ·exact hbe
   ·rintro rfl
    rcases he with z | z
    ·exact nown c b hc z
    ·rw[hc] at z; cases z; exact hb rfl
end
structure Un (fs ex:List Addr)(H H':Hp)(h h':Heap):Prop where
 keep:∀b o,h.get? b=some o→H b=none→b ∉ fs→b ∉ ex→h'.get? b=some o
 slot:∀b o,h.get? b=some o→H b=none→b∈fs→b ∉ ex→∃sl,h'.get? b=some { o with slots:=sl }
 free:∀b o,h.get? b=some o→H b=none→b ∉ ex→H' b=none
 there:∀b o,h.get? b=some o→b ∉ ex→∃o',h'.get? b=some o'
 tups:∀b xs,H b=some (.tup xs)→H' b=some (.tup xs)
 frzs:∀b o u,H b=some (.frz o u)→H' b=some (.frz o u)
 tbls:∀b ps,H b=some (.tbl ps)→∃more,H' b=some (.tbl (ps++more))
section
variable {fs fs' ex ex':List Addr}{H H1 H2:Hp}{h h1 h2 h':Heap}{a x e:Addr}{o:HO}
theorem Un.any (u:Un fs ex H H1 h h1){b:Addr}{ob:Obj}(q:h.get? b=some ob)(n:H b=none)(hx:b ∉ ex):∃sl,h1.get? b=some { ob with slots:=sl }:=by
 by_cases hb:b∈fs
 ·exact u.slot b ob q n hb hx
 ·exact⟨ob.slots,u.keep b ob q n hb hx⟩
theorem Un.trans (a:Un fs ex H H1 h h1)(b:Un fs ex H1 H2 h1 h2):Un fs ex H H2 h h2 where
 keep:=λc ob q n hc hx=>b.keep c ob (a.keep c ob q n hc hx) (a.free c ob q n hx) hc hx
 slot:=λc ob q n hc hx=>by
  obtain⟨sl,e1⟩:=a.slot c ob q n hc hx
  obtain⟨sl',e2⟩:=b.slot c _ e1 (a.free c ob q n hx) hc hx
  exact⟨sl',e2⟩
 free:=λc ob q n hx=>by
  obtain⟨o',e1⟩:=a.there c ob q hx
  exact b.free c o' e1 (a.free c ob q n hx) hx
 there:=λc ob q hx=>by
  obtain⟨o',e1⟩:=a.there c ob q hx
  exact b.there c o' e1 hx
 tups:=λc xs q=>b.tups c xs (a.tups c xs q)
 frzs:=λc ob xs q=>b.frzs c ob xs (a.frzs c ob xs q)
 tbls:=λc ps q=>by
  obtain⟨m1,e1⟩:=a.tbls c ps q
  obtain⟨m2,e2⟩:=b.tbls c _ e1
  exact⟨m1++m2,by rw[e2,Array.append_assoc]⟩
theorem Un.kept (k:∀b u,h.get? b=some u→h'.get? b=some u):Un fs ex H H h h':=
 ⟨λb ob q _ _ _=>k b ob q,λb ob q _ _ _=>⟨ob.slots,k b ob q⟩,λ_ _ _ n _=>n,λb ob q _=>⟨ob,k b ob q⟩,λ_ _ q=>q,λ_ _ _ q=>q,λ_ ps q=>⟨#[],by rw[q]; simp⟩⟩
theorem Un.refl:Un fs ex H H h h:=Un.kept λ_ _ q=>q
theorem Un.laid (k:∀b u,h.get? b=some u→h'.get? b=some u)(hp:h.objs.size≤a)(hn:H a=none):Un fs ex H (upd H a o) h h' where
 keep:=λb u q _ _ _=>k b u q
 slot:=λb u q _ _ _=>⟨u.slots,k b u q⟩
 free:=λb u q n _=>by rw[za1 (Van (Vaw (Heap.lt_size q) hp))]; exact n
 there:=λb u q _=>⟨u,k b u q⟩
 tups:=λb xs q=>by rw[za1 (zdN q hn)]; exact q
 frzs:=λb u xs q=>by rw[za1 (zdN q hn)]; exact q
 tbls:=λb ps q=>⟨#[],by rw[za1 (zdN q hn),q]; simp⟩
theorem Un.write (mu:Mut (H x))(he:e=x∨H e=some (.own x))(k:∀b u,b≠e→h.get? b=some u→h'.get? b=some u)(heo:∃u,h'.get? e=some u):Un fs ex H (upd H x o) h h':=by
 have hx:∀b,H b=none→b≠x:=λb n z=>by subst z; rw[n] at mu; exact mu
 have hb:∀b,H b=none→b≠e:=λb n z=>by
  subst z
  rcases he with r | r
  ·exact hx b n r
  ·rw[n] at r; cases r
 have hm:∀b u,H b=some u→¬ Mut (some u)→b≠x:=λb u q nm z=>by subst z; rw[q] at mu; exact nm mu
 refine⟨λb u q n _ _=>k b u (hb b n) q,λb u q n _ _=>⟨u.slots,k b u (hb b n) q⟩,λb u q n _=>by rw[za1 (hx b n)]; exact n,λb u q _=>?_,
  λb xs q=>by rw[za1 (hm b _ q λz=>z)]; exact q,λb u xs q=>by rw[za1 (hm b _ q λz=>z)]; exact q,λb ps q=>⟨#[],by rw[za1 (hm b _ q λz=>z),q]; simp⟩⟩
 by_cases hbe:b=e
 ·subst hbe; exact heo
 ·exact⟨u,k b u hbe q⟩
theorem Un.mono (u:Un fs ex H H1 h h1)(hs:∀b∈fs,b∈fs')(hx:∀b∈ex,b∈ex'):Un fs' ex' H H1 h h1:=
 ⟨λb ob q n hb he=>u.keep b ob q n (λz=>hb (hs b z)) λz=>he (hx b z),λ_ _ q n _ he=>u.any q n λz=>he (hx _ z),λb ob q n he=>u.free b ob q n λz=>he (hx b z),λb ob q he=>u.there b ob q λz=>he (hx b z),u.tups,u.frzs,u.tbls⟩
end
def trk (h:Heap)(H:Hp):List Addr:=(List.range h.objs.size).filter λa=>(H a).isSome
def zdj (h:Heap)(H:Hp):Heap:=PySem.W.hideAll h (trk h H)
theorem zte (h:Heap)(H:Hp):(zdj h H).objs.size=h.objs.size:=PySem.W.hideAll_size _ _
theorem ztK {h:Heap}{H:Hp}{b:Addr}{o:Obj}(e:h.get? b=some o)(n:H b=none):(zdj h H).get? b=some o:=
 PySem.W.hideAll_get _ e λhm=>by
  have q:(H b).isSome=true:=(List.mem_filter.mp hm).2
  rw[n] at q; simp at q
theorem zyg {h:Heap}{H:Hp}{b:Addr}{o:Obj}(e:(zdj h H).get? b=some o):h.get? b=some o∧H b=none:=by
 have e':h.get? b=some o:=PySem.W.of_hideAll (trk h H) e
 refine⟨e',?_⟩
 cases q:H b with
 | none=>rfl
 | some x=>
  have hm:b∈trk h H:=List.mem_filter.mpr ⟨Va6.mpr (Heap.lt_size e'),by simp[q]⟩
  have z:(zdj h H).get? b=none:=PySem.W.hideAll_none (trk h H) hm
  rw[z] at e; cases e
def zxw (g h:Heap)(L:Addr):List (Addr×Obj):=(List.range h.objs.size).filterMap λa=>if a=L∨(g.get? a).isSome=true then none else (h.get? a).map λo=>(a,o)
def zbj (g h:Heap)(L d:Addr):List (Addr×Obj):=(zxw g h L).filter λp=>decide (p.1≠d)
end L2
namespace L2
open PySem PySem.Spec PyProof.Rows
structure Mod (K:PySem.W.Frag)(mg:Str→Option Value)(base:Heap):Prop where
 kin:K.In base
 glob:base.Ns mainGlobals mg
 blt:∃mb,base.Ns builtinsNs mb∧∀x:Str,x≠"__name__"→mb x=bootBuiltins x
 nolimit:base.NoLimit
structure Cx where
 prog:Program
 w:World
 K:PySem.W.Frag
 mg:Str→Option Value
 base:Heap
 A:Around
 N:List Str
 s₀:Shared
 H₀:Hp
 env:Env
 outer:List Env
 stack:List Env
 ex:List Addr
 fn:Str→Bool
 calm:Bool
 pn:List (Addr×Obj)
 xe:Value→Shared→Prop
def frs (l:List Env):List Addr:=l.filterMap (·.frame)
abbrev Cx.fs (X:Cx):List Addr:=frs X.outer
def Vis (sc:Scope)(x:Str):Prop:=sc.names.lookup x=some .local∨sc.names.lookup x=some .cell∨sc.names.lookup x=some .free
def Loc (sc:Scope)(x:Str):Prop:=sc.names.lookup x=some .local∨sc.names.lookup x=some .cell
def Look (env:Env)(h:Heap)(m:Str→Option Value)(x:Str)(u:Value):Prop:=
 (env.kindOf x=some .local∧m x=some u)∨((env.kindOf x=some .cell∨env.kindOf x=some .free)∧∃c,env.cells.lookup x=some c∧h.IsCell c (some u))
structure Cx.Ok (X:Cx):Prop where
 mod:Mod X.K X.mg X.base
 kind:X.env.scope.kind=.function
 glob:X.env.globals=mainGlobals
 blt:X.env.builtins=builtinsNs
 above:X.s₀.heap.objs.size≤X.env.locals
 inj:∀x y c,X.env.cells.lookup x=some c→X.env.cells.lookup y=some c→x=y
 has:∀x,(X.env.kindOf x=some .cell∨X.env.kindOf x=some .free)→∃c,X.env.cells.lookup x=some c
 cab:∀x c,X.fn x=true→X.env.cells.lookup x=some c→X.s₀.heap.objs.size≤c
 hd:X.calm=true→X.A.handled=none
 frames:X.A.frames=some X.stack
 stk:X.stack=X.outer∨(X.stack=X.env::X.outer∧X.env.frame=some X.env.locals)
 exf:∀b∈X.ex,b≠X.env.locals∧∀x c,X.env.cells.lookup x=some c→c≠b
 bs:∀b o,X.base.get? b=some o→X.s₀.heap.get? b=some o∧X.H₀ b=none
 bsz:X.base.objs.size≤X.s₀.heap.objs.size
 noex:∀b o,X.base.get? b=some o→b ∉ X.ex
 exfs:∀b∈X.ex,b ∉ X.fs
 funs:X.s₀.heap.FunFrames X.base X.outer
 frf:∀b∈X.fs,X.H₀ b=none
structure Inv (X:Cx)(pins:List (Addr×Obj))(σ:List (Option V))(H:Hp)(s:Shared):Prop where
 ok:X.Ok
 os:s.os=X.s₀.os
 bare:AllBare s.gens
 base:Un X.fs X.ex X.H₀ H X.s₀.heap s.heap
 loc:∃m,s.heap.Ns X.env.locals m∧∀(i:Nat) (x:Str) (v:V),X.N[i]?=some x→σ[i]?=some (some v)→Vis X.env.scope x→∃u,zav v u∧Look X.env s.heap m x u
 cell:∀x c,X.env.cells.lookup x=some c→∃v,s.heap.IsCell c v
 free:H X.env.locals=none
 freeC:∀x c,X.env.cells.lookup x=some c→H c=none
 pin:∀p∈X.pn++pins,s.heap.get? p.1=some p.2∧H p.1=none∧p.1≠X.env.locals∧p.1 ∉ X.fs∧∀v,p.2.data≠.cell v
 hok:HOk X.prog X.w H s.heap
 len:σ.length=X.N.length
section
variable {X:Cx}{pins:List (Addr×Obj)}{σ:List (Option V)}{H H':Hp}{s:Shared}{h':Heap}
theorem Cx.Ok.nofr (ok:X.Ok){b:Addr}{o:Obj}(e:X.base.get? b=some o):b ∉ X.fs:=λhb=>by
 have:=(ok.funs.mem hb).1
 rw[e] at this; cases this
theorem Inv.bs (I:Inv X pins σ H s):∀b o,X.base.get? b=some o→s.heap.get? b=some o∧H b=none:=λb o e=>
 ⟨I.base.keep b o (I.ok.bs b o e).1 (I.ok.bs b o e).2 (I.ok.nofr e) (I.ok.noex b o e),I.base.free b o (I.ok.bs b o e).1 (I.ok.bs b o e).2 (I.ok.noex b o e)⟩
theorem Inv.bk (I:Inv X pins σ H s):∀b o,X.base.get? b=some o→s.heap.get? b=some o:=λb o e=>(I.bs b o e).1
theorem Inv.mod (I:Inv X pins σ H s):Mod X.K X.mg X.base:=I.ok.mod
theorem Inv.kIn (I:Inv X pins σ H s):X.K.In s.heap:=I.ok.mod.kin.keeps I.bk
theorem Inv.nolimit (I:Inv X pins σ H s):s.heap.NoLimit:=I.ok.mod.nolimit.keeps I.bk
theorem Inv.fr (I:Inv X pins σ H s):∃m,Fr X.base X.env.locals s.heap m:=
 let ⟨m,hn,_⟩:=I.loc
 ⟨m,hn,I.bk,VaD I.ok.bsz I.ok.above⟩
theorem Inv.lt (I:Inv X pins σ H s):X.env.locals<s.heap.objs.size:=let ⟨_,hn,_⟩:=I.loc; hn.lt
theorem Inv.sz (I:Inv X pins σ H s):X.s₀.heap.objs.size≤s.heap.objs.size:=VaD I.ok.above (VaX I.lt)
theorem Inv.nofs (I:Inv X pins σ H s){a:Addr}(h:s.heap.objs.size≤a):a ∉ X.fs:=λhb=>by
 obtain⟨_,o,ho,_⟩:=I.ok.funs.mem hb
 exact absurd (Vaw (Heap.lt_size ho) (VaD I.sz h)) (VaH _)
theorem Inv.cne (I:Inv X pins σ H s):∀x c,X.env.cells.lookup x=some c→c≠X.env.locals:=λx c e z=>by
 obtain⟨v,o,ho,hd⟩:=I.cell x c e
 obtain⟨m,⟨o',es,ep,ho',hd',_⟩,_⟩:=I.loc
 rw[z,ho'] at ho; cases ho; rw[hd'] at hd; cases hd
theorem Inv.funs (I:Inv X pins σ H s):s.heap.FunFrames X.base X.outer:=by
 have all:∀(l:List Env),(∀b∈frs l,b∈X.fs)→X.s₀.heap.FunFrames X.base l→s.heap.FunFrames X.base l:=by
  intro l
  induction l with
  | nil=>intro _ _; trivial
  | cons env r ih=>
   intro hs hl
   obtain⟨hk,⟨L,o,hf,hn,ho,hd⟩,hr⟩:=hl
   have hL:L∈X.fs:=hs L (by unfold frs; rw[List.filterMap_cons,hf]; exact Va7)
   obtain⟨sl,e⟩:=I.base.slot L o ho (I.ok.frf L hL) hL λz=>I.ok.exfs L z hL
   exact⟨hk,⟨L,_,hf,hn,e,hd⟩,ih (λb hb=>hs b (by unfold frs; rw[List.filterMap_cons,hf]; exact VaT _ hb)) hr⟩
 exact all X.outer (λ_ hb=>hb) I.ok.funs
theorem Inv.stack (I:Inv X pins σ H s):s.heap.FunFrames X.base X.stack:=by
 rcases I.ok.stk with e | ⟨e,hf⟩
 ·rw[e]; exact I.funs
 ·rw[e]
  obtain⟨m,hn,_⟩:=I.loc
  refine .cons (by rw[I.ok.kind]; decide) hf hn ?_ I.funs
  exact Heap.get?_none_of_le (VaD I.ok.bsz I.ok.above)
theorem Inv.stkSub (I:Inv X pins σ H s):∀b∈frs X.stack,b∈X.env.locals::X.fs:=λb hb=>by
 rcases I.ok.stk with e | ⟨e,hf⟩
 ·rw[e] at hb; exact VaT _ hb
 ·rw[e] at hb
  unfold frs at hb
  rw[List.filterMap_cons,hf] at hb
  exact hb
theorem Inv.stkFree (I:Inv X pins σ H s):∀b∈frs X.stack,H b=none:=λb hb=>by
 rcases Vas.mp (I.stkSub b hb) with e | hb
 ·rw[e]; exact I.free
 ·obtain⟨_,o,ho,_⟩:=I.ok.funs.mem hb
  exact I.base.free b o ho (I.ok.frf b hb) λz=>I.ok.exfs b z hb
theorem Inv.step {g':Array GenState}{t':Nat}{d':Drawn}{ch:List Addr}(I:Inv X pins σ H s)
  (hch:∀b∈ch,(b∈X.ex∨X.s₀.heap.objs.size≤b)∧b≠X.env.locals∧(∀x c,X.env.cells.lookup x=some c→c≠b)∧∀p∈X.pn++pins,p.1≠b)
  (keep:∀b o,b≠X.env.locals→b ∉ X.fs→b ∉ ch→s.heap.get? b=some o→H b=none→h'.get? b=some o)
  (slot:∀b o,b≠X.env.locals→b∈X.fs→b ∉ ch→s.heap.get? b=some o→H b=none→∃sl,h'.get? b=some { o with slots:=sl })(free:∀b o,b ∉ ch→s.heap.get? b=some o→H b=none→H' b=none)
  (there:∀b o,b ∉ ch→s.heap.get? b=some o→∃o',h'.get? b=some o')
  (tups:∀b xs,H b=some (.tup xs)→H' b=some (.tup xs))(frzs:∀b o u,H b=some (.frz o u)→H' b=some (.frz o u))(tbls:∀b ps,H b=some (.tbl ps)→∃more,H' b=some (.tbl (ps++more)))
  (ns:∀m,s.heap.Ns X.env.locals m→h'.Ns X.env.locals m)(hok:HOk X.prog X.w H' h')(hg:AllBare g'):
  Inv X pins σ H' { s with heap:=h',gens:=g',drawn:=d',toks:=t' }:=by
 have neL:∀b o,X.s₀.heap.get? b=some o→b≠X.env.locals:=λb o e=>Van (Vaw (Heap.lt_size e) I.ok.above)
 have neC:∀b o,X.s₀.heap.get? b=some o→b ∉ X.ex→b ∉ ch:=λb o e hx hb=>by
  rcases (hch b hb).1 with z | z
  ·exact hx z
  ·exact absurd (Vaw (Heap.lt_size e) z) (VaH _)
 have cellK:∀x c,X.env.cells.lookup x=some c→∀v,s.heap.IsCell c v→h'.IsCell c v:=λx c e v ⟨o,ho,hd⟩=>by
  have nch:c ∉ ch:=λz=>(hch c z).2.2.1 x c e rfl
  by_cases hc:c∈X.fs
  ·obtain⟨sl,q⟩:=slot c o (I.cne x c e) hc nch ho (I.freeC x c e)
   exact⟨_,q,hd⟩
  ·exact⟨o,keep c o (I.cne x c e) hc nch ho (I.freeC x c e),hd⟩
 refine⟨I.ok,I.os,hg,⟨λb o e n hb hx=>?_,λb o e n hb hx=>?_,λb o e n hx=>?_,λb o e hx=>?_,λb xs e=>tups b xs (I.base.tups b xs e),λb o xs e=>frzs b o xs (I.base.frzs b o xs e),λb ps e=>?_⟩,?_,λx c e=>?_,?_,λx c e=>?_,λp hp=>?_,hok,I.len⟩
 ·exact keep b o (neL b o e) hb (neC b o e hx) (I.base.keep b o e n hb hx) (I.base.free b o e n hx)
 ·obtain⟨sl,e1⟩:=I.base.slot b o e n hb hx
  obtain⟨sl',e2⟩:=slot b _ (neL b o e) hb (neC b o e hx) e1 (I.base.free b o e n hx)
  exact⟨sl',e2⟩
 ·obtain⟨o',e1⟩:=I.base.there b o e hx
  exact free b o' (neC b o e hx) e1 (I.base.free b o e n hx)
 ·obtain⟨o',e1⟩:=I.base.there b o e hx
  exact there b o' (neC b o e hx) e1
 ·obtain⟨m1,e1⟩:=I.base.tbls b ps e
  obtain⟨m2,e2⟩:=tbls b _ e1
  exact⟨m1++m2,by rw[e2,Array.append_assoc]⟩
 ·obtain⟨m,hn,hl⟩:=I.loc
  refine⟨m,ns m hn,λi x v e1 e2 e3=>?_⟩
  obtain⟨u,r,l⟩:=hl i x v e1 e2 e3
  refine⟨u,r,?_⟩
  rcases l with l | ⟨k,c,e,z⟩
  ·exact .inl l
  ·exact .inr ⟨k,c,e,cellK x c e _ z⟩
 ·obtain⟨v,z⟩:=I.cell x c e
  exact⟨v,cellK x c e v z⟩
 ·obtain⟨m,⟨o,_,_,ho,_⟩,_⟩:=I.loc
  exact free _ o (λz=>(hch _ z).2.1 rfl) ho I.free
 ·obtain⟨v,o,ho,hd⟩:=I.cell x c e
  exact free c o (λz=>(hch c z).2.2.1 x c e rfl) ho (I.freeC x c e)
 ·obtain⟨e,n,ne,nf,d⟩:=I.pin p hp
  have nch:p.1 ∉ ch:=λz=>(hch p.1 z).2.2.2 p hp rfl
  exact⟨keep p.1 p.2 ne nf nch e n,free p.1 p.2 nch e n,ne,nf,d⟩
theorem Inv.un {t':Nat}(I:Inv X pins σ H s)(u:Un X.fs [] H H' s.heap h')(hok:HOk X.prog X.w H' h'):Inv X pins σ H' { s with heap:=h',toks:=t' }:=by
 obtain⟨m,⟨o,es,ep,ho,r⟩,_⟩:=id I.loc
 obtain⟨sl,hL⟩:=u.any ho I.free (by simp)
 exact I.step (g':=s.gens) (d':=s.drawn) (ch:=[]) (λ_ z=>nomatch z) (λb o _ hb _ e n=>u.keep b o e n hb (by simp)) (λb o _ hb _ e n=>u.slot b o e n hb (by simp)) (λb o _ e n=>u.free b o e n (by simp)) (λb o _ e=>u.there b o e (by simp)) u.tups u.frzs u.tbls (λm' hm=>by
  obtain⟨o',es',ep',ho',r'⟩:=hm
  rw[ho] at ho'; cases ho'
  exact⟨_,es',ep',hL,r'⟩) hok I.bare
theorem Inv.call {g':Array GenState}{t':Nat}{d':Drawn}{ch:List Addr}(I:Inv X pins σ H s)(u:Un (frs X.stack) ch H H' s.heap h')(hok:HOk X.prog X.w H' h')(hg:AllBare g')
  (hch:∀b∈ch,(b∈X.ex∨X.s₀.heap.objs.size≤b)∧b≠X.env.locals∧(∀x c,X.env.cells.lookup x=some c→c≠b)∧∀p∈X.pn++pins,p.1≠b):
  Inv X pins σ H' { s with heap:=h',gens:=g',drawn:=d',toks:=t' }:=by
 obtain⟨m,⟨o,es,ep,ho,r⟩,_⟩:=id I.loc
 obtain⟨sl,hL⟩:=u.any ho I.free λz=>(hch _ z).2.1 rfl
 exact I.step (ch:=ch) hch (λb o hL hb hc e n=>u.keep b o e n (λz=>(Vas.mp (I.stkSub b z)).elim hL hb) hc) (λb o _ _ hc e n=>u.any e n hc) (λb o hc e n=>u.free b o e n hc) (λb o hc e=>u.there b o e hc) u.tups u.frzs u.tbls (λm' hm=>by
  obtain⟨o',es',ep',ho',r'⟩:=hm
  rw[ho] at ho'; cases ho'
  exact⟨_,es',ep',hL,r'⟩) hok hg
theorem Inv.turned {t':Nat}{it:Addr}(I:Inv X pins σ H s)(k:∀b o,b≠it→s.heap.get? b=some o→h'.get? b=some o)(hn:H it=none)(hL:it≠X.env.locals)
  (h1:it∈X.ex∨X.s₀.heap.objs.size≤it)(h2:∀x c,X.env.cells.lookup x=some c→c≠it)(h3:∀p∈X.pn++pins,p.1≠it):Inv X pins σ H { s with heap:=h',toks:=t' }:=by
 have nit:∀b u,H b=some u→b≠it:=λb u e z=>by rw[z,hn] at e; cases e
 refine I.step (g':=s.gens) (d':=s.drawn) (ch:=[it]) (λb hb=>?_) (λb o _ _ hc e _=>k b o (λz=>hc (by simp[z])) e) (λb o _ _ hc e _=>⟨o.slots,k b o (λz=>hc (by simp[z])) e⟩) (λ_ _ _ _ n=>n)
  (λb o hc e=>⟨o,k b o (λz=>hc (by simp[z])) e⟩) (λ_ _ e=>e) (λ_ _ _ e=>e) (λb ps e=>⟨#[],by rw[e]; simp⟩) (λm hm=>?_) (λb u e=>?_) I.bare
 ·have e:b=it:=by simpa using hb
  subst e
  exact⟨h1,hL,h2,h3⟩
 ·obtain⟨o,es,ep,ho,r⟩:=hm
  exact⟨o,es,ep,k _ o (Ne.symm hL) ho,r⟩
 ·refine(I.hok b u e).stay (λc v hc q=>k c v ?_ q) (λ_ q=>q) λ_ _ q=>q
  rcases hc with z | z
  ·rw[z]; exact nit b u e
  ·exact nit c _ z
theorem Inv.tok (I:Inv X pins σ H s)(t:Nat):Inv X pins σ H { s with toks:=t }:=I.un (h':=s.heap) (t':=t) Un.refl I.hok
theorem Inv.kept {t':Nat}(I:Inv X pins σ H s)(k:∀b u,s.heap.get? b=some u→h'.get? b=some u):Inv X pins σ H { s with heap:=h',toks:=t' }:=I.un (Un.kept k) (I.hok.kept k)
theorem Inv.laid {a:Addr}{o:HO}{t':Nat}(I:Inv X pins σ H s)(k:∀b u,s.heap.get? b=some u→h'.get? b=some u)(hp:s.heap.objs.size≤a)(new:zby X.prog X.w (upd H a o) h' a o):
  Inv X pins σ (upd H a o) { s with heap:=h',toks:=t' }:=I.un (Un.laid k hp (I.hok.fresh hp)) (I.hok.laid k hp new)
theorem Inv.write {x e:Addr}{o:HO}{t':Nat}(I:Inv X pins σ H s)(mu:Mut (H x))(he:e=x∨H e=some (.own x))(k:∀b u,b≠e→s.heap.get? b=some u→h'.get? b=some u)(heo:∃u,h'.get? e=some u)
  (new:zby X.prog X.w (upd H x o) h' x o):Inv X pins σ (upd H x o) { s with heap:=h',toks:=t' }:=I.un (Un.write mu he k heo) (I.hok.write mu he k heo new)
theorem Inv.pins_of {pins':List (Addr×Obj)}(I:Inv X pins σ H s)(h:∀p∈pins',s.heap.get? p.1=some p.2∧H p.1=none∧p.1≠X.env.locals∧p.1 ∉ X.fs∧∀v,p.2.data≠.cell v):Inv X pins' σ H s:=
 ⟨I.ok,I.os,I.bare,I.base,I.loc,I.cell,I.free,I.freeC,λp hp=>(VaQ.mp hp).elim (λz=>I.pin p (List.mem_append_left _ z)) (h p),I.hok,I.len⟩
theorem zqO {N:List Str}(hN:N.Nodup){i j:Nat}{x:Str}(a:N[i]?=some x)(b:N[j]?=some x):i=j:=by
 obtain⟨h1,e1⟩:=Vad.mp a
 obtain⟨h2,e2⟩:=Vad.mp b
 exact(List.getElem_inj hN).mp (e1.trans e2.symm)
theorem znu {M:Model}{A:Around}{E:Value→Shared→Prop}{i:Nat}{x:Str}{v:V}{u:Value}{Q:Unit→Shared→Prop}(I:Inv X pins σ H s)(hN:X.N.Nodup)(hi:X.N[i]?=some x)(hx:Loc X.env.scope x)(r:zav v u)
  (h:∀s',Inv X pins (σ.set i (some v)) H s'→(∃a,Heap.SameBut a s.heap s'.heap∧(a=X.env.locals∨X.env.cells.lookup x=some a))→Q () s')(hf:X.fn x=true∨X.env.scope.names.lookup x=some .local:=by first | exact .inl rfl | exact .inr rfl | assumption):wpAny M A (storeName X.env x u) Q E s:=by
 obtain⟨m,hn,hl⟩:=id I.loc
 have hcls:(X.env.scope.kind==.class||(X.env.scope.kind==.module&&X.env.locals != X.env.globals))=false:=by rw[I.ok.kind]; rfl
 have hiσ:i<σ.length:=by rw[I.len]; exact(Vad.mp hi).1
 have cne:=I.cne
 have tracked:∀ {a:Addr} {h':Heap},(∃o,s.heap.get? a=some o∧H a=none)→Heap.SameBut a s.heap h'→HOk X.prog X.w H h':=λ{a h'} ha hs b ob e=>by
  obtain⟨_,_,hfree⟩:=ha
  refine(I.hok b ob e).stay (λc w' hc q=>(hs.2 c ?_).trans q) (λ_ q=>q) λ_ _ q=>q
  rintro rfl
  rcases hc with rfl | hc
  ·rw[hfree] at e; cases e
  ·rw[hfree] at hc; cases hc
 rcases hx with hk | hk
 ·refine wpAny_storeName_local hk hn (λh' hn' hs=>?_) hcls
  obtain⟨oL,_,_,hoL,_⟩:=id hn
  refine h _ ⟨I.ok,I.os,I.bare,⟨λb o e n hb hx=>?_,λb o e n hb hx=>?_,I.base.free,λb o e hx=>?_,I.base.tups,I.base.frzs,I.base.tbls⟩,⟨_,hn',λj y v' e1 e2 e3=>?_⟩,λy c e=>?_,I.free,I.freeC,λp hp=>?_,tracked ⟨oL,hoL,I.free⟩ hs,by simpa using I.len⟩ ⟨_,hs,.inl rfl⟩
  ·exact(hs.2 b (Van (Vaw (Heap.lt_size e) I.ok.above))).trans (I.base.keep b o e n hb hx)
  ·obtain⟨sl,e1⟩:=I.base.slot b o e n hb hx
   exact⟨sl,(hs.2 b (Van (Vaw (Heap.lt_size e) I.ok.above))).trans e1⟩
  ·obtain⟨o',e1⟩:=I.base.there b o e hx
   exact⟨o',(hs.2 b (Van (Vaw (Heap.lt_size e) I.ok.above))).trans e1⟩
  ·by_cases hj:j=i
   ·subst hj
    rw[hi] at e1; cases e1
    rw[Va8 hiσ] at e2
    cases e2
    exact⟨u,r,.inl ⟨hk,by simp⟩⟩
   ·rw[VaM (Ne.symm hj)] at e2
    obtain⟨u',r',q⟩:=hl j y v' e1 e2 e3
    refine⟨u',r',?_⟩
    rcases q with ⟨k,e⟩ | ⟨k,c,e,z⟩
    ·refine .inl ⟨k,?_⟩
     have:y≠x:=λe=>hj (zqO hN e1 (e ▸ hi))
     simp[this,e]
    ·exact .inr ⟨k,c,e,z.sameBut hs (cne y c e)⟩
  ·obtain⟨w',z⟩:=I.cell y c e
   exact⟨w',z.sameBut hs (cne y c e)⟩
  ·obtain⟨e,n,ne,nf,d⟩:=I.pin p hp
   exact⟨(hs.2 p.1 ne).trans e,n,ne,nf,d⟩
 ·have hfn:X.fn x=true:=by
   rcases hf with z | z
   ·exact z
   ·rw[z] at hk; cases hk
  obtain⟨c,hc⟩:=I.ok.has x (.inl hk)
  obtain⟨w',z⟩:=I.cell x c hc
  refine wpAny_storeName_cell I.ok.kind hk hc z (λh' hc' hs=>?_)
  obtain⟨oc,hoc,hocd⟩:=id z
  refine h { s with heap:=h' } ⟨I.ok,I.os,I.bare,⟨λb o e n hb hx=>?_,λb o e n hb hx=>?_,I.base.free,λb o e hx=>?_,I.base.tups,I.base.frzs,I.base.tbls⟩,⟨m,hn.sameBut hs (Ne.symm (cne x c hc)),λj y v' e1 e2 e3=>?_⟩,λy c' e=>?_,I.free,I.freeC,λp hp=>?_,tracked ⟨oc,hoc,I.freeC x c hc⟩ hs,by simpa using I.len⟩ ⟨c,hs,.inr hc⟩
  ·exact(hs.2 b (Van (Vaw (Heap.lt_size e) (I.ok.cab x c hfn hc)))).trans (I.base.keep b o e n hb hx)
  ·obtain⟨sl,e1⟩:=I.base.slot b o e n hb hx
   exact⟨sl,(hs.2 b (Van (Vaw (Heap.lt_size e) (I.ok.cab x c hfn hc)))).trans e1⟩
  ·obtain⟨o',e1⟩:=I.base.there b o e hx
   exact⟨o',(hs.2 b (Van (Vaw (Heap.lt_size e) (I.ok.cab x c hfn hc)))).trans e1⟩
  ·by_cases hj:j=i
   ·subst hj
    rw[hi] at e1; cases e1
    rw[Va8 hiσ] at e2
    cases e2
    exact⟨u,r,.inr ⟨.inl hk,c,hc,hc'⟩⟩
   ·rw[VaM (Ne.symm hj)] at e2
    obtain⟨u',r',q⟩:=hl j y v' e1 e2 e3
    refine⟨u',r',?_⟩
    rcases q with q | ⟨k,c',e,z'⟩
    ·exact .inl q
    ·refine .inr ⟨k,c',e,z'.sameBut hs ?_⟩
     rintro rfl
     exact hj (zqO hN e1 (I.ok.inj _ _ _ e hc ▸ hi))
  ·by_cases hcc:c'=c
   ·subst hcc; exact⟨_,hc'⟩
   ·obtain⟨w2,z2⟩:=I.cell y c' e
    exact⟨w2,z2.sameBut hs hcc⟩
  ·obtain⟨e,n,ne,nf,d⟩:=I.pin p hp
   refine⟨(hs.2 p.1 ?_).trans e,n,ne,nf,d⟩
   intro q
   rw[q,hoc] at e
   have q':oc=p.2:=Option.some.inj e
   exact d w' (by rw[← q']; exact hocd)
theorem zj7 {M:Model}{A:Around}{E:Value→Shared→Prop}{i:Nat}{x:Str}{v:V}{u:Value}{Q:Unit→Shared→Prop}(I:Inv X pins σ H s)(hN:X.N.Nodup)(hi:X.N[i]?=some x)(hx:Loc X.env.scope x)(r:zav v u)
  (h:∀s',Inv X pins (σ.set i (some v)) H s'→Q () s')(hf:X.fn x=true∨X.env.scope.names.lookup x=some .local:=by first | exact .inl rfl | exact .inr rfl | assumption):wpAny M A (storeName X.env x u) Q E s:=
 znu I hN hi hx r (λs' I' _=>h s' I') hf
theorem Inv.call' {s':Shared}{ch:List Addr}(I:Inv X pins σ H s)(ho:s'.os=s.os)(u:Un (frs X.stack) ch H H' s.heap s'.heap)(hok:HOk X.prog X.w H' s'.heap)(hg:AllBare s'.gens)
  (hch:∀b∈ch,(b∈X.ex∨X.s₀.heap.objs.size≤b)∧b≠X.env.locals∧(∀x c,X.env.cells.lookup x=some c→c≠b)∧∀p∈X.pn++pins,p.1≠b):Inv X pins σ H' s':=by
 obtain⟨h',g',d',t',o'⟩:=s'
 have e:o'=s.os:=ho
 subst e
 exact I.call (g':=g') (t':=t') (d':=d') u hok hg hch
end
abbrev XK:=Value→Option Addr→Hp→Prop
abbrev St:=List (Option V)
abbrev VK:=V→Hp→Prop
abbrev TE:=St→Hp→VK→Prop
abbrev TT:=St→Hp→(Bool→Hp→Prop)→Prop
abbrev TA:=St→Hp→(List V→Hp→Prop)→Prop
structure zdJ where
 nx:St→Hp→Prop
 rt:VK
 bk:St→Hp→Prop:=λ_ _=>False
 ct:St→Hp→Prop:=λ_ _=>False
abbrev TS:=zdJ→St→Hp→Prop
def EP (X:Cx)(pins:List (Addr×Obj))(σ:St)(Q:VK)(u:Value)(s':Shared):Prop:=∃v H',Inv X pins σ H' s'∧zav v u∧Q v H'
def TP (X:Cx)(pins:List (Addr×Obj))(σ:St)(Q:Bool→Hp→Prop)(b:Bool)(s':Shared):Prop:=∃H',Inv X pins σ H' s'∧Q b H'
def AP (X:Cx)(pins:List (Addr×Obj))(σ:St)(Q:List V→Hp→Prop)(us:List Value)(s':Shared):Prop:=∃vs H',Inv X pins σ H' s'∧zau vs us∧Q vs H'
def SP (X:Cx)(pins:List (Addr×Obj))(D:zdJ)(f:Flow)(s':Shared):Prop:=
 match f with
 | .next=>∃σ' H',Inv X pins σ' H' s'∧D.nx σ' H'
 | .brk=>∃σ' H',Inv X pins σ' H' s'∧D.bk σ' H'
 | .cont=>∃σ' H',Inv X pins σ' H' s'∧D.ct σ' H'
 | .ret u=>∃v σ' H',Inv X pins σ' H' s'∧zav v u∧D.rt v H'
def PE (X:Cx)(e:Expr)(t:TE):Prop:=
 ∀(pins:List (Addr×Obj)) (s:Shared) (σ:St) (H:Hp) (Q:VK),Inv X pins σ H s→t σ H Q→wpAny (model X.prog X.w) X.A (eval e X.env) (EP X pins σ Q) X.xe s
def PT (X:Cx)(e:Expr)(t:TT):Prop:=
 ∀(pins:List (Addr×Obj)) (s:Shared) (σ:St) (H:Hp) (Q:Bool→Hp→Prop),Inv X pins σ H s→t σ H Q→wpAny (model X.prog X.w) X.A (isTrue e X.env (eval e X.env)) (TP X pins σ Q) X.xe s
def PW (X:Cx)(e:Expr)(t:TT):Prop:=
 ∀(whole:Sem Value) (pins:List (Addr×Obj)) (s:Shared) (σ:St) (H:Hp) (Q:Bool→Hp→Prop),Inv X pins σ H s→t σ H Q→wpAny (model X.prog X.w) X.A (isTrue e X.env whole) (TP X pins σ Q) X.xe s
theorem PW.pt {X:Cx}{e:Expr}{t:TT}(h:PW X e t):PT X e t:=h _
def PA (X:Cx)(es:List Expr)(t:TA):Prop:=
 ∀(pos:Pos) (pins:List (Addr×Obj)) (s:Shared) (σ:St) (H:Hp) (Q:List V→Hp→Prop),Inv X pins σ H s→t σ H Q→wpAny (model X.prog X.w) X.A (spliced (backTo pos (starEach es X.env))) (AP X pins σ Q) X.xe s
def PS (X:Cx)(st:Stmt)(t:TS):Prop:=
 ∀(pins:List (Addr×Obj)) (s:Shared) (σ:St) (H:Hp) (D:zdJ),Inv X pins σ H s→t D σ H→wpAny (model X.prog X.w) X.A (exec st X.env) (SP X pins D) X.xe s
def PSs (X:Cx)(st:List Stmt)(t:TS):Prop:=
 ∀(pins:List (Addr×Obj)) (s:Shared) (σ:St) (H:Hp) (D:zdJ),Inv X pins σ H s→t D σ H→wpAny (model X.prog X.w) X.A (execs st X.env) (SP X pins D) X.xe s
theorem thn {α:Type}{t:Sem α}{Q Q':α→Shared→Prop}{M:Model}{A:Around}{E:Value→Shared→Prop}{s:Shared}(h:wpAny M A t Q E s)(hQ:∀a s,Q a s→Q' a s):wpAny M A t Q' E s:=wpAny_mono h hQ λ_ _ x=>x
end L2
namespace L2
open PySem PySem.Spec PyProof.Rows
section
variable {X:Cx}
def tVar (i:Nat):TE:=λσ H Q=>∃v,σ[i]?=some (some v)∧Q v H
def tC (v:V):TE:=λ_ H Q=>Q v H
theorem zq4 {i:Nat}{x:Str}{pos:Pos}(hN:X.N[i]?=some x)(hv:Vis X.env.scope x)(hd:(x==("__debug__":Str))=false:=by decide)(hcd:(x==("__classdict__":Str))=false:=by decide):PE X (.Name x pos) (tVar i):=by
 intro pins s σ H Q I h
 obtain⟨v,e,h⟩:=h
 obtain⟨m,hn,hl⟩:=I.loc
 obtain⟨u,r,l⟩:=hl i x v hN e hv
 have fin:EP X pins σ Q u s:=⟨v,H,I,r,h⟩
 rcases l with ⟨hk,hm⟩ | ⟨hk,c,hc,hcell⟩
 ·exact wpAny_Name (wpAny_loadName_local I.ok.kind hk hn hm fin) hd
 ·rcases hk with hk | hk
  ·exact wpAny_Name (wpAny_loadName_cell I.ok.kind hk hc hcell fin) hd
  ·exact wpAny_Name (wpAny_loadName_free I.ok.kind hk hc hcell fin hcd) hd
theorem zxr {i j pos}:PE X (.Constant (.int i) j pos) (tC (.int i)):=λ_ _ _ H _ I h=>wpAny_Constant_int ⟨.int i,H,I.tok _,⟨_,rfl⟩,h⟩
theorem pe_bl {b j pos}:PE X (.Constant (.bool b) j pos) (tC (.bl b)):=λ_ _ _ H _ I h=>Constant_bool ⟨.bl b,H,I,rfl,h⟩
theorem zwO {j pos}:PE X (.Constant .none j pos) (tC .non):=λ_ _ _ H _ I h=>Constant_none ⟨.non,H,I,rfl,h⟩
theorem ztf {x j pos}:PE X (.Constant (.str x) j pos) (tC (.str x)):=λ_ _ _ H _ I h=>Calls.Constant_str ⟨.str x,H,I.tok _,⟨_,rfl⟩,h⟩
def Gl (X:Cx)(x:Str):Prop:=X.env.kindOf x=some .globalImplicit
theorem zq5 {E:Value→Shared→Prop}{pins:List (Addr×Obj)}{s:Shared}{σ:St}{H:Hp}{x:Str}{u:Value}{pos:Pos}{Q:Value→Shared→Prop}(I:Inv X pins σ H s)(hg:Gl X x)(hm:X.mg x=some u)(h:Q u s)
  (hd:(x==("__debug__":Str))=false:=by decide):wpAny (model X.prog X.w) X.A (eval (.Name x pos) X.env) Q E s:=
 Calls.Name_function_global I.ok.kind hg (Calls.loadGlobal_global (by rw[I.ok.glob]; exact I.mod.glob.keeps I.bk) hm h) hd
theorem zeU {E:Value→Shared→Prop}{pins:List (Addr×Obj)}{s:Shared}{σ:St}{H:Hp}{x:Str}{u:Value}{pos:Pos}{Q:Value→Shared→Prop}(I:Inv X pins σ H s)(hg:Gl X x)(hm:X.mg x=none)(hv:bootBuiltins x=some u)(h:Q u s)
  (hn:x≠"__name__":=by decide)(hd:(x==("__debug__":Str))=false:=by decide):wpAny (model X.prog X.w) X.A (eval (.Name x pos) X.env) Q E s:=by
 obtain⟨mb,h1,h2⟩:=I.mod.blt
 exact Calls.Name_function_global I.ok.kind hg (Calls.loadGlobal_builtin (by rw[I.ok.glob]; exact I.mod.glob.keeps I.bk) hm (by rw[I.ok.blt]; exact h1.keeps I.bk) ((h2 x hn).trans hv) h) hd
theorem zqL {x:Str}{v:V}{u:Value}{pos:Pos}(hg:Gl X x)(hm:X.mg x=none)(hv:bootBuiltins x=some u)(r:zav v u)(hn:x≠"__name__":=by decide)(hd:(x==("__debug__":Str))=false:=by decide):PE X (.Name x pos) (tC v):=
 λ_ _ _ H _ I h=>zeU I hg hm hv ⟨v,H,I,r,h⟩ hn hd
variable {a b:Expr}{ta tb:TE}{pos:Pos}
def tB (t:TE):TT:=λσ H Q=>t σ H λx H1=>∃c,x=.bl c∧Q c H1
theorem zwf {e:Expr}{t:TE}(h:PE X e t)(he:∀whole,isTrue e X.env whole=(do let v ← whole; standAt e.pos; holding [v] (truthy v)):=by intro _; rfl):PT X e (tB t):=by
 intro pins s σ H Q I hw
 refine isTrue_plain (thn (h pins s σ H _ I hw) λv s1 ⟨x,H1,I1,r1,q1⟩=>?_) (he _)
 obtain⟨d,rfl,q⟩:=q1
 cases r1
 exact wpAny_truthy_bool ⟨H1,I1,q⟩
variable {tA tB':TT}{zbj:List Expr}
def tAnd (t u:TT):TT:=λσ H Q=>t σ H λc H1=>if c=true then u σ H1 Q else Q false H1
def tOr (t u:TT):TT:=λσ H Q=>t σ H λc H1=>if c=true then Q true H1 else u σ H1 Q
def tNot (t:TT):TT:=λσ H Q=>t σ H λc H1=>Q (!c) H1
theorem zve (ha:PT X a tA):PW X (.BoolOp .And [a] pos) tA:=by
 intro wh pins s σ H Q I h
 refine isTrue_and (thn (ha pins s σ H Q I h) λc s1 e=>?_)
 cases c with
 | true=>exact isTrue_and_nil e
 | false=>exact e
theorem zrx (ha:PT X a tA):PW X (.BoolOp .Or [a] pos) tA:=by
 intro wh pins s σ H Q I h
 refine isTrue_or (thn (ha pins s σ H Q I h) λc s1 e=>?_)
 cases c with
 | false=>exact isTrue_or_nil e
 | true=>exact e
theorem zup (ha:PT X a tA)(hb:PW X (.BoolOp .And (b::zbj) pos) tB'):PW X (.BoolOp .And (a::b::zbj) pos) (tAnd tA tB'):=by
 intro wh pins s σ H Q I h
 refine isTrue_and (thn (ha pins s σ H _ I h) λc s1 ⟨H1,I1,q1⟩=>?_)
 cases c with
 | true=>exact hb wh pins s1 σ H1 Q I1 q1
 | false=>exact⟨H1,I1,q1⟩
theorem pw_or (ha:PT X a tA)(hb:PW X (.BoolOp .Or (b::zbj) pos) tB'):PW X (.BoolOp .Or (a::b::zbj) pos) (tOr tA tB'):=by
 intro wh pins s σ H Q I h
 refine isTrue_or (thn (ha pins s σ H _ I h) λc s1 ⟨H1,I1,q1⟩=>?_)
 cases c with
 | true=>exact⟨H1,I1,q1⟩
 | false=>exact hb wh pins s1 σ H1 Q I1 q1
theorem zrK (ha:PT X a tA):PT X (.UnaryOp .Not a pos) (tNot tA):=by
 intro pins s σ H Q I h
 exact isTrue_not (ha pins s σ H (λc H1=>Q (!c) H1) I h)
def tAndV (ta tb:TE):TE:=λσ H Q=>ta σ H λx H1=>∃c,x=.bl c∧if c=true then tb σ H1 Q else Q (.bl false) H1
def tNotV (ta:TE):TE:=λσ H Q=>ta σ H λx H1=>∃c,x=.bl c∧Q (.bl (!c)) H1
theorem zwd {op}{t:TE}(h:PE X a t):PE X (.BoolOp op [a] pos) t:=λpins s σ H Q I hw=>BoolOp_one (h pins s σ H Q I hw)
theorem zsg (ha:PE X a ta)(hb:PE X (.BoolOp .And (b::zbj) pos) tb):PE X (.BoolOp .And (a::b::zbj) pos) (tAndV ta tb):=by
 intro pins s σ H Q I h
 refine BoolOp_and (thn (ha pins s σ H _ I h) λv s1 ⟨x,H1,I1,r1,q1⟩=>?_)
 obtain⟨c,rfl,q1⟩:=q1
 cases r1
 refine wpAny_truthy_bool ?_
 cases c with
 | true=>exact hb pins s1 σ H1 Q I1 q1
 | false=>exact⟨.bl false,H1,I1,rfl,q1⟩
theorem zro (ha:PE X a ta):PE X (.UnaryOp .Not a pos) (tNotV ta):=by
 intro pins s σ H Q I h
 refine UnaryOp_ (thn (ha pins s σ H _ I h) λv s1 ⟨x,H1,I1,r1,q1⟩=>?_)
 obtain⟨c,rfl,q1⟩:=q1
 cases r1
 exact not_of (wpAny_truthy_bool ⟨.bl (!c),H1,I1,rfl,q1⟩)
def tIf (t:TT)(ta tb:TE):TE:=λσ H Q=>t σ H λc H1=>if c=true then ta σ H1 Q else tb σ H1 Q
theorem zyc {c:Expr}(hc:PT X c tA)(ha:PE X a ta)(hb:PE X b tb):PE X (.IfExp c a b pos) (tIf tA ta tb):=by
 intro pins s σ H Q I h
 refine wpAny_IfExp (thn (hc pins s σ H _ I h) λd s1 ⟨H1,I1,q1⟩=>?_)
 cases d with
 | true=>exact ha pins s1 σ H1 Q I1 q1
 | false=>exact hb pins s1 σ H1 Q I1 q1
end
end L2
namespace L2
open PySem PySem.Spec PyProof.Rows
def SqL (K:PySem.W.Frag)(H:Hp)(a:Addr)(xs:List V):Prop:=
 Rd H a (.lst xs)∨
  ∃(o:Obj) (its:Array Value) (n:Nat),K.lookup a=some o∧o.cls=.type "list"∧o.dict=none∧o.data=.seq its n∧its.size≤sizeLine∧zau xs its.toList
def SqT (K:PySem.W.Frag)(H:Hp)(a:Addr)(xs:List V):Prop:=
 Rd H a (.tup xs)∨
  ∃(o:Obj) (its:Array Value) (n:Nat),K.lookup a=some o∧o.cls=.type "tuple"∧o.data=.seq its n∧its.size≤sizeLine∧zau xs its.toList
def absV:Value→Option V
 | .none=>some .non
 | .bool b=>some (.bl b)
 | .int i _=>some (.int i)
 | .str x _=>some (.str x)
 | .bytes b _=>some (.byt b)
 | .float b _=>some (.flt b)
 | .ref a=>some (.ref a)
 | .type n=>some (.ty n)
 | _=>none
theorem zav.abs {x:V}{u:Value}(r:zav x u):absV u=some x:=by
 cases x with
 | non=>cases r; rfl
 | bl _=>cases r; rfl
 | int _=>obtain⟨t,rfl⟩:=r; rfl
 | str _=>obtain⟨t,rfl⟩:=r; rfl
 | byt _=>obtain⟨t,rfl⟩:=r; rfl
 | flt _=>obtain⟨t,rfl⟩:=r; rfl
 | ref _=>cases r; rfl
 | ty _=>cases r; rfl
theorem zav.inj {x y:V}{u:Value}(r:zav x u)(q:zav y u):x=y:=Option.some.inj (r.abs.symm.trans q.abs)
theorem zau.inj:∀ {xs ys:List V} {us:List Value},zau xs us→zau ys us→xs=ys
 | _,_,_,.nil,.nil=>rfl
 | _,_,_,.cons r t,.cons r' t'=>by rw[r.inj r',zau.inj t t']
section
variable {X:Cx}{pins:List (Addr×Obj)}{σ:St}{H:Hp}{s:Shared}{a:Addr}{xs ys:List V}
theorem SqL.of {K:PySem.W.Frag}(h:H a=some (.lst xs)):SqL K H a xs:=.inl (.inl h)
theorem SqT.of {K:PySem.W.Frag}(h:H a=some (.tup xs)):SqT K H a xs:=.inl (.inl h)
theorem Inv.list (I:Inv X pins σ H s)(h:SqL X.K H a xs):∃its:List Value,zau xs its∧PlainL s.heap a its.toArray∧xs.length≤sizeLine:=by
 rcases h with h | ⟨o,its,n,hk,hc,hd,hs,hz,r⟩
 ·obtain⟨z,its,n,r,e⟩:=h.ok I.hok
  exact⟨its,r,⟨_,n,e,rfl,rfl,rfl⟩,z⟩
 ·refine⟨its.toList,r,⟨o,n,I.kIn a o hk,hc,hd,by simpa using hs⟩,?_⟩
  have e:=r.length
  simp only[Array.length_toList] at e
  omega
theorem Inv.tuple (I:Inv X pins σ H s)(h:SqT X.K H a xs):∃its:List Value,zau xs its∧IsTup s.heap a its.toArray∧xs.length≤sizeLine:=by
 rcases h with h | ⟨o,its,n,hk,hc,hs,hz,r⟩
 ·obtain⟨z,its,r,p⟩:=h.ok I.hok
  exact⟨its,r,p,z⟩
 ·refine⟨its.toList,r,⟨o,I.kIn a o hk,hc,n,by simpa using hs⟩,?_⟩
  have e:=r.length
  simp only[Array.length_toList] at e
  omega
theorem Inv.list_inj (I:Inv X pins σ H s)(h:SqL X.K H a xs)(h':SqL X.K H a ys):xs=ys:=by
 obtain⟨its,r,⟨o,n,e,_,_,d⟩,_⟩:=I.list h
 obtain⟨its',r',⟨o',n',e',_,_,d'⟩,_⟩:=I.list h'
 rw[e] at e'; cases e'
 rw[d] at d'
 injection d' with d1 _
 have:its=its':=by simpa using congrArg Array.toList d1
 subst this
 exact r.inj r'
end
abbrev Cx.wish (X:Cx)(E:Value→Shared→Prop):Cx:={ X with xe:=E }
abbrev Cx.nox (X:Cx):Cx:=X.wish λ_ _=>False
theorem Cx.Ok.wish {X:Cx}(ok:X.Ok)(E:Value→Shared→Prop):(X.wish E).Ok:=
 ⟨ok.mod,ok.kind,ok.glob,ok.blt,ok.above,ok.inj,ok.has,ok.cab,ok.hd,ok.frames,ok.stk,ok.exf,ok.bs,ok.bsz,ok.noex,ok.exfs,ok.funs,ok.frf⟩
theorem Cx.Ok.unwish {X:Cx}{E:Value→Shared→Prop}(ok:(X.wish E).Ok):X.Ok:=
 ⟨ok.mod,ok.kind,ok.glob,ok.blt,ok.above,ok.inj,ok.has,ok.cab,ok.hd,ok.frames,ok.stk,ok.exf,ok.bs,ok.bsz,ok.noex,ok.exfs,ok.funs,ok.frf⟩
section
variable {X:Cx}{pins:List (Addr×Obj)}{σ:St}{H:Hp}{s:Shared}{E:Value→Shared→Prop}
theorem Inv.wish (I:Inv X pins σ H s)(E:Value→Shared→Prop):Inv (X.wish E) pins σ H s:=⟨I.ok.wish E,I.os,I.bare,I.base,I.loc,I.cell,I.free,I.freeC,I.pin,I.hok,I.len⟩
theorem Inv.unwish (I:Inv (X.wish E) pins σ H s):Inv X pins σ H s:=⟨I.ok.unwish,I.os,I.bare,I.base,I.loc,I.cell,I.free,I.freeC,I.pin,I.hok,I.len⟩
theorem SP.unwish {D:zdJ}{f:Flow}{s':Shared}(h:SP (X.wish E) pins D f s'):SP X pins D f s':=by
 cases f with
 | next=>obtain⟨σ',H',I,q⟩:=h; exact⟨σ',H',I.unwish,q⟩
 | brk=>obtain⟨σ',H',I,q⟩:=h; exact⟨σ',H',I.unwish,q⟩
 | cont=>obtain⟨σ',H',I,q⟩:=h; exact⟨σ',H',I.unwish,q⟩
 | ret u=>obtain⟨v,σ',H',I,r,q⟩:=h; exact⟨v,σ',H',I.unwish,r,q⟩
theorem PE.nox {e:Expr}{t:TE}(h:PE X.nox e t):PE X e t:=λpins s σ H Q I hw=>
 wpAny_mono (h pins s σ H Q (I.wish _) hw) (λ_ _ ⟨v,H',I',r,q⟩=>⟨v,H',I'.unwish,r,q⟩) λ_ _ z=>False.elim z
theorem PT.nox {e:Expr}{t:TT}(h:PT X.nox e t):PT X e t:=λpins s σ H Q I hw=>
 wpAny_mono (h pins s σ H Q (I.wish _) hw) (λ_ _ ⟨H',I',q⟩=>⟨H',I'.unwish,q⟩) λ_ _ z=>False.elim z
theorem PSs.nox {st:List Stmt}{t:TS}(h:PSs X.nox st t):PSs X st t:=λpins s σ H D I hw=>
 wpAny_mono (h pins s σ H D (I.wish _) hw) (λ_ _ q=>q.unwish) λ_ _ z=>False.elim z
end
section
variable {X:Cx}{st:Stmt}{zbj:List Stmt}{t u:TS}{e:Expr}{te:TE}{pos:Pos}
def tNext:TS:=λD σ H=>D.nx σ H
def tSeq (t u:TS):TS:=λD σ H=>t { D with nx:=u D } σ H
theorem zxn:PSs X [] tNext:=λ_ _ σ H _ I h=>wpAny_execs_nil ⟨σ,H,I,h⟩
theorem ztb (h1:PS X st t)(h2:PSs X zbj u):PSs X (st::zbj) (tSeq t u):=by
 intro pins s σ H D I h
 refine wpAny_execs_cons (thn (h1 pins s σ H { D with nx:=u D } I h) λf s1 q=>?_)
 cases f with
 | next=>
  obtain⟨σ',H',I',q⟩:=q
  exact h2 pins s1 σ' H' D I' q
 | ret v=>exact q
 | brk=>exact q
 | cont=>exact q
theorem zt6 (h1:PS X st t):PSs X [st] t:=by
 intro pins s σ H D I h
 refine wpAny_execs_cons (thn (h1 pins s σ H D I h) λf s1 q=>?_)
 cases f with
 | next=>exact wpAny_execs_nil q
 | ret v=>exact q
 | brk=>exact q
 | cont=>exact q
theorem Inv.quiet {pins:List (Addr×Obj)}{σ:St}{H:Hp}{s:Shared}(I:Inv X pins σ H s):interactive X.env=false:=by simp[interactive,I.ok.kind]
def tDrop (te:TE):TS:=λD σ H=>te σ H λ_ H1=>D.nx σ H1
theorem ztm (he:PE X e te)(hs:swapsWith e none pos.line X.env=pure false:=by rfl):PS X (.Expr e pos) (tDrop te):=by
 intro pins s σ H D I h
 exact wpAny_Expr_any (thn (he pins s σ H _ I h) λv s1 ⟨x,H1,I1,r1,q1⟩=>⟨σ,H1,I1,q1⟩) I.quiet hs
def tRet (te:TE):TS:=λD σ H=>te σ H D.rt
theorem zsJ (he:PE X e te):PS X (.Return (some e) pos) (tRet te):=by
 intro pins s σ H D I h
 exact wpAny_Return_some (thn (he pins s σ H _ I h) λv s1 ⟨x,H1,I1,r1,q1⟩=>⟨x,σ,H1,I1,r1,q1⟩)
def tIfS (c:TT)(t u:TS):TS:=λD σ H=>c σ H λb H1=>if b=true then t D σ H1 else u D σ H1
theorem ps_if {c:Expr}{a b:List Stmt}{tc:TT}(hc:PT X c tc)(ha:PSs X a t)(hb:PSs X b u):PS X (.If c a b pos) (tIfS tc t u):=by
 intro pins s σ H D I h
 refine wpAny_If (thn (hc pins s σ H _ I h) λd s1 ⟨H1,I1,q1⟩=>?_)
 cases d with
 | true=>exact ha pins s1 σ H1 D I1 q1
 | false=>exact hb pins s1 σ H1 D I1 q1
def ztO:TS:=λ_ _ _=>False
theorem zr8:PS X st ztO:=λ_ _ _ _ _ _ h=>h.elim
end
abbrev TG:=V→St→Hp→(St→Hp→Prop)→Prop
abbrev TGs:=List V→St→Hp→(St→Hp→Prop)→Prop
def PG (X:Cx)(target:Expr)(t:TG):Prop:=
 ∀(pins:List (Addr×Obj)) (s:Shared) (σ:St) (H:Hp) (v:V) (u:Value) (Q:St→Hp→Prop),Inv X pins σ H s→zav v u→t v σ H Q→
  wpAny (model X.prog X.w) X.A (assign target X.env u) (λ_ s'=>∃σ' H',Inv X pins σ' H' s'∧Q σ' H') X.xe s
def PGs (X:Cx)(ts:List Expr)(t:TGs):Prop:=
 ∀(pins:List (Addr×Obj)) (s:Shared) (σ:St) (H:Hp) (vs:List V) (us:List Value) (Q:St→Hp→Prop),Inv X pins σ H s→zau vs us→t vs σ H Q→
  wpAny (model X.prog X.w) X.A (assignInOrder ((assignEach ts X.env).map (·.2)) us) (λ_ s'=>∃σ' H',Inv X pins σ' H' s'∧Q σ' H') X.xe s
section
variable {X:Cx}{pos:Pos}
def zq9 (i:Nat):TG:=λv σ H Q=>Q (σ.set i (some v)) H
theorem zku {i:Nat}{x:Str}(hN:X.N.Nodup)(hi:X.N[i]?=some x)(hx:Loc X.env.scope x)(hf:X.fn x=true∨X.env.scope.names.lookup x=some .local:=by first | exact .inl rfl | exact .inr rfl | assumption):PG X (.Name x pos) (zq9 i):=by
 intro pins s σ H v u Q I r h
 exact wpAny_assign_Name (zj7 I hN hi hx r (λs' I'=>⟨_,H,I',h⟩) hf)
def gNil:TGs:=λvs σ H Q=>vs=[]∧Q σ H
def gCons (t:TG)(u:TGs):TGs:=λvs σ H Q=>∃v r,vs=v::r∧t v σ H λσ' H'=>u r σ' H' Q
theorem zrw:PGs X [] gNil:=by
 intro pins s σ H vs us Q I r h
 obtain⟨e,h⟩:=h
 subst e
 cases r
 exact assignInOrder_nil ⟨σ,H,I,h⟩
theorem zuL {e:Expr}{es:List Expr}{t:TG}{u:TGs}(h1:PG X e t)(h2:PGs X es u)
  (hs:(assignEach (e::es) X.env).map (·.2)=assign e X.env::(assignEach es X.env).map (·.2):=by rfl):PGs X (e::es) (gCons t u):=by
 intro pins s σ H vs us Q I r h
 obtain⟨v,vr,e1,h⟩:=h
 subst e1
 cases r with
 | cons r rr=>
  rw[hs]
  refine assignInOrder_cons (thn (h1 pins s σ H _ _ _ I r h) λ_ s1 ⟨σ1,H1,I1,q1⟩=>?_)
  exact h2 pins s1 σ1 H1 _ _ Q I1 rr q1
def zff (K:PySem.W.Frag)(n:Nat)(t:TGs):TG:=λv σ H Q=>∃a xs,v=.ref a∧SqT K H a xs∧xs.length=n∧t xs σ H Q
theorem zgf {es:List Expr}{k:Nat}{t:TGs}{n:Nat}(hc:X.calm=true)(h:PGs X es t)
  (hn:(assignEach es X.env).length=n:=by rfl)(hst:(assignEach es X.env).findIdx? (·.1)=none:=by rfl):PG X (.Tuple es k pos) (zff X.K n t):=by
 intro pins s σ H v u Q I r hw
 obtain⟨a,xs,e1,hq,hl,hw⟩:=hw
 subst e1
 cases r
 obtain⟨its,rv,ht,hz⟩:=I.tuple hq
 refine assign_Tuple_tuple (I.ok.hd hc) ht (by simp[hn,← hl,rv.length]) hst λh' hx=>?_
 have I1:Inv X pins σ H { s with heap:=h' }:=I.kept (t':=s.toks) λb o e=>hx b o (Van (Heap.lt_size e)) e
 exact h pins _ σ H xs _ Q I1 (by simpa using rv) hw
def tAsg (te:TE)(g:TG):TS:=λD σ H=>te σ H λx H1=>g x σ H1 D.nx
theorem zrm {tg e:Expr}{te:TE}{g:TG}(he:PE X e te)(hg:PG X tg g)(hs:swapsWithSole [tg] e pos.line X.env=pure false:=by rfl)(hw:swappedStores [tg] e X.env=pure none:=by rfl)
  (h1:(assignEach [tg] X.env).map (·.2)=[assign tg X.env]:=by rfl):PS X (.Assign [tg] e pos) (tAsg te g):=by
 intro pins s σ H D I h
 refine wpAny_Assign_stores (thn (he pins s σ H _ I h) λv s1 ⟨x,H1,I1,r1,q1⟩=>?_) hs hw
 rw[h1]
 exact thn (hg pins s1 σ H1 x v _ I1 r1 q1) λ_ s2 q=>q
theorem ztV {i:Nat}{x:Str}{e:Expr}{te:TE}{pos':Pos}(hN:X.N.Nodup)(hi:X.N[i]?=some x)(hx:Loc X.env.scope x)(he:PE X e te)(hs:swapsWith e (some (.Name x pos')) pos.line X.env=pure false:=by rfl)(hf:X.fn x=true∨X.env.scope.names.lookup x=some .local:=by first | exact .inl rfl | exact .inr rfl | assumption):
  PS X (.Assign [.Name x pos'] e pos) (tAsg te (zq9 i)):=by
 intro pins s σ H D I h
 refine wpAny_Assign_Name (thn (he pins s σ H _ I h) λv s1 ⟨y,H1,I1,r1,q1⟩=>?_) hs
 exact zj7 I1 hN hi hx r1 (λs2 I2=>⟨_,H1,I2,q1⟩) hf
def tPar (i j:Nat)(ta:TA):TS:=λD σ H=>ta σ H λvs H1=>∃v w,vs=[v,w]∧D.nx ((σ.set i (some v)).set j (some w)) H1
theorem zxg {i j:Nat}{x y:Str}{a b:Expr}{ta:TA}{px py pt:Pos}{kt k2 pt2}(hc:X.calm=true)(hN:X.N.Nodup)(hi:X.N[i]?=some x)(hj:X.N[j]?=some y)(hij:i≠j)
  (hx:X.env.scope.names.lookup x=some .local)(hy:X.env.scope.names.lookup y=some .local)(ha:PA X [a,b] ta)
  (hw:swappedStores [.Tuple [.Name x px,.Name y py] kt pt] (.Tuple [a,b] k2 pt2) X.env=pure (some [x,y]))
  (hs:swapsWithSole [.Tuple [.Name x px,.Name y py] kt pt] (.Tuple [a,b] k2 pt2) pos.line X.env=pure false:=by rfl):
  PS X (.Assign [.Tuple [.Name x px,.Name y py] kt pt] (.Tuple [a,b] k2 pt2) pos) (tPar i j ta):=by
 intro pins s σ H D I h
 rw[exec_Assign_arm]
 refine wpAny_bind (wpAny_standAt ?_)
 rw[hs]
 refine wpAny_bind (wpAny_pure ?_)
 rw[if_neg (by decide)]
 refine wpAny_bind (Tuple_ (thn (ha _ pins s σ H _ I h) λus s1 ⟨vs,H1,I1,r1,q1⟩=>?_))
 obtain⟨v,w,e1,q1⟩:=q1
 subst e1
 obtain⟨u1,u2,rfl,rv,rw'⟩:∃u1 u2,us=[u1,u2]∧zav v u1∧zav w u2:=by
  cases r1 with
  | cons p q=>
   cases q with
   | cons p' q'=>
    cases q'
    exact⟨_,_,rfl,p,p'⟩
 refine wpAny_newObj_type ?_ (by show 2≤sizeLine; decide)
 have I2:Inv X pins σ H1 { s1 with heap:=s1.heap.push { cls:=.type "tuple",data:=.seq [u1,u2].toArray } }:=I1.kept (t':=s1.toks) λb o e=>Heap.get?_push_of_some _ e
 rw[hw]
 refine wpAny_bind (wpAny_pure ?_)
 show wpAny (model X.prog X.w) X.A (do rule "assign.swapped-stores"; let items ← unpackItems (.ref s1.heap.objs.size) 2 none; assignInOrder [λv=>bindName X.env y v,λv=>bindName X.env x v] items.reverse; pure Flow.next) _ _ _
 refine wpAny_bind (wpAny_rule (wpAny_bind (unpackItems_tuple (items:=#[u1,u2]) (I.ok.hd hc) (IsTup.new s1.heap _) λh' hx'=>?_)))
 have I3:=I2.kept (h':=h') (t':=s1.toks) λb o e=>hx' b o (Van (Heap.lt_size e)) e
 show wpAny _ _ (assignInOrder [λv=>bindName X.env y v,λv=>bindName X.env x v] [u2,u1] >>= λ_=>pure Flow.next) _ _ _
 refine wpAny_bind (assignInOrder_cons (wpAny_bindName (zj7 I3 hN hj (.inl hy) rw' (λs2 I4=>?_) (.inr hy))))
 refine assignInOrder_cons (wpAny_bindName (zj7 I4 hN hi (.inl hx) rv (λs3 I5=>assignInOrder_nil (wpAny_pure ?_)) (.inr hx)))
 rw[List.set_comm _ _ (Ne.symm hij)] at I5
 exact⟨_,H1,I5,q1⟩
end
section
variable {X:Cx}{pos:Pos}
def zsq (c:TT)(tb:TS):TS:=λD σ H=>∃W:Nat→St→Hp→Prop,(∃m,W m σ H)∧∀m σ H,W m σ H→
 c σ H λb H1=>if b=true then ∃N:St→Hp→Prop,(∀σ' H',N σ' H'→∃m',m'<m∧W m' σ' H')∧tb { D with nx:=N,ct:=N,bk:=D.nx } σ H1 else D.nx σ H1
theorem zt1 {c:Expr}{body:List Stmt}{tc:TT}{tb:TS}(hp:PassesOwn (model X.prog X.w) X.A X.env X.xe)(hc:PT X c tc)(hb:PSs X body tb):PS X (.While c body [] pos) (zsq tc tb):=by
 intro pins s σ H D I h
 obtain⟨W,⟨m0,w0⟩,turn⟩:=h
 refine wpAny_While (codeAny_whileLoop (λn s'=>∃σ' H',Inv X pins σ' H' s'∧W n σ' H') ?_ m0 ⟨σ,H,I,w0⟩)
 rintro n s1 ⟨σ1,H1,I1,w1⟩
 refine wpAny_passesOwn hp (thn (hc pins s1 σ1 H1 _ I1 (turn n σ1 H1 w1)) λb s2 ⟨H2,I2,q2⟩=>?_)
 cases b with
 | true=>
  obtain⟨N,hN,q2⟩:=q2
  rw[if_pos rfl]
  refine wpAny_passesOwn hp (thn (hb pins s2 σ1 H2 _ I2 q2) λf s3 q3=>?_)
  cases f with
  | next=>
   obtain⟨σ3,H3,I3,n3⟩:=q3
   obtain⟨m',hm,w3⟩:=hN σ3 H3 n3
   exact⟨m',hm,σ3,H3,I3,w3⟩
  | cont=>
   obtain⟨σ3,H3,I3,n3⟩:=q3
   obtain⟨m',hm,w3⟩:=hN σ3 H3 n3
   exact⟨m',hm,σ3,H3,I3,w3⟩
  | brk=>exact q3
  | ret v=>exact q3
 | false=>
  rw[if_neg Vao]
  exact wpAny_execs_nil ⟨σ1,H2,I2,q2⟩
end
structure It where
 go:Nat→Hp→Prop
 yld:Nat→Hp→V→Hp→Prop
 stop:Nat→Hp→Prop
def zbQ (X:Cx)(pins:List (Addr×Obj))(H:Hp)(b:Addr):Prop:=
 H b=none∧b≠X.env.locals∧b ∉ X.fs∧(b∈X.ex∨X.s₀.heap.objs.size≤b)∧(∀x c,X.env.cells.lookup x=some c→c≠b)∧∀p∈X.pn++pins,p.1≠b
theorem Inv.fpOk {X:Cx}{pins:List (Addr×Obj)}{σ:St}{H H':Hp}{s:Shared}{b:Addr}(I:Inv X pins σ H s)(hb:s.heap.objs.size≤b)(hn:H' b=none):zbQ X pins H' b:=by
 refine⟨hn,Nat.ne_of_gt (Vaw I.lt hb),I.nofs hb,.inr (VaD I.sz hb),λx c e z=>?_,λp hp z=>?_⟩
 ·obtain⟨v,q⟩:=I.cell x c e
  exact absurd (Vaw q.lt (by rw[z]; exact hb)) (VaH _)
 ·exact absurd (Vaw (Heap.lt_size (I.pin p hp).1) (by rw[z]; exact hb)) (VaH _)
structure zhU (P:Program)(w:World)(K:PySem.W.Frag)(tg:Expr)(J:It)(fp:List Addr)(it:Addr)(tn:Nat→Heap→Prop):Prop where
 mem:it∈fp
 obj:∀i h,tn i h→∀b∈fp,∃o,h.get? b=some o∧∀v,o.data≠.cell v
 keep:∀i h h',tn i h→(∀b∈fp,∀o,h.get? b=some o→h'.get? b=some o)→tn i h'
 item:∀(X:Cx),X.prog=P→X.w=w→X.K=K→X.calm=true→∀(i:Nat) (pins:List (Addr×Obj)) (s:Shared) (σ:St) (H:Hp) (E:Value→Shared→Prop),Inv X pins σ H s→(∀b∈fp,zbQ X pins H b)→tn i s.heap→J.go i H→
  wpAny (model P w) X.A (pyNext (.ref it)) (λr s1=>∃u,r=some u∧
   wpAny (model P w) X.A (letOwnedTupleGo tg (.ref it) u) (λ_ s2=>∃x H',Inv X pins σ H' s2∧zav x u∧J.yld i H x H'∧tn (i+1) s2.heap∧∀b∈fp,H' b=none) E s1) E s
 done:∀(X:Cx),X.prog=P→X.w=w→X.K=K→X.calm=true→∀(i:Nat) (pins:List (Addr×Obj)) (s:Shared) (σ:St) (H:Hp) (E:Value→Shared→Prop),Inv X pins σ H s→(∀b∈fp,zbQ X pins H b)→tn i s.heap→J.stop i H→
  wpAny (model P w) X.A (pyNext (.ref it)) (λr s1=>r=none∧Inv X pins σ H s1) E s
 self:∀(A:Around) (i:Nat) (s:Shared) (Q:Value→Shared→Prop) (E:Value→Shared→Prop),tn i s.heap→Q (.ref it) s→wpAny (model P w) A (pyIter (.ref it)) Q E s
abbrev TI:=St→Hp→(It→Hp→Prop)→Prop
def PIE (X:Cx)(pins:List (Addr×Obj))(σ:St)(tg:Expr)(R:It→Hp→Prop)(itv:Value)(s2:Shared):Prop:=
 ∃(it:Addr) (fp:List Addr) (tn:Nat→Heap→Prop) (J:It) (H':Hp),itv=.ref it∧Inv X pins σ H' s2∧zhU X.prog X.w X.K tg J fp it tn∧tn 0 s2.heap∧(∀b∈fp,zbQ X pins H' b)∧R J H'
def PI (X:Cx)(tg iter:Expr)(wi:TI):Prop:=
 ∀(pins:List (Addr×Obj)) (s:Shared) (σ:St) (H:Hp) (R:It→Hp→Prop),Inv X pins σ H s→wi σ H R→
  wpAny (model X.prog X.w) X.A (eval iter X.env) (λv s1=>wpAny (model X.prog X.w) X.A (pyIter v) (PIE X pins σ tg R) X.xe s1) X.xe s
theorem zq6 {M:Model}{A:Around}{E:Value→Shared→Prop}{s:Shared}{tg:Expr}{it:Addr}{u:Value}{o:Obj}{n:String}{vs:Array Value}{Q:Unit→Shared→Prop}(ho:s.heap.get? it=some o)(hc:o.cls=.type n)(hd:o.data=.fields vs)
    (hn:["enumerate","zip","dict_itemiterator","dict_reverseitemiterator","odict_iterator","itertools.zip_longest","itertools.pairwise"].contains n=false)(hQ:Q () s):wpAny M A (letOwnedTupleGo tg (.ref it) u) Q E s:=by
  unfold letOwnedTupleGo
  cases tg <;> first
    | exact wpAny_pure hQ
    | (cases u <;> first
        | exact wpAny_pure hQ
        | (refine wpAny_bind (wpAny_load ho ?_)
           rw[hc,hd]
           show wpAny M A (if (["enumerate","zip","dict_itemiterator","dict_reverseitemiterator","odict_iterator","itertools.zip_longest","itertools.pairwise"].contains n&&vs[0]?==some (rawInt _))=true then _ else _) Q E s
           rw[if_neg (by intro h; rw[hn,Bool.false_and] at h; cases h)]
           exact wpAny_pure hQ))
def Itl (K:PySem.W.Frag)(a:Addr):It:=
 ⟨λi H=>∃xs x,SqL K H a xs∧xs[i]?=some x,λi H x H'=>H'=H∧∀xs,SqL K H a xs→xs[i]?=some x,λi H=>∃xs,SqL K H a xs∧xs.length≤i⟩
def Itr (lo:Int)(n:Nat):It:=⟨λi _=>i<n,λi H x H'=>H'=H∧x=.int (lo+i),λi _=>n≤i⟩
theorem zr1 {P:Program}{w:World}{K:PySem.W.Frag}{tg:Expr}(a it:Addr):zhU P w K tg (Itl K a) [it] it (λi h=>h.IsListIter it a i) where
 mem:=by simp
 obj:=λi h st b hb=>by
  have e:b=it:=by simpa using hb
  subst e
  obtain⟨o,e,c,d⟩:=st
  exact⟨o,e,λv z=>by rw[d] at z; cases z⟩
 keep:=λi h h' st k=>st.at λo e=>k it (by simp) o e
 item:=by
  intro X hP hw hK hc i pins s σ H E I hf st hg
  subst hP hw hK
  obtain⟨xs,x,hq,hx⟩:=hg
  obtain⟨its,rv,p,hz⟩:=I.list hq
  obtain⟨u,hu,ru⟩:=rv.get hx
  obtain⟨f0,f1,f2,f3,f4,f5⟩:=hf it (by simp)
  refine wpAny_pyNext_list_item st p.isList (x:=u) (by simpa using hu) λh' st' sb=>?_
  have I1:Inv X pins σ H { s with heap:=h' }:=I.turned (t':=s.toks) (λb o hb e=>(sb.2 b hb).trans e) f0 f1 f3 f4 f5
  obtain⟨o,e,c,d⟩:=id st'
  exact⟨u,rfl,zq6 (s:={ s with heap:=h' }) e c d (by decide) ⟨x,H,I1,ru,⟨rfl,λys hy=>by rw[I.list_inj hy hq]; exact hx⟩,st',λb hb=>(hf b hb).1⟩⟩
 done:=by
  intro X hP hw hK hc i pins s σ H E I hf st hg
  subst hP hw hK
  obtain⟨xs,hq,hx⟩:=hg
  obtain⟨its,rv,p,hz⟩:=I.list hq
  obtain⟨f0,f1,f2,f3,f4,f5⟩:=hf it (by simp)
  have hl:=rv.length
  exact wpAny_pyNext_list_end (I.ok.hd hc) st p.isList (by simp; omega) λh' eb=>⟨rfl,I.turned (t':=s.toks) (λb o hb e=>eb b o hb e) f0 f1 f3 f4 f5⟩
 self:=λ_ _ _ _ _ st h=>wpAny_pyIter_listiter st h
theorem zr2 {P:Program}{w:World}{K:PySem.W.Frag}{tg:Expr}(it:Addr)(lo:Int)(n:Nat):zhU P w K tg (Itr lo n) [it] it (λi h=>IsRangeIter h it (lo+(i:Nat)*1) ((n:Int)-(i:Nat)) 1) where
 mem:=by simp
 obj:=λi h st b hb=>by
  have e:b=it:=by simpa using hb
  subst e
  exact⟨_,st,λv z=>by
   have z':Data.fields _=Data.cell v:=z
   cases z'⟩
 keep:=λi h h' st k=>k it (by simp) _ st
 item:=by
  intro X hP hw hK hc i pins s σ H E I hf st hg
  subst hP hw hK
  obtain⟨f0,f1,f2,f3,f4,f5⟩:=hf it (by simp)
  have W:=Walks.range (prog:=X.prog) (w:=X.w) (I.ok.hd hc) it lo 1 n
  refine W.item i s _ _ hg st λv h' tk hv st' kk=>?_
  obtain⟨t,rfl⟩:=hv
  have I1:Inv X pins σ H { s with heap:=h',toks:=tk }:=I.turned (λb o hb e=>kk b o (by simpa using hb) e) f0 f1 f3 f4 f5
  refine⟨_,rfl,zq6 (s:={ s with heap:=h',toks:=tk }) (n:="range_iterator") st' rfl rfl (by decide) ⟨.int (lo+i),H,I1,⟨t,?_⟩,⟨rfl,rfl⟩,st',λb hb=>(hf b hb).1⟩⟩
  rw[VaY]
 done:=by
  intro X hP hw hK hc i pins s σ H E I hf st hg
  subst hP hw hK
  obtain⟨f0,f1,f2,f3,f4,f5⟩:=hf it (by simp)
  exact wpAny_pyNext_range_end (I.ok.hd hc) st (by have:n≤i:=hg; omega) λh' eb=>⟨rfl,I.turned (t':=s.toks) (λb o hb e=>eb b o hb e) f0 f1 f3 f4 f5⟩
 self:=λ_ _ _ _ _ st h=>wpAny_pyIter_rangeiter st h
end L2
namespace L2
open PySem PySem.Spec PyProof.Rows
section
variable {X:Cx}{tg:Expr}
def zpX (K:PySem.W.Frag)(tl:TE):TI:=λσ H R=>tl σ H λx H1=>∃a,x=.ref a∧(∃xs,SqL K H1 a xs)∧R (Itl K a) H1
theorem zoe {l:Expr}{tl:TE}(hl:PE X l tl):PI X tg l (zpX X.K tl):=by
 intro pins s σ H R I h
 refine thn (hl pins s σ H _ I h) λv s1 ⟨x,H1,I1,r1,q1⟩=>?_
 obtain⟨a,e,⟨xs,hq⟩,q⟩:=q1
 subst e
 cases r1
 obtain⟨its,rv,p,hz⟩:=I1.list hq
 refine wpAny_pyIter_list p.isList ?_
 refine⟨s1.heap.objs.size,[s1.heap.objs.size],_,_,H1,rfl,I1.kept (t':=s1.toks) λb o e=>Heap.get?_push_of_some _ e,zr1 a _,⟨_,Heap.get?_push_size _ rfl,rfl,rfl⟩,λb hb=>?_,q⟩
 have e:b=s1.heap.objs.size:=by simpa using hb
 subst e
 exact I1.fpOk (Vaa _) (I1.hok.fresh (Vaa _))
theorem ztw {pins:List (Addr×Obj)}{σ:St}{H:Hp}{s:Shared}{R:It→Hp→Prop}{E:Value→Shared→Prop}{lo hi:Int}{t u v:Tok}{tk:Nat}(I:Inv X pins σ H s)(h1:-(2^62)≤lo)(h2:lo<2^62)(h3:-(2^62)≤hi)(h4:hi<2^62)
  (q:R (Itr lo (hi-lo).toNat) H):wpAny (model X.prog X.w) X.A (pyIter (.ref s.heap.objs.size)) (PIE X pins σ tg R) E { s with heap:=s.heap.push { cls:=.type "range",data:=.fields #[.int lo t,.int hi u,.int 1 v] },toks:=tk }:=by
 refine wpAny_pyIter_range (IsRange.new ..) (small_one h1 h2 h3 h4) ?_
 have I1:Inv X pins σ H { s with heap:=s.heap.push { cls:=.type "range",data:=.fields #[.int lo t,.int hi u,.int 1 v] },toks:=tk }:=I.kept λb o e=>Heap.get?_push_of_some _ e
 refine⟨(s.heap.push { cls:=.type "range",data:=.fields #[.int lo t,.int hi u,.int 1 v] }).objs.size,[(s.heap.push { cls:=.type "range",data:=.fields #[.int lo t,.int hi u,.int 1 v] }).objs.size],_,_,H,rfl,
  I1.kept (t':=tk) λb o e=>Heap.get?_push_of_some _ e,zr2 _ lo (hi-lo).toNat,?_,λb hb=>?_,q⟩
 ·have e1:lo+((0:Nat):Int)*1=lo:=by simp
  have e2:(((hi-lo).toNat:Nat):Int)-((0:Nat):Int)=Builtin.Range.rangeSize lo hi 1:=by rw[rangeSize_one]; split <;> omega
  show IsRangeIter _ _ (lo+((0:Nat):Int)*1) ((((hi-lo).toNat:Nat):Int)-((0:Nat):Int)) 1
  rw[e1,e2]
  exact Heap.get?_push_size _ rfl
 ·have e:b=(s.heap.push { cls:=.type "range",data:=.fields #[.int lo t,.int hi u,.int 1 v] }).objs.size:=by simpa using hb
  subst e
  exact I1.fpOk (Vaa _) (I1.hok.fresh (Vaa _))
def zpH (ta:TA):TI:=λσ H R=>ta σ H λvs H1=>∃j:Int,vs=[.int j]∧-(2^62)≤j∧j<2^62∧R (Itr 0 j.toNat) H1
theorem znt {a:Expr}{ta:TA}{p pos:Pos}(hg:Gl X "range")(hm:X.mg "range"=none)(ha:PA X [a] ta)(hs:starEach [a] X.env=[(false,eval a X.env)]:=by rfl):PI X tg (.Call (.Name "range" p) [a] [] pos) (zpH ta):=by
 intro pins s σ H R I h
 refine Call_ (zeU I hg hm boot_range (PyProof.Rows.callWith_type1 (thn (ha pos pins s σ H _ I h) λus s1 ⟨vs,H1,I1,r1,q1⟩=>?_) hs rfl))
 obtain⟨j,e,q1,q2,q⟩:=q1
 subst e
 cases r1 with
 | cons r rr=>
  cases rr
  obtain⟨t,rfl⟩:=r
  exact call_range_1 (ztw I1 (by omega) (by omega) q1 q2 (by simpa using q))
def tFor (wi:TI)(g:TG)(tb:TS):TS:=λD σ H=>wi σ H λJ H1=>∃W:Nat→Nat→St→Hp→Prop,(∃m,W 0 m σ H1)∧∀i m σ H,W i m σ H→
 (J.stop i H∧D.nx σ H)∨(J.go i H∧∃N:St→Hp→Prop,(∀σ' H',N σ' H'→∃m',m'<m∧W (i+1) m' σ' H')∧∀x H',J.yld i H x H'→g x σ H' λσ2 H2=>tb { D with nx:=N,ct:=N,bk:=D.nx } σ2 H2)
def zfC (fp:List Addr)(h:Heap):List (Addr×Obj):=fp.filterMap λb=>(h.get? b).map λo=>(b,o)
theorem ze3 {fp:List Addr}{h:Heap}{b:Addr}{o:Obj}(hb:b∈fp)(e:h.get? b=some o):(b,o)∈zfC fp h:=List.mem_filterMap.mpr ⟨b,hb,by rw[e]; rfl⟩
theorem zrY {fp:List Addr}{h:Heap}{p:Addr×Obj}(hp:p∈zfC fp h):p.1∈fp∧h.get? p.1=some p.2:=by
 obtain⟨b,hb,e⟩:=List.mem_filterMap.mp hp
 cases q:h.get? b with
 | none=>rw[q] at e; cases e
 | some o=>
  rw[q] at e
  have e':(b,o)=p:=Option.some.inj e
  subst e'
  exact⟨hb,q⟩
theorem Inv.pinned {pins:List (Addr×Obj)}{σ:St}{H:Hp}{s:Shared}{fp:List Addr}(I:Inv X pins σ H s)(hf:∀b∈fp,zbQ X pins H b)(ho:∀b∈fp,∃o,s.heap.get? b=some o∧∀v,o.data≠.cell v):Inv X (pins++zfC fp s.heap) σ H s:=
 I.pins_of λp hp=>(VaQ.mp hp).elim (λz=>I.pin p (VaI _ z)) λz=>by
  obtain⟨hb,e⟩:=zrY z
  obtain⟨f0,f1,f2,_⟩:=hf p.1 hb
  obtain⟨o,e',d⟩:=ho p.1 hb
  rw[e] at e'; cases e'
  exact⟨e,f0,f1,f2,d⟩
theorem Inv.unpinned {pins pl:List (Addr×Obj)}{σ:St}{H:Hp}{s:Shared}(I:Inv X (pins++pl) σ H s):Inv X pins σ H s:=I.pins_of λp hp=>I.pin p (VaI _ (List.mem_append_left _ hp))
theorem znf {iter:Expr}{body:List Stmt}{wi:TI}{g:TG}{tb:TS}{pos:Pos}(hp:PassesOwn (model X.prog X.w) X.A X.env X.xe)(hc:X.calm=true)(hi:PI X tg iter wi)(hg:PG X tg g)(hb:PSs X body tb)
  (hs:∀x,foldedSetIterable iter X.env x=pure x:=by intro _; rfl):PS X (.For tg iter body [] pos) (tFor wi g tb):=by
 intro pins s σ H D I h
 refine wpAny_For (thn (hi pins s σ H _ I h) λv s1 h1=>thn h1 λitv s2 h2=>?_) hs
 obtain⟨it,fp,tn,J,H2,e,I2,T,st2,f2,W,⟨m0,w0⟩,turn⟩:=h2
 subst e
 have stat:∀ {H':Hp},(∀b∈fp,H' b=none)→∀b∈fp,zbQ X pins H' b:=λhn b hb=>⟨hn b hb,(f2 b hb).2⟩
 refine codeAny_forLoop_any (λn s'=>∃i σ' H',Inv X pins σ' H' s'∧tn i s'.heap∧(∀b∈fp,H' b=none)∧W i n σ' H') ?_ m0 ⟨0,σ,H2,I2,st2,λb hb=>(f2 b hb).1,w0⟩
 rintro n s3 ⟨i,σ3,H3,I3,st3,fr3,w3⟩
 rcases turn i n σ3 H3 w3 with ⟨stop,qn⟩ | ⟨go,N,hN,step⟩
 ·refine wpAny_passesOwn hp (thn (T.done X rfl rfl rfl hc i pins s3 σ3 H3 X.xe I3 (stat fr3) st3 stop) λr s4 ⟨hr,I4⟩=>?_)
  subst hr
  exact wpAny_execs_nil ⟨σ3,H3,I4,qn⟩
 ·refine wpAny_passesOwn hp (thn (T.item X rfl rfl rfl hc i pins s3 σ3 H3 X.xe I3 (stat fr3) st3 go) λr s4 ⟨u,hr,h4⟩=>?_)
  subst hr
  refine wpAny_passesOwn hp (thn h4 λ_ s5 ⟨x,H5,I5,r5,y5,st5,fr5⟩=>?_)
  have I5':=I5.pinned (stat fr5) (T.obj _ _ st5)
  refine wpAny_passesOwn hp (thn (hg _ s5 σ3 H5 x u _ I5' r5 (step x H5 y5)) λ_ s6 ⟨σ6,H6,I6,q6⟩=>?_)
  refine wpAny_passesOwn hp (thn (hb _ s6 σ6 H6 _ I6 q6) λf s7 q7=>?_)
  have again:∀ {σ7:St} {H7:Hp},Inv X (pins++zfC fp s5.heap) σ7 H7 s7→N σ7 H7→∃m,m<n∧∃i σ' H',Inv X pins σ' H' s7∧tn i s7.heap∧(∀b∈fp,H' b=none)∧W i m σ' H':=λ{σ7 H7} I7 n7=>by
   obtain⟨m',hm,w7⟩:=hN σ7 H7 n7
   refine⟨m',hm,i+1,σ7,H7,I7.unpinned,T.keep _ _ _ st5 λb hb o e=>(I7.pin (b,o) (VaI _ (VaI _ (ze3 hb e)))).1,λb hb=>?_,w7⟩
   obtain⟨o,e,d⟩:=T.obj _ _ st5 b hb
   exact(I7.pin (b,o) (VaI _ (VaI _ (ze3 hb e)))).2.1
  cases f with
  | next=>obtain⟨σ7,H7,I7,n7⟩:=q7; exact again I7 n7
  | cont=>obtain⟨σ7,H7,I7,n7⟩:=q7; exact again I7 n7
  | brk=>obtain⟨σ7,H7,I7,q7⟩:=q7; exact⟨σ7,H7,I7.unpinned,q7⟩
  | ret v=>obtain⟨x7,σ7,H7,I7,r7,q7⟩:=q7; exact⟨x7,σ7,H7,I7.unpinned,r7,q7⟩
end
end L2
namespace L2
open PySem PySem.Spec PyProof.Rows
abbrev R2:=V→V→Hp→VK→Prop
def OpR (X:Cx)(f:Value→Value→Sem Value)(r:R2):Prop:=
 ∀(pins:List (Addr×Obj)) (s:Shared) (σ:St) (H:Hp) (x y:V) (v u:Value) (Q:VK),Inv X pins σ H s→zav x v→zav y u→r x y H Q→
  wpAny (model X.prog X.w) X.A (f v u) (EP X pins σ Q) X.xe s
def UnR (X:Cx)(f:Value→Sem Value)(r:V→Hp→VK→Prop):Prop:=
 ∀(pins:List (Addr×Obj)) (s:Shared) (σ:St) (H:Hp) (x:V) (v:Value) (Q:VK),Inv X pins σ H s→zav x v→r x H Q→
  wpAny (model X.prog X.w) X.A (f v) (EP X pins σ Q) X.xe s
def zbc (X:Cx)(f:Value)(r:List V→Hp→VK→Prop):Prop:=
 ∀(pins:List (Addr×Obj)) (s:Shared) (σ:St) (H:Hp) (xs:List V) (us:List Value) (Q:VK),Inv X pins σ H s→zau xs us→r xs H Q→
  wpAny (model X.prog X.w) X.A (call f us) (EP X pins σ Q) X.xe s
def TruR (X:Cx)(r:V→Hp→(Bool→Hp→Prop)→Prop):Prop:=
 ∀(pins:List (Addr×Obj)) (s:Shared) (σ:St) (H:Hp) (x:V) (v:Value) (Q:Bool→Hp→Prop),Inv X pins σ H s→zav x v→r x H Q→
  wpAny (model X.prog X.w) X.A (truthy v) (TP X pins σ Q) X.xe s
def tOp (r:R2)(ta tb:TE):TE:=λσ H Q=>ta σ H λx H1=>tb σ H1 λy H2=>r x y H2 Q
def tUn (r:V→Hp→VK→Prop)(ta:TE):TE:=λσ H Q=>ta σ H λx H1=>r x H1 Q
def rI (C:Int→Int→Prop)(g:Int→Int→V):R2:=λx y H Q=>∃i j,x=.int i∧y=.int j∧C i j∧Q (g i j) H
def rI0 (g:Int→Int→V):R2:=λx y H Q=>∃i j,x=.int i∧y=.int j∧Q (g i j) H
def rU (g:Int→V):V→Hp→VK→Prop:=λx H Q=>∃i,x=.int i∧Q (g i) H
section
variable {X:Cx}{a b c:Expr}{ta tb tc:TE}{pos:Pos}
theorem binT (ha:PE X a ta)(hb:PE X b tb){pins:List (Addr×Obj)}{s:Shared}{σ:St}{H:Hp}{R:V→V→Hp→Prop}(I:Inv X pins σ H s)
  (h:ta σ H λx H1=>tb σ H1 λy H2=>R x y H2){Q:Value→Shared→Prop}{f:Value→Value→Sem Value}
  (hf:∀v u s2 x y H2,Inv X pins σ H2 s2→zav x v→zav y u→R x y H2→wpAny (model X.prog X.w) X.A (f v u) Q X.xe s2):
  wpAny (model X.prog X.w) X.A (eval a X.env) (λv s₁=>wpAny (model X.prog X.w) X.A (eval b X.env) (λu s₂=>wpAny (model X.prog X.w) X.A (f v u) Q X.xe s₂) X.xe s₁) X.xe s:=by
 refine thn (ha pins s σ H _ I h) λv s1 ⟨x,H1,I1,r1,q1⟩=>?_
 refine thn (hb pins s1 σ H1 _ I1 q1) λu s2 ⟨y,H2,I2,r2,q2⟩=>?_
 exact hf v u s2 x y H2 I2 r1 r2 q2
theorem pe_op {op:Operator}{r:R2}(ho:OpR X (binaryOp op) r)(ha:PE X a ta)(hb:PE X b tb):PE X (.BinOp a op b pos) (tOp r ta tb):=by
 intro pins s σ H Q I h
 exact wpAny_BinOp (binT ha hb I h λv u s2 x y H2 I2 rx ry q=>ho pins s2 σ H2 x y v u Q I2 rx ry q)
theorem pe_un {op:UnaryOp}{r:V→Hp→VK→Prop}(ho:UnR X (unaryOp op) r)(ha:PE X a ta):PE X (.UnaryOp op a pos) (tUn r ta):=by
 intro pins s σ H Q I h
 exact UnaryOp_ (thn (ha pins s σ H _ I h) λv s1 ⟨x,H1,I1,r1,q1⟩=>ho pins s1 σ H1 x v Q I1 r1 q1)
theorem opI {f:Value→Value→Sem Value}{C:Int→Int→Prop}{g:Int→Int→Int}
  (rule:∀(i j:Int) (t u:Tok) (s:Shared) (Q:Value→Shared→Prop) (E:Value→Shared→Prop),C i j→Q (.int (g i j) s.toks) { s with toks:=s.toks+1 }→wpAny (model X.prog X.w) X.A (f (.int i t) (.int j u)) Q E s):
  OpR X f (rI C λi j=>.int (g i j)):=by
 intro pins s σ H x y v u Q I rx ry h
 obtain⟨i,j,rfl,rfl,hc,q⟩:=h
 obtain⟨t,rfl⟩:=rx
 obtain⟨t',rfl⟩:=ry
 exact rule i j t t' s _ _ hc ⟨.int (g i j),H,I.tok _,⟨_,rfl⟩,q⟩
theorem opI0 {f:Value→Value→Sem Value}{g:Int→Int→Int}
  (rule:∀(i j:Int) (t u:Tok) (s:Shared) (Q:Value→Shared→Prop) (E:Value→Shared→Prop),Q (.int (g i j) s.toks) { s with toks:=s.toks+1 }→wpAny (model X.prog X.w) X.A (f (.int i t) (.int j u)) Q E s):
  OpR X f (rI0 λi j=>.int (g i j)):=by
 intro pins s σ H x y v u Q I rx ry h
 obtain⟨i,j,rfl,rfl,q⟩:=h
 obtain⟨t,rfl⟩:=rx
 obtain⟨t',rfl⟩:=ry
 exact rule i j t t' s _ _ ⟨.int (g i j),H,I.tok _,⟨_,rfl⟩,q⟩
theorem opB0 {f:Value→Value→Sem Value}{g:Int→Int→Bool}
  (rule:∀(i j:Int) (t u:Tok) (s:Shared) (Q:Value→Shared→Prop) (E:Value→Shared→Prop),Q (.bool (g i j)) s→wpAny (model X.prog X.w) X.A (f (.int i t) (.int j u)) Q E s):
  OpR X f (rI0 λi j=>.bl (g i j)):=by
 intro pins s σ H x y v u Q I rx ry h
 obtain⟨i,j,rfl,rfl,q⟩:=h
 obtain⟨t,rfl⟩:=rx
 obtain⟨t',rfl⟩:=ry
 exact rule i j t t' s _ _ ⟨.bl (g i j),H,I,rfl,q⟩
def CMul (i j:Int):Prop:=(-(2^64)<i∧i<2^64)∨(-(2^64)<j∧j<2^64)
theorem CMul.ok {i j:Int}(h:CMul i j):IntMulOk i j:=by
 rcases h with ⟨h1,h2⟩ | ⟨h1,h2⟩
 ·exact .of_left (intBits_le_64 h1 h2)
 ·exact .of_right (intBits_le_64 h1 h2)
theorem zvp:OpR X (binaryOp .Add) (rI0 λi j=>.int (i+j)):=opI0 λ_ _ _ _ _ _ _ q=>add_int q
theorem zvV:OpR X (binaryOp .Sub) (rI0 λi j=>.int (i-j)):=opI0 λ_ _ _ _ _ _ _ q=>sub_int q
theorem zrt:OpR X (binaryOp .Mod) (rI (λ_ j=>0<j) λi j=>.int (i%j)):=opI λi j _ _ _ _ _ hc q=>by
 have h1:(0:Int)<j:=hc
 exact mod_int' (by omega) (by rw[Int.fmod_eq_emod_of_nonneg i (by omega)]; exact q)
theorem unI {f:Value→Sem Value}{g:Int→Int}
  (rule:∀(i:Int) (t:Tok) (s:Shared) (Q:Value→Shared→Prop) (E:Value→Shared→Prop),Q (.int (g i) s.toks) { s with toks:=s.toks+1 }→wpAny (model X.prog X.w) X.A (f (.int i t)) Q E s):
  UnR X f (rU λi=>.int (g i)):=by
 intro pins s σ H x v Q I rx h
 obtain⟨i,rfl,q⟩:=h
 obtain⟨t,rfl⟩:=rx
 exact rule i t s _ _ ⟨.int (g i),H,I.tok _,⟨_,rfl⟩,q⟩
theorem zvm:UnR X (unaryOp .USub) (rU λi=>.int (-i)):=unI λ_ _ _ _ _ q=>neg_int q
end
def zkM:V→V→Bool
 | .non,.non=>true | .non,.int _=>true | .int _,.non=>true | .non,.bl _=>true | .bl _,.non=>true | .non,.str _=>true | .str _,.non=>true
 | .int _,.int _=>true | .bl _,.bl _=>true | .str _,.str _=>true | .byt _,.byt _=>true
 | .int _,.str _=>true | .str _,.int _=>true | .bl _,.str _=>true | .str _,.bl _=>true
 | _,_=>false
def rEq:R2:=λx y H Q=>zkM x y=true∧Q (.bl (decide (x=y))) H
def rNe:R2:=λx y H Q=>zkM x y=true∧Q (.bl (!decide (x=y))) H
theorem zpD {i j:Int}:decide (V.int i=V.int j)=(i==j):=by
 rw[Va9]
 simp
theorem zpg {i j:Bool}:decide (V.bl i=V.bl j)=(i==j):=by
 rw[Va9]
 simp
theorem zp8 {i j:Str}:decide (V.str i=V.str j)=(i==j):=by
 rw[Va9]
 simp
theorem zqy {i j:Array UInt8}:decide (V.byt i=V.byt j)=(i.toList==j.toList):=by
 rw[Va9]
 cases i
 cases j
 simp
section
variable {X:Cx}{a b c:Expr}{ta tb tc:TE}{pos:Pos}
theorem zaY {pins:List (Addr×Obj)}{σ:St}{H:Hp}{s:Shared}{Q:VK}{k k':Bool}(I:Inv X pins σ H s)(q:Q (.bl k) H)(e:k=k'):EP X pins σ Q (.bool k') s:=by
 subst e
 exact⟨.bl k,H,I,rfl,q⟩
theorem znT:OpR X (compareOp .Eq) rEq:=by
 intro pins s σ H x y v u Q I rx ry h
 obtain⟨hs,q⟩:=h
 cases x with
 | non=>
  cases rx
  cases y with
  | non=>cases ry; exact PySem.EqNone.eq_none_none (zaY I q (by simp))
  | bl j=>cases ry; exact PySem.EqNone.eq_none_bool (zaY I q (by simp))
  | int j=>obtain⟨t',rfl⟩:=ry; exact PySem.EqNone.eq_none_int (zaY I q (by simp))
  | str j=>obtain⟨t',rfl⟩:=ry; exact PySem.EqNone.eq_none_str (zaY I q (by simp))
  | _=>exact absurd (show false=true from hs) Vao
 | bl i=>
  cases rx
  cases y with
  | non=>cases ry; exact PySem.EqNone.eq_bool_none (zaY I q (by simp))
  | bl j=>cases ry; exact eq_bool (zaY I q zpg)
  | str j=>obtain⟨t',rfl⟩:=ry; exact PySem.EqMixed.eq_bool_str (zaY I q (by simp))
  | _=>exact absurd (show false=true from hs) Vao
 | int i=>
  obtain⟨t,rfl⟩:=rx
  cases y with
  | non=>cases ry; exact PySem.EqNone.eq_int_none (zaY I q (by simp))
  | int j=>obtain⟨t',rfl⟩:=ry; exact eq_int (zaY I q zpD)
  | str j=>obtain⟨t',rfl⟩:=ry; exact PySem.EqMixed.eq_int_str (zaY I q (by simp))
  | _=>exact absurd (show false=true from hs) Vao
 | str i=>
  obtain⟨t,rfl⟩:=rx
  cases y with
  | non=>cases ry; exact PySem.EqNone.eq_str_none (zaY I q (by simp))
  | bl j=>cases ry; exact PySem.EqMixed.eq_str_bool (zaY I q (by simp))
  | int j=>obtain⟨t',rfl⟩:=ry; exact PySem.EqMixed.eq_str_int (zaY I q (by simp))
  | str j=>obtain⟨t',rfl⟩:=ry; exact eq_str (zaY I q zp8)
  | _=>exact absurd (show false=true from hs) Vao
 | byt i=>
  obtain⟨t,rfl⟩:=rx
  cases y with
  | byt j=>obtain⟨t',rfl⟩:=ry; exact PySem.W.eq_bytes (zaY I q zqy)
  | _=>exact absurd (show false=true from hs) Vao
 | _=>cases y <;> exact absurd (show false=true from hs) Vao
theorem op_ne:OpR X (compareOp .NotEq) rNe:=by
 intro pins s σ H x y v u Q I rx ry h
 obtain⟨hs,q⟩:=h
 cases x with
 | non=>
  cases rx
  cases y with
  | non=>cases ry; exact PySem.EqNone.ne_none_none (zaY I q (by simp))
  | bl j=>cases ry; exact PySem.EqNone.ne_none_bool (zaY I q (by simp))
  | int j=>obtain⟨t',rfl⟩:=ry; exact PySem.EqNone.ne_none_int (zaY I q (by simp))
  | str j=>obtain⟨t',rfl⟩:=ry; exact PySem.EqNone.ne_none_str (zaY I q (by simp))
  | _=>exact absurd (show false=true from hs) Vao
 | bl i=>
  cases rx
  cases y with
  | non=>cases ry; exact PySem.EqNone.ne_bool_none (zaY I q (by simp))
  | bl j=>cases ry; exact ne_bool (zaY I q (congrArg not zpg))
  | str j=>obtain⟨t',rfl⟩:=ry; exact PySem.EqMixed.ne_bool_str (zaY I q (by simp))
  | _=>exact absurd (show false=true from hs) Vao
 | int i=>
  obtain⟨t,rfl⟩:=rx
  cases y with
  | non=>cases ry; exact PySem.EqNone.ne_int_none (zaY I q (by simp))
  | int j=>obtain⟨t',rfl⟩:=ry; exact ne_int (zaY I q (congrArg not zpD))
  | str j=>obtain⟨t',rfl⟩:=ry; exact PySem.EqMixed.ne_int_str (zaY I q (by simp))
  | _=>exact absurd (show false=true from hs) Vao
 | str i=>
  obtain⟨t,rfl⟩:=rx
  cases y with
  | non=>cases ry; exact PySem.EqNone.ne_str_none (zaY I q (by simp))
  | bl j=>cases ry; exact PySem.EqMixed.ne_str_bool (zaY I q (by simp))
  | int j=>obtain⟨t',rfl⟩:=ry; exact PySem.EqMixed.ne_str_int (zaY I q (by simp))
  | str j=>obtain⟨t',rfl⟩:=ry; exact ne_str (zaY I q (congrArg not zp8))
  | _=>exact absurd (show false=true from hs) Vao
 | byt i=>
  obtain⟨t,rfl⟩:=rx
  cases y with
  | byt j=>obtain⟨t',rfl⟩:=ry; exact PySem.W.ne_bytes (zaY I q (congrArg not zqy))
  | _=>exact absurd (show false=true from hs) Vao
 | _=>cases y <;> exact absurd (show false=true from hs) Vao
theorem op_lt:OpR X (compareOp .Lt) (rI0 λi j=>.bl (decide (i<j))):=opB0 λ_ _ _ _ _ _ _ q=>lt_int q
theorem op_le:OpR X (compareOp .LtE) (rI0 λi j=>.bl (decide (i≤j))):=opB0 λ_ _ _ _ _ _ _ q=>le_int q
theorem op_ge:OpR X (compareOp .GtE) (rI0 λi j=>.bl (decide (j≤i))):=opB0 λ_ _ _ _ _ _ _ q=>ge_int q
theorem zsY:OpR X (compareOp .Is) (λx y H Q=>y=.non∧Q (.bl (decide (x=.non))) H):=by
 intro pins s σ H x y v u Q I rx ry h
 obtain⟨rfl,q⟩:=h
 cases ry
 refine is_none_gen (zaY I q ?_)
 cases x <;> first
  | (cases rx; rfl)
  | (obtain⟨t,rfl⟩:=rx; rfl)
theorem OpR.or {f:Value→Value→Sem Value}{r r':R2}(h:OpR X f r)(h':OpR X f r'):OpR X f (λx y H Q=>r x y H Q∨r' x y H Q):=by
 intro pins s σ H x y v u Q I rx ry q
 rcases q with q | q
 ·exact h pins s σ H x y v u Q I rx ry q
 ·exact h' pins s σ H x y v u Q I rx ry q
theorem zaJ (b:Expr){op:CmpOp}(h:op≠.In:=by decide)(h2:op≠.NotIn:=by decide):behindInMarks op b=false:=by
 have e1:(op==CmpOp.In)=false:=by cases op <;> first | rfl | exact absurd rfl h
 have e2:(op==CmpOp.NotIn)=false:=by cases op <;> first | rfl | exact absurd rfl h2
 cases b <;> simp[behindInMarks,e1,e2]
theorem zxE {op:CmpOp}{r:R2}(ho:OpR X (compareOp op) r)(ha:PE X a ta)(hb:PE X b tb)(hm:behindInMarks op b=false):PE X (.Compare a [op] [b] pos) (tOp r ta tb):=by
 intro pins s σ H Q I h
 exact wpAny_Compare1 (binT ha hb I h λv u s2 x y H2 I2 rx ry q=>ho pins s2 σ H2 x y v u Q I2 rx ry q) hm
def zq1 (t:TE):TT:=λσ H Q=>t σ H λx H'=>∃k,x=.bl k∧Q k H'
theorem zr7 {op:CmpOp}{r:R2}(ho:OpR X (compareOp op) r)(ha:PE X a ta)(hb:PE X b tb)(hm:behindInMarks op b=false):PT X (.Compare a [op] [b] pos) (zq1 (tOp r ta tb)):=by
 intro pins s σ H Q I h
 refine wpAny_isTrue_Compare1 (thn (ha pins s σ H _ I h) λv s1 ⟨x,H1,I1,r1,q1⟩=>thn (hb pins s1 σ H1 _ I1 q1) λu s2 ⟨y,H2,I2,r2,q2⟩=>
  thn (ho pins s2 σ H2 x y v u _ I2 r1 r2 q2) λc s3 ⟨z,H3,I3,r3,k,e,q3⟩=>?_) hm
 subst e
 cases r3
 exact wpAny_truthy_bool ⟨H3,I3,q3⟩
def znC (r r':R2)(ta tb tc:TE):TE:=λσ H Q=>ta σ H λx H1=>tb σ H1 λy H2=>r x y H2 λz H3=>∃k,z=.bl k∧
 (if k=true then tc σ H3 λw' H4=>r' y w' H4 Q else Q (.bl false) H3)
theorem zuv {op op':CmpOp}{r r':R2}(ho:OpR X (compareOp op) r)(ho':OpR X (compareOp op') r')(ha:PE X a ta)(hb:PE X b tb)(hc:PE X c tc)
  (hm:lastMarks [op,op'] [b,c]=false:=by with_unfolding_all rfl):PE X (.Compare a [op,op'] [b,c] pos) (znC r r' ta tb tc):=by
 intro pins s σ H Q I h
 refine Compare_chain (thn (ha pins s σ H _ I h) λv s1 ⟨x,H1,I1,r1,q1⟩=>chain_link (thn (hb pins s1 σ H1 _ I1 q1) λu s2 ⟨y,H2,I2,r2,q2⟩=>
  thn (ho pins s2 σ H2 x y v u _ I2 r1 r2 q2) λd s3 ⟨z,H3,I3,r3,k,e,q3⟩=>?_)) hm
 subst e
 cases r3
 refine wpAny_truthy_bool ?_
 cases k with
 | false=>exact ite_ff ⟨.bl false,H3,I3,rfl,q3⟩
 | true=>exact ite_tt (chain_last (thn (hc pins s3 σ H3 _ I3 q3) λw' s4 ⟨z',H4,I4,r4,q4⟩=>ho' pins s4 σ H4 y z' u w' Q I4 r2 r4 q4))
theorem ztd {op op':CmpOp}{r r':R2}(ho:OpR X (compareOp op) r)(ho':OpR X (compareOp op') r')(ha:PE X a ta)(hb:PE X b tb)(hc:PE X c tc)
  (hm:lastMarks [op,op'] [b,c]=false:=by with_unfolding_all rfl):PT X (.Compare a [op,op'] [b,c] pos) (zq1 (znC r r' ta tb tc)):=by
 intro pins s σ H Q I h
 refine isTrue_chain (thn (ha pins s σ H _ I h) λv s1 ⟨x,H1,I1,r1,q1⟩=>test_link (thn (hb pins s1 σ H1 _ I1 q1) λu s2 ⟨y,H2,I2,r2,q2⟩=>
  thn (ho pins s2 σ H2 x y v u _ I2 r1 r2 q2) λd s3 ⟨z,H3,I3,r3,k,e,q3⟩=>?_)) hm
 subst e
 cases r3
 refine wpAny_truthy_bool ?_
 cases k with
 | false=>
  obtain⟨k',e',q'⟩:=q3
  cases e'
  exact ite_ff ⟨H3,I3,q'⟩
 | true=>
  refine ite_tt (test_last (thn (hc pins s3 σ H3 _ I3 q3) λw' s4 ⟨z',H4,I4,r4,q4⟩=>thn (ho' pins s4 σ H4 y z' u w' _ I4 r2 r4 q4) λd' s5 ⟨z2,H5,I5,r5,k2,e2,q5⟩=>?_))
  subst e2
  cases r5
  exact wpAny_truthy_bool ⟨H5,I5,q5⟩
def TruV (K:PySem.W.Frag)(x:V)(H:Hp)(k:Bool):Prop:=
 match x with
 | .non=>k=false
 | .bl b=>k=b
 | .int i=>k=(i != 0)
 | .str y=>y.length≤sizeLine∧k=((y.length:Int) != 0)
 | .byt y=>y.size≤sizeLine∧k=((y.size:Int) != 0)
 | .ref p=>(∃xs,SqL K H p xs∧k=!xs.isEmpty)∨(∃xs,SqT K H p xs∧k=!xs.isEmpty)∨∃kvs,H p=some (.dK kvs)∧k=!kvs.isEmpty
 | _=>False
theorem zxb {κ:Type}{kvs:List (κ×V)}{vs:List (κ×Value)}(r:KV kvs vs):(!vs.isEmpty)=!kvs.isEmpty:=by
 cases r <;> rfl
theorem zpQ {xs:List V}{its:List Value}(r:zau xs its):(!its.toArray.isEmpty)=!xs.isEmpty:=by
 cases r <;> simp
theorem zib:(sizeLine:Nat)<2^63:=by rw[sizeLine_eq]; decide
theorem zso:TruR X (λx H Q=>∃k,TruV X.K x H k∧Q k H):=by
 intro pins s σ H x v Q I rx h
 obtain⟨k,e,q⟩:=h
 have hl:=zib
 have hs:sizeLine=16777216:=sizeLine_eq
 cases x with
 | non=>
  cases rx
  have e':k=false:=e
  subst e'
  exact truthy_none ⟨H,I,q⟩
 | bl b=>
  cases rx
  have e':k=b:=e
  subst e'
  exact wpAny_truthy_bool ⟨H,I,q⟩
 | int i=>
  obtain⟨t,rfl⟩:=rx
  have e':k=(i != 0):=e
  subst e'
  exact PySem.P.truthy_int ⟨H,I,q⟩
 | str y=>
  obtain⟨t,rfl⟩:=rx
  obtain⟨hy,e'⟩:y.length≤sizeLine∧k=((y.length:Int) != 0):=e
  subst e'
  exact PySem.P.truthy_str (by omega) ⟨H,I.tok _,q⟩
 | byt y=>
  obtain⟨t,rfl⟩:=rx
  obtain⟨hy,e'⟩:y.size≤sizeLine∧k=((y.size:Int) != 0):=e
  subst e'
  exact PySem.W.truthy_bytes (by omega) ⟨H,I.tok _,q⟩
 | ref p=>
  cases rx
  have e':(∃xs,SqL X.K H p xs∧k=!xs.isEmpty)∨(∃xs,SqT X.K H p xs∧k=!xs.isEmpty)∨∃kvs,H p=some (.dK kvs)∧k=!kvs.isEmpty:=e
  rcases e' with ⟨xs,hx,e'⟩ | ⟨xs,hx,e'⟩ | ⟨kvs,hx,e'⟩
  ·subst e'
   obtain⟨its,r,pl,hz⟩:=I.list hx
   have hlen:=r.length
   exact wpAny_truthy_list pl.isList (by simp only[Vap]; omega) ⟨H,I.tok _,by rw[zpQ r]; exact q⟩
  ·subst e'
   obtain⟨its,r,pl,hz⟩:=I.tuple hx
   have hlen:=r.length
   exact truthy_tuple pl (by simp only[Vap]; omega) ⟨H,I.tok _,by rw[zpQ r]; exact q⟩
  ·subst e'
   obtain⟨hz,hS,vs,r,m⟩:kvs.length≤sizeLine∧(p==sysModules)=false∧∃vs,KV kvs vs∧s.heap.DictOf (zmS X.prog X.w) p vs:=I.hok p _ hx
   have hlen:kvs.length=vs.length:=Paired.length r
   exact wpAny_truthy_dict hS m (by omega) ⟨H,I.tok _,by rw[zxb r]; exact q⟩
 | _=>exact(show False from e).elim
theorem zrT (ha:PE X a ta)(he:∀whole,isTrue a X.env whole=(do let v ← whole; standAt a.pos; holding [v] (truthy v))):
  PT X a (λσ H Q=>ta σ H λx H'=>∃k,TruV X.K x H' k∧Q k H'):=by
 intro pins s σ H Q I h
 exact isTrue_plain (thn (ha pins s σ H _ I h) λv s1 ⟨x,H1,I1,r1,q1⟩=>zso pins s1 σ H1 x v Q I1 r1 q1) (he _)
theorem zdP {x:V}{us:List Value}(r:zau [x] us):∃u,us=[u]∧zav x u:=by
 cases r with
 | cons r1 r2=>cases r2; exact⟨_,rfl,r1⟩
theorem znn {x y:V}{us:List Value}(r:zau [x,y] us):∃u w',us=[u,w']∧zav x u∧zav y w':=by
 cases r with
 | cons r1 r2=>
  cases r2 with
  | cons r3 r4=>cases r4; exact⟨_,_,rfl,r1,r3⟩
theorem ztM:zbc X (.builtin "abs") (λxs H Q=>∃i,xs=[.int i]∧Q (.int (if i<0 then -i else i)) H):=by
 intro pins s σ H xs us Q I r h
 obtain⟨i,rfl,q⟩:=h
 obtain⟨u,rfl,t,rfl⟩:=zdP r
 exact call_abs_int λu tk=>⟨.int (if i<0 then -i else i),H,I.tok _,⟨_,rfl⟩,q⟩
theorem zvA (hc:X.calm=true):zbc X (.builtin "max") (λxs H Q=>∃i j,xs=[.int i,.int j]∧Q (.int (if j > i then j else i)) H):=by
 intro pins s σ H xs us Q I r h
 obtain⟨i,j,rfl,q⟩:=h
 obtain⟨u,w',rfl,⟨t,rfl⟩,⟨t',rfl⟩⟩:=znn r
 refine max_two_ints (I.ok.hd hc) λh' tk k=>⟨_,H,I.kept k,?_,q⟩
 by_cases hj:j > i
 ·rw[if_pos hj,if_pos hj]; exact⟨_,rfl⟩
 ·rw[if_neg hj,if_neg hj]; exact⟨_,rfl⟩
theorem zwc (hc:X.calm=true):zbc X (.builtin "min") (λxs H Q=>∃i j,xs=[.int i,.int j]∧Q (.int (if j<i then j else i)) H):=by
 intro pins s σ H xs us Q I r h
 obtain⟨i,j,rfl,q⟩:=h
 obtain⟨u,w',rfl,⟨t,rfl⟩,⟨t',rfl⟩⟩:=znn r
 refine min_two_ints (I.ok.hd hc) λh' tk k=>⟨_,H,I.kept k,?_,q⟩
 by_cases hj:j<i
 ·rw[if_pos hj,if_pos hj]; exact⟨_,rfl⟩
 ·rw[if_neg hj,if_neg hj]; exact⟨_,rfl⟩
end
end L2
namespace L2
open PySem PySem.Spec PyProof.Rows
structure zeq (h:Heap)(x dx C:Addr)(mA:Str→Option Value):Prop where
 obj:h.get? x=some (PySem.W.instObj C dx)
 ns:h.Ns1 dx mA
 ne:dx≠x
theorem zxh {h:Heap}{dx:Addr}{mA:Str→Option Value}(n:h.Ns1 dx mA):∃od,h.get? dx=some od∧∀name,PySem.W.lookIn name od=some (mA name):=by
 obtain⟨o,es,ep,ho,hd,hk,_,hm⟩:=n
 refine⟨o,ho,λname=>?_⟩
 have e:=hm name
 unfold nsFind findBy at e
 rw[← Array.find?_toList] at e
 unfold PySem.W.lookIn
 rw[hd]
 dsimp only
 split
 ·rename_i y q
  rw[q] at e
  exact congrArg some e
 ·rename_i q
  rw[q] at e
  have a:es.toList.any (·.refKey)=false:=by
   rw[List.any_eq_false]
   intro y hy
   obtain⟨z,t,hkey⟩:=hk y (Array.mem_toList_iff.mp hy)
   simp[DictEntry.refKey,hkey]
  have a':¬ es.toList.any (·.refKey)=true:=by rw[a]; exact Vao
  rw[if_neg a']
  exact congrArg some e
theorem zeq.look {h:Heap}{x dx C:Addr}{mA:Str→Option Value}(I:zeq h x dx C mA):∃od,PySem.W.InstAt h x (PySem.W.instObj C dx) C (some od)∧∀name,PySem.W.lookIn name od=some (mA name):=
 let ⟨od,ho,hl⟩:=zxh I.ns
 ⟨od,⟨I.obj,rfl,rfl,ho⟩,hl⟩
section
variable {prog:Program}{w:World}{A:Around}{E:Value→Shared→Prop}{s:Shared}{K:PySem.W.Frag}{x dx C f:Addr}{mA:Str→Option Value}{name:Str}{v:Value}
theorem zwx {expr:Bool}{Q:Value→Shared→Prop}(X:K.In s.heap)(I:zeq s.heap x dx C mA)(hg:PySem.W.plainGet K C name=true)(hh:PySem.W.hasDictIn K C=true)
  (ha:PySem.W.findIn K (.ref C) name=some none)(hv:mA name=some v)(hv':PySem.W.handedIn v=true)(h:Q v { s with toks:=s.toks+1 }):
  wpAny (model prog w) A (getAttr (.ref x) name expr) Q E s:=by
 obtain⟨od,J,hl⟩:=I.look
 exact PySem.W.get_value X J (PySem.W.plainGet_of hg).1 (PySem.W.findObj_own hh ha rfl (by rw[hl,hv])) hv' h
theorem zsd {pl:Sem Bool}{Q:Value×List Value→Shared→Prop}(X:K.In s.heap)(I:zeq s.heap x dx C mA)(hg:PySem.W.plainGet K C name=true)
  (hf:PySem.W.findIn K (.ref C) name=some (some (.ref f)))(ht:PySem.W.isFn K (.ref f)=true)(hv:mA name=none)(h:Q (.ref f,[.ref x]) s):
  wpAny (model prog w) A (getMethod (.ref x) name pl) Q E s:=by
 obtain⟨od,J,hl⟩:=I.look
 exact PySem.W.method_fn X J (PySem.W.plainGet_of hg).1 (PySem.W.plainGet_of hg).2 hf (beq_iff_eq.mp ht) (by show (PySem.W.lookIn name od).map (·.isSome)=some false; rw[hl,hv]; rfl) h
theorem zs5 {ns:List Str}{Q:Unit→Shared→Prop}(X:K.In s.heap)(I:zeq s.heap x dx C mA)
  (hs:PySem.W.findIn K (.ref C) "__setattr__"=some (some (.builtin "object.__setattr__")))(hp:PySem.W.plainOver K C=true)(ht:PySem.W.takerIn K C name=some none)(hh:PySem.W.hasDictIn K C=true)
  (hw:PySem.Within mA ns)(hsz:ns.length≤sizeLine)
  (h:∀h',zeq h' x dx C (λy=>if y=name then some v else mA y)→Heap.SameBut dx s.heap h'→Q () { s with heap:=h',toks:=s.toks+2 }):
  wpAny (model prog w) A (setAttr (.ref x) name v) Q E s:=by
 obtain⟨od,J,hl⟩:=I.look
 refine PySem.W.set_plain X J hs (PySem.W.osa_open (s:={ s with toks:=s.toks+1 }) (r:=none) X J hp ht λb=>?_)
 obtain⟨cd,hc,hd'⟩:=PySem.W.any_some hh
 have hx:s.heap.get? x=some ⟨.ref C,some dx,.plain,#[]⟩:=I.obj
 refine wpAny_bind (wpAny_pure (wpAny_bind (wpAny_bind (wpAny_loadPart hx (wpAny_bind (PySem.W.Looks.here (s:={ s with toks:=s.toks+1 }) (PySem.W.looks_clsIn X hc) ?_))))))
 rw[hd']
 refine wpAny_pure (a:=some dx) (wpAny_bind (wpAny_pure (wpAny_bind ?_)))
 refine wpAny_nsSet1 (s:={ s with toks:=s.toks+1 }) I.ns λh' hn2 hs2=>?_
 obtain⟨oD,esD,epD,hoD,hdD,hcD⟩:=hn2.count (PySem.Within.cons name v hw)
 refine wpAny_bind (wpAny_lookBehind hoD (by rw[hdD]; exact pastItsLine_dict (VaD hcD (by rw[VaE]; omega))) ?_)
 exact wpAny_pure (h _ ⟨(hs2.2 _ (Ne.symm I.ne)).trans I.obj,hn2,I.ne⟩ hs2)
theorem zuu {R:Result→Shared→Prop}{vs:List Value}{kw:List (Str×Value)}(X:K.In s.heap)(hm:PySem.W.makesIn K C=true)
  (hi:PySem.W.findIn K (.ref C) "__init__"=some (some (.ref f)))(hf:PySem.W.typeIn K (.ref f)=some (.type "function"))
  (h:codeAny (model prog w) (A.under (.builtin "type.__call__" ⟨.ref C::vs,kw⟩)) (.call (.ref f) ⟨.ref (s.heap.objs.size+1)::vs,kw⟩) (PySem.W.InitBack (s.heap.objs.size+1) R)
   { s with heap:=(s.heap.push PySem.W.emptyDict).push (PySem.W.instObj C s.heap.objs.size) }):
  codeAny (model prog w) A (.call (.ref C) ⟨vs,kw⟩) R s:=by
 obtain⟨hh,g,d,t,os⟩:=s
 exact PySem.W.make_core (PySem.W.makes_of X hm) (PySem.W.looks_findIn X hi) (λself=>PySem.W.bind_fn X self hf) (.inl rfl) h
end
def zbw (f:Str)(v:V):List (Str×V)→List (Str×V)
 | []=>[(f,v)]
 | (g,x)::r=>if g=f then (g,v)::r else (g,x)::zbw f v r
theorem zpN (f g:Str)(v:V):∀fs:List (Str×V),(zbw f v fs).lookup g=if g=f then some v else fs.lookup g
 | []=>by
  show List.lookup g [(f,v)]=_
  by_cases h:g=f
  ·have hb:(g==f)=true:=beq_iff_eq.mpr h
   simp only[List.lookup,hb,if_pos h]
  ·have hb:(g==f)=false:=beq_eq_false_iff_ne.mpr h
   simp only[List.lookup,hb,if_neg h]
 | (k,x)::r=>by
  have ih:=zpN f g v r
  rw[show zbw f v ((k,x)::r)=(if k=f then (k,v)::r else (k,x)::zbw f v r) from rfl]
  by_cases hk:k=f
  ·rw[if_pos hk]
   by_cases h:g=k
   ·have hb:(g==k)=true:=beq_iff_eq.mpr h
    simp only[List.lookup,hb,if_pos (h.trans hk)]
   ·have hb:(g==k)=false:=beq_eq_false_iff_ne.mpr h
    simp only[List.lookup,hb,if_neg (λe:g=f=>h (e.trans hk.symm))]
  ·rw[if_neg hk]
   by_cases h:g=k
   ·have hb:(g==k)=true:=beq_iff_eq.mpr h
    simp only[List.lookup,hb,if_neg (λe:g=f=>hk (h.symm.trans e))]
   ·have hb:(g==k)=false:=beq_eq_false_iff_ne.mpr h
    simp only[List.lookup,hb]
    exact ih
theorem zou (f:Str)(v:V):∀fs:List (Str×V),f∈(zbw f v fs).map (·.1)∧∀g,g∈fs.map (·.1)→g∈(zbw f v fs).map (·.1)
 | []=>⟨by simp[zbw],λg h=>by simp at h⟩
 | (k,x)::r=>by
  obtain⟨i1,i2⟩:=zou f v r
  rw[show zbw f v ((k,x)::r)=(if k=f then (k,v)::r else (k,x)::zbw f v r) from rfl]
  by_cases hk:k=f
  ·rw[if_pos hk]
   subst hk
   exact⟨by simp,λg h=>by simpa using h⟩
  ·rw[if_neg hk]
   refine⟨?_,λg h=>?_⟩
   ·rw[Vaz]
    exact VaT _ i1
   ·rw[Vaz] at h ⊢
    rcases Vas.mp h with e | e
    ·exact Vas.mpr (.inl e)
    ·exact VaT _ (i2 g e)
theorem zqY (f:Str)(v:V):∀fs:List (Str×V),(zbw f v fs).length≤fs.length+1
 | []=>by simp[zbw]
 | (k,x)::r=>by
  have ih:=zqY f v r
  rw[show zbw f v ((k,x)::r)=(if k=f then (k,v)::r else (k,x)::zbw f v r) from rfl]
  by_cases hk:k=f
  ·rw[if_pos hk,VaE,VaE]; omega
  ·rw[if_neg hk,VaE,VaE]; omega
theorem zbS.some_of {v:V}{o:Option Value}(r:zbS (some v) o):∃u,o=some u∧zav v u:=by
 cases o with
 | none=>exact(show False from r).elim
 | some u=>exact⟨u,rfl,r⟩
theorem zbS.none_of {o:Option Value}(r:zbS none o):o=none:=by
 cases o with
 | none=>rfl
 | some u=>exact(show False from r).elim
theorem zt7 {v:V}{u:Value}(r:zav v u):PySem.W.handedIn u=true:=by
 cases v with
 | non=>cases (show u=Value.none from r); rfl
 | bl b=>cases (show u=Value.bool b from r); rfl
 | int i=>obtain⟨t,e⟩:=(show ∃t,u=Value.int i t from r); cases e; rfl
 | str x=>obtain⟨t,e⟩:=(show ∃t,u=Value.str x t from r); cases e; rfl
 | byt b=>obtain⟨t,e⟩:=(show ∃t,u=Value.bytes b t from r); cases e; rfl
 | flt b=>obtain⟨t,e⟩:=(show ∃t,u=Value.float b t from r); cases e; rfl
 | ref a=>cases (show u=Value.ref a from r); rfl
 | ty n=>cases (show u=Value.type n from r); rfl
section
variable {P:Program}{w:World}{H H':Hp}{h h':Heap}{a C dx:Addr}{fs fs':List (Str×V)}
theorem zji (hok:HOk P w H h)(e:H a=some (.ins C dx fs)):∃mA,zeq h a dx C mA∧(∀f,zbS (fs.lookup f) (mA f))∧PySem.Within mA (fs.map (·.1))∧fs.length≤1000∧H dx=some (.own a):=by
 obtain⟨d,z,ne,ob,mA,n,r,q⟩:=(show zby P w H h a (.ins C dx fs) from hok a _ e)
 exact⟨mA,⟨ob,n,ne⟩,r,q,z,d⟩
end
structure Cls (K:PySem.W.Frag)(C:Addr):Prop where
 pg:PySem.W.plainGet K C Str.empty=true
 hd:PySem.W.hasDictIn K C=true
 po:PySem.W.plainOver K C=true
 sa:PySem.W.findIn K (.ref C) "__setattr__"=some (some (.builtin "object.__setattr__"))
theorem Cls.get {K:PySem.W.Frag}{C:Addr}(c:Cls K C)(f:Str):PySem.W.plainGet K C f=true:=c.pg
def zbu (K:PySem.W.Frag)(C:Addr)(f:Str):Prop:=PySem.W.findIn K (.ref C) f=some none
theorem zbu.taker {K:PySem.W.Frag}{C:Addr}{f:Str}(n:zbu K C f):PySem.W.takerIn K C f=some none:=by
 unfold PySem.W.takerIn
 rw[show PySem.W.findIn K (.ref C) f=some none from n]
 rfl
structure Con (K:PySem.W.Frag)(C:Addr)(f:Str)(v:V)(u:Value):Prop where
 at_:PySem.W.findIn K (.ref C) f=some (some u)
 rel:zav v u
 get:PySem.W.specialIn K u "__get__"=some none
 cp:PySem.W.copiedNames.contains f=false
structure zfy (K:PySem.W.Frag)(C:Addr)(m:Str)(f:Addr):Prop where
 at_:PySem.W.findIn K (.ref C) m=some (some (.ref f))
 fn:PySem.W.isFn K (.ref f)=true
 kp:PySem.W.keepIn K (.ref f)=true
section
variable {X:Cx}{pins:List (Addr×Obj)}{σ:St}{H:Hp}{s:Shared}{a C dx:Addr}{fs:List (Str×V)}{f:Str}{v:V}{A:Around}{E:Value→Shared→Prop}
theorem ztC {b:Bool}{Q:Value→Shared→Prop}(I:Inv X pins σ H s)(e:H a=some (.ins C dx fs))(c:Cls X.K C)(n:zbu X.K C f)(l:fs.lookup f=some v)
  (h:∀u s',Inv X pins σ H s'→zav v u→Q u s'):wpAny (model X.prog X.w) A (getAttr (.ref a) f b) Q E s:=by
 obtain⟨mA,O,r,_,_,_⟩:=zji I.hok e
 obtain⟨u,hu,ru⟩:=zbS.some_of (v:=v) (o:=mA f) (by rw[← l]; exact r f)
 exact zwx I.kIn O (c.get f) c.hd n hu (zt7 ru) (h u _ (I.tok _) ru)
theorem zq3 {m:Str}{g:Addr}{pl:Sem Bool}{Q:Value×List Value→Shared→Prop}(I:Inv X pins σ H s)(e:H a=some (.ins C dx fs))(c:Cls X.K C)(k:zfy X.K C m g)(l:fs.lookup m=none)
  (h:Q (.ref g,[.ref a]) s):wpAny (model X.prog X.w) A (getMethod (.ref a) m pl) Q E s:=by
 obtain⟨mA,O,r,_,_,_⟩:=zji I.hok e
 have hn:mA m=none:=zbS.none_of (by rw[← l]; exact r m)
 exact zsd I.kIn O (c.get m) k.at_ k.fn hn h
theorem zrQ {y:V}{u:Value}{Q:Unit→Shared→Prop}(I:Inv X pins σ H s)(e:H a=some (.ins C dx fs))(c:Cls X.K C)(n:zbu X.K C f)(hl:fs.length<1000)(ry:zav y u)
  (h:∀s',Inv X pins σ (upd H a (.ins C dx (zbw f y fs))) s'→Q () s'):wpAny (model X.prog X.w) A (setAttr (.ref a) f u) Q E s:=by
 obtain⟨mA,O,r,wi,_,ho⟩:=zji I.hok e
 have hz:(fs.map (·.1)).length≤sizeLine:=by rw[Vab,sizeLine_eq]; omega
 refine zs5 I.kIn O c.sa c.po n.taker c.hd wi hz λh' O' sb=>h _ ?_
 have hd:∃o,h'.get? dx=some o:=let ⟨o,_,_,e',_⟩:=O'.ns; ⟨o,e'⟩
 refine I.write (x:=a) (e:=dx) (by rw[e]; exact True.intro) (.inr ho) (λb q hb z=>(sb.2 b hb).trans z) hd ?_
 refine⟨by rw[za1 O.ne]; exact ho,?_,O.ne,O'.obj,_,O'.ns,λg=>?_,λg hg=>?_⟩
 ·have:=zqY f y fs; omega
 ·show zbS ((zbw f y fs).lookup g) (if g=f then some u else mA g)
  rw[zpN]
  by_cases q:g=f
  ·rw[if_pos q,if_pos q]; exact ry
  ·rw[if_neg q,if_neg q]; exact r g
 ·by_cases q:g=f
  ·rw[q]; exact(zou f y fs).1
  ·refine(zou f y fs).2 g (wi g λz=>hg ?_)
   show (if g=f then some u else mA g)=none
   rw[if_neg q]; exact z
theorem Inv.made (I:Inv X pins σ H s):Inv X pins σ (upd (upd H s.heap.objs.size (.own (s.heap.objs.size+1))) (s.heap.objs.size+1) (.ins C s.heap.objs.size []))
  { s with heap:=(s.heap.push PySem.W.emptyDict).push (PySem.W.instObj C s.heap.objs.size) }:=by
 have e1:(s.heap.push PySem.W.emptyDict).get? s.heap.objs.size=some PySem.W.emptyDict:=Heap.get?_push_size s.heap rfl
 have e2:((s.heap.push PySem.W.emptyDict).push (PySem.W.instObj C s.heap.objs.size)).get? (s.heap.objs.size+1)=some (PySem.W.instObj C s.heap.objs.size):=by
  have:=Heap.get?_push_size (s.heap.push PySem.W.emptyDict) (o:=PySem.W.instObj C s.heap.objs.size) rfl
  rwa [Heap.size_push] at this
 have e3:(s.heap.push PySem.W.emptyDict).Ns s.heap.objs.size (λ_=>none):=⟨PySem.W.emptyDict,#[],_,e1,rfl,(λe he=>absurd he (by simp)),λ_=>rfl⟩
 have I1:=I.laid (a:=s.heap.objs.size) (o:=.own (s.heap.objs.size+1)) (h':=s.heap.push PySem.W.emptyDict) (t':=s.toks) (λb u q=>Heap.get?_push_of_some _ q) (Vaa _) ⟨_,e1⟩
 refine I1.laid (a:=s.heap.objs.size+1) (o:=.ins C s.heap.objs.size []) (t':=s.toks) (λb u q=>Heap.get?_push_of_some _ q) (Nat.le_of_eq (Heap.size_push _ _)) ?_
 have ne:s.heap.objs.size≠s.heap.objs.size+1:=Van (Nat.lt_succ_self _)
 refine⟨by rw[za1 ne,zcw],Vak _,ne,e2,λ_=>none,(Heap.Ns1.of_empty e3).at λo q=>Heap.get?_push_of_some _ q,λ_=>True.intro,λy hy=>absurd rfl hy⟩
theorem zrI {prog:Program}{w:World}{env:Env}{e:Expr}{f:Str}{pos:Pos}{s:Shared}{Q:Value→Shared→Prop}(hb:attributeBase e f env (eval e env)=eval e env)
  (h:wpAny (model prog w) A (eval e env) (λo s₁=>wpAny (model prog w) A (getAttr o f true) Q E s₁) E s):wpAny (model prog w) A (eval (.Attribute e f pos) env) Q E s:=
 Attribute_any_ h (by rw[arm_eval_Attribute,hb])
end
def tFld (K:PySem.W.Frag)(ta:TE)(f:Str):TE:=λσ H Q=>ta σ H λx H1=>∃a C dx fs v,x=.ref a∧H1 a=some (.ins C dx fs)∧Cls K C∧zbu K C f∧fs.lookup f=some v∧Q v H1
def sFld (K:PySem.W.Frag)(ta tv:TE)(f:Str):TS:=λD σ H=>tv σ H λy H1=>ta σ H1 λx H2=>∃a C dx fs,x=.ref a∧H2 a=some (.ins C dx fs)∧Cls K C∧zbu K C f∧fs.length<1000∧
 D.nx σ (upd H2 a (.ins C dx (zbw f y fs)))
section
variable {X:Cx}{o e value:Expr}{f:Str}{pos pos' tpos:Pos}{ta tv:TE}
theorem zuD (he:PE X e ta)(hb:attributeBase e f X.env (eval e X.env)=eval e X.env):PE X (.Attribute e f pos) (tFld X.K ta f):=by
 intro pins s σ H Q I h
 refine zrI hb (thn (he pins s σ H _ I h) λu s1 ⟨x,H1,I1,rx,a,C,dx,fs,v,ex,ea,c,n,l,q⟩=>?_)
 subst ex
 obtain rfl:u=Value.ref a:=rx
 exact ztC I1 ea c n l λu' s2 I2 ru=>⟨v,H1,I2,ru,q⟩
theorem zwt (ha:PE X o ta)(hv:PE X value tv)(hs:swapsWith value (some (.Attribute o f pos')) pos.line X.env=pure false):PS X (.Assign [.Attribute o f pos'] value pos) (sFld X.K ta tv f):=by
 intro pins s σ H D I h
 refine plainObj_wpAny_Assign_Attribute (thn (hv pins s σ H _ I h) λu s1 ⟨y,H1,I1,ry,q⟩=>thn (ha pins s1 σ H1 _ I1 q) λov s2 ⟨x,H2,I2,rx,a,C,dx,fs,ex,ea,c,n,l,q2⟩=>?_) hs
 subst ex
 obtain rfl:ov=Value.ref a:=rx
 exact zrQ I2 ea c n l ry λs3 I3=>⟨σ,_,I3,q2⟩
end
section
variable {X:Cx}{pins:List (Addr×Obj)}{σ:St}{H:Hp}{s:Shared}{A:Around}{E:Value→Shared→Prop}{Q:Value→Shared→Prop}{c:Value}{b:Bool}
inductive zcn (K:PySem.W.Frag)(H:Hp):V→Value→Prop where
 | non:zcn K H .non (.type "NoneType")
 | bl (x:Bool):zcn K H (.bl x) (.type "bool")
 | int (i:Int):zcn K H (.int i) (.type "int")
 | str (x:Str):zcn K H (.str x) (.type "str")
 | flt (x:UInt64):zcn K H (.flt x) (.type "float")
 | lst {a:Addr} {xs:List V} (e:H a=some (.lst xs)):zcn K H (.ref a) (.type "list")
 | frz {a:Addr} {o:Obj} {xs:List V} (e:H a=some (.frz o (.lst xs))):zcn K H (.ref a) (.type "list")
 | tup {a:Addr} {xs:List V} (e:H a=some (.tup xs)):zcn K H (.ref a) (.type "tuple")
 | dK {a:Addr} {kvs:List (Key×V)} (e:H a=some (.dK kvs)):zcn K H (.ref a) (.type "dict")
 | dT {a:Addr} {kvs:List (List Key×V)} (e:H a=some (.dT kvs)):zcn K H (.ref a) (.type "dict")
 | ins {a C dx:Addr} {fs:List (Str×V)} (e:H a=some (.ins C dx fs)) (cl:Cls K C) (ha:PySem.W.findIn K (.ref C) "__class__"=some (some (.builtin "object.__class__")))
   (hn:PySem.W.specialIn K (.builtin "object.__class__") "__get__"=some (some (.builtin "getset_descriptor.__get__"))) (htk:PySem.W.takesIn K (.builtin "object.__class__")=some true)
   (hm:PySem.W.mroIn K C (.type "object")=some true):zcn K H (.ref a) (.ref C)
theorem zu5 {x:V}{u t:Value}(I:Inv X pins σ H s)(rx:zav x u)(ty:zcn X.K H x t)(e:PySem.W.kitOne X.K t c=some b)(h:∀tk,Q (.bool b) { s with toks:=tk }):
  wpAny (model X.prog X.w) A (call (.builtin "isinstance") [u,c]) Q E s:=by
 cases ty with
 | non=>cases (show u=Value.none from rx); exact PySem.W.kia_one PySem.W.kitx_none I.kIn True.intro e (λz=>nomatch z) h
 | bl y=>cases (show u=Value.bool y from rx); exact PySem.W.kia_one PySem.W.kitx_bool I.kIn True.intro e (λz=>nomatch z) h
 | int i=>obtain⟨t,q⟩:=(show ∃t,u=Value.int i t from rx); cases q; exact PySem.W.kia_one PySem.W.kitx_int I.kIn True.intro e (λz=>nomatch z) h
 | str y=>obtain⟨t,q⟩:=(show ∃t,u=Value.str y t from rx); cases q; exact PySem.W.kia_one PySem.W.kitx_str I.kIn True.intro e (λz=>nomatch z) h
 | flt y=>obtain⟨t,q⟩:=(show ∃t,u=Value.float y t from rx); cases q; exact PySem.W.kia_one PySem.W.kitx_float I.kIn True.intro e (λz=>nomatch z) h
 | @lst a xs ea=>
  cases (show u=Value.ref a from rx)
  obtain⟨_,_,n,_,h1⟩:=(show zby X.prog X.w H s.heap a (.lst xs) from I.hok a _ ea)
  exact PySem.W.kia_one PySem.W.kitx_list I.kIn ⟨_,h1,rfl⟩ e (λz=>nomatch z) h
 | @frz a ob xs ea=>
  cases (show u=Value.ref a from rx)
  obtain⟨_,_,_,n,_,h1⟩:=(show zby X.prog X.w H s.heap a (.frz ob (.lst xs)) from I.hok a _ ea)
  exact PySem.W.kia_one PySem.W.kitx_list I.kIn ⟨_,h1,rfl⟩ e (λz=>nomatch z) h
 | @tup a xs ea=>
  cases (show u=Value.ref a from rx)
  obtain⟨_,_,_,p⟩:=(show zby X.prog X.w H s.heap a (.tup xs) from I.hok a _ ea)
  obtain⟨o,h1,h2,_⟩:=p
  exact PySem.W.kia_one PySem.W.kitx_tuple I.kIn ⟨o,h1,h2⟩ e (λz=>nomatch z) h
 | @dK a kvs ea=>
  cases (show u=Value.ref a from rx)
  obtain⟨_,_,vs,_,p⟩:=(show zby X.prog X.w H s.heap a (.dK kvs) from I.hok a _ ea)
  obtain⟨o,es,ep,h1,h2,_⟩:=p
  exact PySem.W.kia_one PySem.W.kitx_dict I.kIn ⟨o,h1,h2.1⟩ e (λz=>nomatch z) h
 | @dT a kvs ea=>
  cases (show u=Value.ref a from rx)
  obtain⟨_,_,xs,_,o,es,ep,h1,h2,_⟩:=(show zby X.prog X.w H s.heap a (.dT kvs) from I.hok a _ ea)
  exact PySem.W.kia_one PySem.W.kitx_dict I.kIn ⟨o,h1,h2.1⟩ e (λz=>nomatch z) h
 | @ins a C dx fs ea cl ha hn htk hm=>
  cases (show u=Value.ref a from rx)
  obtain⟨mA,O,_⟩:=zji I.hok ea
  obtain⟨od,J,_⟩:=O.look
  exact PySem.W.kia_one (PySem.W.kitx_own (cl.get _) cl.hd ha hn htk hm) I.kIn J e (λz=>nomatch z) h
end
end L2
namespace L2
open PySem PySem.Spec PyProof.Rows
structure zaK (k:Nat)(A:Around):Prop where
 hd:A.handled=none
 dp:A.depth+3*k+5<recursionLimit
 un:A.units+16*k+200<cLine
theorem zaK.mono {j k:Nat}{A:Around}(r:zaK k A)(h:j≤k):zaK j A:=⟨r.hd,by have:=r.dp; omega,by have:=r.un; omega⟩
theorem zaK.deeper {k:Nat}{A:Around}(r:zaK (k+1) A)(env:Env):zaK k (A.deeper env):=
 ⟨r.hd,by have:=r.dp; show A.depth+1+3*k+5<_; omega,by have:=r.un; show A.units+3+16*k+200<_; omega⟩
theorem zaK.in1 {k:Nat}{A:Around}(r:zaK (k+1) A):zaK k A.in1:=
 ⟨r.hd,by have:=r.dp; show A.depth+3*k+5<_; omega,by have:=r.un; show A.units+1+16*k+200<_; omega⟩
theorem zvh {A:Around}{C:Addr}{us:List Value}{kw:List (Str×Value)}:(A.under (.builtin "type.__call__" ⟨.ref C::us,kw⟩)).depth=A.depth+1:=by
 first | rfl | simp[Around.under,Code.weight,Code.isCreation,Code.isGuard,Code.isCaller,Code.frames,Code.isFrame,guardIds]
theorem zut {A:Around}{C:Addr}{us:List Value}{kw:List (Str×Value)}:(A.under (.builtin "type.__call__" ⟨.ref C::us,kw⟩)).units=A.units+1:=by
 first | rfl | simp[Around.under,Code.cUnits,Code.frames,Code.isFrame]
theorem zaK.make {k:Nat}{A:Around}(r:zaK (k+1) A)(C:Addr)(us:List Value)(kw:List (Str×Value)):zaK k (A.under (.builtin "type.__call__" ⟨.ref C::us,kw⟩)):=
 ⟨r.hd,by have:=r.dp; rw[zvh]; omega,by have:=r.un; rw[zut]; omega⟩
theorem zaK.depth {k:Nat}{A:Around}(r:zaK k A):A.depth<recursionLimit:=by have:=r.dp; omega
theorem zaK.units {k:Nat}{A:Around}(r:zaK k A):A.units+64<cLine:=by have:=r.un; omega
def tNil:TA:=λ_ H Q=>Q [] H
def tCons (ta:TE)(tr:TA):TA:=λσ H Q=>ta σ H λx H1=>tr σ H1 λxs H2=>Q (x::xs) H2
section
variable {X:Cx}{e:Expr}{es:List Expr}{te:TE}{t:TA}{pos:Pos}
theorem zlh:PA X [] tNil:=λ_ _ _ _ H Q I h=>Calls.spliced_nil ⟨[],H,I,.nil,h⟩
theorem zfb (ha:PE X e te)(hr:PA X es t)(hs:starEach (e::es) X.env=(false,eval e X.env)::starEach es X.env:=by rfl):PA X (e::es) (tCons te t):=by
 intro pos pins s σ H Q I h
 rw[hs]
 show wpAny _ _ (spliced ((false,eval e X.env)::backTo pos (starEach es X.env))) _ _ s
 refine Calls.spliced_cons (thn (ha pins s σ H _ I h) λu s1 ⟨x,H1,I1,r1,q1⟩=>?_)
 exact thn (hr pos pins s1 σ H1 _ I1 q1) λus s2 ⟨xs,H2,I2,r2,q2⟩=>⟨x::xs,H2,I2,.cons r1 r2,q2⟩
def tTup (t:TA):TE:=λσ H Q=>t σ H λxs H1=>xs.length≤sizeLine∧∀p,H1 p=none→Q (.ref p) (upd H1 p (.tup xs))
def tLst (t:TA):TE:=λσ H Q=>t σ H λxs H1=>xs.length≤sizeLine∧∀p,H1 p=none→Q (.ref p) (upd H1 p (.lst xs))
theorem zvl {x1}(h:PA X es t):PE X (.Tuple es x1 pos) (tTup t):=by
 intro pins s σ H Q I hq
 refine wpAny_Tuple_spliced (thn (h pos pins s σ H _ I hq) λus s1 ⟨xs,H1,I1,r,z,q⟩=>⟨by rw[← r.length]; exact z,?_⟩)
 have hf:H1 s1.heap.objs.size=none:=I1.hok.fresh (Vaa _)
 refine⟨.ref s1.heap.objs.size,upd H1 s1.heap.objs.size (.tup xs),I1.laid (t':=s1.toks) (λb u e=>Heap.get?_push_of_some _ e) (Vaa _) ?_,rfl,q _ hf⟩
 exact⟨z,us,r,⟨_,Heap.get?_push_size _ rfl,rfl,_,rfl⟩⟩
theorem zv3 (h:PA X es t):PE X (.List es pos) (tLst t):=by
 intro pins s σ H Q I hq
 refine wpAny_List_spliced (thn (h pos pins s σ H _ I hq) λus s1 ⟨xs,H1,I1,r,z,q⟩=>⟨by rw[← r.length]; exact z,?_⟩)
 have hf:H1 s1.heap.objs.size=none:=I1.hok.fresh (Vaa _)
 refine⟨.ref s1.heap.objs.size,upd H1 s1.heap.objs.size (.lst xs),I1.laid (t':=s1.toks) (λb u e=>Heap.get?_push_of_some _ e) (Vaa _) ?_,rfl,q _ hf⟩
 exact⟨z,us,0,r,Heap.get?_push_size _ rfl⟩
end
abbrev Sp:=List V→Hp→VK→XK→Prop
abbrev CXT:=List Env→Hp→Shared→XK→Value→Shared→Prop
structure zcx (P:Program)(w:World)(K:PySem.W.Frag)(mg:Str→Option Value)(base:Heap)(A:Around)(outer:List Env)(s:Shared)(H:Hp):Prop where
 frames:A.frames=some outer
 mod:Mod K mg base
 bs:∀b o,base.get? b=some o→s.heap.get? b=some o∧H b=none
 bsz:base.objs.size≤s.heap.objs.size
 funs:s.heap.FunFrames base outer
 frf:∀b∈frs outer,H b=none
 hok:HOk P w H s.heap
 bare:AllBare s.gens
def CE (outer:List Env)(P:Program)(w:World)(H:Hp)(s:Shared)(Q:VK)(u:Value)(s':Shared):Prop:=
 ∃v H',s'.os=s.os∧AllBare s'.gens∧Un (frs outer) [] H H' s.heap s'.heap∧HOk P w H' s'.heap∧zav v u∧Q v H'
def CR (CX:CXT)(outer:List Env)(P:Program)(w:World)(H:Hp)(s:Shared)(Q:VK)(E:XK)(r:Result)(s':Shared):Prop:=
 match r with
 | .ok (.ret u)=>CE outer P w H s Q u s'
 | .ok _=>False
 | .error e=>CX outer H s E e s'
structure za6 (P:Program)(w:World)(K:PySem.W.Frag)(mg:Str→Option Value)(base:Heap)(CX:CXT)(k:Nat)(f:Addr)(fd:FuncData)(ps:List Str)(sp:Sp):Prop where
 len:∀vs H Q E,sp vs H Q E→vs.length=ps.length
 run:∀(A:Around) (outer:List Env) (s:Shared) (H:Hp) (args:Args) (us:List Value) (vs:List V) (Q:VK) (E:XK),zaK k A→zcx P w K mg base A outer s H→BindsTo s fd args (ps.zip us)→zau vs us→sp vs H Q E→
  codeAny (model P w) A (.call (.ref f) args) (CR CX outer P w H s Q E) s
theorem za6.mono {P:Program}{w:World}{K:PySem.W.Frag}{mg:Str→Option Value}{base:Heap}{CX:CXT}{j k:Nat}{f:Addr}{fd:FuncData}{ps:List Str}{sp:Sp}(F:za6 P w K mg base CX j f fd ps sp)(h:j≤k):
  za6 P w K mg base CX k f fd ps sp:=⟨F.len,λA outer s H args us vs Q E hr=>F.run A outer s H args us vs Q E (hr.mono h)⟩
theorem za6.imp {P:Program}{w:World}{K:PySem.W.Frag}{mg:Str→Option Value}{base:Heap}{CX:CXT}{k:Nat}{f:Addr}{fd:FuncData}{ps:List Str}{sp sp':Sp}(F:za6 P w K mg base CX k f fd ps sp)
  (h:∀vs H Q E,sp' vs H Q E→sp vs H Q E):za6 P w K mg base CX k f fd ps sp':=
 ⟨λvs H Q E q=>F.len vs H Q E (h _ _ _ _ q),λA outer s H args us vs Q E hr he hb hv hs=>F.run A outer s H args us vs Q E hr he hb hv (h _ _ _ _ hs)⟩
theorem zcx.make {P:Program}{w:World}{K:PySem.W.Frag}{mg:Str→Option Value}{base:Heap}{A:Around}{outer:List Env}{s:Shared}{H:Hp}(e:zcx P w K mg base A outer s H)(C:Addr)(us:List Value)(kw:List (Str×Value)):
  zcx P w K mg base (A.under (.builtin "type.__call__" ⟨.ref C::us,kw⟩)) outer s H:=⟨by first | exact e.frames | (simpa [Around.under,Code.envs,Code.isFrame,pushEnvs] using e.frames),e.mod,e.bs,e.bsz,e.funs,e.frf,e.hok,e.bare⟩
theorem zcx.in1 {P:Program}{w:World}{K:PySem.W.Frag}{mg:Str→Option Value}{base:Heap}{A:Around}{outer:List Env}{s:Shared}{H:Hp}(e:zcx P w K mg base A outer s H):
  zcx P w K mg base A.in1 outer s H:=⟨e.frames,e.mod,e.bs,e.bsz,e.funs,e.frf,e.hok,e.bare⟩
section
variable {X:Cx}{pins:List (Addr×Obj)}{σ:St}{H:Hp}{s s':Shared}
theorem Inv.env0 (I:Inv X pins σ H s):zcx X.prog X.w X.K X.mg X.base X.A X.stack s H:=
 ⟨I.ok.frames,I.ok.mod,I.bs,VaD I.ok.bsz I.sz,I.stack,I.stkFree,I.hok,I.bare⟩
theorem Inv.after {Q:VK}{u:Value}(I:Inv X pins σ H s)(h:CE X.stack X.prog X.w H s Q u s'):EP X pins σ Q u s':=by
 obtain⟨v,H',os,bare,un,hok,r,q⟩:=h
 obtain⟨hh,g,d,t,os'⟩:=s'
 obtain rfl:os'=s.os:=os
 exact⟨v,H',I.call (h':=hh) (g':=g) (d':=d) (t':=t) (ch:=[]) un hok bare (λb z=>absurd z (by simp)),r,q⟩
end
def tMake (C:Addr)(sp:Sp)(dvs:List V)(E:XK)(t:TA):TE:=λσ H Q=>t σ H λvs H1=>∀x dx,H1 x=none→H1 dx=none→dx≠x→
 sp (.ref x::(vs++dvs)) (upd (upd H1 dx (.own x)) x (.ins C dx [])) (λv H2=>v=.non∧Q (.ref x) H2) E
def zbP (K:PySem.W.Frag)(fd:FuncData)(ps:List Str)(ds:List Value):Prop:=
 ∀(s:Shared) (us:List Value),K.In s.heap→(us++ds).length=ps.length→BindsTo s fd ⟨us,[]⟩ (ps.zip (us++ds))
theorem zbP.all {K:PySem.W.Frag}{fd:FuncData}{ps:List Str}(h:∀us:List Value,us.length=ps.length→bindArgs fd ⟨us,[]⟩=pure (ps.zip us)):zbP K fd ps []:=λs us _ hl=>by
 rw[Vbe] at hl ⊢
 exact .of_eq (h us hl)
def zmH (CX:CXT)(X:Cx)(E:XK):Prop:=∀(pins:List (Addr×Obj)) (σ:St) (H:Hp) (s:Shared) (e:Value) (s':Shared),Inv X pins σ H s→CX X.stack H s E e s'→X.xe e s'
section
variable {X:Cx}{CX:CXT}{k:Nat}{f C:Addr}{fd:FuncData}{ps:List Str}{sp:Sp}{dvs:List V}{ds:List Value}{E:XK}{x m:Str}{p pos apos:Pos}{e o:Expr}{es:List Expr}{ta:TE}{t:TA}
structure Mk (K:PySem.W.Frag)(C f:Addr):Prop where
 makes:PySem.W.makesIn K C=true
 init:PySem.W.findIn K (.ref C) "__init__"=some (some (.ref f))
 fn:PySem.W.isFn K (.ref f)=true
 kp:PySem.W.keepIn K (.ref C)=true
theorem zwY {pins:List (Addr×Obj)}{σ:St}{H:Hp}{s:Shared}{Q:VK}{us:List Value}{vs:List V}(M:Mk X.K C f)(F:za6 X.prog X.w X.K X.mg X.base CX k f fd ps sp)(hr:zaK (k+1) X.A)(hb:zbP X.K fd ps ds)(hd:zau dvs ds)
  (hx:zmH CX X E)(I:Inv X pins σ H s)(r:zau vs us)
  (h:∀x dx,H x=none→H dx=none→dx≠x→sp (.ref x::(vs++dvs)) (upd (upd H dx (.own x)) x (.ins C dx [])) (λv H2=>v=.non∧Q (.ref x) H2) E):
  wpAny (model X.prog X.w) X.A (call (.ref C) us) (EP X pins σ Q) X.xe s:=by
 have hq:=h (s.heap.objs.size+1) s.heap.objs.size (I.hok.fresh (Nat.le_succ _)) (I.hok.fresh (Vaa _)) (Van (Nat.lt_succ_self _))
 have I2:=Inv.made (C:=C) I
 have r2:zau (V.ref (s.heap.objs.size+1)::(vs++dvs)) (Value.ref (s.heap.objs.size+1)::(us++ds)):=.cons rfl (r.append hd)
 have hl:(Value.ref (s.heap.objs.size+1)::us++ds).length=ps.length:=by
  have e:=r2.length
  rw[F.len _ _ _ _ hq] at e
  exact e.symm
 refine wpAny_call (zuu (f:=f) I.kIn M.makes M.init (beq_iff_eq.mp M.fn) (codeAny_mono (F.run _ X.stack _ _ ⟨Value.ref (s.heap.objs.size+1)::us,[]⟩ (Value.ref (s.heap.objs.size+1)::(us++ds)) _ _ E (hr.make C us [])
  (I2.env0.make C us []) (hb _ (Value.ref (s.heap.objs.size+1)::us) I2.kIn hl) r2 hq) λr s' hq'=>?_))
 cases r with
 | error e=>exact hx pins σ _ _ e s' I2 hq'
 | ok fl=>
  cases fl with
  | ret u=>
   obtain⟨v,H',I3,rv,ev,q3⟩:=I2.after hq'
   subst ev
   exact⟨rv,⟨V.ref (s.heap.objs.size+1),H',I3,rfl,q3⟩⟩
  | next=>exact False.elim hq'
  | brk=>exact False.elim hq'
  | cont=>exact False.elim hq'
theorem zww (M:Mk X.K C f)(F:za6 X.prog X.w X.K X.mg X.base CX k f fd ps sp)(hr:zaK (k+1) X.A)(hg:Gl X x)(hm:X.mg x=some (.ref C))(hb:zbP X.K fd ps ds)(hd:zau dvs ds)(hx:zmH CX X E)
  (ha:PA X (e::es) t)(hdb:(x==("__debug__":Str))=false:=by decide)(he:starEach (e::es) X.env=(false,eval e X.env)::starEach es X.env:=by rfl)(hpl:(backTo pos (starEach es X.env)).any (·.1)=false:=by rfl):
  PE X (.Call (.Name x p) (e::es) [] pos) (tMake C sp dvs E t):=by
 intro pins s σ H Q I h
 refine wpAny_Call_Name_kw (zq5 I hg hm ?_ hdb)
 refine PySem.W.callWith_K (h₀:=X.base) I.ok.mod.kin M.kp (thn (ha pos pins s σ H _ I h) λus s1 ⟨vs,H1,I1,r,q⟩=>⟨I1.kIn,?_⟩) he hpl
 exact zwY M F hr hb hd hx I1 r q
end
section
variable {X:Cx}{CX:CXT}{k:Nat}{f C:Addr}{fd:FuncData}{ps ks:List Str}{sp:Sp}{E:XK}{x m:Str}{p pos apos kpos:Pos}{e o:Expr}{es:List Expr}{kws:List Keyword}{te ta:TE}{t tk:TA}{nm:Option Str}
structure KBinds (K:PySem.W.Frag)(fd:FuncData)(ps ks:List Str)(g:List Value→List Value→List Value)(gV:List V→List V→List V):Prop where
 to:∀(s:Shared) (us ws:List Value),K.In s.heap→(g us ws).length=ps.length→BindsTo s fd ⟨us,ks.zip ws⟩ (ps.zip (g us ws))
 rel:∀ {vs:List V} {us:List Value} {zs:List V} {ws:List Value},zau vs us→zau zs ws→zau (gV vs zs) (g us ws)
variable {g:List Value→List Value→List Value}{gV:List V→List V→List V}
end
structure zay (N P:List Str)(sc:Scope):Prop where
 kind:sc.kind=.function
 co:sc.isCoroutine=false
 gen:sc.isGenerator=false
 nd:N.Nodup
 pre:N.take P.length=P
 par:∀x∈P,sc.names.lookup x=some .local∨sc.names.lookup x=some .cell
 nofree:∀y∈sc.names,y.2≠.free
theorem zpE {kindOf:Str→Option NameKind}{x:Str}:∀ {binds:List (Str×Value)} {m:Str→Option Value},(∀v,(x,v) ∉ binds)→bindL kindOf binds m x=m x
 | [],_,_=>rfl
 | (n,v)::r,m,h=>by
  unfold bindL
  rw[zpE λw hw=>h w (VaT _ hw)]
  split
  ·have:x≠n:=by rintro rfl; exact h v Va7
   simp[this]
  ·rfl
theorem zqu {kindOf:Str→Option NameKind}{x:Str}:∀ {binds:List (Str×Value)} {m:Str→Option Value},(∀v,(x,v) ∉ binds)→bindC kindOf binds m x=m x
 | [],_,_=>rfl
 | (n,v)::r,m,h=>by
  unfold bindC
  rw[zqu λw hw=>h w (VaT _ hw)]
  split
  ·rfl
  ·have:x≠n:=by rintro rfl; exact h v Va7
   simp[this]
theorem zpI {kindOf:Str→Option NameKind}{x:Str}{v:Value}:∀ {P:List Str} {vs:List Value} {i:Nat} {m:Str→Option Value},P.Nodup→P[i]?=some x→vs[i]?=some v→kindOf x=some .local→
  bindL kindOf (P.zip vs) m x=some v
 | [],_,_,_,_,h,_,_=>by simp at h
 | _::_,[],_,_,_,_,h,_=>by simp at h
 | p::P,w::vs,0,m,nd,h1,h2,hk=>by
  simp at h1 h2; subst h1; subst h2
  show bindL kindOf ((p,w)::P.zip vs) m p=_
  unfold bindL
  rw[zpE λv hv=>(List.nodup_cons.mp nd).1 (List.of_mem_zip hv).1,if_pos hk]
  simp
 | p::P,w::vs,i+1,m,nd,h1,h2,hk=>by
  show bindL kindOf ((p,w)::P.zip vs) m x=_
  unfold bindL
  exact zpI (i:=i) (List.nodup_cons.mp nd).2 (by simpa using h1) (by simpa using h2) hk
theorem zqK {kindOf:Str→Option NameKind}{x:Str}{v:Value}:∀ {P:List Str} {vs:List Value} {i:Nat} {m:Str→Option Value},P.Nodup→P[i]?=some x→vs[i]?=some v→kindOf x≠some .local→
  bindC kindOf (P.zip vs) m x=some v
 | [],_,_,_,_,h,_,_=>by simp at h
 | _::_,[],_,_,_,_,h,_=>by simp at h
 | p::P,w::vs,0,m,nd,h1,h2,hk=>by
  simp at h1 h2; subst h1; subst h2
  show bindC kindOf ((p,w)::P.zip vs) m p=_
  unfold bindC
  rw[zqu λv hv=>(List.nodup_cons.mp nd).1 (List.of_mem_zip hv).1,if_neg hk]
  simp
 | p::P,w::vs,i+1,m,nd,h1,h2,hk=>by
  show bindC kindOf ((p,w)::P.zip vs) m x=_
  unfold bindC
  exact zqK (i:=i) (List.nodup_cons.mp nd).2 (by simpa using h1) (by simpa using h2) hk
def zcz (N:List Str)(vs:List V):St:=vs.map some++List.replicate (N.length-vs.length) none
def zee (CX:CXT)(P:Program)(w:World)(K:PySem.W.Frag)(mg:Str→Option Value)(base:Heap)(N:List Str)(qual:Str)(scope:Scope)(f:Addr)(cd:Value)(A:Around)(outer:List Env)(s:Shared)(H:Hp)(E:XK):Cx where
 prog:=P
 w:=w
 K:=K
 mg:=mg
 base:=base
 A:=A.deeper (envOfC qual scope s.heap.objs.size f cd)
 N:=N
 s₀:=s
 H₀:=H
 env:=envOfC qual scope s.heap.objs.size f cd
 outer:=outer
 stack:=envOfC qual scope s.heap.objs.size f cd::outer
 ex:=[]
 calm:=true
 fn:=λ_=>true
 pn:=[]
 xe:=λe s'=>wpAny (model P w) (A.deeper (envOfC qual scope s.heap.objs.size f cd)) (leaving (envOfC qual scope s.heap.objs.size f cd) e) (λ_ s''=>CX outer H s E e s'') (λe' s''=>CX outer H s E e' s'') s'
theorem zpv {sc:Scope}{n:Nat}{x:Str}(h:sc.names.lookup x=some .cell):∃c,(cellsFrom n sc.names []).lookup x=some c:=by
 have q:=PySem.W.cellsFrom_some sc.names n [] (.inl h)
 exact VaZ.mp q
theorem zsA {CX:CXT}{P:Program}{w:World}{K:PySem.W.Frag}{mg:Str→Option Value}{base:Heap}{N ps:List Str}{qual:Str}{scope:Scope}{f:Addr}{cd:Value}{A:Around}{outer:List Env}{s s1:Shared}{H:Hp}{E:XK}{us:List Value}{vs:List V}
  (S:zay N ps scope)(hd:A.handled=none)(e0:zcx P w K mg base A outer s H)(hl:vs.length=ps.length)(r:zau vs us)
  (x:InCallC s s.heap.objs.size (bindL (envOfC qual scope s.heap.objs.size f cd).kindOf (ps.zip us) λ_=>none) (cellsFrom (s.heap.objs.size+1) scope.names []) (bindC (envOfC qual scope s.heap.objs.size f cd).kindOf (ps.zip us) λ_=>none) s1):
  Inv (zee CX P w K mg base N qual scope f cd A outer s H E) [] (zcz N vs) H s1:=by
 have hpl:ps.length≤N.length:=by have:=congrArg List.length S.pre; rw[Vaq] at this; omega
 obtain⟨h1,tk,rfl,hk⟩:=x.done
 have noA:∀b:Addr,b ∉ (zee CX P w K mg base N qual scope f cd A outer s H E).ex:=λb z=>absurd (show b∈([]:List Addr) from z) (by simp)
 refine⟨⟨e0.mod,S.kind,rfl,rfl,Vaa _,λy z c h1 h2=>?_,λy hy=>?_,λy c _ h=>?_,λ_=>hd,Around.frames_deeper e0.frames,.inr ⟨rfl,rfl⟩,λb z=>absurd z (noA b),e0.bs,e0.bsz,λb _ _=>noA b,λb z=>absurd z (noA b),e0.funs,e0.frf⟩,
  rfl,e0.bare,Un.kept hk,⟨_,x.toInCall.ns,λi y v h1 h2 h3=>?_⟩,λy c h=>⟨_,x.cell y c h⟩,e0.hok.fresh (Vaa _),λy c h=>?_,λp hp=>absurd (show p∈([]:List (Addr×Obj)) from hp) (by simp),e0.hok.kept hk,?_⟩
 ·exact name_of_addr x.apart (PySem.mem_of_lookup h1) (PySem.mem_of_lookup h2)
 ·have hy:scope.names.lookup y=some .cell∨scope.names.lookup y=some .free:=hy
  rcases hy with hy | hy
  ·exact zpv hy
  ·exact absurd rfl (S.nofree _ (PySem.mem_of_lookup hy))
 ·exact VaX (x.above y c (PySem.mem_of_lookup h))
 ·have hi:i<vs.length:=by
   unfold zcz at h2
   by_cases hi:i<vs.length
   ·exact hi
   ·rw[VaG (by simpa using hi)] at h2
    rw[List.getElem?_replicate] at h2
    split at h2 <;> cases h2
  have ha:vs[i]?=some v:=by
   unfold zcz at h2
   rw[Val (by simpa using hi),Vaf] at h2
   cases e:vs[i]? with
   | none=>rw[e] at h2; cases h2
   | some a=>rw[e] at h2; cases h2; rfl
  obtain⟨u,hu,rv⟩:=r.get ha
  have hp:ps[i]?=some y:=by
   rw[← S.pre,List.getElem?_take_of_lt (by omega)]; exact h1
  have ndP:ps.Nodup:=by rw[← S.pre]; exact S.nd.sublist (List.take_sublist _ _)
  refine⟨u,rv,?_⟩
  rcases S.par y (Vag hp) with k | k
  ·exact .inl ⟨k,zpI ndP hp hu k⟩
  ·obtain⟨c,e⟩:=zpv (n:=s.heap.objs.size+1) k
   refine .inr ⟨.inl k,c,e,?_⟩
   have q:=x.cell y c e
   rw[zqK ndP hp hu (by show scope.names.lookup y≠_; rw[k]; decide)] at q
   exact q
 ·exact e0.hok.fresh (VaX (x.above y c (PySem.mem_of_lookup h)))
 ·unfold zcz
  show _=N.length
  rw[Vav,Vab,List.length_replicate]
  omega
theorem zp4 {CX:CXT}{P:Program}{w:World}{K:PySem.W.Frag}{mg:Str→Option Value}{base:Heap}{k:Nat}{f:Addr}{name qual:Str}{params:Arguments}{body:List Stmt}{scope:Scope}{dV kV doc pm cdv ct oc:Value}{an od:Option Addr}
  {osl:Array (Option Value)}{N ps:List Str}{sp:Sp}(lk:K.lookup f=some ⟨oc,od,.func (PySem.W.fnOf name qual params body scope dV kV doc pm an cdv ct),osl⟩)(hcd:PySem.W.codeIn K cdv qual=true)(S:zay N ps scope)
  (len:∀vs H Q E,sp vs H Q E→vs.length=ps.length)
  (hbody:∀(A:Around) (outer:List Env) (s:Shared) (H:Hp) (vs:List V) (Q:VK) (E:XK),zaK k (A.deeper (envOfC qual scope s.heap.objs.size f cdv))→sp vs H Q E→
   ∃t,PSs (zee CX P w K mg base N qual scope f cdv A outer s H E) body t∧t { nx:=λ_ H'=>Q .non H',rt:=Q } (zcz N vs) H):
  za6 P w K mg base CX (k+1) f (PySem.W.fnOf name qual params body scope dV kV doc pm an cdv ct) ps sp:=by
 refine⟨len,λA outer s H args us vs Q E hr e0 hb r hsp=>?_⟩
 have hl:=len _ _ _ _ hsp
 have KX:K.In s.heap:=e0.mod.kin.keeps λb o e=>(e0.bs b o e).1
 have lim:s.heap.NoLimit:=e0.mod.nolimit.keeps λb o e=>(e0.bs b o e).1
 have hkind:∀y∈ps.zip us,scope.names.lookup y.1=some .local∨(scope.names.lookup y.1=some .cell∧((cellsFrom (s.heap.objs.size+1) scope.names []).lookup y.1).isSome=true):=λ⟨n,v⟩ hy=>by
  rcases S.par n (List.of_mem_zip hy).1 with q | q
  ·exact .inl q
  ·exact .inr ⟨q,PySem.W.cellsFrom_some _ _ _ (.inl q)⟩
 refine codeAny_call_function hr.depth (KX _ _ lk) rfl S.co S.gen rfl (PySem.W.codeRec_of KX hcd) (hb _ _ _ _ ?_)
 refine wpAny_newFunctionEnv_cells S.kind hkind λenv he s1 x=>?_
 subst he
 refine⟨lim.keeps x.toInCall.keep,codeAny_func ?_⟩
 obtain⟨t,ht,hq⟩:=hbody A outer s H vs Q E (hr.deeper _) hsp
 have I:Inv (zee CX P w K mg base N qual scope f cdv A outer s H E) [] (zcz N vs) H s1:=zsA S hr.hd e0 hl r x
 refine wpAny_mono (ht [] s1 (zcz N vs) H _ I hq) (λfl s' hs=>?_) λe s' hs=>hs
 have fin:∀ {σ':St} {H':Hp} {v:V} {u:Value},Inv (zee CX P w K mg base N qual scope f cdv A outer s H E) [] σ' H' s'→zav v u→Q v H'→CE outer P w H s Q u s':=
  λ{σ' H' v u} J rv q=>⟨v,H',J.os,J.bare,J.base,J.hok,rv,q⟩
 cases fl with
 | ret u=>
  obtain⟨v,σ',H',J,rv,q⟩:=hs
  exact fin J rv q
 | next=>
  obtain⟨σ',H',J,q⟩:=hs
  exact fin (v:=V.non) (u:=Value.none) J rfl q
 | brk=>
  obtain⟨_,_,_,q⟩:=hs
  exact False.elim q
 | cont=>
  obtain⟨_,_,_,q⟩:=hs
  exact False.elim q
end L2
namespace L2
open PySem PySem.Spec PyProof.Rows
section
variable {X:Cx}{x:Str}{p pos:Pos}{e:Expr}{es:List Expr}{t:TA}{id T:String}{r:List V→Hp→VK→Prop}
def tCB (r:List V→Hp→VK→Prop)(t:TA):TE:=λσ H Q=>t σ H λvs H1=>r vs H1 Q
theorem zoL (hc:zbc X (.builtin id) r)(hg:Gl X x)(hm:X.mg x=none)(hv:bootBuiltins x=some (.builtin id))(ha:PA X (e::es) t)(hn:x≠"__name__":=by decide)(hdb:(x==("__debug__":Str))=false:=by decide)
  (he:starEach (e::es) X.env=(false,eval e X.env)::starEach es X.env:=by rfl)(hpl:(backTo pos (starEach es X.env)).any (·.1)=false:=by rfl):PE X (.Call (.Name x p) (e::es) [] pos) (tCB r t):=by
 intro pins s σ H Q I h
 refine wpAny_Call_Name_kw (zeU I hg hm hv ?_ hn hdb)
 exact PyProof.Rows.callWith_builtin1 (thn (ha pos pins s σ H _ I h) λus s1 ⟨vs,H1,I1,r1,q1⟩=>hc pins s1 σ H1 vs us Q I1 r1 q1) he hpl
theorem zyo (hc:zbc X (.type T) r)(hg:Gl X x)(hm:X.mg x=none)(hv:bootBuiltins x=some (.type T))(ha:PA X (e::es) t)(hn:x≠"__name__":=by decide)(hdb:(x==("__debug__":Str))=false:=by decide)
  (he:starEach (e::es) X.env=(false,eval e X.env)::starEach es X.env:=by rfl)(hpl:(backTo pos (starEach es X.env)).any (·.1)=false:=by rfl):PE X (.Call (.Name x p) (e::es) [] pos) (tCB r t):=by
 intro pins s σ H Q I h
 refine wpAny_Call_Name_kw (zeU I hg hm hv ?_ hn hdb)
 exact PyProof.Rows.callWith_type1 (thn (ha pos pins s σ H _ I h) λus s1 ⟨vs,H1,I1,r1,q1⟩=>hc pins s1 σ H1 vs us Q I1 r1 q1) he hpl
end
end L2
namespace HT
open PySem PyProof.Rows
section
open PySem.SeqAt
open PySem.AutoSeq1 (wpAny_loadPart')
open PySem.MeetsSeq PySem.MeetsSeq2 PySem.MeetsSeq3
end
section
variable {prog:Program}{w:World}{A:Around}{E:Value→Shared→Prop}{s:Shared}
def sIx (n d:Nat):Option Int→Nat
 | none=>d
 | some v=>if v<0 then (v+(n:Int)).toNat else min v.toNat n
theorem sIx_none (n d:Nat):sIx n d none=d:=rfl
theorem sIx_nat (n d k:Nat):sIx n d (some (k:Int))=min k n:=by
 show (if (k:Int)<0 then ((k:Int)+(n:Int)).toNat else min (k:Int).toNat n)=min k n
 rw[if_neg (by omega),Vam]
end
end HT
namespace L2
open PySem PySem.Spec PyProof.Rows
abbrev TO:=St→Hp→(Option Int→Hp→Prop)→Prop
def PO (X:Cx)(e:Option Expr)(t:TO):Prop:=
 ∀(pins:List (Addr×Obj)) (s:Shared) (σ:St) (H:Hp) (Q:Option Int→Hp→Prop),Inv X pins σ H s→t σ H Q→
  wpAny (model X.prog X.w) X.A (evalPart e X.env) (λu s'=>∃o H',Inv X pins σ H' s'∧IsPart u o∧Q o H') X.xe s
def zur:TO:=λ_ H Q=>Q none H
def tPart (t:TE):TO:=λσ H Q=>t σ H λx H1=>∃i,x=.int i∧Q (some i) H1
section
variable {X:Cx}{e:Expr}{te:TE}{lo hi:Option Expr}{tl th:TO}{pos p2:Pos}
theorem zx4:PO X none zur:=by
 intro pins s σ H Q I h
 rw[evalPart_none]
 exact wpAny_pure ⟨none,H,I,.none,h⟩
theorem zxI (h:PE X e te):PO X (some e) (tPart te):=by
 intro pins s σ H Q I hw
 rw[evalPart_some]
 refine thn (h pins s σ H _ I hw) λu s1 ⟨x,H1,I1,r1,q1⟩=>?_
 obtain⟨i,rfl,q⟩:=q1
 obtain⟨t,rfl⟩:=r1
 exact⟨some i,H1,I1,.int i t,q⟩
def SlR (X:Cx)(r:V→Option Int→Option Int→Hp→VK→Prop):Prop:=
 ∀(pins:List (Addr×Obj)) (s:Shared) (σ:St) (H:Hp) (x:V) (v vl vu:Value) (lo hi:Option Int) (sl:Addr) (Q:VK),Inv X pins σ H s→zav x v→s.heap.IsSliceOf sl vl vu .none→IsPart vl lo→IsPart vu hi→r x lo hi H Q→
  ∃T id,typeLookup (.type T) "__getitem__"=pure (some (.builtin id))∧s.TypeIs v T∧wpAny (model X.prog X.w) X.A (getItem v (.ref sl)) (EP X pins σ Q) X.xe s
theorem SlR.or {r r':V→Option Int→Option Int→Hp→VK→Prop}(h:SlR X r)(h':SlR X r'):SlR X (λx lo hi H Q=>r x lo hi H Q∨r' x lo hi H Q):=by
 intro pins s σ H x v vl vu lo hi sl Q I rx hs pl pu q
 rcases q with q | q
 ·exact h pins s σ H x v vl vu lo hi sl Q I rx hs pl pu q
 ·exact h' pins s σ H x v vl vu lo hi sl Q I rx hs pl pu q
def tSl (r:V→Option Int→Option Int→Hp→VK→Prop)(te:TE)(tl th:TO):TE:=λσ H Q=>te σ H λx H1=>tl σ H1 λl H2=>th σ H2 λu H3=>r x l u H3 Q
theorem zwm {r:V→Option Int→Option Int→Hp→VK→Prop}(hr:SlR X r)(he:PE X e te)(hl:PO X lo tl)(hu:PO X hi th):PE X (.Subscript e (.Slice lo hi none p2) pos) (tSl r te tl th):=by
 intro pins s σ H Q I h
 refine Subscript_ (thn (he pins s σ H _ I h) λv s1 ⟨x,H1,I1,r1,q1⟩=>?_)
 refine wpAny_Slice (thn (hl pins s1 σ H1 _ I1 q1) λvl s2 ⟨l,H2,I2,pl,q2⟩=>thn (hu pins s2 σ H2 _ I2 q2) λvu s3 ⟨u,H3,I3,pu,q3⟩=>?_)
 rw[evalPart_none]
 refine wpAny_pure ?_
 have I4:Inv X pins σ H3 { s3 with heap:=s3.heap.push { cls:=.type "slice",data:=.fields #[vl,vu,.none] } }:=I3.kept (t':=s3.toks) λb ob q=>Heap.get?_push_of_some _ q
 obtain⟨T,id,hT,ht,hg⟩:=hr pins { s3 with heap:=s3.heap.push { cls:=.type "slice",data:=.fields #[vl,vu,.none] } } σ H3 x v vl vu l u s3.heap.objs.size Q I4 r1 (Heap.IsSliceOf.new ..) pl pu q3
 show wpAny (model X.prog X.w) X.A (subscriptTail e (.Slice lo hi none p2) v (.ref s3.heap.objs.size)) (EP X pins σ Q) X.xe { s3 with heap:=s3.heap.push { cls:=.type "slice",data:=.fields #[vl,vu,.none] } }
 exact tail_any (ops:=[.ref s3.heap.objs.size,v]) ht hT hg (by with_unfolding_all rfl)
def zfU (xs:List V)(lo hi:Option Int):List V:=(xs.drop (HT.sIx xs.length 0 lo)).take (HT.sIx xs.length xs.length hi-HT.sIx xs.length 0 lo)
theorem zxt (xs:List V)(lo hi:Option Int):(zfU xs lo hi).length≤xs.length:=by
 unfold zfU
 rw[Vaq,List.length_drop]
 omega
end
end L2
namespace L2
open PySem PySem.Spec PyProof.Rows
def ixN (n:Nat)(i:Int):Option Nat:=if 0≤i then (if i<n then some i.toNat else none) else if -(n:Int)≤i then some (i+n).toNat else none
def atI {α:Type}(xs:List α)(i:Int):Option α:=(ixN xs.length i).bind λj=>xs[j]?
theorem zuk {n:Nat}{i:Int}{j:Nat}(h:ixN n i=some j):seqIndex? i n=some j∧j<n∧-(n:Int)≤i∧i<n:=by
 unfold ixN at h
 by_cases h0:0≤i
 ·rw[if_pos h0] at h
  by_cases h1:i<n
  ·rw[if_pos h1] at h
   have e:i.toNat=j:=Option.some.inj h
   exact⟨by rw[seqIndex_of h0 h1,e],by omega,by omega,h1⟩
  ·rw[if_neg h1] at h; cases h
 ·rw[if_neg h0] at h
  by_cases h1:-(n:Int)≤i
  ·rw[if_pos h1] at h
   have e:(i+n).toNat=j:=Option.some.inj h
   exact⟨by rw[seqIndex_neg (by omega) h1,e],by omega,h1,by omega⟩
  ·rw[if_neg h1] at h; cases h
theorem zpA {α:Type}{xs:List α}{i:Int}{v:α}(h:atI xs i=some v):∃j,seqIndex? i xs.length=some j∧xs[j]?=some v∧j<xs.length∧-(xs.length:Int)≤i∧i<xs.length:=by
 unfold atI at h
 cases e:ixN xs.length i with
 | none=>rw[e] at h; cases h
 | some j=>
  rw[e] at h
  obtain⟨h1,h2,h3,h4⟩:=zuk e
  exact⟨j,h1,h,h2,h3,h4⟩
theorem zix {α:Type}{xs:List α}{j:Nat}{v:α}(h:xs[j]?=some v):atI xs (j:Int)=some v:=by
 have hj:j<xs.length:=(Vad.mp h).1
 have e:ixN xs.length (j:Int)=some j:=by
  unfold ixN
  rw[if_pos (by omega),if_pos (by omega)]; simp
 unfold atI; rw[e]; exact h
def zm5 (b:Expr):Prop:=∀o i,subscripted b false o i=operate [o,i] (getItem o i)
def IxR (X:Cx)(r:R2):Prop:=
 ∀(value slice:Expr) (pins:List (Addr×Obj)) (s:Shared) (σ:St) (H:Hp) (x y:V) (v u:Value) (Q:VK),Inv X pins σ H s→zav x v→zav y u→r x y H Q→
  subscripted slice false v u=operate [v,u] (getItem v u)→wpAny (model X.prog X.w) X.A (subscriptTail value slice v u) (EP X pins σ Q) X.xe s
def MtR (X:Cx)(id:String)(r:V→List V→Hp→VK→Prop):Prop:=
 ∀(pins:List (Addr×Obj)) (s:Shared) (σ:St) (H:Hp) (x:V) (xs:List V) (v:Value) (us:List Value) (Q:VK),Inv X pins σ H s→zav x v→zau xs us→r x xs H Q→
  wpAny (model X.prog X.w) X.A (call (.builtin id) (v::us)) (EP X pins σ Q) X.xe s
section
variable {X:Cx}{a b:Expr}{ta tb:TE}{pos:Pos}
theorem IxR.or {r r':R2}(h:IxR X r)(h':IxR X r'):IxR X (λx y H Q=>r x y H Q∨r' x y H Q):=by
 intro value slice pins s σ H x y v u Q I rx ry q hs
 rcases q with q | q
 ·exact h value slice pins s σ H x y v u Q I rx ry q hs
 ·exact h' value slice pins s σ H x y v u Q I rx ry q hs
theorem MtR.or {id:String}{r r':V→List V→Hp→VK→Prop}(h:MtR X id r)(h':MtR X id r'):MtR X id (λx xs H Q=>r x xs H Q∨r' x xs H Q):=by
 intro pins s σ H x xs v us Q I rx rs q
 rcases q with q | q
 ·exact h pins s σ H x xs v us Q I rx rs q
 ·exact h' pins s σ H x xs v us Q I rx rs q
theorem pe_ix {r:R2}(hr:IxR X r)(ha:PE X a ta)(hb:PE X b tb)(hs:zm5 b):PE X (.Subscript a b pos) (tOp r ta tb):=by
 intro pins s σ H Q I h
 exact Subscript_ (binT ha hb I h λv u s2 x y H2 I2 rx ry q=>hr a b pins s2 σ H2 x y v u Q I2 rx ry q (hs _ _))
def rIxL (K:PySem.W.Frag):R2:=λx y H Q=>∃p xs i v,x=.ref p∧y=.int i∧SqL K H p xs∧atI xs i=some v∧Q v H
def rIxT (K:PySem.W.Frag):R2:=λx y H Q=>∃p xs i v,x=.ref p∧y=.int i∧SqT K H p xs∧atI xs i=some v∧Q v H
theorem zwk:IxR X (rIxL X.K):=by
 intro value slice pins s σ H x y v u Q I rx ry h hs
 obtain⟨p,xs,i,z,rfl,rfl,hq,he,q⟩:=h
 cases rx
 obtain⟨t,rfl⟩:=ry
 obtain⟨its,r,pl,hz⟩:=I.list hq
 obtain⟨j,h1,h2,h3,h4,h5⟩:=zpA he
 obtain⟨w,ew,rw'⟩:=r.get h2
 have hl:=r.length
 have hn:=zib
 have fin:EP X pins σ Q w s:=⟨z,H,I,rw',q⟩
 by_cases h0:0≤i
 ·have hj:i.toNat=j:=by
   rw[seqIndex_of h0 h5] at h1
   exact Option.some.inj h1
  exact item_listR pl.isList h0 (by omega) (by rw[hj]; simpa using ew) fin hs
 ·have hj:(i+(its.toArray.size:Int)).toNat=j:=by
   rw[seqIndex_neg (by omega) h4] at h1
   rw[Vap,← hl]
   exact Option.some.inj h1
  exact subscriptTail_builtinR (x:=w) pl.isList.typeIs slot_list_getitem.lookup
   (wpAny_getItem_list_neg (Q:=λr s'=>r=w∧EP X pins σ Q r s') pl.isList (by omega) (by rw[Vap] <;> omega) (by omega) (by rw[hj]; simpa using ew) ⟨rfl,fin⟩) hs
theorem zrV:IxR X (rIxT X.K):=by
 intro value slice pins s σ H x y v u Q I rx ry h hs
 obtain⟨p,xs,i,z,rfl,rfl,hq,he,q⟩:=h
 cases rx
 obtain⟨t,rfl⟩:=ry
 obtain⟨its,r,pl,hz⟩:=I.tuple hq
 obtain⟨j,h1,h2,h3,h4,h5⟩:=zpA he
 obtain⟨w,ew,rw'⟩:=r.get h2
 have hl:=r.length
 have hn:=zib
 have fin:EP X pins σ Q w s:=⟨z,H,I,rw',q⟩
 exact subscriptTail_builtinR (x:=w) pl.typeIs slot_tuple_getitem.lookup
  (getItem_tuple (j:=j) (Q:=λr s'=>r=w∧EP X pins σ Q r s') pl (by omega) (by omega) (by rw[Vap,← hl]; exact h1) (by simpa using ew) ⟨rfl,fin⟩) hs
theorem Inv.lst {pins:List (Addr×Obj)}{σ:St}{H:Hp}{s:Shared}{p:Addr}{xs:List V}(I:Inv X pins σ H s)(h:H p=some (.lst xs)):
  ∃(its:List Value) (n:Nat),zau xs its∧s.heap.get? p=some { cls:=.type "list",data:=.seq its.toArray n }∧xs.length≤sizeLine:=by
 obtain⟨z,its,n,r,e⟩:=I.hok p _ h
 exact⟨its,n,r,e,z⟩
theorem zya (lo hi:Option Int)(n:Nat):(sliceBounds lo hi none n).1=((HT.sIx n 0 lo:Nat):Int)∧(sliceBounds lo hi none n).2.1=((HT.sIx n n hi:Nat):Int)∧(sliceBounds lo hi none n).2.2=1:=by
 refine⟨?_,?_,rfl⟩
 ·cases lo with
  | none=>simp[sliceBounds,HT.sIx]
  | some i=>
   simp only[sliceBounds,HT.sIx,Option.getD_none,show (1:Int) > 0 by decide,if_true]
   by_cases h:i<0
   ·simp only[h,if_true] <;> omega
   ·simp only[h,if_false] <;> omega
 ·cases hi with
  | none=>simp[sliceBounds,HT.sIx]
  | some i=>
   simp only[sliceBounds,HT.sIx,Option.getD_none,show (1:Int) > 0 by decide,if_true]
   by_cases h:i<0
   ·simp only[h,if_true] <;> omega
   ·simp only[h,if_false] <;> omega
theorem ztD (its:List Value)(lo hi:Option Int):slicePick its.toArray lo hi none=((its.drop (HT.sIx its.length 0 lo)).take (HT.sIx its.length its.length hi-HT.sIx its.length 0 lo)).toArray:=by
 obtain⟨h1,h2,h3⟩:=zya lo hi its.toArray.size
 unfold slicePick
 rw[h1,h2,h3]
 simp only[sliceRange_one,pick_run,Vap] <;> rfl
def rSlL (K:PySem.W.Frag):V→Option Int→Option Int→Hp→VK→Prop:=λx lo hi H Q=>∃a xs,x=.ref a∧SqL K H a xs∧∀p,H p=none→Q (.ref p) (upd H p (.lst (zfU xs lo hi)))
theorem zsK:SlR X (rSlL X.K):=by
 intro pins s σ H x v vl vu lo hi sl Q I rx hs pl pu h
 obtain⟨a,xs,rfl,hx,q⟩:=h
 cases rx
 obtain⟨its,r,ht,hz⟩:=I.list hx
 have hlen:=r.length
 refine⟨"list",_,slot_list_getitem.lookup,ht.isList.typeIs,?_⟩
 refine wpAny_getItem_list_slice ht.isList hs pl pu .none (by simp) ?_ (by rw[Vap] <;> omega)
 rw[ztD,← hlen]
 refine⟨.ref s.heap.objs.size,_,I.laid (t':=s.toks) (o:=.lst (zfU xs lo hi)) (λb ob q=>Heap.get?_push_of_some _ q) (Vaa _) ?_,rfl,q _ (I.hok.fresh (Vaa _))⟩
 exact⟨VaD (zxt xs lo hi) hz,_,0,(r.drop (HT.sIx xs.length 0 lo)).take (HT.sIx xs.length xs.length hi-HT.sIx xs.length 0 lo),Heap.get?_push_size _ rfl⟩
def zkB:V→Bool
 | .non=>true
 | .bl _=>true
 | .int _=>true
 | .str _=>true
 | _=>false
def eqV:V→V→Bool
 | .non,.non=>true
 | .bl a,.bl b=>a==b
 | .bl a,.int b=>(if a then 1 else 0)==b
 | .int a,.bl b=>a==(if b then 1 else 0)
 | .int a,.int b=>a==b
 | .str a,.str b=>a==b
 | _,_=>false
theorem zvW {A:Around}{s:Shared}{y x:V}{u v:Value}(ry:zav y u)(rx:zav x v)(fy:zkB y=true)(fx:zkB x=true):SeqAt.EqAt A s u v (eqV y x):=by
 cases y with
 | non=>
  cases ry
  cases x with
  | non=>cases rx; exact SeqAt.EqAt.same _
  | bl b=>cases rx; exact SeqAt.EqAt.none_bool b
  | int b=>obtain⟨t,rfl⟩:=rx; exact SeqAt.EqAt.none_int b t
  | str b=>obtain⟨t,rfl⟩:=rx; exact SeqAt.EqAt.none_str b t
  | _=>exact absurd (show false=true from fx) Vao
 | bl a=>
  cases ry
  cases x with
  | non=>cases rx; exact SeqAt.EqAt.bool_none a
  | bl b=>cases rx; exact SeqAt.EqAt.bool_bool a b
  | int b=>obtain⟨t,rfl⟩:=rx; exact SeqAt.EqAt.bool_int a b t
  | str b=>obtain⟨t,rfl⟩:=rx; exact SeqAt.EqAt.bool_str a b t
  | _=>exact absurd (show false=true from fx) Vao
 | int a=>
  obtain⟨t',rfl⟩:=ry
  cases x with
  | non=>cases rx; exact SeqAt.EqAt.int_none a t'
  | bl b=>cases rx; exact SeqAt.EqAt.int_bool a t' b
  | int b=>obtain⟨t,rfl⟩:=rx; exact SeqAt.EqAt.int_int a t' b t
  | str b=>obtain⟨t,rfl⟩:=rx; exact SeqAt.EqAt.int_str a t' b t
  | _=>exact absurd (show false=true from fx) Vao
 | str a=>
  obtain⟨t',rfl⟩:=ry
  cases x with
  | non=>cases rx; exact SeqAt.EqAt.str_none a t'
  | bl b=>cases rx; exact SeqAt.EqAt.str_bool a t' b
  | int b=>obtain⟨t,rfl⟩:=rx; exact SeqAt.EqAt.str_int a t' b t
  | str b=>obtain⟨t,rfl⟩:=rx; exact SeqAt.EqAt.str_str a t' b t
  | _=>exact absurd (show false=true from fx) Vao
 | _=>exact absurd (show false=true from fy) Vao
theorem zwW:zbc X (.builtin "len") (λxs H Q=>∃p ys,xs=[.ref p]∧(SqL X.K H p ys∨SqT X.K H p ys)∧Q (.int ys.length) H):=by
 intro pins s σ H xs us Q I r h
 obtain⟨p,ys,rfl,hq,q⟩:=h
 obtain⟨u,rfl,rx⟩:=zdP r
 cases rx
 have hn:=zib
 rcases hq with hq | hq
 ·obtain⟨its,r',pl,hz⟩:=I.list hq
  have hlen:=r'.length
  exact Calls.call_len_list pl.isList (by simp only[Vap] <;> omega) ⟨.int ys.length,H,I.tok _,⟨s.toks+1,by rw[Vap,hlen]⟩,q⟩
 ·obtain⟨its,r',pl,hz⟩:=I.tuple hq
  have hlen:=r'.length
  exact len_tuple pl (by simp only[Vap] <;> omega) ⟨.int ys.length,H,I.tok _,⟨s.toks+1,by rw[Vap,hlen]⟩,q⟩
theorem zbc.or {f:Value}{r r':List V→Hp→VK→Prop}(h:zbc X f r)(h':zbc X f r'):zbc X f (λxs H Q=>r xs H Q∨r' xs H Q):=by
 intro pins s σ H xs us Q I rs q
 rcases q with q | q
 ·exact h pins s σ H xs us Q I rs q
 ·exact h' pins s σ H xs us Q I rs q
theorem zvy:zbc X (.type "list") (λxs H Q=>∃p ys,xs=[.ref p]∧(SqL X.K H p ys∨SqT X.K H p ys)∧∀l,H l=none→Q (.ref l) (upd H l (.lst ys))):=by
 intro pins s σ H xs us Q I r h
 obtain⟨p,ys,rfl,hq,q⟩:=h
 obtain⟨u,rfl,rx⟩:=zdP r
 cases rx
 have fin:∀(its:List Value),zau ys its→ys.length≤sizeLine→∀(h':Heap) (c':Nat),(∀b o',s.heap.get? b=some o'→h'.get? b=some o')→
   h'.get? s.heap.objs.size=some { cls:=.type "list",dict:=none,data:=.seq its.toArray c',slots:=#[] }→EP X pins σ Q (.ref s.heap.objs.size) { s with heap:=h' }:=λits r' hz h' c' kp e=>
  ⟨.ref s.heap.objs.size,_,I.laid (t':=s.toks) kp (Vaa _) (show zby X.prog X.w _ h' _ (.lst ys) from ⟨hz,its,c',r',e⟩),rfl,q _ (I.hok.fresh (Vaa _))⟩
 rcases hq with hq | hq
 ·obtain⟨its,r',pl,hz⟩:=I.list hq
  have hlen:=r'.length
  obtain⟨o,ho,hc,n,hd⟩:=pl.isList
  exact call_list_seq p (.inl rfl) ho hc hd (λh' c' kp e=>fin its r' hz h' c' kp e) (by simp only[Vap] <;> omega)
 ·obtain⟨its,r',pl,hz⟩:=I.tuple hq
  have hlen:=r'.length
  obtain⟨o,ho,hc,n,hd⟩:=pl
  exact call_list_seq p (.inr rfl) ho hc hd (λh' c' kp e=>fin its r' hz h' c' kp e) (by simp only[Vap] <;> omega)
def tyV (K:PySem.W.Frag)(T:String)(x:V)(H:Hp):Prop:=match x with
 | .str _=>T="str"
 | .int _=>T="int"
 | .ref p=>(T="list"∧∃xs,SqL K H p xs)∨(T="tuple"∧∃o,K.lookup p=some o∧o.cls=.type "tuple"∧o.dict=none)∨
   (T="dict"∧((∃kvs,H p=some (.dK kvs))∨∃kvs,H p=some (.dT kvs)))∨(T="set"∧∃S n,H p=some (.set S n))
 | _=>False
theorem zrZ {pins:List (Addr×Obj)}{σ:St}{H:Hp}{s:Shared}{T:String}{x:V}{v:Value}(I:Inv X pins σ H s)(r:zav x v)(ty:tyV X.K T x H):
  s.TypeIs v T∧∀a,v=.ref a→∃ob,s.heap.get? a=some ob∧ob.dict=none:=by
 cases x with
 | str z=>
  obtain⟨t,rfl⟩:=r
  cases (show T="str" from ty)
  exact⟨typeIs_str s z t,λ_ e=>nomatch e⟩
 | int i=>
  obtain⟨t,rfl⟩:=r
  cases (show T="int" from ty)
  exact⟨typeIs_int s i t,λ_ e=>nomatch e⟩
 | ref p=>
  cases r
  rcases ty with ⟨rfl,xs,hq⟩ | ⟨rfl,o,hk,hc,hd⟩ | ⟨rfl,hk⟩ | ⟨rfl,S,n,hk⟩
  ·obtain⟨its,_,pl,_⟩:=I.list hq
   refine⟨pl.isList.typeIs,λa e=>?_⟩
   cases e
   obtain⟨o,n,e,c,hd,_⟩:=pl
   exact⟨o,e,hd⟩
  ·refine⟨⟨o,I.kIn p o hk,hc⟩,λa e=>?_⟩
   cases e
   exact⟨o,I.kIn _ o hk,hd⟩
  ·have z:∃o,s.heap.get? p=some o∧o.ExactDict:=by
    rcases hk with ⟨kvs,hk⟩ | ⟨kvs,hk⟩
    ·obtain⟨_,_,_,_,o,_,_,e,ex,_⟩:=I.hok p _ hk
     exact⟨o,e,ex⟩
    ·obtain⟨_,_,_,_,o,_,_,e,ex,_⟩:=I.hok p _ hk
     exact⟨o,e,ex⟩
   obtain⟨o,e,ex⟩:=z
   refine⟨⟨o,e,ex.1⟩,λa e2=>?_⟩
   cases e2
   exact⟨o,e,ex.2.1⟩
  ·obtain⟨o,_,_,_,e,ex,_⟩:=I.hok p _ hk
   refine⟨⟨o,e,ex.1⟩,λa e2=>?_⟩
   cases e2
   exact⟨o,e,ex.2.1⟩
 | _=>exact False.elim ty
def tBM (K:PySem.W.Frag)(T:String)(r:V→List V→Hp→VK→Prop)(to:TE)(t:TA):TE:=λσ H Q=>to σ H λx H1=>tyV K T x H1∧t σ H1 λxs H2=>r x xs H2 Q
variable {o e:Expr}{es:List Expr}{to:TE}{t:TA}{name:Str}{apos cpos:Pos}{T id:String}{r:V→List V→Hp→VK→Prop}
theorem zpo (pa:PlainAttrs T)(slot:Slot T name id)(hty:typeOf (.builtin id)=pure (.type "method_descriptor"))(hm:MtR X id r)(ho:PE X o to)(ha:PA X (e::es) t)
  (hbase:attributeBase o name X.env (eval o X.env)=eval o X.env:=by rfl)
  (hfew:((backTo cpos (starEach (e::es) X.env)).all (λx=>!x.1)&&(backToKw cpos (keywordEach [] X.env)).all (λx=>x.1.isSome)
  &&decide ((e::es).length+([]:List Keyword).length+(if ([]:List Keyword).isEmpty then 0 else 1)<30))=true:=by rfl)
  (hline:(apos.endLine==cpos.line)=true:=by rfl)(hs:starEach (e::es) X.env=(false,eval e X.env)::starEach es X.env:=by rfl)(hplain:(backTo cpos (starEach es X.env)).any (·.1)=false:=by rfl):
  PE X (.Call (.Attribute o name apos) (e::es) [] cpos) (tBM X.K T r to t):=by
 intro pins s σ H Q I h
 refine wpAny_Call_method_late hbase hfew hline rfl (thn (ho pins s σ H _ I h) λv s1 ⟨x,H1,I1,r1,ty,q1⟩=>?_)
 obtain⟨h1,h2⟩:=zrZ I1 r1 ty
 refine⟨T,id,pa,slot,hty,h1,h2,?_⟩
 have hA:=ha cpos pins s1 σ H1 _ I1 q1
 rw[hs] at hA ⊢
 refine Calls.callWith_builtin (by show (false||(backTo cpos (starEach es X.env)).any (·.1))=false; rw[hplain] <;> rfl) (Calls.evalArgs_plain ?_)
 exact thn hA λus s2 ⟨vs,H2,I2,r2,q2⟩=>hm pins s2 σ H2 x vs v us Q I2 r1 r2 q2
end
end L2
namespace L2
open PySem PySem.Spec PyProof.Rows
def MtM (X:Cx)(id:String)(r:V→List V→Hp→VK→Prop):Prop:=
 ∀(pins:List (Addr×Obj)) (s:Shared) (σ:St) (H:Hp) (x:V) (xs:List V) (v:Value) (us:List Value) (Q:VK),Inv X pins σ H s→zav x v→zau xs us→r x xs H Q→
  wpAny (model X.prog X.w) X.A (call (.builtin id) (v::us)) (EP X pins σ Q) X.xe s
theorem zau.one:∀ {x:V} {us:List Value},zau [x] us→∃u,us=[u]∧zav x u
 | _,_,.cons r .nil=>⟨_,rfl,r⟩
theorem zau.two:∀ {x y:V} {us:List Value},zau [x,y] us→∃u v,us=[u,v]∧zav x u∧zav y v
 | _,_,_,.cons r (.cons q .nil)=>⟨_,_,rfl,r,q⟩
theorem zau.zero:∀ {us:List Value},zau [] us→us=[]
 | _,.nil=>rfl
theorem zau.reverse {xs:List V}{us:List Value}(h:zau xs us):zau xs.reverse us.reverse:=by
 induction h with
 | nil=>exact .nil
 | cons r t ih=>rw[List.reverse_cons,List.reverse_cons]; exact zau.append ih (.cons r .nil)
theorem zau.rep {xs:List V}{us:List Value}(h:zau xs us):∀k:Nat,zau (List.replicate k xs).flatten (List.replicate k us).flatten
 | 0=>.nil
 | k+1=>by
  rw[Vba,Vba,Vbf,Vbf]
  exact zau.append h (zau.rep h k)
theorem zri (its:List Value):∀(k:Nat) (acc:List Value),
  List.foldl (λx1 x2=>x1++x2) acc.toArray (List.replicate k its.toArray)=(acc++(List.replicate k its).flatten).toArray
 | 0,acc=>by simp
 | k+1,acc=>by
  have e:acc.toArray++its.toArray=(acc++its).toArray:=by simp
  have e2:(acc++its)++(List.replicate k its).flatten=acc++(List.replicate (k+1) its).flatten:=by
   rw[Vba,Vbf,List.append_assoc]
  rw[← e2,← zri its k (acc++its),← e,Vba,List.foldl_cons]
section
variable {X:Cx}{pins:List (Addr×Obj)}{σ:St}{H:Hp}{s:Shared}{l b:Addr}{xs ys zs:List V}
theorem Inv.lset {its its':List Value}{n:Nat}{f:Array Value→Array Value}{t':Nat}(I:Inv X pins σ H s)(hH:H l=some (.lst xs))
  (e:s.heap.get? l=some { cls:=.type "list",data:=.seq its.toArray n })(hf:f its.toArray=its'.toArray)(hv:zau ys its')(hz:ys.length≤sizeLine):
  Inv X pins σ (upd H l (.lst ys)) { s with heap:=s.heap.update l (Obj.mapSeq f),toks:=t' }:=by
 have q:=PySem.IsL.update e f
 rw[hf] at q
 refine I.write (x:=l) (e:=l) (by rw[hH]; exact trivial) (.inl rfl) (λb' u hb hu=>(Heap.get?_update_other s.heap (Obj.mapSeq f) (Ne.symm hb)).trans hu) ⟨_,q⟩ ?_
 exact⟨hz,its',_,hv,q⟩
theorem Inv.lnew {its:List Value}{t':Nat}(I:Inv X pins σ H s)(hv:zau ys its)(hz:ys.length≤sizeLine):
  Inv X pins σ (upd H s.heap.objs.size (.lst ys)) { s with heap:=s.heap.push { cls:=.type "list",data:=.seq its.toArray },toks:=t' }:=
 I.laid (λ_ _ q=>Heap.get?_push_of_some _ q) (Vaa _) ⟨hz,its,0,hv,Heap.get?_push_size _ rfl⟩
theorem Inv.fresh (I:Inv X pins σ H s):H s.heap.objs.size=none:=I.hok.fresh (Vaa _)
theorem Inv.lstM (I:Inv X pins σ H s)(hH:H l=some (.lst xs)):xs.length≤sizeLine∧∃(its:List Value) (n:Nat),zau xs its∧xs.length=its.length∧s.heap.get? l=some { cls:=.type "list",data:=.seq its.toArray n }:=by
 obtain⟨z,its,n,r,e⟩:=I.hok l _ hH
 exact⟨z,its,n,r,r.length,e⟩
theorem zr4 {n:Nat}(h:n≤sizeLine):Builtin.List.listTooLong n=false:=by
 unfold Builtin.List.listTooLong
 exact decide_eq_false (by omega)
end
section
variable {X:Cx}
def zxc:V→List V→Hp→VK→Prop:=λx vs H Q=>∃l xs y,x=.ref l∧vs=[y]∧H l=some (.lst xs)∧xs.length<sizeLine∧Q .non (upd H l (.lst (xs++[y])))
theorem zoG:MtM X "list.append" zxc:=by
 intro pins s σ H x vs v us Q I rx rv h
 obtain⟨l,xs,y,rfl,rfl,hH,hz,q⟩:=h
 cases rx
 obtain⟨u,rfl,ru⟩:=rv.one
 obtain⟨z,its,n,r,hl,e⟩:=I.lstM hH
 refine call_meets F.slot_list_append ⟨_,e,rfl⟩ F.entry_list_append (F.args_list_append_2 _ _) (PySem.list_append l its.toArray n u (by rw[Vap]; omega)) ⟨e,?_⟩
 refine⟨.non,_,I.lset (its':=its++[u]) hH e (by simp) (r.append (.cons ru .nil)) ?_,rfl,q⟩
 rw[Vav,List.length_singleton]
 omega
def rCat:R2:=λx y H Q=>∃l b xs zs,x=.ref l∧y=.ref b∧H l=some (.lst xs)∧H b=some (.lst zs)∧xs.length+zs.length≤sizeLine∧∀p,H p=none→Q (.ref p) (upd H p (.lst (xs++zs)))
theorem zsb:OpR X (binaryOp .Add) rCat:=by
 intro pins s σ H x y v u Q I rx ry h
 obtain⟨l,b,xs,zs,rfl,rfl,hH,hB,hz,q⟩:=h
 cases rx
 cases ry
 obtain⟨z,its,n,r,hl,e⟩:=I.lstM hH
 obtain⟨z2,its2,n2,r2,hl2,e2⟩:=I.lstM hB
 refine PySem.P.add_list e e2 ?_ (by rw[Vap,Vap]; omega)
 have ea:its.toArray++its2.toArray=(its++its2).toArray:=by simp
 rw[ea]
 exact⟨.ref _,_,I.lnew (t':=s.toks) (r.append r2) (by rw[Vav]; omega),rfl,q _ I.fresh⟩
def rRep:R2:=λx y H Q=>∃l k xs,x=.ref l∧y=.int k∧H l=some (.lst xs)∧-(2^63)≤k∧k<2^63∧xs.length*k.toNat≤sizeLine∧
 ∀p,H p=none→Q (.ref p) (upd H p (.lst (List.replicate k.toNat xs).flatten))
theorem zwe {α:Type}(xs:List α)(k:Nat):(List.replicate k xs).flatten.length=k*xs.length:=by
 induction k with
 | zero=>simp
 | succ k ih=>rw[Vba,Vbf,Vav,ih,Nat.succ_mul,Nat.add_comm]
theorem zxP:OpR X (binaryOp .Mult) rRep:=by
 intro pins s σ H x y v u Q I rx ry h
 obtain⟨l,k,xs,rfl,rfl,hH,h1,h2,hz,q⟩:=h
 cases rx
 obtain⟨t,rfl⟩:=ry
 obtain⟨z,its,n,r,hl,e⟩:=I.lstM hH
 have hlen:its.toArray.size*k.toNat≤sizeLine:=by rw[Vap,← hl]; exact hz
 have hcap:¬ its.toArray.size*k.toNat > (2^63-1)/8:=by
  have:(sizeLine:Nat)≤(2^63-1)/8:=by decide
  omega
 have hfit:¬ (!Builtin.List.listFitsIndex k)=true:=by
  rw[fitsIndex_both h1 h2]
  exact Vao
 have hlong:¬ Builtin.List.listTooLong (its.toArray.size*k.toNat)=true:=by
  rw[zr4 hlen]
  exact Vao
 have hnew:List.foldl (λx1 x2=>x1++x2) #[] (List.replicate (if its.toArray.isEmpty=true then 0 else k.toNat) its.toArray)=(List.replicate k.toNat its).flatten.toArray:=by
  have f0:∀m:Nat,List.foldl (λx1 x2=>x1++x2) #[] (List.replicate m its.toArray)=(List.replicate m its).flatten.toArray:=λm=>by
   have:=zri its m []
   rw[List.nil_append] at this
   exact this
  rw[f0]
  cases its with
  | nil=>simp
  | cons a r'=>rw[if_neg (by simp)]
 refine wpAny_binaryOp_repeat_ref (T:="list") (U:="int") (by decide) ⟨_,e,rfl⟩ (λs'=>typeIs_int s' k t) noFill_list_mul F.fills_int_mul F.slot_int_rmul repeat_list F.slot_int_index.lookup
  (call_meets F.slot_int_rmul (typeIs_int s k t) F.entry_int_rmul (F.args_int_rmul_2 _ _) (int___rmul___int_list k t l its.toArray n)
   ⟨e,rfl,⟨_,e,rfl⟩,call_meets F.slot_list_mul ⟨_,e,rfl⟩ F.entry_list_mul (F.args_list_mul_2 _ _) (AutoListH.list___mul___list_int_3 l its.toArray n k t hfit hcap hlong) ⟨e,?_⟩⟩)
 rw[hnew]
 exact⟨.ref _,_,I.lnew (t':=s.toks) (r.rep k.toNat) (by rw[zwe,Nat.mul_comm]; exact hz),rfl,q _ I.fresh⟩
end
section
variable {prog:Program}{w:World}{A:Around}{E:Value→Shared→Prop}{s:Shared}
set_option maxRecDepth 100000 in
end
section
variable {X:Cx}
end
end L2
namespace Att
open PySem PySem.W PySem.Calls PyProof.Rows
theorem zsF {P:Params}{h:Heap}:∀(ns:List Int) (vs:List Value),WellAll P h vs (ns.map WData.int)→IntsAre vs ns:=by
 intro ns
 induction ns with
 | nil=>
  intro vs w
  rw[List.map_nil] at w
  cases w
  exact .nil
 | cons n ns ih=>
  intro vs w
  rw[Vaz] at w
  cases w with
  | cons a b=>
   cases a
   exact .cons _ _ (ih _ b)
theorem zvr {l:OpenLaw}{n:Nat}(hn:l.most=some n){P:Params}{h:Heap}{args:List WData}{vals:List Value}
  (hpre:l.row.toRowW.claim.pre args=true)(hwl:WellAll P h vals args):
  ∃a vs ns,vals=[Value.ref a]∧args=[WData.list (ns.map WData.int)]∧h.get? a=some { cls:=.type "list",data:=.seq vs.toArray }∧IntsAre vs ns∧ns.length≤n:=by
 have hsh:WShape.hasAll [] args [.list .int]=true:=(pre_splitW hpre).1
 have hc:l.pre.holds [] { args:=args }=true:=(pre_splitW hpre).2
 obtain⟨d,r,rfl,h1,h2⟩:=hasAllW_cons hsh
 obtain rfl:=hasAllW_nil h2
 obtain⟨xs,rfl,h3⟩:=hasW_list h1
 obtain⟨ns,rfl⟩:=items_int h3
 have hlen:ns.length≤n:=by
  unfold OpenLaw.pre at hc
  have h4:(WTm.not (.lt (.lit (.int (n:Int))) (.len (.arg 0)))).holds [] { args:=[.list (ns.map .int)] }=true:=by
   have h4:=(holds_andW hc).1
   rw[hn] at h4
   exact h4
  have h5:=condW_of h4 (w_not (w_lt w_lit (w_len_list (w_arg rfl))))
  rw[Vab] at h5
  refine Nat.le_of_not_lt λq=>?_
  have q':(n:Int)<((ns.length:Nat):Int):=by omega
  first
   | (rw[decide_eq_true q'] at h5; exact absurd h5 (by decide))
   | (simp at h5; omega)
 cases hwl with
 | cons w1 w2=>
  cases w2
  cases w1 with
  | list ho hall=>exact⟨_,_,ns,rfl,rfl,ho,zsF ns _ hall,hlen⟩
theorem zss (l:OpenLaw)(args:List WData):l.row.toRowW.claim.post args (.bool true) args=true:=
 postW_of (r:=l.row.toRowW) (X:=(true==true))
  (show WShape.has [] (.bool true) .bool=true by first | rfl | decide | simp[WShape.has,WShape.arms,WShape.armsAll])
  (show (WTm.eq .res (.lit (.bool true))).value [] { args:=args,res:=some (.bool true),after:=args }=some (.bool (true==true)) from w_eq_bool (w_res rfl) w_lit) rfl
theorem attach_call {l:OpenLaw}{n:Nat}{q:Program}{loose:List Str}{XP:(Str→Option Value)→Heap→Prop}{YP:World→Heap→Prop}{d:DefRec}
  (hn:l.most=some n)(hdf:d.params.defaults=[])
  (call:∀(w:World) (s₀ s₁:Shared) (mg mb:Str→Option Value) (fa:Addr) (o:Obj) (pm cd doc:Value) (a:Addr) (vs:List Value) (ns:List Int),
   Ground q loose [] XP w s₀ mg mb s₁.heap→YP w s₁.heap→
   s₁.heap.get? fa=some o→o.data=.func (docDef d.name d.params d.body d.scope pm cd doc)→s₁.heap.CodeRec cd d.name→mg d.name=some (.ref fa)→
   s₁.heap.get? a=some { cls:=.type "list",data:=.seq vs.toArray }→IntsAre vs ns→ns.length≤n→s₁.gens=#[]→
   codeAny (model l.prog w) callerA (.call (.ref fa) ⟨[.ref a],[]⟩) (λr s'=>r=.ok (.ret (.bool true))∧OldK s₁.heap s'.heap∧s'.os=s₁.os∧AllBare s'.gens) s₁):
  WalkO q loose XP YP l.row.toRowW d [] (λf vs=>PySem.call f vs):=by
 intro w s₀ s₁ mg mb G Y fa o pm cd doc dV kV ho hd hcd hD hmg hg args vals as hpre hlay hrd hwl hlo
 obtain rfl:dV=.none:=Dflts.none hD hdf
 obtain rfl:kV=.none:=Dflts.noKw hD
 obtain⟨a,vs,ns,rfl,rfl,hobj,hints,hlen⟩:=zvr hn hpre hwl
 refine enter_call (codeAny_mono (call w s₀ s₁ mg mb fa o pm cd doc a vs ns G Y ho (fd_plain hd) hcd hmg hobj hints hlen hg) λr s' hq=>?_)
 obtain⟨rfl,h2,h3,h4⟩:=hq
 exact⟨.inl ⟨.bool true,.bool true,[],rfl,λ_=>rfl,.bool true,zss l _,λ_=>⟨List.Pairwise.nil,λ_ hm=>(nomatch hm)⟩⟩,h2,h3,h4⟩
section
variable {prog:Program}{w:World}{A:Around}{E:Value→Shared→Prop}{s:Shared}{K:Frag}
def ledger (h:Heap)(L d:Addr):List (Addr×Obj):=(List.range h.objs.size).filterMap λa=>if a=L∨a=d then none else (h.get? a).map λo=>(a,o)
end
end Att
namespace L2
open PySem PySem.Spec PyProof.Rows
theorem ziY:∀ {vs:List Value} {ns:List Int},IntsAre vs ns→zau (ns.map V.int) vs
 | _,_,.nil=>.nil
 | _,_,.cons n t h=>.cons ⟨t,rfl⟩ (ziY h)
def zhJ (H:Hp):Prop:=∀b,H b=none∨∃o xs,H b=some (.frz o (.lst xs))
theorem zsa {P:Program}{w:World}{K:PySem.W.Frag}{mg mb:Str→Option Value}{CX:CXT}{k:Nat}{fa a:Addr}{fd:FuncData}{x:Str}{sp:Sp}{s₁:Shared}{vs:List Value}{ns:List Int}
  (KX:K.In s₁.heap)(hns:s₁.heap.Ns mainGlobals mg)(hb:s₁.heap.Ns builtinsNs mb)(hbb:∀x:Str,x≠"__name__"→mb x=bootBuiltins x)(hlim:s₁.heap.NoLimit)(hg:s₁.gens=#[])
  (ha:s₁.heap.get? a=some { cls:=.type "list",data:=.seq vs.toArray })(hi:IntsAre vs ns)(hl:ns.length≤sizeLine)(hr:zaK k callerA)
  (F:∀base:Heap,K.In base→base.Ns mainGlobals mg→za6 P w K mg base CX k fa fd [x] sp)(hbind:∀(s:Shared) (u:Value),BindsTo s fd ⟨[u],[]⟩ [(x,u)])
  (hsp:∀H:Hp,zhJ H→SqL K H a (ns.map V.int)→sp [.ref a] H (λv _=>v=.bl true) λ_ _ _=>False)
  (hCX:∀H e s',CX [] H s₁ (λ_ _ _=>False) e s'→False):
  codeAny (model P w) callerA (.call (.ref fa) ⟨[.ref a],[]⟩) (λr s'=>r=.ok (.ret (.bool true))∧OldK s₁.heap s'.heap∧s'.os=s₁.os∧AllBare s'.gens) s₁:=by
 have rv:=ziY hi
 have lenV:=hi.length
 have core:∀H:Hp,zhJ H→SqL K H a (ns.map V.int)→HOk P w H s₁.heap→(∀b,H b≠none→b=a)→(H a≠none→K.lookup a=none)→
   codeAny (model P w) callerA (.call (.ref fa) ⟨[.ref a],[]⟩) (λr s'=>r=.ok (.ret (.bool true))∧OldK s₁.heap s'.heap∧s'.os=s₁.os∧AllBare s'.gens) s₁:=by
  intro H hO hS hok hA hK
  have base_of:∀ {b:Addr} {o:Obj},s₁.heap.get? b=some o→H b=none→(zdj s₁.heap H).get? b=some o:=λe n=>ztK e n
  have noA:∀ {b:Addr} {o:Obj} {es:Array DictEntry} {ep:Nat},s₁.heap.get? b=some o→o.data=.dict es ep→H b=none:=λ{b o es ep} e d=>by
   cases q:H b with
   | none=>rfl
   | some u=>
    have e':b=a:=hA b (by rw[q]; simp)
    subst e'
    rw[ha] at e; cases e
    have d':Data.seq vs.toArray _=Data.dict es ep:=d
    cases d'
  have nsK:∀ {b:Addr} {m:Str→Option Value},s₁.heap.Ns b m→(zdj s₁.heap H).Ns b m:=λ{b m} ⟨o,es,ep,e,d,r⟩=>⟨o,es,ep,base_of e (noA e d),d,r⟩
  have hKb:K.In (zdj s₁.heap H):=λb o e=>base_of (KX b o e) (by
   cases q:H b with
   | none=>rfl
   | some u=>
    have e':b=a:=hA b (by rw[q]; simp)
    subst e'
    rw[hK (by rw[q]; simp)] at e; cases e)
  have hM:Mod K mg (zdj s₁.heap H):=⟨hKb,nsK hns,⟨mb,nsK hb,hbb⟩,let ⟨mc,h1,h2⟩:=hlim; ⟨mc,nsK h1,h2⟩⟩
  have e0:zcx P w K mg (zdj s₁.heap H) callerA [] s₁ H:=⟨rfl,hM,λb o e=>zyg e,Nat.le_of_eq (zte _ _),trivial,λb hb=>absurd (show b∈([]:List Addr) from hb) (by simp),hok,.of_eq hg⟩
  refine codeAny_mono ((F _ hKb (nsK hns)).run callerA [] s₁ H ⟨[.ref a],[]⟩ [.ref a] [.ref a] _ _ hr e0 (hbind s₁ (.ref a)) (.cons rfl .nil) (hsp H hO hS)) λr s' h=>?_
  cases r with
  | error e=>exact(hCX H e s' h).elim
  | ok fl=>
   cases fl with
   | next=>exact False.elim h
   | brk=>exact False.elim h
   | cont=>exact False.elim h
   | ret u=>
    obtain⟨v,H',os,bare,un,hok',r',q⟩:=h
    have q':v=.bl true:=q
    subst q'
    obtain rfl:u=Value.bool true:=r'
    refine⟨rfl,OldK.of_keep λb o e=>?_,os,bare⟩
    cases q:H b with
    | none=>exact un.keep b o e q (by intro z; exact absurd (show b∈([]:List Addr) from z) (by simp)) (by simp)
    | some u=>
     rcases hO b with z | ⟨ob,xs,z⟩
     ·rw[q] at z; cases z
     ·have z2:=un.frzs b ob _ z
      obtain⟨e1,_⟩:=hok b _ z
      obtain⟨e2,_⟩:=hok' b _ z2
      rw[e] at e1; cases e1
      exact e2
 cases hk:K.lookup a with
 | some o=>
  have e:=KX a o hk
  rw[ha] at e
  cases e
  refine core (λ_=>none) (λ_=>.inl rfl) (.inr ⟨_,vs.toArray,_,hk,rfl,rfl,rfl,by rw[Vap,lenV]; exact hl,by simpa using rv⟩) (λb u z=>by have z':(none:Option HO)=some u:=z; cases z') (λb z=>absurd rfl z) λz=>absurd rfl z
 | none=>
  refine core (λb=>if b=a then some (.frz { cls:=.type "list",data:=.seq vs.toArray } (.lst (ns.map V.int))) else none) (λb=>?_) (.inl (.inr ⟨{ cls:=.type "list",data:=.seq vs.toArray },if_pos rfl⟩)) (λb u z=>?_) (λb z=>?_) λ_=>hk
  ·by_cases hb:b=a
   ·exact .inr ⟨_,_,if_pos hb⟩
   ·exact .inl (if_neg hb)
  ·by_cases hb:b=a
   ·have z':=(if_pos hb).symm.trans z
    cases z'
    subst hb
    exact⟨ha,by rw[Vab]; exact hl,vs,_,rv,ha⟩
   ·have z':=(if_neg hb).symm.trans z
    cases z'
  ·by_cases hb:b=a
   ·exact hb
   ·exact absurd (if_neg hb) z
end L2
namespace L2
open PySem PySem.Spec PyProof.Rows
theorem zx6 {l:PySem.W.OpenLaw}{n k:Nat}{q:Program}{loose:List Str}{XP:(Str→Option Value)→Heap→Prop}{YP:World→Heap→Prop}{d:DefRec}{K:Params→PySem.W.Frag}{CX:World→CXT}{sp:World→Sp}{x:Str}
  (hn:l.most=some n)(hn2:n≤sizeLine)(hdf:d.params.defaults=[])(hr:zaK k callerA)
  (hY:∀(w:World) (h:Heap),YP w h→(K w.params).In h)
  (F:∀(w:World) (mg:Str→Option Value) (fa:Addr) (h:Heap),(K w.params).In h→h.Ns mainGlobals mg→mg d.name=some (.ref fa)→
   ∃fd:FuncData,(∀(s:Shared) (u:Value),BindsTo s fd ⟨[u],[]⟩ [(x,u)])∧
    ∀base:Heap,(K w.params).In base→base.Ns mainGlobals mg→za6 l.prog w (K w.params) mg base (CX w) k fa fd [x] (sp w))
  (hsp:∀(w:World) (H:Hp) (a:Addr) (ns:List Int),ns.length≤n→zhJ H→SqL (K w.params) H a (ns.map V.int)→sp w [.ref a] H (λv _=>v=.bl true) λ_ _ _=>False)
  (hCX:∀(w:World) (H:Hp) (s:Shared) (e:Value) (s':Shared),CX w [] H s (λ_ _ _=>False) e s'→False):
  PySem.W.WalkO q loose XP YP l.row.toRowW d [] (λf vs=>PySem.call f vs):=by
 refine Att.attach_call hn hdf λw s₀ s₁ mg mb fa o pm cd doc a vs ns G Y ho hd hcd hmg hobj hints hlen hg=>?_
 have KX:=hY w _ Y
 obtain⟨fd,hb,hF⟩:=F w mg fa _ KX G.T.g hmg
 exact zsa KX G.T.g G.T.b G.T.builtins G.T.nolimit hg hobj hints (VaD hlen hn2) hr hF hb (λH hO hS=>hsp w H a ns hlen hO hS) λH e s'=>hCX w H s₁ e s'
end L2
namespace L2
open PySem PySem.Spec PyProof.Rows
abbrev CX0:CXT:=λ_ _ _ _ _ _=>False
structure Fun (K:PySem.W.Frag)(x qual:Str)(st:Stmt)(f:Addr)(fd:FuncData):Prop where
 ex:∃(oc:Value) (od:Option Addr) (kV doc pm:Value) (an:Option Addr) (cdv ct:Value) (osl:Array (Option Value)),
  fd=PySem.W.fnOf x qual (zeb st) (zdf st) (zam st) .none kV doc pm an cdv ct∧K.lookup f=some ⟨oc,od,.func fd,osl⟩∧PySem.W.codeIn K cdv qual=true
 kp:PySem.W.keepIn K (.ref f)=true
section
variable {P:Program}{w:World}{K:PySem.W.Frag}{mg:Str→Option Value}{base:Heap}
theorem Fun.ok {x qual:Str}{st:Stmt}{f:Addr}{fd:FuncData}{N ps:List Str}{k:Nat}{sp:Sp}(F:Fun K x qual st f fd)(S:zay N ps (zam st))(len:∀vs H Q E,sp vs H Q E→vs.length=ps.length)
  (hbody:∀(cdv:Value) (A:Around) (outer:List Env) (s:Shared) (H:Hp) (vs:List V) (Q:VK) (E:XK),zaK k (A.deeper (envOfC qual (zam st) s.heap.objs.size f cdv))→sp vs H Q E→
   ∃t,PSs (zee CX0 P w K mg base N qual (zam st) f cdv A outer s H E).nox (zdf st) t∧t { nx:=λ_ H'=>Q .non H',rt:=Q } (zcz N vs) H):za6 P w K mg base CX0 (k+1) f fd ps sp:=by
 obtain⟨oc,od,kV,doc,pm,an,cdv,ct,osl,rfl,lk,hcd⟩:=F.ex
 refine zp4 lk hcd S len λA outer s H vs Q E hr hsp=>?_
 obtain⟨t,h,q⟩:=hbody cdv A outer s H vs Q E hr hsp
 exact⟨t,h.nox,q⟩
theorem Fun.binds {x qual:Str}{st:Stmt}{f:Addr}{fd:FuncData}{ps:List Str}(F:Fun K x qual st f fd)
  (h:∀(kV doc pm:Value) (an:Option Addr) (cdv ct:Value) (us:List Value),us.length=ps.length→bindArgs (PySem.W.fnOf x qual (zeb st) (zdf st) (zam st) .none kV doc pm an cdv ct) ⟨us,[]⟩=pure (ps.zip us)):zbP K fd ps []:=by
 obtain⟨oc,od,kV,doc,pm,an,cdv,ct,osl,rfl,lk,hcd⟩:=F.ex
 exact .all (h kV doc pm an cdv ct)
theorem zlp {x qual:Str}{st:Stmt}{f:Addr}{oc:Value}{od an:Option Addr}{osl:Array (Option Value)}{kV doc pm cdv ct:Value}(l:K.lookup f=some ⟨oc,od,.func (PySem.W.fnOf x qual (zeb st) (zdf st) (zam st) .none kV doc pm an cdv ct),osl⟩)
  (c:PySem.W.codeIn K cdv qual=true)(k:PySem.W.keepIn K (.ref f)=true):Fun K x qual st f (PySem.W.fnOf x qual (zeb st) (zdf st) (zam st) .none kV doc pm an cdv ct):=⟨⟨oc,od,kV,doc,pm,an,cdv,ct,osl,rfl,l,c⟩,k⟩
end
theorem zh8 {n:Nat}(h:n≤1000):n<sizeLine:=Nat.lt_of_le_of_lt h (by decide)
section
variable {X:Cx}
theorem pv (i:Nat){x:Str}{pos:Pos}(hN:X.N[i]?=some x:=by rfl)(hv:Vis X.env.scope x:=by first | exact Or.inl rfl | exact Or.inr (Or.inl rfl) | exact Or.inr (Or.inr rfl))(hd:(x==("__debug__":Str))=false:=by decide)
  (hcd:(x==("__classdict__":Str))=false:=by decide):PE X (.Name x pos) (tVar i):=zq4 hN hv hd hcd
end
theorem zbn {A B:Prop}(h:B):if false=true then A else B:=by
 rw[if_neg Vao]
 exact h
theorem zbD {A B:Prop}(h:A):if true=true then A else B:=by
 rw[if_pos rfl]
 exact h
theorem zdL {c A B:Prop} [Decidable c] (h1:c→A)(h2:¬ c→B):if c then A else B:=by
 by_cases h:c
 ·rw[if_pos h]
  exact h1 h
 ·rw[if_neg h]
  exact h2 h
def zcV (H H':Hp):Prop:=∀b o,H b=some o→H' b=some o
theorem zcV.refl (H:Hp):zcV H H:=λ_ _ h=>h
theorem zcV.trans {H H1 H2:Hp}(a:zcV H H1)(b:zcV H1 H2):zcV H H2:=λc o h=>b c o (a c o h)
theorem zcV.free {H H':Hp}(e:zcV H H'){l:Addr}(h:H' l=Option.none):H l=Option.none:=by
 cases q:H l with
 | none=>rfl
 | some o=>
  rw[e l o q] at h
  cases h
theorem zcV.seq {K:PySem.W.Frag}{H H':Hp}{a:Addr}{xs:List V}(e:zcV H H')(h:SqL K H a xs):SqL K H' a xs:=by
 rcases h with (h | ⟨o,h⟩) | h
 ·exact .inl (.inl (e _ _ h))
 ·exact .inl (.inr ⟨o,e _ _ h⟩)
 ·exact .inr h
end L2
namespace L2
open PySem PySem.Spec PyProof.Rows
section
variable {κ:Type} [DecidableEq κ]
def zcc (kvs:List (κ×V))(k:κ):Option V:=(kvs.find? λkv=>decide (kv.1=k)).map (·.2)
def putK (kvs:List (κ×V))(k:κ)(v:V):List (κ×V):=
 if (kvs.any λkv=>decide (kv.1=k))=true then kvs.map (λkv=>if kv.1=k then (kv.1,v) else kv) else kvs++[(k,v)]
def zq8 (kvs:List (κ×V))(k:κ):List (κ×V):=kvs.filter λkv=>decide (kv.1≠k)
theorem zjk {p:κ×V}{r:List (κ×V)}{k:κ}(e:p.1=k):zcc (p::r) k=some p.2:=by simp[zcc,Va4,e]
theorem zkp {p:κ×V}{r:List (κ×V)}{k:κ}(e:¬ p.1=k):zcc (p::r) k=zcc r k:=by simp[zcc,Va4,e]
theorem zpZ (k:κ):∀kvs:List (κ×V),(kvs.any λkv=>decide (kv.1=k))=(zcc kvs k).isSome
 | []=>rfl
 | p::r=>by
  rw[List.any_cons]
  by_cases e:p.1=k
  ·simp only[zjk e,decide_eq_true e,Bool.true_or,Option.isSome_some]
  ·rw[zkp e,decide_eq_false e,Bool.false_or]; exact zpZ k r
theorem zbS.isSome_eq {o:Option V}{u:Option Value}(r:zbS o u):o.isSome=u.isSome:=by
 cases o with
 | none=>cases u with
  | none=>rfl
  | some _=>exact(show False from r).elim
 | some _=>cases u with
  | none=>exact(show False from r).elim
  | some _=>rfl
theorem zbS.getD {o:Option V}{u:Option Value}{d:V}{d':Value}(r:zbS o u)(rd:zav d d'):zav (o.getD d) (u.getD d'):=by
 cases o with
 | none=>cases u with
  | none=>exact rd
  | some _=>exact(show False from r).elim
 | some _=>cases u with
  | none=>exact(show False from r).elim
  | some _=>exact r
theorem KV.val {kvs:List (κ×V)}{vs:List (κ×Value)}(r:KV kvs vs)(k:κ):zbS (zcc kvs k) (valueAt vs k):=by
 unfold KV at r
 induction r with
 | nil=>exact True.intro
 | @cons p q ps qs h t ih=>
  obtain⟨h1,h2⟩:=h
  by_cases e:p.1=k
  ·have e':q.1=k:=h1.symm.trans e
   have b:valueAt (q::qs) k=some q.2:=by simp[valueAt,Va4,e']
   rw[zjk e,b]; exact h2
  ·have e':¬ q.1=k:=λz=>e (h1.trans z)
   have b:valueAt (q::qs) k=valueAt qs k:=by simp[valueAt,Va4,e']
   rw[zkp e,b]; exact ih
theorem KV.any {kvs:List (κ×V)}{vs:List (κ×Value)}(r:KV kvs vs)(k:κ):(kvs.any λkv=>decide (kv.1=k))=vs.any λkv=>decide (kv.1=k):=by
 unfold KV at r
 induction r with
 | nil=>rfl
 | cons h t ih=>rw[List.any_cons,List.any_cons,ih,h.1]
theorem KV.repl {kvs:List (κ×V)}{vs:List (κ×Value)}(r:KV kvs vs)(k:κ){y:V}{u:Value}(ry:zav y u):
  KV (kvs.map λkv=>if kv.1=k then (kv.1,y) else kv) (vs.map λkv=>if kv.1=k then (kv.1,u) else kv):=by
 unfold KV at r ⊢
 induction r with
 | nil=>exact .nil
 | @cons p q ps qs h t ih=>
  rw[Vaz,Vaz]
  refine .cons ?_ ih
  obtain⟨h1,h2⟩:=h
  by_cases e:p.1=k
  ·rw[if_pos e,if_pos (h1.symm.trans e)]; exact⟨h1,ry⟩
  ·rw[if_neg e,if_neg (λz=>e (h1.trans z))]; exact⟨h1,h2⟩
theorem KV.put {kvs:List (κ×V)}{vs:List (κ×Value)}(r:KV kvs vs)(k:κ){y:V}{u:Value}(ry:zav y u):KV (putK kvs k y) (stored vs k u):=by
 unfold putK stored
 rw[r.any k]
 by_cases e:(vs.any λkv=>decide (kv.1=k))=true
 ·rw[if_pos e,if_pos e]; exact r.repl k ry
 ·rw[if_neg e,if_neg e]; exact Paired.snoc r ⟨rfl,ry⟩
theorem KV.drop {kvs:List (κ×V)}{vs:List (κ×Value)}(r:KV kvs vs)(k:κ):KV (zq8 kvs k) (without vs k):=by
 unfold KV at r ⊢
 unfold zq8 without
 induction r with
 | nil=>exact .nil
 | @cons p q ps qs h t ih=>
  obtain⟨h1,h2⟩:=h
  rw[List.filter_cons,List.filter_cons]
  by_cases e:p.1=k
  ·have a:¬ decide (p.1≠k)=true:=by simp[e]
   have b:¬ decide (q.1≠k)=true:=by simp[h1.symm.trans e]
   rw[if_neg a,if_neg b]; exact ih
  ·have e':¬ q.1=k:=λz=>e (h1.trans z)
   have a:decide (p.1≠k)=true:=by simp[e]
   have b:decide (q.1≠k)=true:=by simp[e']
   rw[if_pos a,if_pos b]; exact .cons ⟨h1,h2⟩ ih
theorem KV.keys {kvs:List (κ×V)}{vs:List (κ×Value)}(r:KV kvs vs):kvs.map (·.1)=vs.map (·.1):=by
 unfold KV at r
 induction r with
 | nil=>rfl
 | cons h t ih=>rw[Vaz,Vaz,ih,h.1]
theorem KV.length {kvs:List (κ×V)}{vs:List (κ×Value)}(r:KV kvs vs):kvs.length=vs.length:=Paired.length r
end
abbrev KT (H:Hp):List (List Key×V)→List (List Key×Addr×Value)→Prop:=Paired λp q=>p.1=q.1∧H q.2.1=some (.tup (p.1.map kV))∧zav p.2 q.2.2
theorem KT.val {H:Hp}{kvs:List (List Key×V)}{xs:List (List Key×Addr×Value)}(r:KT H kvs xs)(k:List Key):zbS (zcc kvs k) ((atKey xs k).map (·.2)):=by
 induction r with
 | nil=>exact True.intro
 | @cons p q ps qs h t ih=>
  obtain⟨h1,_,h2⟩:=h
  by_cases e:p.1=k
  ·have e':q.1=k:=h1.symm.trans e
   have b:atKey (q::qs) k=some q.2:=by simp[atKey,Va4,e']
   rw[zjk e,b]; exact h2
  ·have e':¬ q.1=k:=λz=>e (h1.trans z)
   have b:atKey (q::qs) k=atKey qs k:=by simp[atKey,Va4,e']
   rw[zkp e,b]; exact ih
theorem KT.repl {H:Hp}{kvs:List (List Key×V)}{xs:List (List Key×Addr×Value)}(r:KT H kvs xs)(k:List Key){y:V}{u:Value}(ry:zav y u):
  KT H (kvs.map λkv=>if kv.1=k then (kv.1,y) else kv) (xs.map (putAt k u)):=by
 induction r with
 | nil=>exact .nil
 | @cons p q ps qs h t ih=>
  rw[Vaz,Vaz]
  refine .cons ?_ ih
  obtain⟨h1,h2,h3⟩:=h
  unfold putAt
  by_cases e:p.1=k
  ·rw[if_pos e,if_pos (h1.symm.trans e)]; exact⟨h1,h2,ry⟩
  ·rw[if_neg e,if_neg (λz=>e (h1.trans z))]; exact⟨h1,h2,h3⟩
theorem KT.put {H:Hp}{kvs:List (List Key×V)}{xs:List (List Key×Addr×Value)}(r:KT H kvs xs)(k:List Key){b:Addr}{y:V}{u:Value}(hb:H b=some (.tup (k.map kV)))(ry:zav y u):
  KT H (putK kvs k y) (storedH xs k b u):=by
 have e:(kvs.any λkv=>decide (kv.1=k))=(atKey xs k).isSome:=by
  rw[zpZ,(r.val k).isSome_eq,Option.isSome_map]
 unfold putK storedH
 rw[e]
 by_cases q:(atKey xs k).isSome=true
 ·rw[if_pos q,if_pos q]; exact r.repl k ry
 ·rw[if_neg q,if_neg q]; exact Paired.snoc r ⟨rfl,hb,ry⟩
theorem KT.keeps {H H':Hp}{kvs:List (List Key×V)}{xs:List (List Key×Addr×Value)}(r:KT H kvs xs)(ht:∀b ys,H b=some (.tup ys)→H' b=some (.tup ys)):KT H' kvs xs:=
 Paired.mapP r λ_ _ z=>⟨z.1,ht _ _ z.2.1,z.2.2⟩
section
variable {P:Program}{w:World}{H:Hp}{h:Heap}{a:Addr}
end
def zko (H:Hp)(a:Addr)(y:V)(r:Option V):Prop:=
 (∃kvs k,Rd H a (.dK kvs)∧y=kV k∧r=zcc kvs k)∨∃kvs k b,Rd H a (.dT kvs)∧y=.ref b∧H b=some (.tup (k.map kV))∧r=zcc kvs k
def ziG (H:Hp)(a:Addr)(y v:V)(H':Hp):Prop:=
 (∃kvs k,H a=some (.dK kvs)∧y=kV k∧kvs.length<sizeLine∧H'=upd H a (.dK (putK kvs k v)))∨
 ∃kvs k b,H a=some (.dT kvs)∧y=.ref b∧H b=some (.tup (k.map kV))∧kvs.length<sizeLine∧H'=upd H a (.dT (putK kvs k v))
theorem zko.k {H:Hp}{a:Addr}{kvs:List (Key×V)}{k:Key}(e:H a=some (.dK kvs)):zko H a (kV k) (zcc kvs k):=.inl ⟨kvs,k,.inl e,rfl,rfl⟩
theorem zko.t {H:Hp}{a b:Addr}{kvs:List (List Key×V)}{k:List Key}(e:H a=some (.dT kvs))(eb:H b=some (.tup (k.map kV))):zko H a (.ref b) (zcc kvs k):=.inr ⟨kvs,k,b,.inl e,rfl,eb,rfl⟩
theorem ziG.k {H:Hp}{a:Addr}{kvs:List (Key×V)}{k:Key}{v:V}(e:H a=some (.dK kvs))(hl:kvs.length<sizeLine):ziG H a (kV k) v (upd H a (.dK (putK kvs k v))):=.inl ⟨kvs,k,e,rfl,hl,rfl⟩
theorem ziG.t {H:Hp}{a b:Addr}{kvs:List (List Key×V)}{k:List Key}{v:V}(e:H a=some (.dT kvs))(eb:H b=some (.tup (k.map kV)))(hl:kvs.length<sizeLine):
  ziG H a (.ref b) v (upd H a (.dT (putK kvs k v))):=.inr ⟨kvs,k,b,e,rfl,eb,hl,rfl⟩
section
variable {X:Cx}{pins:List (Addr×Obj)}{σ:St}{H:Hp}{s:Shared}{a:Addr}{y v:V}{u r:Value}{o:Option V}{A:Around}{E:Value→Shared→Prop}
theorem Inv.big (I:Inv X pins σ H s):sysModules<s.heap.objs.size:=by
 have h:mainGlobals<s.heap.objs.size:=(I.mod.glob.keeps I.bk).lt
 exact Nat.lt_trans (by decide) h
end
section
variable {X:Cx}{pins:List (Addr×Obj)}{σ:St}{H:Hp}{s:Shared}{a:Addr}{kvs:List (Key×V)}{k:Key}{u:Value}{A:Around}{E:Value→Shared→Prop}
end
section
variable {X:Cx}{o i e value:Expr}{pos pos' tpos:Pos}{td ty tv:TE}
end
section
variable {X:Cx}{pos:Pos}
end
structure M1 (X:Cx)(o:Expr)(m:Str)(apos:Pos)(e:Expr)(cpos:Pos):Prop where
 base:attributeBase o m X.env (eval o X.env)=eval o X.env
 few:((backTo cpos (starEach [e] X.env)).all (λx=>!x.1)&&(backToKw cpos (keywordEach [] X.env)).all (λx=>x.1.isSome)
 &&decide (([e]:List Expr).length+([]:List Keyword).length+(if ([]:List Keyword).isEmpty then 0 else 1)<30))=true
 line:(apos.endLine==cpos.line)=true
 trees:backTo cpos (starEach [e] X.env)=[(false,eval e X.env)]
structure M2 (X:Cx)(o:Expr)(m:Str)(apos:Pos)(e f:Expr)(cpos:Pos):Prop where
 base:attributeBase o m X.env (eval o X.env)=eval o X.env
 few:((backTo cpos (starEach [e,f] X.env)).all (λx=>!x.1)&&(backToKw cpos (keywordEach [] X.env)).all (λx=>x.1.isSome)
 &&decide (([e,f]:List Expr).length+([]:List Keyword).length+(if ([]:List Keyword).isEmpty then 0 else 1)<30))=true
 line:(apos.endLine==cpos.line)=true
 trees:backTo cpos (starEach [e,f] X.env)=[(false,eval e X.env),(false,eval f X.env)]
section
variable {X:Cx}{pins:List (Addr×Obj)}{σ:St}{H:Hp}{s:Shared}{a:Addr}{y d:V}{u r:Value}{o:Option V}{A:Around}{E:Value→Shared→Prop}
end
section
variable {X:Cx}{o e f:Expr}{apos cpos:Pos}{td ty tx:TE}
end
section
variable {X:Cx}{pins:List (Addr×Obj)}{σ:St}{H:Hp}{s:Shared}{a:Addr}{kvs:List (Key×V)}{A:Around}{E:Value→Shared→Prop}
end
section
variable {X:Cx}{pins:List (Addr×Obj)}{σ:St}{H:Hp}{s:Shared}{a:Addr}{y:V}{u:Value}{A:Around}{E:Value→Shared→Prop}
end
end L2
namespace L3
open PySem PySem.Spec PyProof.Rows L2
abbrev St:=L2.St
inductive D where
 | non | bl (b:Bool) | int (i:Int) | str (x:Str) | tup (xs:List D) | ref (n:Nat) | exc (c:Addr)
inductive Ob where
 | lst (xs:List D) | frz (xs:List D)
  | ins (C:Addr) (fs:List (Str×D))
  | dct (kvs:List (List Key×D))
abbrev Sto:=List Ob
abbrev Ev:=List (Option D)
abbrev DK:=D→Sto→Prop
abbrev TDE:=Ev→Sto→DK→Prop
abbrev TDT:=Ev→Sto→(Bool→Sto→Prop)→Prop
abbrev TDA:=Ev→Sto→(List D→Sto→Prop)→Prop
structure zdQ where
 nx:Ev→Sto→Prop
 rt:DK
 bk:Ev→Sto→Prop:=λ_ _=>False
 ct:Ev→Sto→Prop:=λ_ _=>False
abbrev TDS:=zdQ→Ev→Sto→Prop
def isX (a c:Addr):HO:=.ext λh=>∃o,h.get? a=some o∧o.cls=.ref c
inductive Rp (r:List Addr)(H:Hp):D→V→Prop
 | non:Rp r H .non .non
 | bl (b:Bool):Rp r H (.bl b) (.bl b)
 | int (i:Int):Rp r H (.int i) (.int i)
 | str (x:Str):Rp r H (.str x) (.str x)
 | tup {ds:List D} {xs:List V} {a:Addr}:H a=some (.tup xs)→ds.length=xs.length→(∀(i:Nat) (d:D) (v:V),ds[i]?=some d→xs[i]?=some v→Rp r H d v)→Rp r H (.tup ds) (.ref a)
 | ref {n:Nat} {a:Addr}:r[n]?=some a→Rp r H (.ref n) (.ref a)
 | exc {c a:Addr}:H a=some (isX a c)→Rp r H (.exc c) (.ref a)
def Rps (r:List Addr)(H:Hp)(ds:List D)(vs:List V):Prop:=ds.length=vs.length∧∀(i:Nat) (d:D) (v:V),ds[i]?=some d→vs[i]?=some v→Rp r H d v
structure Ext (r r':List Addr)(H H':Hp):Prop where
 adr:∀(n:Nat) (a:Addr),r[n]?=some a→r'[n]?=some a
 tup:∀a xs,H a=some (.tup xs)→H' a=some (.tup xs)
 xc:∀a c,H a=some (isX a c)→H' a=some (isX a c)
section
variable {r r' r2:List Addr}{H H' H2:Hp}{d:D}{v:V}{ds:List D}{vs:List V}
theorem Ext.refl:Ext r r H H:=⟨λ_ _ h=>h,λ_ _ h=>h,λ_ _ h=>h⟩
theorem Ext.trans (a:Ext r r' H H')(b:Ext r' r2 H' H2):Ext r r2 H H2:=⟨λn x h=>b.adr n x (a.adr n x h),λx y h=>b.tup x y (a.tup x y h),λx y h=>b.xc x y (a.xc x y h)⟩
theorem Rp.ext (h:Rp r H d v)(e:Ext r r' H H'):Rp r' H' d v:=by
 induction h with
 | non=>exact .non
 | bl b=>exact .bl b
 | int i=>exact .int i
 | str x=>exact .str x
 | tup h l _ ih=>exact .tup (e.tup _ _ h) l ih
 | ref h=>exact .ref (e.adr _ _ h)
 | exc h=>exact .exc (e.xc _ _ h)
theorem Rps.ext (h:Rps r H ds vs)(e:Ext r r' H H'):Rps r' H' ds vs:=⟨h.1,λi d v h1 h2=>(h.2 i d v h1 h2).ext e⟩
theorem Rps.nil:Rps r H [] []:=⟨rfl,λi d v h=>by simp at h⟩
theorem Rps.cons (h:Rp r H d v)(t:Rps r H ds vs):Rps r H (d::ds) (v::vs):=by
 refine⟨by simp[t.1],λi x y h1 h2=>?_⟩
 cases i with
 | zero=>
  simp at h1 h2
  subst h1; subst h2
  exact h
 | succ i=>exact t.2 i x y (by simpa using h1) (by simpa using h2)
theorem Rps.tail {y:V}(h:Rps r H (d::ds) (y::vs)):Rp r H d y∧Rps r H ds vs:=
 ⟨h.2 0 d y rfl rfl,by simpa using h.1,λi a b h1 h2=>h.2 (i+1) a b (by simpa using h1) (by simpa using h2)⟩
theorem Rps.uncons (h:Rps r H (d::ds) vs):∃v vs',vs=v::vs'∧Rp r H d v∧Rps r H ds vs':=by
 cases vs with
 | nil=>exact absurd h.1 (by simp)
 | cons v vs'=>exact⟨v,vs',rfl,h.tail⟩
theorem Rps.unnil (h:Rps r H [] vs):vs=[]:=by
 cases vs with
 | nil=>rfl
 | cons v vs'=>exact absurd h.1 (by simp)
theorem Rps.get {i:Nat}(h:Rps r H ds vs)(e:ds[i]?=some d):∃v,vs[i]?=some v∧Rp r H d v:=by
 have hi:i<ds.length:=(Vad.mp e).1
 have hv:i<vs.length:=by rw[← h.1]; exact hi
 exact⟨vs[i],by simp[hv],h.2 i d vs[i] e (by simp[hv])⟩
theorem Rps.get' {i:Nat}(h:Rps r H ds vs)(e:vs[i]?=some v):∃d,ds[i]?=some d∧Rp r H d v:=by
 have hv:i<vs.length:=(Vad.mp e).1
 have hi:i<ds.length:=by rw[h.1]; exact hv
 exact⟨ds[i],by simp[hi],h.2 i ds[i] v (by simp[hi]) e⟩
theorem Rps.snoc (h:Rps r H ds vs)(t:Rp r H d v):Rps r H (ds++[d]) (vs++[v]):=by
 refine⟨by simp[h.1],λi x y h1 h2=>?_⟩
 by_cases hi:i<ds.length
 ·rw[Val hi] at h1
  rw[Val (by rw[← h.1]; exact hi)] at h2
  exact h.2 i x y h1 h2
 ·have hl:i<(ds++[d]).length:=(Vad.mp h1).1
  have e:i=ds.length:=by simp at hl; omega
  subst e
  rw[VaG (Vaa _)] at h1
  rw[h.1,VaG (Vaa _)] at h2
  simp at h1 h2
  subst h1; subst h2
  exact t
theorem Rps.tupR {a:Addr}(h:Rps r H ds vs)(e:H a=some (.tup vs)):Rp r H (.tup ds) (.ref a):=.tup e h.1 h.2
theorem Rp.untup {vs:V}(h:Rp r H (.tup ds) vs):∃a xs,vs=.ref a∧H a=some (.tup xs)∧Rps r H ds xs:=by
 cases h with
 | tup e l f=>exact⟨_,_,rfl,e,l,f⟩
end
def SqF (K:PySem.W.Frag)(H:Hp)(a:Addr)(xs:List V):Prop:=
 (∃o,H a=some (.frz o (.lst xs)))∨
  ∃(o:Obj) (its:Array Value) (n:Nat),K.lookup a=some o∧o.cls=.type "list"∧o.dict=none∧o.data=.seq its n∧its.size≤sizeLine∧zau xs its.toList
theorem SqF.sql {K:PySem.W.Frag}{H:Hp}{a:Addr}{xs:List V}(h:SqF K H a xs):SqL K H a xs:=by
 rcases h with ⟨o,h⟩ | h
 ·exact .inl (.inr ⟨o,h⟩)
 ·exact .inr h
def FR {α:Type}(r:List Addr)(H:Hp)(fs:List (α×D))(fs':List (α×V)):Prop:=fs.map (·.1)=fs'.map (·.1)∧Rps r H (fs.map (·.2)) (fs'.map (·.2))
theorem FR.ext {α:Type}{r r':List Addr}{H H':Hp}{fs:List (α×D)}{fs':List (α×V)}(h:FR r H fs fs')(e:Ext r r' H H'):FR r' H' fs fs':=⟨h.1,h.2.ext e⟩
theorem FR.nil {α:Type}{r:List Addr}{H:Hp}:FR (α:=α) r H [] []:=⟨rfl,Rps.nil⟩
def ObR (K:PySem.W.Frag)(r:List Addr)(H:Hp)(a:Addr):Ob→Prop
 | .lst ds=>∃xs,H a=some (.lst xs)∧Rps r H ds xs
 | .frz ds=>∃xs,SqF K H a xs∧Rps r H ds xs
 | .ins C fs=>∃dx fs',H a=some (.ins C dx fs')∧FR r H fs fs'
 | .dct kvs=>∃kvs',H a=some (.dT kvs')∧FR r H kvs kvs'
def zdp:Ob→Bool
 | .frz _=>false
 | _=>true
structure zaU (K:PySem.W.Frag)(r:List Addr)(S:Sto)(H:Hp):Prop where
 len:r.length=S.length
 ob:∀(n:Nat) (a:Addr) (o:Ob),r[n]?=some a→S[n]?=some o→ObR K r H a o
 nd:∀(n m:Nat) (a:Addr) (o u:Ob),r[n]?=some a→r[m]?=some a→S[n]?=some o→S[m]?=some u→zdp o=true→zdp u=true→n=m
def zah:Ob→List D
 | .lst ds=>ds
 | .frz ds=>ds
 | _=>[.exc 0]
def zbT:Ob→Option Ob
 | .lst ds=>some (.lst ds)
 | .frz ds=>some (.frz ds)
 | _=>none
def lAt (S:Sto)(n:Nat):Option Ob:=(S[n]?).bind zbT
theorem zrv {o u:Ob}(h:zbT o=some u):u=o:=by
 cases o <;> simp[zbT] at h <;> exact h.symm
theorem zbk {S:Sto}{n:Nat}{o:Ob}(h:lAt S n=some o):S[n]?=some o∧zbT o=some o:=by
  unfold lAt at h
  cases q:S[n]? with
  | none=>
   rw[q] at h
   cases h
  | some u=>
    rw[q] at h
    have h':zbT u=some o:=h
    have e:=zrv h'
    subst e
    exact⟨rfl,h'⟩
theorem zaO {S:Sto}{n:Nat}{o:Ob}(h:S[n]?=some o)(hL:zbT o=some o):lAt S n=some o:=by
 unfold lAt
 rw[h]
 exact hL
section
variable {K:PySem.W.Frag}{r r':List Addr}{S:Sto}{H H':Hp}{n:Nat}{a p:Addr}
theorem zaU.at {o:Ob}(h:zaU K r S H)(e:S[n]?=some o):∃a,r[n]?=some a∧ObR K r H a o:=by
 have hn:n<S.length:=(Vad.mp e).1
 have hr:n<r.length:=by rw[h.len]; exact hn
 exact⟨r[n],by simp[hr],h.ob n r[n] o (by simp[hr]) e⟩
theorem ObR.list {o:Ob}(h:ObR K r H a o)(hL:zbT o=some o):∃xs,SqL K H a xs∧Rps r H (zah o) xs:=by
 cases o with
 | lst ds=>obtain⟨xs,e,q⟩:=h; exact⟨xs,SqL.of e,q⟩
 | frz ds=>obtain⟨xs,e,q⟩:=h; exact⟨xs,e.sql,q⟩
 | ins C fs=>cases hL
 | dct kvs=>cases hL
theorem ObR.keep {o:Ob}(q:ObR K r H a o)(x:Ext r r' H H')(ha:∀u,H a=some u→H' a=some u):ObR K r' H' a o:=by
 cases o with
 | lst ds=>obtain⟨xs,h3,h4⟩:=q; exact⟨xs,ha _ h3,h4.ext x⟩
 | frz ds=>
  obtain⟨xs,h3,h4⟩:=q
  refine⟨xs,?_,h4.ext x⟩
  rcases h3 with ⟨o,h3⟩ | h3
  ·exact .inl ⟨o,ha _ h3⟩
  ·exact .inr h3
 | ins C fs=>obtain⟨dx,fs',h3,h4⟩:=q; exact⟨dx,fs',ha _ h3,h4.ext x⟩
 | dct kvs=>obtain⟨ks,h3,h4⟩:=q; exact⟨ks,ha _ h3,h4.ext x⟩
theorem ObR.own {o:Ob}(q:ObR K r H a o)(h:zdp o=true):∃u,H a=some u∧(∀xs,u≠HO.tup xs)∧(∀b c,u≠isX b c)∧∀z y,u≠HO.frz z y:=by
 cases o with
 | lst ds=>obtain⟨xs,h3,h4⟩:=q; exact⟨_,h3,(λ_ z=>by cases z),(λ_ _ z=>by cases z),(λ_ _ z=>by cases z)⟩
 | frz ds=>cases h
 | ins C fs=>obtain⟨dx,fs',h3,h4⟩:=q; exact⟨_,h3,(λ_ z=>by cases z),(λ_ _ z=>by cases z),(λ_ _ z=>by cases z)⟩
 | dct kvs=>obtain⟨ks,h3,h4⟩:=q; exact⟨_,h3,(λ_ z=>by cases z),(λ_ _ z=>by cases z),(λ_ _ z=>by cases z)⟩
theorem zaU.same (h:zaU K r S H)(e:∀b o,H b=some o→H' b=some o):zaU K r S H':=
 ⟨h.len,λn a o h1 h2=>(h.ob n a o h1 h2).keep ⟨λ_ _ q=>q,λa xs q=>e _ _ q,λa c q=>e _ _ q⟩ (e a),h.nd⟩
theorem zcP {o:HO}(h:H p=none):∀b u,H b=some u→(upd H p o) b=some u:=λb u q=>by rw[za1 (zdN q h)]; exact q
theorem zmM {n:Nat}{b:Addr}(e:(r++[p])[n]?=some b):(n<r.length∧r[n]?=some b)∨(n=r.length∧b=p):=by
 by_cases hn:n<r.length
 ·rw[Val hn] at e; exact .inl ⟨hn,e⟩
 ·have hl:n<(r++[p]).length:=(Vad.mp e).1
  have en:n=r.length:=by simp at hl; omega
  subst en
  rw[VaG (Vaa _)] at e
  simp at e
  exact .inr ⟨rfl,e.symm⟩
theorem zaU.pushO {o:Ob}(h:zaU K r S H)(hp:H p=none)(keep:∀b u,H b=some u→H' b=some u)(q:Ext r (r++[p]) H H'→ObR K (r++[p]) H' p o):zaU K (r++[p]) (S++[o]) H'∧Ext r (r++[p]) H H':=by
 have x:Ext r (r++[p]) H H':=⟨λn a e=>by
  have hn:n<r.length:=(Vad.mp e).1
  rw[Val hn]; exact e,λa ys e=>keep _ _ e,λa c e=>keep _ _ e⟩
 have sS:∀ {n:Nat} {u:Ob},n<r.length→(S++[o])[n]?=some u→S[n]?=some u:=λ{n u} hn e=>by
  rw[Val (by rw[← h.len]; exact hn)] at e; exact e
 refine⟨⟨by simp[h.len],λn a u h1 h2=>?_,λn m a u w h1 h2 h3 h4 o1 o2=>?_⟩,x⟩
 ·rcases zmM h1 with ⟨hn,e⟩ | ⟨rfl,rfl⟩
  ·exact(h.ob n a u e (sS hn h2)).keep x (keep a)
  ·rw[h.len,VaG (Vaa _)] at h2
   simp at h2
   subst h2
   exact q x
 ·rcases zmM h1 with ⟨hn,e⟩ | ⟨rfl,rfl⟩
  ·rcases zmM h2 with ⟨hm,e'⟩ | ⟨rfl,rfl⟩
   ·exact h.nd n m a u w e e' (sS hn h3) (sS hm h4) o1 o2
   ·obtain⟨zs,h5,_⟩:=(h.ob n _ _ e (sS hn h3)).own o1
    rw[hp] at h5; cases h5
  ·rcases zmM h2 with ⟨hm,e'⟩ | ⟨rfl,_⟩
   ·obtain⟨zs,h5,_⟩:=(h.ob m _ _ e' (sS hm h4)).own o2
    rw[hp] at h5; cases h5
   ·rfl
theorem zaU.push {ds:List D}{xs:List V}(h:zaU K r S H)(hp:H p=none)(q:Rps r H ds xs):zaU K (r++[p]) (S++[.lst ds]) (upd H p (.lst xs))∧Ext r (r++[p]) H (upd H p (.lst xs)):=
 h.pushO hp (zcP hp) λx=>⟨xs,zcw,q.ext x⟩
theorem zaU.setO {o o':Ob}{u:HO}(h:zaU K r S H)(hn:r[n]?=some a)(hS:S[n]?=some o)(ho:zdp o=true)(ho':zdp o'=true)(q:Ext r r H (upd H a u)→ObR K r (upd H a u) a o'):zaU K r (S.set n o') (upd H a u)∧Ext r r H (upd H a u):=by
 obtain⟨u0,h0,t1,t2,t3⟩:=(h.ob n a _ hn hS).own ho
 have x:Ext r r H (upd H a u):=⟨λ_ _ e=>e,λb zs e=>by
  rw[za1 (zol e h0 (λz=>t1 zs z.symm))]; exact e,λb c e=>by
  rw[za1 (zol e h0 (λz=>t2 b c z.symm))]; exact e⟩
 have hlt:n<S.length:=(Vad.mp hS).1
 have off:∀ {m:Nat} {w:Ob},m≠n→(S.set n o')[m]?=some w→S[m]?=some w:=λ{m w} hm e=>by
  rw[VaM (Ne.symm hm)] at e; exact e
 refine⟨⟨by simp[h.len],λm b w h1 h2=>?_,λm k b w y h1 h2 h3 h4 o1 o2=>?_⟩,x⟩
 ·by_cases hm:m=n
  ·subst hm
   rw[hn] at h1; cases h1
   rw[Va8 hlt] at h2
   cases h2
   exact q x
  ·have h2':=off hm h2
   have q':=h.ob m b w h1 h2'
   by_cases hw:zdp w=true
   ·have hb:b≠a:=λz=>hm (by subst z; exact h.nd m n b w o h1 hn h2' hS hw ho)
    exact q'.keep x λz e=>by rw[za1 hb]; exact e
   ·cases w with
    | frz es=>
     obtain⟨zs,h3,h4⟩:=q'
     refine⟨zs,?_,h4.ext x⟩
     rcases h3 with ⟨z,h3⟩ | h3
     ·exact .inl ⟨z,by rw[za1 (zol h3 h0 (λy=>t3 _ _ y.symm))]; exact h3⟩
     ·exact .inr h3
    | _=>exact absurd rfl hw
 ·have back:∀ {j:Nat} {w:Ob},(S.set n o')[j]?=some w→zdp w=true→∃y,S[j]?=some y∧zdp y=true:=λ{j w} e ow=>by
   by_cases hj:j=n
   ·subst hj; exact⟨o,hS,ho⟩
   ·exact⟨w,off hj e,ow⟩
  obtain⟨us',h3',q3⟩:=back h3 o1
  obtain⟨ws',h4',q4⟩:=back h4 o2
  exact h.nd m k b us' ws' h1 h2 h3' h4' q3 q4
theorem zaU.set {ds ds':List D}{xs:List V}(h:zaU K r S H)(hn:r[n]?=some a)(hS:S[n]?=some (.lst ds))(q:Rps r H ds' xs):zaU K r (S.set n (.lst ds')) (upd H a (.lst xs))∧Ext r r H (upd H a (.lst xs)):=
 h.setO hn hS rfl rfl λx=>⟨xs,zcw,q.ext x⟩
end
def Rs (r:List Addr)(H:Hp)(dl:Ev)(σ:St):Prop:=dl.length=σ.length∧∀(i:Nat) (d:D),dl[i]?=some (some d)→∃v,σ[i]?=some (some v)∧Rp r H d v
theorem Rs.ext {r r':List Addr}{H H':Hp}{dl:Ev}{σ:St}(h:Rs r H dl σ)(e:Ext r r' H H'):Rs r' H' dl σ:=⟨h.1,λi d q=>by
 obtain⟨v,h1,h2⟩:=h.2 i d q
 exact⟨v,h1,h2.ext e⟩⟩
theorem Rs.set {r:List Addr}{H:Hp}{dl:Ev}{σ:St}{d:D}{v:V}(i:Nat)(h:Rs r H dl σ)(q:Rp r H d v):Rs r H (dl.set i (some d)) (σ.set i (some v)):=by
 refine⟨by simp[h.1],λj e hj=>?_⟩
 by_cases hij:i=j
 ·subst hij
  have hl:i<dl.length:=by
   have:=(Vad.mp hj).1
   simpa using this
  rw[Va8 hl] at hj
  cases hj
  exact⟨v,by rw[Va8 (by rw[← h.1]; exact hl)],q⟩
 ·rw[VaM hij] at hj
  obtain⟨v',h1,h2⟩:=h.2 j e hj
  exact⟨v',by rw[VaM hij]; exact h1,h2⟩
structure Zx where
 ex:Ev→Addr→Sto→Prop
 w:St→XK
abbrev Zc (ex:Addr→Sto→Prop)(E:XK):Zx:=⟨λ_=>ex,λ_=>E⟩
def zec (K:PySem.W.Frag)(Z:Zx)(r:List Addr)(H:Hp):Prop:=∀(dl:Ev) (σ:St) (c:Addr) (H':Hp) (r':List Addr) (S':Sto),Ext r r' H H'→Rs r' H' dl σ→zaU K r' S' H'→Z.ex dl c S'→Z.w σ (.ref c) none H'
theorem zec.ext {K:PySem.W.Frag}{Z:Zx}{r r':List Addr}{H H':Hp}(h:zec K Z r H)(e:Ext r r' H H'):zec K Z r' H':=λdl σ c H2 r2 S2 x=>h dl σ c H2 r2 S2 (e.trans x)
structure Rel (K:PySem.W.Frag)(Z:Zx)(r:List Addr)(S:Sto)(H:Hp):Prop where
 b:zaU K r S H
 xw:zec K Z r H
section
variable {K:PySem.W.Frag}{Z:Zx}{r r':List Addr}{S:Sto}{H H':Hp}{n:Nat}{a p:Addr}
theorem Rel.len (h:Rel K Z r S H):r.length=S.length:=h.b.len
theorem Rel.at {o:Ob}(h:Rel K Z r S H)(e:S[n]?=some o):∃a,r[n]?=some a∧ObR K r H a o:=h.b.at e
theorem Rel.same (h:Rel K Z r S H)(e:∀b o,H b=some o→H' b=some o):Rel K Z r S H':=⟨h.b.same e,h.xw.ext ⟨λ_ _ q=>q,λa xs q=>e _ _ q,λa c q=>e _ _ q⟩⟩
theorem Rel.push {ds:List D}{xs:List V}(h:Rel K Z r S H)(hp:H p=none)(q:Rps r H ds xs):Rel K Z (r++[p]) (S++[.lst ds]) (upd H p (.lst xs))∧Ext r (r++[p]) H (upd H p (.lst xs)):=by
 obtain⟨h1,h2⟩:=h.b.push hp q
 exact⟨⟨h1,h.xw.ext h2⟩,h2⟩
theorem Rel.set {ds ds':List D}{xs:List V}(h:Rel K Z r S H)(hn:r[n]?=some a)(hS:S[n]?=some (.lst ds))(q:Rps r H ds' xs):Rel K Z r (S.set n (.lst ds')) (upd H a (.lst xs))∧Ext r r H (upd H a (.lst xs)):=by
 obtain⟨h1,h2⟩:=h.b.set hn hS q
 exact⟨⟨h1,h.xw.ext h2⟩,h2⟩
end
def Ret (K:PySem.W.Frag)(Z:Zx)(r:List Addr)(H:Hp)(Q:DK)(Qv:VK):Prop:=∀v H' r' d S',Ext r r' H H'→Rel K Z r' S' H'→Rp r' H' d v→Q d S'→Qv v H'
theorem Ret.ext {K:PySem.W.Frag}{Z:Zx}{r r':List Addr}{H H':Hp}{Q:DK}{Qv:VK}(h:Ret K Z r H Q Qv)(e:Ext r r' H H'):Ret K Z r' H' Q Qv:=λv H2 r2 d S2 x=>h v H2 r2 d S2 (e.trans x)
def up (K:PySem.W.Frag)(Z:Zx)(t:TDE):TE:=λσ H Qv=>∃r dl S Q,Rs r H dl σ∧Rel K Z r S H∧t dl S Q∧Ret K Z r H Q Qv
def upT (K:PySem.W.Frag)(Z:Zx)(t:TDT):TT:=λσ H Qb=>∃r dl S Q,Rs r H dl σ∧Rel K Z r S H∧t dl S Q∧∀b H' r' S',Ext r r' H H'→Rel K Z r' S' H'→Q b S'→Qb b H'
def upA (K:PySem.W.Frag)(Z:Zx)(t:TDA):TA:=λσ H Qv=>∃r dl S Q,Rs r H dl σ∧Rel K Z r S H∧t dl S Q∧∀vs H' r' ds S',Ext r r' H H'→Rel K Z r' S' H'→Rps r' H' ds vs→Q ds S'→Qv vs H'
structure zk3 (K:PySem.W.Frag)(Z:Zx)(r:List Addr)(H:Hp)(E:zdQ)(F:zdJ):Prop where
 nx:∀σ' H' r' dl' S',Ext r r' H H'→Rs r' H' dl' σ'→Rel K Z r' S' H'→E.nx dl' S'→F.nx σ' H'
 bk:∀σ' H' r' dl' S',Ext r r' H H'→Rs r' H' dl' σ'→Rel K Z r' S' H'→E.bk dl' S'→F.bk σ' H'
 ct:∀σ' H' r' dl' S',Ext r r' H H'→Rs r' H' dl' σ'→Rel K Z r' S' H'→E.ct dl' S'→F.ct σ' H'
 rt:Ret K Z r H E.rt F.rt
theorem zk3.ext {K:PySem.W.Frag}{Z:Zx}{r r':List Addr}{H H':Hp}{E:zdQ}{F:zdJ}(h:zk3 K Z r H E F)(e:Ext r r' H H'):zk3 K Z r' H' E F:=
 ⟨λa b c d f x=>h.nx a b c d f (e.trans x),λa b c d f x=>h.bk a b c d f (e.trans x),λa b c d f x=>h.ct a b c d f (e.trans x),h.rt.ext e⟩
def upS (K:PySem.W.Frag)(Z:Zx)(t:TDS):TS:=λF σ H=>∃r dl S E,Rs r H dl σ∧Rel K Z r S H∧t E dl S∧zk3 K Z r H E F
def PD (X:Cx)(Z:Zx)(e:Expr)(t:TDE):Prop:=PE X e (up X.K Z t)
def PDT (X:Cx)(Z:Zx)(e:Expr)(t:TDT):Prop:=PT X e (upT X.K Z t)
def PDW (X:Cx)(Z:Zx)(e:Expr)(t:TDT):Prop:=PW X e (upT X.K Z t)
def PDA (X:Cx)(Z:Zx)(es:List Expr)(t:TDA):Prop:=PA X es (upA X.K Z t)
def PDS (X:Cx)(Z:Zx)(st:Stmt)(t:TDS):Prop:=PS X st (upS X.K Z t)
def zcL (X:Cx)(Z:Zx)(st:List Stmt)(t:TDS):Prop:=PSs X st (upS X.K Z t)
section
variable {X:Cx}{Z:Zx}
theorem za5 {e:Expr}{t t':TE}(h:PE X e t)(f:∀σ H Q,t' σ H Q→t σ H Q):PE X e t':=λpins s σ H Q I q=>h pins s σ H Q I (f σ H Q q)
theorem ziv {e:Expr}{t t':TT}(h:PT X e t)(f:∀σ H Q,t' σ H Q→t σ H Q):PT X e t':=λpins s σ H Q I q=>h pins s σ H Q I (f σ H Q q)
theorem zqr {e:Expr}{t t':TT}(h:PW X e t)(f:∀σ H Q,t' σ H Q→t σ H Q):PW X e t':=λwh pins s σ H Q I q=>h wh pins s σ H Q I (f σ H Q q)
theorem zp7 {e:List Expr}{t t':TA}(h:PA X e t)(f:∀σ H Q,t' σ H Q→t σ H Q):PA X e t':=λpos pins s σ H Q I q=>h pos pins s σ H Q I (f σ H Q q)
theorem zbZ {e:Stmt}{t t':TS}(h:PS X e t)(f:∀F σ H,t' F σ H→t F σ H):PS X e t':=λpins s σ H F I q=>h pins s σ H F I (f F σ H q)
theorem zqB {e:List Stmt}{t t':TS}(h:PSs X e t)(f:∀F σ H,t' F σ H→t F σ H):PSs X e t':=λpins s σ H F I q=>h pins s σ H F I (f F σ H q)
theorem PDW.pt {e:Expr}{t:TDT}(h:PDW X Z e t):PDT X Z e t:=PW.pt h
def zct (i:Nat):TDE:=λdl S Q=>match dl[i]? with
 | some (some d)=>Q d S
 | _=>False
def dC (d:D):TDE:=λ_ S Q=>Q d S
theorem zyt {e:Expr}{i:Nat}(h:PE X e (tVar i)):PD X Z e (zct i):=za5 h λσ H Qv ⟨r,dl,S,Q,rs,rel,q,ret⟩=>by
 unfold zct at q
 split at q
 ·rename_i d e
  obtain⟨v,h1,h2⟩:=rs.2 i d e
  exact⟨v,h1,ret v H r d S Ext.refl rel h2 q⟩
 ·exact q.elim
theorem dv (i:Nat){x:Str}{pos:Pos}(hN:X.N[i]?=some x:=by rfl)(hv:Vis X.env.scope x:=by first | exact Or.inl rfl | exact Or.inr (Or.inl rfl) | exact Or.inr (Or.inr rfl))(hd:(x==("__debug__":Str))=false:=by decide)
  (hcd:(x==("__classdict__":Str))=false:=by decide):PD X Z (.Name x pos) (zct i):=zyt (zq4 hN hv hd hcd)
theorem zkR {e:Expr}{d:D}{v:V}(h:PE X e (tC v))(q:∀r H,Rp r H d v):PD X Z e (dC d):=za5 h λσ H Qv ⟨r,dl,S,Q,rs,rel,h,ret⟩=>ret v H r d S Ext.refl rel (q r H) h
theorem zac {i j pos}:PD X Z (.Constant (.int i) j pos) (dC (.int i)):=zkR zxr λ_ _=>.int i
theorem zcX {b j pos}:PD X Z (.Constant (.bool b) j pos) (dC (.bl b)):=zkR pe_bl λ_ _=>.bl b
theorem zdV {j pos}:PD X Z (.Constant .none j pos) (dC .non):=zkR zwO λ_ _=>.non
theorem zbr {x j pos}:PD X Z (.Constant (.str x) j pos) (dC (.str x)):=zkR ztf λ_ _=>.str x
abbrev W2:=D→D→Sto→DK→Prop
abbrev W1:=D→Sto→DK→Prop
def upO (K:PySem.W.Frag)(Z:Zx)(w:W2):R2:=λx y H Qv=>∃r S dx dy Q,Rel K Z r S H∧Rp r H dx x∧Rp r H dy y∧w dx dy S Q∧Ret K Z r H Q Qv
def upU (K:PySem.W.Frag)(Z:Zx)(w:W1):V→Hp→VK→Prop:=λx H Qv=>∃r S dx Q,Rel K Z r S H∧Rp r H dx x∧w dx S Q∧Ret K Z r H Q Qv
def dOp (w:W2)(ta tb:TDE):TDE:=λdl S Q=>ta dl S λx S1=>tb dl S1 λy S2=>w x y S2 Q
def dUn (w:W1)(ta:TDE):TDE:=λdl S Q=>ta dl S λx S1=>w x S1 Q
variable {a b c:Expr}{ta tb tc:TDE}{pos:Pos}
theorem zjY {w:W2}{σ:St}{H:Hp}{Qv:VK}(h:up X.K Z (dOp w ta tb) σ H Qv):tOp (upO X.K Z w) (up X.K Z ta) (up X.K Z tb) σ H Qv:=by
 obtain⟨r,dl,S,Q,rs,rel,h,ret⟩:=h
 exact⟨r,dl,S,_,rs,rel,h,λv H1 r1 dx S1 e1 rel1 p1 h1=>⟨r1,dl,S1,_,rs.ext e1,rel1,h1,λv2 H2 r2 dy S2 e2 rel2 p2 h2=>⟨r2,S2,dx,dy,Q,rel2,p1.ext e2,p2,h2,ret.ext (e1.trans e2)⟩⟩⟩
theorem zaq {op:Operator}{w:W2}(ho:OpR X (binaryOp op) (upO X.K Z w))(ha:PD X Z a ta)(hb:PD X Z b tb):PD X Z (.BinOp a op b pos) (dOp w ta tb):=za5 (pe_op ho ha hb) λ_ _ _ h=>zjY h
theorem zl4 {op:UnaryOp}{w:W1}(ho:UnR X (unaryOp op) (upU X.K Z w))(ha:PD X Z a ta):PD X Z (.UnaryOp op a pos) (dUn w ta):=za5 (pe_un ho ha) λσ H Qv ⟨r,dl,S,Q,rs,rel,h,ret⟩=>
 ⟨r,dl,S,_,rs,rel,h,λv H1 r1 dx S1 e1 rel1 p1 h1=>⟨r1,S1,dx,Q,rel1,p1,h1,ret.ext e1⟩⟩
theorem zdS {op:CmpOp}{w:W2}(ho:OpR X (compareOp op) (upO X.K Z w))(ha:PD X Z a ta)(hb:PD X Z b tb)(hm:behindInMarks op b=false):PD X Z (.Compare a [op] [b] pos) (dOp w ta tb):=za5 (zxE ho ha hb hm) λ_ _ _ h=>zjY h
theorem zeP {f:Value→Value→Sem Value}{r r':R2}(h:OpR X f r)(g:∀x y H Q,r' x y H Q→r x y H Q):OpR X f r':=λpins s σ H x y v u Q I rx ry q=>h pins s σ H x y v u Q I rx ry (g x y H Q q)
theorem zv4 {f:Value→Sem Value}{r r':V→Hp→VK→Prop}(h:UnR X f r)(g:∀x H Q,r' x H Q→r x H Q):UnR X f r':=λpins s σ H x v Q I rx q=>h pins s σ H x v Q I rx (g x H Q q)
theorem zov {f:Value}{r r':List V→Hp→VK→Prop}(h:zbc X f r)(g:∀x H Q,r' x H Q→r x H Q):zbc X f r':=λpins s σ H xs us Q I rx q=>h pins s σ H xs us Q I rx (g xs H Q q)
def wI (C:Int→Int→Prop)(g:Int→Int→D):W2:=λx y S Q=>match x,y with
 | .int i,.int j=>C i j∧Q (g i j) S
 | _,_=>False
def wI0 (g:Int→Int→D):W2:=λx y S Q=>match x,y with
 | .int i,.int j=>Q (g i j) S
 | _,_=>False
theorem opD {f:Value→Value→Sem Value}{C:Int→Int→Prop}{g:Int→Int→V}{g':Int→Int→D}(h:OpR X f (rI C g))(hg:∀r H i j,Rp r H (g' i j) (g i j)):OpR X f (upO X.K Z (wI C g')):=
 zeP h λx y H Qv ⟨r,S,dx,dy,Q,rel,px,py,q,ret⟩=>by
  cases px <;> cases py <;> first
   | exact⟨_,_,rfl,rfl,q.1,ret _ _ _ _ _ Ext.refl rel (hg _ _ _ _) q.2⟩
   | exact(show False from q).elim
theorem zgo {f:Value→Value→Sem Value}{g:Int→Int→V}{g':Int→Int→D}(h:OpR X f (rI0 g))(hg:∀r H i j,Rp r H (g' i j) (g i j)):OpR X f (upO X.K Z (wI0 g')):=
 zeP h λx y H Qv ⟨r,S,dx,dy,Q,rel,px,py,q,ret⟩=>by
  cases px <;> cases py <;> first
   | exact⟨_,_,rfl,rfl,ret _ _ _ _ _ Ext.refl rel (hg _ _ _ _) q⟩
   | exact(show False from q).elim
abbrev wAdd:W2:=wI0 λi j=>.int (i+j)
abbrev wSub:W2:=wI0 λi j=>.int (i-j)
abbrev zgB:W2:=wI IntMulOk λi j=>.int (i*j)
def CFd (_ j:Int):Prop:=0<j∧j.natAbs.log2<9000
abbrev wFdiv:W2:=wI CFd λi j=>.int (i/j)
def CFn (_ j:Int):Prop:=j≠0∧j.natAbs.log2<9000
abbrev zxo:W2:=wI CFn λi j=>.int (i.fdiv j)
abbrev wMod:W2:=wI (λ_ j=>0<j) λi j=>.int (i%j)
theorem zbm:OpR X (binaryOp .Add) (upO X.K Z wAdd):=zgo zvp λ_ _ _ _=>.int _
theorem zcB:OpR X (binaryOp .Sub) (upO X.K Z wSub):=zgo zvV λ_ _ _ _=>.int _
theorem za2:OpR X (binaryOp .Mult) (upO X.K Z zgB):=opD (opI λ_ _ _ _ _ _ _ hc q=>mul_int q hc) λ_ _ _ _=>.int _
theorem zdh:OpR X (binaryOp .FloorDiv) (upO X.K Z wFdiv):=opD (opI λi j _ _ _ _ _ hc q=>floordiv_int (by have h:0<j:=hc.1; omega) (by have h:0<j:=hc.1; rw[Int.fdiv_eq_ediv_of_nonneg i (by omega)]; exact q) (.inl (PyProof.noPylong_of_log2 hc.2))) λ_ _ _ _=>.int _
theorem zrj:OpR X (binaryOp .FloorDiv) (upO X.K Z zxo):=opD (opI λ_ _ _ _ _ _ _ hc q=>floordiv_int hc.1 q (.inl (PyProof.noPylong_of_log2 hc.2))) λ_ _ _ _=>.int _
theorem ziZ:OpR X (binaryOp .Mod) (upO X.K Z wMod):=opD zrt λ_ _ _ _=>.int _
abbrev wLt:W2:=wI0 λi j=>.bl (decide (i<j))
abbrev wLe:W2:=wI0 λi j=>.bl (decide (i≤j))
abbrev wGe:W2:=wI0 λi j=>.bl (decide (j≤i))
theorem zdF:OpR X (compareOp .Lt) (upO X.K Z wLt):=zgo op_lt λ_ _ _ _=>.bl _
theorem zok:OpR X (compareOp .LtE) (upO X.K Z wLe):=zgo op_le λ_ _ _ _=>.bl _
theorem do_ge:OpR X (compareOp .GtE) (upO X.K Z wGe):=zgo op_ge λ_ _ _ _=>.bl _
def wNeg:W1:=λx S Q=>match x with
 | .int i=>Q (.int (-i)) S
 | _=>False
theorem zjp:UnR X (unaryOp .USub) (upU X.K Z wNeg):=zv4 zvm λx H Qv ⟨r,S,dx,Q,rel,px,q,ret⟩=>by
 cases px <;> first
  | exact⟨_,rfl,ret _ _ _ _ _ Ext.refl rel (.int _) q⟩
  | exact(show False from q).elim
end
def eqF:D→D→Option Bool
 | .non,.non=>some true
 | .bl i,.bl j=>some (i==j)
 | .int i,.int j=>some (decide (i=j))
 | .str i,.str j=>some (decide (i=j))
 | .non,.int _=>some false | .int _,.non=>some false | .non,.bl _=>some false | .bl _,.non=>some false | .non,.str _=>some false | .str _,.non=>some false
 | .int _,.str _=>some false | .str _,.int _=>some false | .bl _,.str _=>some false | .str _,.bl _=>some false
 | _,_=>none
def eqL (f:D→D→Option Bool):List D→List D→Option Bool
 | [],[]=>some true
 | x::xs,y::ys=>match f x y,eqL f xs ys with
  | some b,some c=>some (b&&c)
  | _,_=>none
 | _,_=>some false
def eqT (f:D→D→Option Bool):D→D→Option Bool
 | .tup xs,.tup ys=>eqL f xs ys
 | x,y=>eqF x y
abbrev eq1:D→D→Option Bool:=eqT eqF
abbrev eq2:D→D→Option Bool:=eqT eq1
def zdG (n:Nat)(f:D→D→Option Bool):Prop:=∀(X:Cx) (pins:List (Addr×Obj)) (σ:St) (H:Hp) (s:Shared) (r:List Addr) (A:Around) (dx dy:D) (x y:V) (u v:Value) (b:Bool),
 Inv X pins σ H s→A.units+n<cLine→Rp r H dx x→Rp r H dy y→zav x u→zav y v→f dx dy=some b→SeqAt.EqAt A s u v b
def zfQ (f:D→D→Option Bool):Prop:=∀(r:List Addr) (H:Hp) (dx dy:D) (x:V) (b:Bool),Rp r H dx x→Rp r H dy x→f dx dy=some b→b=true
theorem zfR:zfQ eqF:=by
 intro r H dx dy x b px py e
 cases px <;> cases py <;> simp[eqF] at e <;> first | exact e.symm | exact e
theorem zna {f:D→D→Option Bool}(hf:zfQ f){r:List Addr}{H:Hp}:∀ {xs ys:List D} {vs:List V} {b:Bool},Rps r H xs vs→Rps r H ys vs→eqL f xs ys=some b→b=true
 | [],[],_,b,_,_,e=>by simp[eqL] at e; exact e
 | [],y::ys,vs,b,p,q,e=>by
  have h1:=p.unnil
  subst h1
  exact absurd q.1 (by simp)
 | x::xs,[],vs,b,p,q,e=>by
  have h1:=q.unnil
  subst h1
  exact absurd p.1 (by simp)
 | x::xs,y::ys,vs,b,p,q,e=>by
  obtain⟨v,vs',rfl,p1,p2⟩:=p.uncons
  obtain⟨q1,q2⟩:=q.tail
  unfold eqL at e
  split at e
  ·rename_i b1 c1 e1 e2
   have h1:=hf r H x y v b1 p1 q1 e1
   have h2:=zna hf p2 q2 e2
   subst h1; subst h2
   simp at e
   exact e
  ·cases e
theorem zqA {f:D→D→Option Bool}(hf:zfQ f):zfQ (eqT f):=by
 intro r H dx dy x b px py e
 cases px with
 | tup e1 l1 f1=>
  cases py with
  | tup e2 l2 f2=>
   rw[e1] at e2; cases e2
   exact zna hf ⟨l1,f1⟩ ⟨l2,f2⟩ e
  | ref h=>simp[eqT,eqF] at e
  | exc h=>simp[eqT,eqF] at e
 | non=>exact zfR r H _ _ _ b .non py (by cases py <;> exact e)
 | bl i=>exact zfR r H _ _ _ b (.bl i) py (by cases py <;> exact e)
 | int i=>exact zfR r H _ _ _ b (.int i) py (by cases py <;> exact e)
 | str i=>exact zfR r H _ _ _ b (.str i) py (by cases py <;> exact e)
 | ref h=>cases py <;> simp[eqT,eqF] at e
 | exc h=>cases py <;> simp[eqT,eqF] at e
theorem zoQ (n:Nat):zdG n eqF:=by
 intro X pins σ H s r A dx dy x y u v b I hu px py rx ry e
 have fin:∀ {x y:V},zav x u→zav y v→zkB x=true→zkB y=true→eqV x y=b→SeqAt.EqAt A s u v b:=λrx ry fx fy e'=>by
  subst e'; exact zvW rx ry fx fy
 cases px <;> cases py <;> simp[eqF] at e <;> refine fin rx ry rfl rfl ?_ <;> simp[eqV,e] <;> first | exact e | (subst e; simp) | skip
theorem zfa {X:Cx}{pins:List (Addr×Obj)}{σ:St}{H:Hp}{s:Shared}{a:Addr}{xs:List V}(I:Inv X pins σ H s)(h:H a=some (.tup xs)):∃its:List Value,zau xs its∧IsTup s.heap a its.toArray∧xs.length≤sizeLine:=I.tuple (SqT.of h)
def zcH (f:D→D→Option Bool)(xs ys:List D)(j:Nat):Bool:=match xs[j]?,ys[j]? with
 | some x,some y=>(f x y).getD false
 | _,_=>false
theorem zqh {f:D→D→Option Bool}:∀ {xs ys:List D} {b:Bool},eqL f xs ys=some b→(∀(j:Nat) (x y:D),xs[j]?=some x→ys[j]?=some y→∃c,f x y=some c)∧((List.range (min xs.length ys.length)).all (zcH f xs ys)&&xs.length==ys.length)=b
 | [],[],b,e=>by simp[eqL] at e; subst e; simp
 | [],y::ys,b,e=>by simp[eqL] at e; subst e; simp
 | x::xs,[],b,e=>by simp[eqL] at e; subst e; simp
 | x::xs,y::ys,b,e=>by
  unfold eqL at e
  split at e
  ·rename_i b1 c1 e1 e2
   obtain⟨h1,h2⟩:=zqh e2
   refine⟨λj p q hp hq=>?_,?_⟩
   ·cases j with
    | zero=>simp at hp hq; subst hp; subst hq; exact⟨b1,e1⟩
    | succ j=>exact h1 j p q (by simpa using hp) (by simpa using hq)
   ·have z:min (x::xs).length (y::ys).length=min xs.length ys.length+1:=by simp[Nat.succ_min_succ]
    rw[z,List.range_succ_eq_map,List.all_cons,List.all_map]
    have e0:zcH f (x::xs) (y::ys) 0=b1:=by simp[zcH,e1]
    have es:(zcH f (x::xs) (y::ys) ∘ Nat.succ)=zcH f xs ys:=by funext j; simp[zcH]
    rw[e0,es]
    have e3:((x::xs).length==(y::ys).length)=(xs.length==ys.length):=by simp
    rw[e3,Bool.and_assoc,h2]
    simp at e
    exact e
  ·cases e
theorem zlc {n:Nat}{f:D→D→Option Bool}(hf:zdG n f){X:Cx}{pins:List (Addr×Obj)}{σ:St}{H:Hp}{s:Shared}{r:List Addr}{A:Around}{xs ys:List D}{us vs:List V}{is js:List Value}{b:Bool}
  (I:Inv X pins σ H s)(hu:A.units+n<cLine)(p:Rps r H xs us)(q:Rps r H ys vs)(ri:zau us is)(rj:zau vs js)(e:eqL f xs ys=some b):
  (∀j (h1:j<is.toArray.size) (h2:j<js.toArray.size),SeqAt.EqAt A s is.toArray[j] js.toArray[j] (zcH f xs ys j))∧((List.range (min is.toArray.size js.toArray.size)).all (zcH f xs ys)&&is.toArray.size==js.toArray.size)=b:=by
 obtain⟨h1,h2⟩:=zqh e
 have l1:is.toArray.size=xs.length:=by rw[Vap,← ri.length,p.1]
 have l2:js.toArray.size=ys.length:=by rw[Vap,← rj.length,q.1]
 refine⟨λj hj1 hj2=>?_,by rw[l1,l2]; exact h2⟩
 have k1:j<xs.length:=by omega
 have k2:j<ys.length:=by omega
 have g1:xs[j]?=some xs[j]:=by simp[k1]
 have g2:ys[j]?=some ys[j]:=by simp[k2]
 obtain⟨x,gx,px⟩:=p.get g1
 obtain⟨y,gy,py⟩:=q.get g2
 obtain⟨u,gu,ru⟩:=ri.get gx
 obtain⟨v,gv,rv⟩:=rj.get gy
 obtain⟨c,hc⟩:=h1 j _ _ g1 g2
 have eu:is.toArray[j]=u:=by
  have z:=Vad.mp gu
  simpa using z.2
 have ev:js.toArray[j]=v:=by
  have z:=Vad.mp gv
  simpa using z.2
 have ec:zcH f xs ys j=c:=by simp[zcH,g1,g2,hc]
 rw[eu,ev,ec]
 exact hf X pins σ H s r A _ _ x y u v c I hu px py ru rv hc
theorem zqv {n:Nat}{f:D→D→Option Bool}(hf:zdG n f)(hs:zfQ f):zdG (n+1) (eqT f):=by
 intro X pins σ H s r A dx dy x y u v b I hu px py rx ry e
 have zb1:∀ {dx dy:D} {x y:V},Rp r H dx x→Rp r H dy y→zav x u→zav y v→eqF dx dy=some b→SeqAt.EqAt A s u v b:=λpx py rx ry e=>zoQ (n+1) X pins σ H s r A _ _ _ _ u v b I hu px py rx ry e
 cases px with
 | @tup ds xs a e1 l1 f1=>
  cases py with
  | @tup es ys a' e2 l2 f2=>
   cases rx
   cases ry
   by_cases z:a=a'
   ·subst z
    have hb:=zqA hs r H _ _ _ b (.tup e1 l1 f1) (.tup e2 l2 f2) e
    subst hb
    exact SeqAt.EqAt.same _
   ·obtain⟨is,ri,ti,_⟩:=zfa I e1
    obtain⟨js,rj,tj,_⟩:=zfa I e2
    obtain⟨g1,g2⟩:=zlc (A:=A.in1) hf I (by show A.units+1+n<_; omega) ⟨l1,f1⟩ ⟨l2,f2⟩ ri rj e
    have q:=SeqAt.RcAt.tuples (A:=A) ti tj (by omega) g1
    rw[g2] at q
    exact SeqAt.EqAt.of_refs z q
  | ref h=>simp[eqT,eqF] at e
  | _=>simp[eqT,eqF] at e
 | non=>exact zb1 .non py rx ry (by cases py <;> exact e)
 | bl i=>exact zb1 (.bl i) py rx ry (by cases py <;> exact e)
 | int i=>exact zb1 (.int i) py rx ry (by cases py <;> exact e)
 | str i=>exact zb1 (.str i) py rx ry (by cases py <;> exact e)
 | ref h=>cases py <;> simp[eqT,eqF] at e
 | exc h=>cases py <;> simp[eqT,eqF] at e
theorem zpV (n:Nat):zdG (n+1) eq1:=zqv (zoQ n) zfR
def wEq (f:D→D→Option Bool):W2:=λx y S Q=>match f x y with
 | some b=>Q (.bl b) S
 | none=>False
def wNe (f:D→D→Option Bool):W2:=λx y S Q=>match f x y with
 | some b=>Q (.bl (!b)) S
 | none=>False
section
variable {X:Cx}{Z:Zx}
theorem zrb {r:List Addr}{H:Hp}{dx dy:D}{x y:V}{b:Bool}(px:Rp r H dx x)(py:Rp r H dy y)(e:eqF dx dy=some b):zkM x y=true∧decide (x=y)=b:=by
 cases px <;> cases py <;> simp[eqF] at e <;> simp[zkM] <;> first | exact e | (subst e; simp) | skip
theorem ztB {n:Nat}{f:D→D→Option Bool}(hf:zdG n f)(hu:X.A.units+1+n<cLine):OpR X (compareOp .Eq) (upO X.K Z (wEq (eqT f))):=by
 intro pins s σ H x y v u Qv I rx ry h
 obtain⟨r,S,dx,dy,Q,rel,px,py,q,ret⟩:=h
 unfold wEq at q
 split at q
 ·rename_i b e
  have zb1:∀ {dx dy:D} {x y:V},Rp r H dx x→Rp r H dy y→zav x v→zav y u→eqF dx dy=some b→wpAny (model X.prog X.w) X.A (compareOp .Eq v u) (EP X pins σ Qv) X.xe s:=λpx py rx ry e=>by
   obtain⟨h1,h2⟩:=zrb px py e
   refine znT pins s σ H _ _ v u Qv I rx ry ⟨h1,?_⟩
   rw[h2]
   exact ret _ _ _ _ _ Ext.refl rel (.bl b) q
  cases px with
  | @tup ds xs a e1 l1 f1=>
   cases py with
   | @tup es ys a' e2 l2 f2=>
    cases rx
    cases ry
    obtain⟨is,ri,ti,_⟩:=zfa I e1
    obtain⟨js,rj,tj,_⟩:=zfa I e2
    obtain⟨g1,g2⟩:=zlc (A:=X.A.in1) hf I (by show X.A.units+1+n<_; omega) ⟨l1,f1⟩ ⟨l2,f2⟩ ri rj e
    refine SeqAt.eq_tupleAt (A:=X.A) ti tj (by omega) g1 ?_
    rw[g2]
    exact⟨.bl b,H,I,rfl,ret _ _ _ _ _ Ext.refl rel (.bl b) q⟩
   | _=>simp[eqT,eqF] at e
  | non=>exact zb1 .non py rx ry (by cases py <;> exact e)
  | bl i=>exact zb1 (.bl i) py rx ry (by cases py <;> exact e)
  | int i=>exact zb1 (.int i) py rx ry (by cases py <;> exact e)
  | str i=>exact zb1 (.str i) py rx ry (by cases py <;> exact e)
  | ref h=>cases py <;> simp[eqT,eqF] at e
  | exc h=>cases py <;> simp[eqT,eqF] at e
 ·exact q.elim
theorem ztL {n:Nat}{f:D→D→Option Bool}(hf:zdG n f)(hu:X.A.units+1+n<cLine):OpR X (compareOp .NotEq) (upO X.K Z (wNe (eqT f))):=by
 intro pins s σ H x y v u Qv I rx ry h
 obtain⟨r,S,dx,dy,Q,rel,px,py,q,ret⟩:=h
 unfold wNe at q
 split at q
 ·rename_i b e
  have zb1:∀ {dx dy:D} {x y:V},Rp r H dx x→Rp r H dy y→zav x v→zav y u→eqF dx dy=some b→wpAny (model X.prog X.w) X.A (compareOp .NotEq v u) (EP X pins σ Qv) X.xe s:=λpx py rx ry e=>by
   obtain⟨h1,h2⟩:=zrb px py e
   refine op_ne pins s σ H _ _ v u Qv I rx ry ⟨h1,?_⟩
   rw[h2]
   exact ret _ _ _ _ _ Ext.refl rel (.bl (!b)) q
  cases px with
  | @tup ds xs a e1 l1 f1=>
   cases py with
   | @tup es ys a' e2 l2 f2=>
    cases rx
    cases ry
    obtain⟨is,ri,ti,_⟩:=zfa I e1
    obtain⟨js,rj,tj,_⟩:=zfa I e2
    obtain⟨g1,g2⟩:=zlc (A:=X.A.in1) hf I (by show X.A.units+1+n<_; omega) ⟨l1,f1⟩ ⟨l2,f2⟩ ri rj e
    refine SeqAt.RcNeAt.tuples (A:=X.A) ti tj (by omega) g1 X.prog X.w _ _ ?_
    rw[g2]
    exact⟨.bl (!b),H,I,rfl,ret _ _ _ _ _ Ext.refl rel (.bl (!b)) q⟩
   | _=>simp[eqT,eqF] at e
  | non=>exact zb1 .non py rx ry (by cases py <;> exact e)
  | bl i=>exact zb1 (.bl i) py rx ry (by cases py <;> exact e)
  | int i=>exact zb1 (.int i) py rx ry (by cases py <;> exact e)
  | str i=>exact zb1 (.str i) py rx ry (by cases py <;> exact e)
  | ref h=>cases py <;> simp[eqT,eqF] at e
  | exc h=>cases py <;> simp[eqT,eqF] at e
 ·exact q.elim
theorem zbb {k:Nat}(hr:zaK k X.A):OpR X (compareOp .Eq) (upO X.K Z (wEq eq2)):=ztB (zpV 0) (by have:=hr.un; omega)
theorem zgg {k:Nat}(hr:zaK k X.A):OpR X (compareOp .NotEq) (upO X.K Z (wNe eq2)):=ztL (zpV 0) (by have:=hr.un; omega)
end
section
variable {X:Cx}{Z:Zx}{a b c:Expr}{ta tb tc:TDE}{pos:Pos}{zbj:List Expr}
def zj8 (t:TDE):TDT:=λdl S Q=>t dl S λd S'=>match d with
 | .bl k=>Q k S'
 | _=>False
theorem zn6 {K:PySem.W.Frag}{Z:Zx}{r:List Addr}{H:Hp}{Q:Bool→Sto→Prop}{Qb:Bool→Hp→Prop}(h:∀b H' r' S',Ext r r' H H'→Rel K Z r' S' H'→Q b S'→Qb b H'):
  Ret K Z r H (λd S'=>match d with | .bl k=>Q k S' | _=>False) (λx H'=>∃k,x=.bl k∧Qb k H'):=λv H' r' d S' e rel p q=>by
 cases p with
 | bl k=>exact⟨k,rfl,h k H' r' S' e rel q⟩
 | _=>exact(show False from q).elim
theorem zaP {op:CmpOp}{w:W2}(ho:OpR X (compareOp op) (upO X.K Z w))(ha:PD X Z a ta)(hb:PD X Z b tb)(hm:behindInMarks op b=false):PDT X Z (.Compare a [op] [b] pos) (zj8 (dOp w ta tb)):=
 ziv (zr7 ho ha hb hm) λσ H Qb ⟨r,dl,S,Q,rs,rel,h,ret⟩=>zjY ⟨r,dl,S,_,rs,rel,h,zn6 ret⟩
theorem zcO {e:Expr}{t:TDE}(h:PD X Z e t)(he:∀whole,isTrue e X.env whole=(do let v ← whole; standAt e.pos; holding [v] (truthy v)):=by intro _; rfl):PDT X Z e (zj8 t):=
 ziv (zwf h he) λσ H Qb ⟨r,dl,S,Q,rs,rel,h,ret⟩=>⟨r,dl,S,_,rs,rel,h,zn6 ret⟩
def dNot (t:TDT):TDT:=λdl S Q=>t dl S λk S'=>Q (!k) S'
theorem zcU {t:TDT}(ha:PDT X Z a t):PDT X Z (.UnaryOp .Not a pos) (dNot t):=
 ziv (zrK ha) λσ H Qb ⟨r,dl,S,Q,rs,rel,h,ret⟩=>⟨r,dl,S,_,rs,rel,h,λk H' r' S' e rel' q=>ret (!k) H' r' S' e rel' q⟩
def dAnd (t u:TDT):TDT:=λdl S Q=>t dl S λk S1=>if k=true then u dl S1 Q else Q false S1
def dOr (t u:TDT):TDT:=λdl S Q=>t dl S λk S1=>if k=true then Q true S1 else u dl S1 Q
theorem zwZ {t:TDT}(ha:PDT X Z a t):PDW X Z (.BoolOp .And [a] pos) t:=zve ha
theorem zg6 {t:TDT}(ha:PDT X Z a t):PDW X Z (.BoolOp .Or [a] pos) t:=zrx ha
theorem zsR {t u:TDT}(ha:PDT X Z a t)(hb:PDW X Z (.BoolOp .And (b::zbj) pos) u):PDW X Z (.BoolOp .And (a::b::zbj) pos) (dAnd t u):=
 zqr (zup ha hb) λσ H Qb ⟨r,dl,S,Q,rs,rel,h,ret⟩=>⟨r,dl,S,_,rs,rel,h,λk H1 r1 S1 e1 rel1 q1=>by
  cases k with
  | true=>exact zbD ⟨r1,dl,S1,Q,rs.ext e1,rel1,(by simpa using q1),λk' H2 r2 S2 e2=>ret k' H2 r2 S2 (e1.trans e2)⟩
  | false=>exact zbn (ret false H1 r1 S1 e1 rel1 (by simpa using q1))⟩
theorem ze2 {t u:TDT}(ha:PDT X Z a t)(hb:PDW X Z (.BoolOp .Or (b::zbj) pos) u):PDW X Z (.BoolOp .Or (a::b::zbj) pos) (dOr t u):=
 zqr (pw_or ha hb) λσ H Qb ⟨r,dl,S,Q,rs,rel,h,ret⟩=>⟨r,dl,S,_,rs,rel,h,λk H1 r1 S1 e1 rel1 q1=>by
  cases k with
  | true=>exact zbD (ret true H1 r1 S1 e1 rel1 (by simpa using q1))
  | false=>exact zbn ⟨r1,dl,S1,Q,rs.ext e1,rel1,(by simpa using q1),λk' H2 r2 S2 e2=>ret k' H2 r2 S2 (e1.trans e2)⟩⟩
def zp9 (ta tb:TDE):TDE:=λdl S Q=>ta dl S λx S1=>match x with
 | .bl k=>if k=true then tb dl S1 Q else Q (.bl false) S1
 | _=>False
def dOrV (ta tb:TDE):TDE:=λdl S Q=>ta dl S λx S1=>match x with
 | .bl k=>if k=true then Q (.bl true) S1 else tb dl S1 Q
 | _=>False
def zqR (ta:TDE):TDE:=λdl S Q=>ta dl S λx S1=>match x with
 | .bl k=>Q (.bl (!k)) S1
 | _=>False
theorem zfZ {op}{t:TDE}(h:PD X Z a t):PD X Z (.BoolOp op [a] pos) t:=zwd h
theorem zeo (ha:PD X Z a ta)(hb:PD X Z (.BoolOp .And (b::zbj) pos) tb):PD X Z (.BoolOp .And (a::b::zbj) pos) (zp9 ta tb):=
 za5 (zsg ha hb) λσ H Qv ⟨r,dl,S,Q,rs,rel,h,ret⟩=>⟨r,dl,S,_,rs,rel,h,λv H1 r1 d S1 e1 rel1 p q1=>by
  cases p with
  | bl k=>
   refine⟨k,rfl,?_⟩
   cases k with
   | true=>exact zbD ⟨r1,dl,S1,Q,rs.ext e1,rel1,(by simpa using q1),ret.ext e1⟩
   | false=>exact zbn (ret _ H1 r1 (.bl false) S1 e1 rel1 (.bl false) (by simpa using q1))
  | _=>exact(show False from q1).elim⟩
theorem zvJ (ha:PD X Z a ta):PD X Z (.UnaryOp .Not a pos) (zqR ta):=
 za5 (zro ha) λσ H Qv ⟨r,dl,S,Q,rs,rel,h,ret⟩=>⟨r,dl,S,_,rs,rel,h,λv H1 r1 d S1 e1 rel1 p q1=>by
  cases p with
  | bl k=>exact⟨k,rfl,ret _ H1 r1 (.bl (!k)) S1 e1 rel1 (.bl (!k)) q1⟩
  | _=>exact(show False from q1).elim⟩
def dIfE (t:TDT)(ta tb:TDE):TDE:=λdl S Q=>t dl S λk S1=>if k=true then ta dl S1 Q else tb dl S1 Q
theorem znm {t:TDT}(hc:PDT X Z c t)(ha:PD X Z a ta)(hb:PD X Z b tb):PD X Z (.IfExp c a b pos) (dIfE t ta tb):=
 za5 (zyc hc ha hb) λσ H Qv ⟨r,dl,S,Q,rs,rel,h,ret⟩=>⟨r,dl,S,_,rs,rel,h,λk H1 r1 S1 e1 rel1 q1=>by
  cases k with
  | true=>exact zbD ⟨r1,dl,S1,Q,rs.ext e1,rel1,(by simpa using q1),ret.ext e1⟩
  | false=>exact zbn ⟨r1,dl,S1,Q,rs.ext e1,rel1,(by simpa using q1),ret.ext e1⟩⟩
def zkz (w w':W2)(ta tb tc:TDE):TDE:=λdl S Q=>ta dl S λx S1=>tb dl S1 λy S2=>w x y S2 λz S3=>match z with
 | .bl k=>if k=true then tc dl S3 λu S4=>w' y u S4 Q else Q (.bl false) S3
 | _=>False
theorem zqU {w w':W2}{σ:St}{H:Hp}{Qv:VK}(h:up X.K Z (zkz w w' ta tb tc) σ H Qv):znC (upO X.K Z w) (upO X.K Z w') (up X.K Z ta) (up X.K Z tb) (up X.K Z tc) σ H Qv:=by
 obtain⟨r,dl,S,Q,rs,rel,h,ret⟩:=h
 refine⟨r,dl,S,_,rs,rel,h,λv H1 r1 dx S1 e1 rel1 p1 h1=>⟨r1,dl,S1,_,rs.ext e1,rel1,h1,λv2 H2 r2 dy S2 e2 rel2 p2 h2=>⟨r2,S2,dx,dy,_,rel2,p1.ext e2,p2,h2,λv3 H3 r3 dz S3 e3 rel3 p3 h3=>?_⟩⟩⟩
 cases p3 with
 | bl k=>
  refine⟨k,rfl,?_⟩
  cases k with
  | true=>exact zbD ⟨r3,dl,S3,_,rs.ext (e1.trans (e2.trans e3)),rel3,(by simpa using h3),λv4 H4 r4 du S4 e4 rel4 p4 h4=>⟨r4,S4,dy,du,Q,rel4,(p2.ext e3).ext e4,p4,h4,ret.ext (e1.trans (e2.trans (e3.trans e4)))⟩⟩
  | false=>exact zbn (ret _ H3 r3 (.bl false) S3 (e1.trans (e2.trans e3)) rel3 (.bl false) (by simpa using h3))
 | _=>exact(show False from h3).elim
theorem zxJ {op op':CmpOp}{w w':W2}(ho:OpR X (compareOp op) (upO X.K Z w))(ho':OpR X (compareOp op') (upO X.K Z w'))(ha:PD X Z a ta)(hb:PD X Z b tb)(hc:PD X Z c tc)
  (hm:lastMarks [op,op'] [b,c]=false:=by with_unfolding_all rfl):PD X Z (.Compare a [op,op'] [b,c] pos) (zkz w w' ta tb tc):=za5 (zuv ho ho' ha hb hc hm) λ_ _ _ h=>zqU h
theorem zuJ {op op':CmpOp}{w w':W2}(ho:OpR X (compareOp op) (upO X.K Z w))(ho':OpR X (compareOp op') (upO X.K Z w'))(ha:PD X Z a ta)(hb:PD X Z b tb)(hc:PD X Z c tc)
  (hm:lastMarks [op,op'] [b,c]=false:=by with_unfolding_all rfl):PDT X Z (.Compare a [op,op'] [b,c] pos) (zj8 (zkz w w' ta tb tc)):=
 ziv (ztd ho ho' ha hb hc hm) λσ H Qb ⟨r,dl,S,Q,rs,rel,h,ret⟩=>zqU ⟨r,dl,S,_,rs,rel,h,zn6 ret⟩
def zk9:D→Bool
 | .non=>true
 | _=>false
def wIsN:W2:=λx y S Q=>match y with
 | .non=>Q (.bl (zk9 x)) S
 | _=>False
def wNotN:W2:=λx y S Q=>match y with
 | .non=>Q (.bl (!zk9 x)) S
 | _=>False
theorem zrE {r:List Addr}{H:Hp}{d:D}{x:V}(p:Rp r H d x):decide (x=.non)=zk9 d:=by
 cases p <;> simp[zk9]
theorem zot:OpR X (compareOp .Is) (upO X.K Z wIsN):=zeP zsY λx y H Qv ⟨r,S,dx,dy,Q,rel,px,py,q,ret⟩=>by
 cases py with
 | non=>exact⟨rfl,by rw[zrE px]; exact ret _ _ _ _ _ Ext.refl rel (.bl _) q⟩
 | _=>exact(show False from q).elim
variable {e:Expr}{es:List Expr}
def zmy:TDA:=λ_ S Q=>Q [] S
def zpd (ta:TDE)(tr:TDA):TDA:=λdl S Q=>ta dl S λx S1=>tr dl S1 λxs S2=>Q (x::xs) S2
theorem zab:PDA X Z [] zmy:=zp7 zlh λσ H Qv ⟨r,dl,S,Q,rs,rel,h,ret⟩=>ret [] H r [] S Ext.refl rel Rps.nil h
theorem zaa {te:TDE}{t:TDA}(ha:PD X Z e te)(hr:PDA X Z es t)(hs:starEach (e::es) X.env=(false,eval e X.env)::starEach es X.env:=by rfl):PDA X Z (e::es) (zpd te t):=
 zp7 (zfb ha hr hs) λσ H Qv ⟨r,dl,S,Q,rs,rel,h,ret⟩=>⟨r,dl,S,_,rs,rel,h,λv H1 r1 d S1 e1 rel1 p1 h1=>⟨r1,dl,S1,_,rs.ext e1,rel1,h1,λvs H2 r2 ds S2 e2 rel2 p2 h2=>
  ret (v::vs) H2 r2 (d::ds) S2 (e1.trans e2) rel2 (Rps.cons (p1.ext e2) p2) h2⟩⟩
def dTup (t:TDA):TDE:=λdl S Q=>t dl S λds S1=>if ds.length≤1000 then Q (.tup ds) S1 else False
def dLst (t:TDA):TDE:=λdl S Q=>t dl S λds S1=>if ds.length≤1000 then Q (.ref S1.length) (S1++[.lst ds]) else False
theorem zlo {A:Prop}{p:Prop} [Decidable p] (h:if p then A else False):p∧A:=by
 split at h
 ·exact⟨by assumption,h⟩
 ·exact h.elim
theorem ze7 {n:Nat}(h:n≤1000):n≤sizeLine:=VaX (zh8 h)
theorem zaS {x1}{t:TDA}(h:PDA X Z es t):PD X Z (.Tuple es x1 pos) (dTup t):=
 za5 (zvl h) λσ H Qv ⟨r,dl,S,Q,rs,rel,h,ret⟩=>⟨r,dl,S,_,rs,rel,h,λvs H1 r1 ds S1 e1 rel1 p1 h1=>by
  obtain⟨hl,h1⟩:=zlo h1
  refine⟨by rw[← p1.1]; exact ze7 hl,λp hp=>?_⟩
  have x:Ext r1 r1 H1 (upd H1 p (.tup vs)):=⟨λ_ _ q=>q,λa xs q=>zcP hp _ _ q,λa c q=>zcP hp _ _ q⟩
  exact ret _ _ r1 (.tup ds) S1 (e1.trans x) (rel1.same (zcP hp)) ((p1.ext x).tupR zcw) h1⟩
theorem zeg {r:List Addr}{p:Addr}{H:Hp}{n:Nat}(h:r.length=n):Rp (r++[p]) H (.ref n) (.ref p):=.ref (by subst h; simp)
theorem zbI {t:TDA}(h:PDA X Z es t):PD X Z (.List es pos) (dLst t):=
 za5 (zv3 h) λσ H Qv ⟨r,dl,S,Q,rs,rel,h,ret⟩=>⟨r,dl,S,_,rs,rel,h,λvs H1 r1 ds S1 e1 rel1 p1 h1=>by
  obtain⟨hl,h1⟩:=zlo h1
  refine⟨by rw[← p1.1]; exact ze7 hl,λp hp=>?_⟩
  obtain⟨rel2,x⟩:=rel1.push hp p1
  exact ret _ _ _ (.ref S1.length) _ (e1.trans x) rel2 (zeg rel1.len) h1⟩
def wIx:W2:=λx y S Q=>match x,y with
 | .tup xs,.int i=>match atI xs i with
  | some d=>Q d S
  | none=>False
 | .ref n,.int i=>match lAt S n with
  | some o=>match atI (zah o) i with
   | some d=>Q d S
   | none=>False
  | none=>False
 | _,_=>False
theorem zo7 {r:List Addr}{H:Hp}{ds:List D}{vs:List V}{i:Int}{d:D}(h:Rps r H ds vs)(e:atI ds i=some d):∃v,atI vs i=some v∧Rp r H d v:=by
  unfold atI at e ⊢
  rw[← h.1]
  cases q:ixN ds.length i with
  | none=>
   rw[q] at e
   cases e
  | some j=>
    rw[q] at e
    exact h.get e
theorem do_ix:IxR X (upO X.K Z wIx):=by
 intro value slice pins s σ H x y v u Qv I rx ry h hs
 obtain⟨r,S,dx,dy,Q,rel,px,py,q,ret⟩:=h
 cases px with
 | @tup ds xs a e1 l1 f1=>
  cases py with
  | int i=>
   have q':(match atI ds i with | some d=>Q d S | none=>False):=q
   split at q'
   ·rename_i d e
    obtain⟨w,hw,pw⟩:=zo7 ⟨l1,f1⟩ e
    exact zrV value slice pins s σ H _ _ v u Qv I rx ry ⟨a,xs,i,w,rfl,rfl,SqT.of e1,hw,ret w H r d S Ext.refl rel pw q'⟩ hs
   ·exact q'.elim
  | _=>exact(show False from q).elim
 | @ref n a e1=>
  cases py with
  | int i=>
   have q':(match lAt S n with | some o=>(match atI (zah o) i with | some d=>Q d S | none=>False) | none=>False):=q
   split at q'
   ·rename_i o eo
    obtain⟨eo,eL⟩:=zbk eo
    obtain⟨a',ha,ob⟩:=rel.at eo
    rw[e1] at ha; cases ha
    obtain⟨xs,sq,pr⟩:=ob.list eL
    split at q'
    ·rename_i d e
     obtain⟨w,hw,pw⟩:=zo7 pr e
     exact zwk value slice pins s σ H _ _ v u Qv I rx ry ⟨a,xs,i,w,rfl,rfl,sq,hw,ret w H r d S Ext.refl rel pw q'⟩ hs
    ·exact q'.elim
   ·exact q'.elim
  | _=>exact(show False from q).elim
 | _=>exact(show False from q).elim
theorem zat (ha:PD X Z a ta)(hb:PD X Z b tb)(hs:zm5 b):PD X Z (.Subscript a b pos) (dOp wIx ta tb):=za5 (pe_ix do_ix ha hb hs) λ_ _ _ h=>zjY h
end
structure Bk (fs:List Addr)(H H':Hp)(B h:Heap)(ea:Addr):Prop where
 trk:∀b u,H' b=some u→∃o,B.get? b=some o
 old:∀b o,h.get? b=some o→H b=none→b ∉ fs→B.get? b=some o
 all:∀b o,h.get? b=some o→b ∉ fs→∃o',B.get? b=some o'
 new:H' ea=none
def CXE (P:Program)(w:World):CXT:=λouter H s E e s'=>∃(ea c:Addr) (a0:Value) (B:Heap) (H':Hp),e=.ref ea∧s'.os=s.os∧AllBare s'.gens∧Un (frs outer) [] H H' s.heap s'.heap∧HOk P w H' s'.heap∧
 Heap.FlyingW B outer ea (.ref c) a0 s'.heap∧Bk (frs outer) H H' B s.heap ea∧E (.ref c) none H'
section
variable {X:Cx}{pins:List (Addr×Obj)}{σ:St}{H:Hp}{s:Shared}
end
section
variable {P:Program}{w:World}{K:PySem.W.Frag}{mg:Str→Option Value}{base:Heap}{N:List Str}{qual:Str}{scope:Scope}{f:Addr}{cdv:Value}{A:Around}{outer:List Env}{s0:Shared}{H0:Hp}{E:XK}
end
structure Xc (K:PySem.W.Frag)(mg:Str→Option Value)(x:Str)(C:Addr)(bm:List Value)(nid:String):Prop where
 bound:mg x=some (.ref C)
 ex:PySem.W.excIn K C bm nid=true
abbrev WC:=List D→Sto→DK→Prop
abbrev Sd:=List D→Sto→DK→(Addr→Sto→Prop)→Prop
def upC (K:PySem.W.Frag)(Z:Zx)(w:WC):List V→Hp→VK→Prop:=λxs H Qv=>∃r S ds Q,Rel K Z r S H∧Rps r H ds xs∧w ds S Q∧Ret K Z r H Q Qv
def upF (K:PySem.W.Frag)(sd:Sd):Sp:=λvs H Qv E=>∃ex:Addr→Sto→Prop,upC K (Zc ex E) (λds S Q=>sd ds S Q ex) vs H Qv
def zl3 (w:WC)(t:TDA):TDE:=λdl S Q=>t dl S λds S1=>w ds S1 Q
def zlG (ex:Ev→Addr→Sto→Prop)(sd:Sd)(t:TDA):TDE:=λdl S Q=>t dl S λds S1=>sd ds S1 Q (ex dl)
def zdi (X:Cx)(W:St→XK):Prop:=∀(pins:List (Addr×Obj)) (σ:St) (H:Hp) (s:Shared) (e:Value) (s':Shared),Inv X pins σ H s→CXE X.prog X.w X.stack H s (W σ) e s'→X.xe e s'
section
variable {X:Cx}{k:Nat}{f:Addr}{fd:FuncData}{ps:List Str}{sp:Sp}{W:St→XK}{x:Str}{p pos:Pos}{e:Expr}{es:List Expr}{t:TA}
theorem znQ {pins:List (Addr×Obj)}{σ:St}{H:Hp}{s:Shared}{Q:VK}{us:List Value}{vs:List V}(F:za6 X.prog X.w X.K X.mg X.base (CXE X.prog X.w) k f fd ps sp)(hr:zaK k X.A)(hb:zbP X.K fd ps [])(hx:zdi X W)
  (I:Inv X pins σ H s)(r:zau vs us)(h:sp vs H Q (W σ)):wpAny (model X.prog X.w) X.A (call (.ref f) us) (EP X pins σ Q) X.xe s:=by
 have hl:us.length=ps.length:=by rw[← r.length]; exact F.len _ _ _ _ h
 have hb':=hb s us I.kIn (by rw[Vbe]; exact hl)
 rw[Vbe] at hb'
 refine wpAny_call (codeAny_mono (F.run X.A X.stack s H ⟨us,[]⟩ us vs Q (W σ) hr I.env0 hb' r h) λz s' hq=>?_)
 cases z with
 | error ev=>exact hx pins σ H s ev s' I hq
 | ok fl=>
  cases fl with
  | ret u=>exact I.after hq
  | _=>exact False.elim hq
theorem zu7 (F:za6 X.prog X.w X.K X.mg X.base (CXE X.prog X.w) k f fd ps sp)(hr:zaK k X.A)(hg:Gl X x)(hm:X.mg x=some (.ref f))(hk:PySem.W.keepIn X.K (.ref f)=true)(hb:zbP X.K fd ps [])(hx:zdi X W)
  (ha:PA X (e::es) t)(hdb:(x==("__debug__":Str))=false)(he:starEach (e::es) X.env=(false,eval e X.env)::starEach es X.env)(hpl:(backTo pos (starEach es X.env)).any (·.1)=false):
  PE X (.Call (.Name x p) (e::es) [] pos) (λσ H Q=>t σ H λvs H1=>sp vs H1 Q (W σ)):=by
 intro pins s σ H Q I h
 refine wpAny_Call_Name_kw (zq5 I hg hm ?_ hdb)
 exact PySem.W.callWith_K (h₀:=X.base) I.ok.mod.kin hk (thn (ha pos pins s σ H _ I h) λus s1 ⟨vs,H1,I1,r,q⟩=>⟨I1.kIn,znQ F hr hb hx I1 r q⟩) he hpl
end
section
variable {X:Cx}{Z:Zx}{x:Str}{p pos:Pos}{e:Expr}{es:List Expr}{t:TDA}{id T:String}{w:WC}
theorem zp1 {σ:St}{H:Hp}{Qv:VK}(h:up X.K Z (zl3 w t) σ H Qv):upA X.K Z t σ H λvs H1=>upC X.K Z w vs H1 Qv:=by
 obtain⟨r,dl,S,Q,rs,rel,h,ret⟩:=h
 exact⟨r,dl,S,_,rs,rel,h,λvs H1 r1 ds S1 e1 rel1 p1 h1=>⟨r1,S1,ds,Q,rel1,p1,h1,ret.ext e1⟩⟩
theorem zaT (hc:zbc X (.builtin id) (upC X.K Z w))(hg:Gl X x)(hm:X.mg x=none)(hv:bootBuiltins x=some (.builtin id))(ha:PDA X Z (e::es) t)(hn:x≠"__name__":=by decide)(hdb:(x==("__debug__":Str))=false:=by decide)
  (he:starEach (e::es) X.env=(false,eval e X.env)::starEach es X.env:=by rfl)(hpl:(backTo pos (starEach es X.env)).any (·.1)=false:=by rfl):PD X Z (.Call (.Name x p) (e::es) [] pos) (zl3 w t):=
 za5 (zoL hc hg hm hv ha hn hdb he hpl) λ_ _ _ h=>zp1 h
theorem zn0 (hc:zbc X (.type T) (upC X.K Z w))(hg:Gl X x)(hm:X.mg x=none)(hv:bootBuiltins x=some (.type T))(ha:PDA X Z (e::es) t)(hn:x≠"__name__":=by decide)(hdb:(x==("__debug__":Str))=false:=by decide)
  (he:starEach (e::es) X.env=(false,eval e X.env)::starEach es X.env:=by rfl)(hpl:(backTo pos (starEach es X.env)).any (·.1)=false:=by rfl):PD X Z (.Call (.Name x p) (e::es) [] pos) (zl3 w t):=
 za5 (zyo hc hg hm hv ha hn hdb he hpl) λ_ _ _ h=>zp1 h
theorem zoj {sd:Sd}{r:List Addr}{S:Sto}{H:Hp}{dl:Ev}{σ:St}{ds:List D}{vs:List V}{Q:DK}{Qv:VK}(rs:Rs r H dl σ)(rel:Rel X.K Z r S H)(p:Rps r H ds vs)(h:sd ds S Q (Z.ex dl))(ret:Ret X.K Z r H Q Qv):upF X.K sd vs H Qv (Z.w σ):=
 ⟨Z.ex dl,r,S,ds,Q,⟨rel.b,λ_ _ c H' r' S' x _ rb q=>rel.xw dl σ c H' r' S' x (rs.ext x) rb q⟩,p,h,λv H' r' d S' x rel' pv q=>ret v H' r' d S' x ⟨rel'.b,rel.xw.ext x⟩ pv q⟩
theorem zvC {k:Nat}{f:Addr}{fd:FuncData}{ps:List Str}{sd:Sd}(F:za6 X.prog X.w X.K X.mg X.base (CXE X.prog X.w) k f fd ps (upF X.K sd))(hr:zaK k X.A)(hg:Gl X x)(hm:X.mg x=some (.ref f))(hk:PySem.W.keepIn X.K (.ref f)=true)
  {ex:Ev→Addr→Sto→Prop}{W:St→XK}(hb:zbP X.K fd ps [])(hx:zdi X W)(ha:PDA X ⟨ex,W⟩ (e::es) t)(hdb:(x==("__debug__":Str))=false:=by decide)(he:starEach (e::es) X.env=(false,eval e X.env)::starEach es X.env:=by rfl)
  (hpl:(backTo pos (starEach es X.env)).any (·.1)=false:=by rfl):PD X ⟨ex,W⟩ (.Call (.Name x p) (e::es) [] pos) (zlG ex sd t):=
 za5 (zu7 F hr hg hm hk hb hx ha hdb he hpl) λσ H Qv ⟨r,dl,S,Q,rs,rel,h,ret⟩=>⟨r,dl,S,_,rs,rel,h,λvs H1 r1 ds S1 e1 rel1 p1 h1=>zoj (Z:=⟨ex,W⟩) (rs.ext e1) rel1 p1 h1 (ret.ext e1)⟩
def wAbs:WC:=λds S Q=>match ds with
 | [.int i]=>Q (.int (if i<0 then -i else i)) S
 | _=>False
theorem zwi:zbc X (.builtin "abs") (upC X.K Z wAbs):=zov ztM λxs H Qv ⟨r,S,ds,Q,rel,ps,q,ret⟩=>by
 unfold wAbs at q
 split at q
 ·rename_i i
  obtain⟨v,vs,rfl,p1,p2⟩:=ps.uncons
  have z:=p2.unnil
  subst z
  cases p1
  exact⟨i,rfl,ret _ _ _ _ _ Ext.refl rel (.int _) q⟩
 ·exact q.elim
def zcl:List D→Option (List Int)
 | []=>some []
 | .int i::r=>(zcl r).map (i::·)
 | _::_=>none
def zd5 (le:Int→Int→Prop)(two:Int→Int→Int):WC:=λds S Q=>match ds with
 | [.int i,.int j]=>Q (.int (two i j)) S
 | [.ref n]=>match lAt S n with
  | some o=>match zcl (zah o) with
   | some xs=>xs≠[]∧∀m,m∈xs→(∀y∈xs,le y m)→Q (.int m) S
   | none=>False
  | none=>False
 | _=>False
abbrev wMax:WC:=zd5 (λy m=>y≤m) λi j=>if j > i then j else i
abbrev wMin:WC:=zd5 (λy m=>m≤y) λi j=>if j<i then j else i
theorem zlF {r:List Addr}{H:Hp}:∀ {ds:List D} {ns:List Int} {vs:List V} {us:List Value},zcl ds=some ns→Rps r H ds vs→zau vs us→∃xs:List (Int×Tok),us.toArray=intItems xs.toArray∧xs.map (·.1)=ns
 | [],ns,vs,us,e,p,q=>by
  have z:=p.unnil
  subst z
  cases q
  simp[zcl] at e
  subst e
  exact⟨[],by simp[intItems],rfl⟩
 | d::ds,ns,vs,us,e,p,q=>by
  obtain⟨v,vs',rfl,p1,p2⟩:=p.uncons
  cases d with
  | int i=>
   cases p1
   cases q with
   | cons q1 q2=>
    obtain⟨t,rfl⟩:=q1
    simp only[zcl,Vaj] at e
    obtain⟨ms,e1,rfl⟩:=e
    obtain⟨xs,h1,h2⟩:=zlF e1 p2 q2
    refine⟨(i,t)::xs,?_,by simp[h2]⟩
    simp[intItems] at h1 ⊢
    exact h1
  | _=>simp[zcl] at e
theorem zra (f:Nat→Int):∀k j,j≤k→f j≤f (argBest (λi j=>decide (f i > f j)) k)
 | 0,j,h=>by
  have z:j=0:=by omega
  subst z
  exact Vat _
 | k+1,j,h=>by
  have ih:=zra f k
  unfold argBest
  split
  ·rename_i hb
   have hb':f (k+1) > f (argBest (λi j=>decide (f i > f j)) k):=of_decide_eq_true hb
   by_cases z:j=k+1
   ·subst z; exact Vat _
   ·have:=ih j (by omega); omega
  ·rename_i hb
   have hb':¬ f (k+1) > f (argBest (λi j=>decide (f i > f j)) k):=λq=>hb (decide_eq_true q)
   by_cases z:j=k+1
   ·subst z; omega
   ·exact ih j (by omega)
theorem zpP (f:Nat→Int):∀k j,j≤k→f (argBest (λi j=>decide (f i<f j)) k)≤f j
 | 0,j,h=>by
  have z:j=0:=by omega
  subst z
  exact Vat _
 | k+1,j,h=>by
  have ih:=zpP f k
  unfold argBest
  split
  ·rename_i hb
   have hb':f (k+1)<f (argBest (λi j=>decide (f i<f j)) k):=of_decide_eq_true hb
   by_cases z:j=k+1
   ·subst z; exact Vat _
   ·have:=ih j (by omega); omega
  ·rename_i hb
   have hb':¬ f (k+1)<f (argBest (λi j=>decide (f i<f j)) k):=λq=>hb (decide_eq_true q)
   by_cases z:j=k+1
   ·subst z; omega
   ·exact ih j (by omega)
theorem zmQ (bt:Nat→Nat→Bool):∀k,argBest bt k≤k
 | 0=>Vaa _
 | k+1=>by
  unfold argBest
  split
  ·exact Vaa _
  ·exact Nat.le_succ_of_le (zmQ bt k)
theorem znd {xs:List (Int×Tok)}{ns:List Int}(h:xs.map (·.1)=ns){j:Nat}{y:Int}(e:ns[j]?=some y):numAt xs.toArray j=y:=by
  subst h
  unfold numAt
  rw[Vaf] at e
  simp only[List.getElem?_toArray]
  cases q:xs[j]? with
  | none=>
   rw[q] at e
   cases e
  | some z=>rw[q] at e; simpa using e
theorem zqx {xs:List (Int×Tok)}{ns:List Int}(h:xs.map (·.1)=ns){j:Nat}(hj:j<ns.length):numAt xs.toArray j∈ns:=by
 have e:ns[j]?=some ns[j]:=by simp[hj]
 rw[znd h e]
 exact VaB hj
theorem znM (hc:X.calm=true):zbc X (.builtin "max") (upC X.K Z wMax):=by
 intro pins s σ H xs us Qv I rv h
 obtain⟨r,S,ds,Q,rel,ps,q,ret⟩:=h
 unfold wMax zd5 at q
 split at q
 ·rename_i i j
  obtain⟨v,vs,rfl,p1,p2⟩:=ps.uncons
  obtain⟨v2,vs2,rfl,p3,p4⟩:=p2.uncons
  have z:=p4.unnil
  subst z
  cases p1
  cases p3
  exact zvA hc pins s σ H _ us Qv I rv ⟨i,j,rfl,ret _ _ _ _ _ Ext.refl rel (.int _) q⟩
 ·rename_i n
  obtain⟨v,vs,rfl,p1,p2⟩:=ps.uncons
  have z:=p2.unnil
  subst z
  split at q
  ·rename_i o eo
   split at q
   ·rename_i ns en
    obtain⟨hne,q⟩:=q
    obtain⟨eo,eL⟩:=zbk eo
    obtain⟨a,ha,ob⟩:=rel.at eo
    cases p1 with
    | ref h1=>
     rw[h1] at ha; cases ha
     obtain⟨ys,sq,pr⟩:=ob.list eL
     obtain⟨u,rfl,ru⟩:=zdP rv
     cases ru
     obtain⟨its,ri,pl,hz⟩:=I.list sq
     obtain⟨zs,hz1,hz2⟩:=zlF en pr ri
     have hl:zs.length=ns.length:=by rw[← hz2,Vab]
     have hpos:0<ns.length:=List.length_pos_iff.mpr hne
     have isl:=pl.isList
     rw[hz1] at isl
     refine max_intList (I.ok.hd hc) isl (by simp; omega) λv h' tk hv hk=>?_
     have hvi:=intItems_at hv
     obtain⟨t,rfl⟩:=hvi
     have hb:=zmQ (λi j=>decide (numAt zs.toArray i > numAt zs.toArray j)) (zs.toArray.size-1)
     have hsz:zs.toArray.size=ns.length:=by simp[hl]
     refine⟨.int _,H,I.kept hk,⟨_,rfl⟩,ret _ _ _ _ _ Ext.refl rel (.int _) (q _ (zqx hz2 (by omega)) λy hy=>?_)⟩
     obtain⟨j,hj,ej⟩:=VaJ.mp hy
     have e1:=znd hz2 (show ns[j]?=some y by simp[hj,ej])
     rw[← e1]
     exact zra _ _ j (by omega)
   ·exact q.elim
  ·exact q.elim
 ·exact q.elim
theorem zoI (hc:X.calm=true):zbc X (.builtin "min") (upC X.K Z wMin):=by
 intro pins s σ H xs us Qv I rv h
 obtain⟨r,S,ds,Q,rel,ps,q,ret⟩:=h
 unfold wMin zd5 at q
 split at q
 ·rename_i i j
  obtain⟨v,vs,rfl,p1,p2⟩:=ps.uncons
  obtain⟨v2,vs2,rfl,p3,p4⟩:=p2.uncons
  have z:=p4.unnil
  subst z
  cases p1
  cases p3
  exact zwc hc pins s σ H _ us Qv I rv ⟨i,j,rfl,ret _ _ _ _ _ Ext.refl rel (.int _) q⟩
 ·rename_i n
  obtain⟨v,vs,rfl,p1,p2⟩:=ps.uncons
  have z:=p2.unnil
  subst z
  split at q
  ·rename_i o eo
   split at q
   ·rename_i ns en
    obtain⟨hne,q⟩:=q
    obtain⟨eo,eL⟩:=zbk eo
    obtain⟨a,ha,ob⟩:=rel.at eo
    cases p1 with
    | ref h1=>
     rw[h1] at ha; cases ha
     obtain⟨ys,sq,pr⟩:=ob.list eL
     obtain⟨u,rfl,ru⟩:=zdP rv
     cases ru
     obtain⟨its,ri,pl,hz⟩:=I.list sq
     obtain⟨zs,hz1,hz2⟩:=zlF en pr ri
     have hl:zs.length=ns.length:=by rw[← hz2,Vab]
     have hpos:0<ns.length:=List.length_pos_iff.mpr hne
     have isl:=pl.isList
     rw[hz1] at isl
     refine min_intList (I.ok.hd hc) isl (by simp; omega) λv h' tk hv hk=>?_
     have hvi:=intItems_at hv
     obtain⟨t,rfl⟩:=hvi
     have hb:=zmQ (λi j=>decide (numAt zs.toArray i<numAt zs.toArray j)) (zs.toArray.size-1)
     have hsz:zs.toArray.size=ns.length:=by simp[hl]
     refine⟨.int _,H,I.kept hk,⟨_,rfl⟩,ret _ _ _ _ _ Ext.refl rel (.int _) (q _ (zqx hz2 (by omega)) λy hy=>?_)⟩
     obtain⟨j,hj,ej⟩:=VaJ.mp hy
     have e1:=znd hz2 (show ns[j]?=some y by simp[hj,ej])
     rw[← e1]
     exact zpP _ _ j (by omega)
   ·exact q.elim
  ·exact q.elim
 ·exact q.elim
def zeS:WC:=λds S Q=>match ds with
 | [.tup xs]=>Q (.int xs.length) S
 | [.ref n]=>match lAt S n with
  | some o=>Q (.int (zah o).length) S
  | none=>False
 | _=>False
theorem zbo:zbc X (.builtin "len") (upC X.K Z zeS):=zov zwW λxs H Qv ⟨r,S,ds,Q,rel,ps,q,ret⟩=>by
 unfold zeS at q
 split at q
 ·rename_i ys
  obtain⟨v,vs,rfl,p1,p2⟩:=ps.uncons
  have z:=p2.unnil
  subst z
  obtain⟨a,zs,rfl,h1,h2⟩:=p1.untup
  exact⟨a,zs,rfl,.inr (SqT.of h1),by rw[← h2.1]; exact ret _ _ _ _ _ Ext.refl rel (.int _) q⟩
 ·rename_i n
  obtain⟨v,vs,rfl,p1,p2⟩:=ps.uncons
  have z:=p2.unnil
  subst z
  split at q
  ·rename_i o eo
   obtain⟨eo,eL⟩:=zbk eo
   obtain⟨a,ha,ob⟩:=rel.at eo
   cases p1 with
   | ref h1=>
    rw[h1] at ha; cases ha
    obtain⟨ys,sq,pr⟩:=ob.list eL
    exact⟨_,ys,rfl,.inl sq,by rw[← pr.1]; exact ret _ _ _ _ _ Ext.refl rel (.int _) q⟩
  ·exact q.elim
 ·exact q.elim
def zdc (t T:String):Bool:=t==T||(t == "bool"&&T == "int")
def zqo (T:String)(te:TDE):TDE:=λdl S Q=>te dl S λd S1=>match d with
 | .ref _=>False
 | .exc _=>False
 | .non=>Q (.bl (zdc "NoneType" T)) S1
 | .bl _=>Q (.bl (zdc "bool" T)) S1
 | .int _=>Q (.bl (zdc "int" T)) S1
 | .str _=>Q (.bl (zdc "str" T)) S1
 | .tup _=>Q (.bl (zdc "tuple" T)) S1
def Kit (K:PySem.W.Frag)(T:String):Prop:=∀t∈["NoneType","bool","int","str","tuple"],PySem.W.kitOne K (.type t) (.type T)=some (zdc t T)
def rInst (K:PySem.W.Frag):List V→Hp→VK→Prop:=λxs H Qv=>∃x T t b,xs=[x,.ty T]∧zcn K H x t∧PySem.W.kitOne K t (.type T)=some b∧Qv (.bl b) H
theorem zqe:zbc X (.builtin "isinstance") (rInst X.K):=by
 intro pins s σ H xs us Q I r h
 obtain⟨x,T,t,b,rfl,ty,e,q⟩:=h
 obtain⟨u,w',rfl,r1,r2⟩:=znn r
 cases r2
 exact zu5 I r1 ty e λtk=>⟨.bl b,H,I.tok tk,rfl,q⟩
theorem zja {T:String}{te:TDE}{y:Str}{p2:Pos}(KT:Kit X.K T)(hg:Gl X "isinstance")(hm:X.mg "isinstance"=none)(hg2:Gl X y)(hm2:X.mg y=none)(hv2:bootBuiltins y=some (.type T))(ha:PD X Z e te)
  (hv:bootBuiltins "isinstance"=some (.builtin "isinstance"):=by exact PyProof.Rows.Boot.«isinstance»)
  (hn2:y≠"__name__":=by decide)(hd2:(y==("__debug__":Str))=false:=by decide)(he2:starEach [e,.Name y p2] X.env=(false,eval e X.env)::starEach [.Name y p2] X.env:=by rfl)
  (he3:starEach [.Name y p2] X.env=(false,eval (.Name y p2) X.env)::starEach [] X.env:=by rfl)(hpl:(backTo pos (starEach [.Name y p2] X.env)).any (·.1)=false:=by rfl):
  PD X Z (.Call (.Name "isinstance" p) [e,.Name y p2] [] pos) (zqo T te):=
 za5 (zoL zqe hg hm hv (zfb ha (zfb (zqL (v:=.ty T) hg2 hm2 hv2 rfl hn2 hd2) zlh he3) he2) (by decide) (by decide) he2 hpl) λσ H Qv ⟨r,dl,S,Q,rs,rel,h,ret⟩=>
  ⟨r,dl,S,_,rs,rel,h,λv H1 r1 d S1 e1 rel1 p1 h1=>by
   cases p1 with
   | non=>exact⟨_,T,_,_,rfl,.non,KT _ (by simp),ret _ _ _ _ _ e1 rel1 (.bl _) h1⟩
   | bl b=>exact⟨_,T,_,_,rfl,.bl b,KT _ (by simp),ret _ _ _ _ _ e1 rel1 (.bl _) h1⟩
   | int b=>exact⟨_,T,_,_,rfl,.int b,KT _ (by simp),ret _ _ _ _ _ e1 rel1 (.bl _) h1⟩
   | str b=>exact⟨_,T,_,_,rfl,.str b,KT _ (by simp),ret _ _ _ _ _ e1 rel1 (.bl _) h1⟩
   | tup e2 _ _=>exact⟨_,T,_,_,rfl,.tup e2,KT _ (by simp),ret _ _ _ _ _ e1 rel1 (.bl _) h1⟩
   | ref _=>exact(show False from h1).elim
   | exc _=>exact(show False from h1).elim⟩
end
section
variable {X:Cx}{Z:Zx}{st:Stmt}{zbj:List Stmt}{t u:TDS}{e:Expr}{te:TDE}{pos:Pos}
def zfT:TDS:=λE dl S=>E.nx dl S
def zfK (t u:TDS):TDS:=λE dl S=>t { nx:=λdl' S'=>u E dl' S',rt:=E.rt,bk:=E.bk,ct:=E.ct } dl S
theorem zaW:zcL X Z [] zfT:=zqB zxn λF σ H ⟨r,dl,S,E,rs,rel,h,ret⟩=>ret.nx σ H r dl S Ext.refl rs rel h
theorem zao (h1:PDS X Z st t)(h2:zcL X Z zbj u):zcL X Z (st::zbj) (zfK t u):=
 zqB (ztb h1 h2) λF σ H ⟨r,dl,S,E,rs,rel,h,ret⟩=>⟨r,dl,S,_,rs,rel,h,λσ' H' r' dl' S' x rs' rel' q=>⟨r',dl',S',E,rs',rel',q,ret.ext x⟩,ret.bk,ret.ct,ret.rt⟩
theorem zai (h1:PDS X Z st t):zcL X Z [st] t:=zt6 h1
def zqG (te:TDE):TDS:=λE dl S=>te dl S λ_ S1=>E.nx dl S1
theorem zds (he:PD X Z e te)(hs:swapsWith e none pos.line X.env=pure false:=by rfl):PDS X Z (.Expr e pos) (zqG te):=
 zbZ (ztm he hs) λF σ H ⟨r,dl,S,E,rs,rel,h,ret⟩=>⟨r,dl,S,_,rs,rel,h,λv H1 r1 d S1 x rel1 p q=>ret.nx σ H1 r1 dl S1 x (rs.ext x) rel1 q⟩
def dRet (te:TDE):TDS:=λE dl S=>te dl S E.rt
theorem zas (he:PD X Z e te):PDS X Z (.Return (some e) pos) (dRet te):=
 zbZ (zsJ he) λF σ H ⟨r,dl,S,E,rs,rel,h,ret⟩=>⟨r,dl,S,_,rs,rel,h,ret.rt⟩
def dRetN:TDS:=λE _ S=>E.rt .non S
def dIf (c:TDT)(t u:TDS):TDS:=λE dl S=>c dl S λk S1=>if k=true then t E dl S1 else u E dl S1
theorem zaR {c:Expr}{a b:List Stmt}{tc:TDT}(hc:PDT X Z c tc)(ha:zcL X Z a t)(hb:zcL X Z b u):PDS X Z (.If c a b pos) (dIf tc t u):=
 zbZ (ps_if hc ha hb) λF σ H ⟨r,dl,S,E,rs,rel,h,ret⟩=>⟨r,dl,S,_,rs,rel,h,λk H1 r1 S1 x rel1 q=>by
  cases k with
  | true=>exact zbD ⟨r1,dl,S1,E,rs.ext x,rel1,(by simpa using q),ret.ext x⟩
  | false=>exact zbn ⟨r1,dl,S1,E,rs.ext x,rel1,(by simpa using q),ret.ext x⟩⟩
def zgS (i:Nat)(te:TDE):TDS:=λE dl S=>te dl S λd S1=>E.nx (dl.set i (some d)) S1
theorem zaA {i:Nat}{x:Str}{pos':Pos}(hN:X.N.Nodup)(hi:X.N[i]?=some x)(hx:Loc X.env.scope x)(he:PD X Z e te)(hs:swapsWith e (some (.Name x pos')) pos.line X.env=pure false:=by rfl)
  (hf:X.fn x=true∨X.env.scope.names.lookup x=some .local:=by first | exact .inl rfl | exact .inr rfl | assumption):PDS X Z (.Assign [.Name x pos'] e pos) (zgS i te):=
 zbZ (ztV hN hi hx he hs hf) λF σ H ⟨r,dl,S,E,rs,rel,h,ret⟩=>⟨r,dl,S,_,rs,rel,h,λv H1 r1 d S1 x rel1 p q=>ret.nx _ H1 r1 _ S1 x ((rs.ext x).set i p) rel1 q⟩
def zxK (c:TDT)(tb:TDS):TDS:=λE dl S=>∃W:Nat→Ev→Sto→Prop,(∃m,W m dl S)∧∀m dl S,W m dl S→
 c dl S λk S1=>if k=true then tb { nx:=λdl' S'=>∃m',m'<m∧W m' dl' S',rt:=E.rt,bk:=E.nx,ct:=λdl' S'=>∃m',m'<m∧W m' dl' S' } dl S1 else E.nx dl S1
theorem zs6 {c:Expr}{body:List Stmt}{tc:TDT}{tb:TDS}(hp:PassesOwn (model X.prog X.w) X.A X.env X.xe)(hc:PDT X Z c tc)(hb:zcL X Z body tb):PDS X Z (.While c body [] pos) (zxK tc tb):=
 zbZ (zt1 hp hc hb) λF σ H ⟨r,dl,S,E,rs,rel,⟨W,⟨m0,w0⟩,turn⟩,ret⟩=>by
  refine⟨λm σ' H'=>∃r' dl' S',Ext r r' H H'∧Rs r' H' dl' σ'∧Rel X.K Z r' S' H'∧W m dl' S',⟨m0,r,dl,S,Ext.refl,rs,rel,w0⟩,?_⟩
  rintro m σ1 H1 ⟨r1,dl1,S1,x1,rs1,rel1,w1⟩
  refine⟨r1,dl1,S1,_,rs1,rel1,turn m dl1 S1 w1,λk H2 r2 S2 x2 rel2 q2=>?_⟩
  cases k with
  | true=>
   refine zbD ⟨λσ' H'=>∃m',m'<m∧∃r' dl' S',Ext r r' H H'∧Rs r' H' dl' σ'∧Rel X.K Z r' S' H'∧W m' dl' S',λ_ _ z=>z,r2,dl1,S2,_,rs1.ext x2,rel2,(by simpa using q2),?_⟩
   have go:∀σ' H' r' dl' S',Ext r2 r' H2 H'→Rs r' H' dl' σ'→Rel X.K Z r' S' H'→(∃m',m'<m∧W m' dl' S')→∃m',m'<m∧∃r' dl' S',Ext r r' H H'∧Rs r' H' dl' σ'∧Rel X.K Z r' S' H'∧W m' dl' S':=
    λσ' H' r' dl' S' x rs' rel' ⟨m',hm,w'⟩=>⟨m',hm,r',dl',S',x1.trans (x2.trans x),rs',rel',w'⟩
   exact⟨go,λσ' H' r' dl' S' x rs' rel' q=>ret.nx σ' H' r' dl' S' (x1.trans (x2.trans x)) rs' rel' q,go,ret.rt.ext (x1.trans x2)⟩
  | false=>exact zbn (ret.nx σ1 H2 r2 dl1 S2 (x1.trans x2) (rs1.ext x2) rel2 (by simpa using q2))
def dFor (i:Nat)(tl:TDE)(tb:TDS):TDS:=λE dl S=>tl dl S λd S1=>match d with
 | .ref n=>(lAt S1 n).isSome=true∧∃W:Nat→Nat→Ev→Sto→Prop,(∃m,W 0 m dl S1)∧∀k m dl S,W k m dl S→match lAt S n with
  | some o=>match (zah o)[k]? with
   | some x=>tb { nx:=λdl' S'=>∃m',m'<m∧W (k+1) m' dl' S',rt:=E.rt,bk:=E.nx,ct:=λdl' S'=>∃m',m'<m∧W (k+1) m' dl' S' } (dl.set i (some x)) S
   | none=>E.nx dl S
  | none=>False
 | _=>False
theorem zem {i:Nat}{x:Str}{pos':Pos}{iter:Expr}{body:List Stmt}{tl:TDE}{tb:TDS}(hp:PassesOwn (model X.prog X.w) X.A X.env X.xe)(hc:X.calm=true)(hN:X.N.Nodup)(hi:X.N[i]?=some x)(hx:Loc X.env.scope x)
  (hl:PD X Z iter tl)(hb:zcL X Z body tb)(hf:X.fn x=true∨X.env.scope.names.lookup x=some .local:=by first | exact .inl rfl | exact .inr rfl | assumption)
  (hs:∀y,foldedSetIterable iter X.env y=pure y:=by intro _; rfl):PDS X Z (.For (.Name x pos') iter body [] pos) (dFor i tl tb):=
 zbZ (znf hp hc (zoe hl) (zku hN hi hx hf) hb hs) λF σ H ⟨r,dl,S,E,rs,rel,h,ret⟩=>by
  refine⟨r,dl,S,_,rs,rel,h,λv H1 r1 d S1 x1 rel1 p1 q1=>?_⟩
  cases p1 with
  | @ref n a hn=>
   obtain⟨hsome,W,⟨m0,w0⟩,turn⟩:=q1
   have sql:∀ {r':List Addr} {S':Sto} {H':Hp} {o:Ob},Ext r1 r' H1 H'→Rel X.K Z r' S' H'→lAt S' n=some o→∃xs,SqL X.K H' a xs∧Rps r' H' (zah o) xs:=λ{r' S' H' o} x' rel' eo=>by
    obtain⟨eo,eL⟩:=zbk eo
    obtain⟨a',ha,ob⟩:=rel'.at eo
    rw[x'.adr n a hn] at ha; cases ha
    exact ob.list eL
   obtain⟨o1,eo1⟩:=VaZ.mp hsome
   obtain⟨xs1,sq1,_⟩:=sql Ext.refl rel1 eo1
   refine⟨a,rfl,⟨xs1,sq1⟩,λk m σ' H'=>∃r' dl' S',Ext r1 r' H1 H'∧Rs r' H' dl' σ'∧Rel X.K Z r' S' H'∧W k m dl' S',⟨m0,r1,dl,S1,Ext.refl,rs.ext x1,rel1,w0⟩,?_⟩
   rintro k m σ2 H2 ⟨r2,dl2,S2,x2,rs2,rel2,w2⟩
   have q:=turn k m dl2 S2 w2
   split at q
   ·rename_i o eo
    obtain⟨xs,sq,pr⟩:=sql x2 rel2 eo
    split at q
    ·rename_i y ey
     obtain⟨v,hv,pv⟩:=pr.get ey
     have go:∀ {r3:List Addr} {H3:Hp},Ext r2 r3 H2 H3→∀σ' H' r' dl' S',Ext r3 r' H3 H'→Rs r' H' dl' σ'→Rel X.K Z r' S' H'→(∃m',m'<m∧W (k+1) m' dl' S')→∃m',m'<m∧∃r' dl' S',Ext r1 r' H1 H'∧Rs r' H' dl' σ'∧Rel X.K Z r' S' H'∧W (k+1) m' dl' S':=
      λ{r3 H3} x3 σ' H' r' dl' S' x rs' rel' ⟨m',hm,w'⟩=>⟨m',hm,r',dl',S',x2.trans (x3.trans x),rs',rel',w'⟩
     refine .inr ⟨⟨xs,v,sq,hv⟩,λσ' H'=>∃m',m'<m∧∃r' dl' S',Ext r1 r' H1 H'∧Rs r' H' dl' σ'∧Rel X.K Z r' S' H'∧W (k+1) m' dl' S',λ_ _ z=>z,λv' H' y'=>?_⟩
     obtain⟨eH,y'⟩:=y'
     subst eH
     have ev:v'=v:=by
      have z:=y' xs sq
      rw[hv] at z; exact(Option.some.inj z).symm
     subst ev
     exact⟨r2,_,S2,_,rs2.set i pv,rel2,q,go Ext.refl,λσ' H' r' dl' S' x rs' rel' z=>ret.nx σ' H' r' dl' S' (x1.trans (x2.trans x)) rs' rel' z,go Ext.refl,ret.rt.ext (x1.trans x2)⟩
    ·rename_i ey
     have hlen:(zah o).length≤k:=VaV.mp ey
     exact .inl ⟨⟨xs,sq,by rw[← pr.1]; exact hlen⟩,ret.nx σ2 H2 r2 dl2 S2 (x1.trans x2) rs2 rel2 q⟩
   ·exact q.elim
  | _=>exact(show False from q1).elim
def dForR (i:Nat)(ta:TDA)(tb:TDS):TDS:=λE dl S=>ta dl S λds S1=>match ds with
 | [.int j]=>(-(2^62)≤j∧j<2^62)∧∃W:Nat→Ev→Sto→Prop,W 0 dl S1∧∀k dl S,W k dl S→
   if k<j.toNat then tb { nx:=λdl' S'=>W (k+1) dl' S',rt:=E.rt,bk:=E.nx,ct:=λdl' S'=>W (k+1) dl' S' } (dl.set i (some (.int k))) S else E.nx dl S
 | _=>False
theorem zgP {i:Nat}{x:Str}{pos2 pos' p:Pos}{a:Expr}{body:List Stmt}{ta:TDA}{tb:TDS}(hp:PassesOwn (model X.prog X.w) X.A X.env X.xe)(hc:X.calm=true)(hN:X.N.Nodup)(hi:X.N[i]?=some x)(hx:Loc X.env.scope x)
  (hg:Gl X "range")(hm:X.mg "range"=none)(ha:PDA X Z [a] ta)(hb:zcL X Z body tb)(hf:X.fn x=true∨X.env.scope.names.lookup x=some .local:=by first | exact .inl rfl | exact .inr rfl | assumption)
  (hs:∀y,foldedSetIterable (.Call (.Name "range" p) [a] [] pos) X.env y=pure y:=by intro _; rfl)(hst:starEach [a] X.env=[(false,eval a X.env)]:=by rfl):
  PDS X Z (.For (.Name x pos') (.Call (.Name "range" p) [a] [] pos) body [] pos2) (dForR i ta tb):=
 zbZ (znf hp hc (znt hg hm ha hst) (zku hN hi hx hf) hb hs) λF σ H ⟨r,dl,S,E,rs,rel,h,ret⟩=>by
  refine⟨r,dl,S,_,rs,rel,h,λvs H1 r1 ds S1 x1 rel1 p1 q1=>?_⟩
  split at q1
  ·rename_i j
   obtain⟨v,vs',rfl,p2,p3⟩:=p1.uncons
   have z:=p3.unnil
   subst z
   cases p2
   obtain⟨⟨b1,b2⟩,W,w0,turn⟩:=q1
   refine⟨j,rfl,b1,b2,λk m σ' H'=>m=j.toNat-k∧∃r' dl' S',Ext r1 r' H1 H'∧Rs r' H' dl' σ'∧Rel X.K Z r' S' H'∧W k dl' S',⟨j.toNat,by simp,r1,dl,S1,Ext.refl,rs.ext x1,rel1,w0⟩,?_⟩
   rintro k m σ2 H2 ⟨em,r2,dl2,S2,x2,rs2,rel2,w2⟩
   have q:=turn k dl2 S2 w2
   split at q
   ·rename_i hk
    have go:∀σ' H' r' dl' S',Ext r2 r' H2 H'→Rs r' H' dl' σ'→Rel X.K Z r' S' H'→W (k+1) dl' S'→∃r' dl' S',Ext r1 r' H1 H'∧Rs r' H' dl' σ'∧Rel X.K Z r' S' H'∧W (k+1) dl' S':=
     λσ' H' r' dl' S' x rs' rel' w'=>⟨r',dl',S',x2.trans x,rs',rel',w'⟩
    have pk:Rp r2 H2 (.int (k:Int)) (.int (0+(k:Int))):=by rw[Int.zero_add]; exact .int _
    refine .inr ⟨hk,λσ' H'=>∃r' dl' S',Ext r1 r' H1 H'∧Rs r' H' dl' σ'∧Rel X.K Z r' S' H'∧W (k+1) dl' S',λσ' H' z=>⟨j.toNat-(k+1),by omega,rfl,z⟩,λv' H' y'=>?_⟩
    obtain⟨eH,y'⟩:=y'
    subst eH
    subst y'
    exact⟨r2,_,S2,_,rs2.set i pk,rel2,q,go,λσ' H' r' dl' S' x rs' rel' z=>ret.nx σ' H' r' dl' S' (x1.trans (x2.trans x)) rs' rel' z,go,ret.rt.ext (x1.trans x2)⟩
   ·rename_i hk
    exact .inl ⟨by show j.toNat≤k; omega,ret.nx σ2 H2 r2 dl2 S2 (x1.trans x2) rs2 rel2 q⟩
  ·exact q1.elim
end
def zeJ (N:List Str)(ds:List D):Ev:=ds.map some++List.replicate (N.length-ds.length) none
theorem zvs {r:List Addr}{H:Hp}{N:List Str}{ds:List D}{vs:List V}(h:Rps r H ds vs):Rs r H (zeJ N ds) (L2.zcz N vs):=by
  refine⟨by simp[zeJ,L2.zcz,h.1],λi d e=>?_⟩
  unfold zeJ at e
  by_cases hi:i<ds.length
  · rw[Val (by simpa using hi),Vaf] at e
    cases q:ds[i]? with
    | none=>
   rw[q] at e
   cases e
    | some z=>
      rw[q] at e
      cases e
      obtain⟨v,hv,pv⟩:=h.get q
      refine⟨v,?_,pv⟩
      unfold L2.zcz
      rw[Val (by simpa [h.1] using hi),Vaf,hv]
      rfl
  · rw[VaG (by simpa using hi),List.getElem?_replicate] at e
    split at e <;> cases e
section
variable {P:Program}{w:World}{K:PySem.W.Frag}{mg:Str→Option Value}{base:Heap}
abbrev Z0:Zx:=Zc (λ_ _=>False) (λ_ _ _=>False)
theorem zeZ {X:Cx}:zdi X Z0.w:=λ_ _ _ _ _ _ _ h=>by
 obtain⟨_,_,_,_,_,_,_,_,_,_,_,_,q⟩:=h
 exact q.elim
theorem zaw {x qual:Str}{st:Stmt}{f:Addr}{fd:FuncData}{N ps:List Str}{k:Nat}{sd:Sd}(F:Fun K x qual st f fd)(Sc:zay N ps (zam st))(len:∀ds S Q ex,sd ds S Q ex→ds.length=ps.length)
  (hbody:∀(cdv:Value) (A:Around) (outer:List Env) (s:Shared) (H:Hp) (E:XK),zaK k (A.deeper (envOfC qual (zam st) s.heap.objs.size f cdv))→
   ∃t,zcL (zee (CXE P w) P w K mg base N qual (zam st) f cdv A outer s H E).nox Z0 (zdf st) t∧∀ds S Q ex,sd ds S Q ex→t { nx:=λ_ S'=>Q .non S',rt:=Q } (zeJ N ds) S):za6 P w K mg base (CXE P w) (k+1) f fd ps (upF K sd):=by
 obtain⟨oc,od,kV,doc,pm,an,cdv,ct,osl,rfl,lk,hcd⟩:=F.ex
 refine zp4 lk hcd Sc (λvs H Q E h=>?_) λA outer s H vs Q E hr h=>?_
 ·obtain⟨ex,r,S,ds,Q',rel,p,q,ret⟩:=h
  rw[← p.1]
  exact len ds S Q' ex q
 ·obtain⟨ex,r,S,ds,Q',rel,p,q,ret⟩:=h
  obtain⟨t,ht,hq⟩:=hbody cdv A outer s H E hr
  have back:∀ {H':Hp} {r':List Addr} {S':Sto},Ext r r' H H'→Rel K Z0 r' S' H'→Rel K (Zc ex E) r' S' H':=λx rel'=>⟨rel'.b,rel.xw.ext x⟩
  refine⟨upS K Z0 t,ht.nox,r,zeJ N ds,S,_,zvs p,⟨rel.b,λ_ _ _ _ _ _ _ _ _ z=>z.elim⟩,hq ds S Q' ex q,?_,?_,?_,?_⟩
  ·intro σ' H' r' dl' S' x _ rel' z
   exact ret .non H' r' .non S' x (back x rel') .non z
  ·intro σ' H' r' dl' S' x _ rel' z
   exact z
  ·intro σ' H' r' dl' S' x _ rel' z
   exact z
  ·intro v H' r' d S' x rel' p' z
   exact ret v H' r' d S' x (back x rel') p' z
end
open PySem
def Sz (n:Nat)(i:Int):Prop:=i.natAbs<2^n
theorem Sz.mono {m n:Nat}{i:Int}(h:Sz m i)(hn:m≤n):Sz n i:=Vaw h (Nat.pow_le_pow_right (by decide) hn)
theorem Sz.bits {n:Nat}{i:Int}(h:Sz n i):Builtin.Int.intBits i≤n:=by
 unfold Builtin.Int.intBits
 split
 ·exact Vak _
 ·rename_i hz
  have hp:i.natAbs≠0:=by
   intro z
   have z2:i=0:=by omega
   simp[z2] at hz
  have:=(Nat.log2_lt hp).mpr h
  omega
theorem zaM {m n:Nat}{i j:Int}(hi:Sz m i)(hj:Sz n j)(hm:m≤1048576:=by decide)(hn:n≤1048576:=by decide):IntMulOk i j:=by
 have e20:(2:Nat)^20=1048576:=by decide
 exact IntMulOk.of_bits (VaD hi.bits (by omega)) (VaD hj.bits (by omega))
theorem Sz.of {n:Nat}{i:Int}(m:Nat)(h:i.natAbs≤m)(hm:m<2^n:=by decide):Sz n i:=Nat.lt_of_le_of_lt h hm
theorem Sz.mul {m n:Nat}{i j:Int}(hi:Sz m i)(hj:Sz n j):Sz (m+n) (i*j):=by
 unfold Sz at *
 rw[Nat.pow_add,Vbg]
 exact Nat.mul_lt_mul'' hi hj
theorem Sz.add {m n:Nat}{i j:Int}(hi:Sz m i)(hj:Sz n j):Sz (max m n+1) (i+j):=by
 have h1:Sz (max m n) i:=hi.mono (Nat.le_max_left _ _)
 have h2:Sz (max m n) j:=hj.mono (Nat.le_max_right _ _)
 unfold Sz at *
 have e:(2:Nat)^(max m n+1)=2^max m n+2^max m n:=by rw[Nat.pow_succ]; omega
 rw[e]
 have:=Int.natAbs_add_le i j
 omega
theorem Sz.neg {m:Nat}{i:Int}(hi:Sz m i):Sz m (-i):=by
 unfold Sz at *
 rw[Int.natAbs_neg]; exact hi
theorem Sz.sub {m n:Nat}{i j:Int}(hi:Sz m i)(hj:Sz n j):Sz (max m n+1) (i-j):=by
 rw[Int.sub_eq_add_neg]; exact hi.add hj.neg
theorem Sz.log {n:Nat}{i:Int}(h:Sz n i)(hi:i≠0)(hn:n≤9000:=by decide):i.natAbs.log2<9000:=by
 have:=(Nat.log2_lt (by omega:i.natAbs≠0)).mpr h
 omega
theorem Sz.fd {n:Nat}{i:Int}(h:Sz n i)(hi:0<i)(hn:n≤9000:=by decide):0<i∧i.natAbs.log2<9000:=⟨hi,h.log (by omega) hn⟩
theorem zew {a b:Int}(hb:0<b):0≤a%b∧a%b<b:=⟨Int.emod_nonneg _ (by omega),Int.emod_lt_of_pos _ hb⟩
theorem p40:((10:Int)^(40:Int).toNat)=10^40:=rfl
theorem p41:((10:Int)^(41:Int).toNat)=10^41:=rfl
theorem p20:((10:Int)^(20:Int).toNat)=10^20:=rfl
example (x:Int):-(10^40)≤x%(2*10^40+1)-10^40:=by omega
example (x:Int):x%(2*10^40+1)-10^40≤10^40:=by omega
example (x:Int) (h:-(10^40)≤x) (h2:x≤2*10^41):Sz 140 x:=Sz.of (2*10^41) (by omega)
theorem zrP (a b:Int):Int.gcd b (a%b)=Int.gcd a b:=by
 rw[Int.emod_def,show a-b*(a/b)=a-(a/b)*b by rw[Va0],Int.gcd_sub_mul_right_right,Int.gcd_comm]
def zcW (i:Int):Int:=if i<0 then -i else i
theorem ztx (i:Int):0≤zcW i:=by unfold zcW; split <;> omega
theorem zsI (a b:Int):Int.gcd (zcW a) (zcW b)=Int.gcd a b:=by
 have h:∀i:Int,(zcW i).natAbs=i.natAbs:=λi=>by unfold zcW; split <;> omega
 unfold Int.gcd
 rw[h,h]
theorem zv5 {T B d:Int}(hB:B≠0)(hd:d=(if B<0 then -((Int.gcd T B:Nat):Int) else ((Int.gcd T B:Nat):Int))):
  d≠0∧T.fdiv d*d=T∧B.fdiv d*d=B∧1≤B.fdiv d∧Int.gcd (T.fdiv d) (B.fdiv d)=1∧T.fdiv d*B=T*B.fdiv d:=by
 have g0:0<Int.gcd T B:=Nat.pos_of_ne_zero λz=>hB (Int.gcd_eq_zero_iff.mp z).2
 have dT:((Int.gcd T B:Nat):Int) ∣ T:=Int.gcd_dvd_left T B
 have dB:((Int.gcd T B:Nat):Int) ∣ B:=Int.gcd_dvd_right T B
 have hne:d≠0:=by
  rw[hd]; split <;> omega
 have eT:d ∣ T:=by rw[hd]; split <;> first | exact Int.neg_dvd.mpr dT | exact dT
 have eB:d ∣ B:=by rw[hd]; split <;> first | exact Int.neg_dvd.mpr dB | exact dB
 have fT:T.fdiv d=T/d:=Int.fdiv_eq_ediv_of_dvd eT
 have fB:B.fdiv d=B/d:=Int.fdiv_eq_ediv_of_dvd eB
 have mT:T.fdiv d*d=T:=by rw[fT]; exact Int.ediv_mul_cancel eT
 have mB:B.fdiv d*d=B:=by rw[fB]; exact Int.ediv_mul_cancel eB
 have gg:Int.gcd (T.fdiv d) (B.fdiv d)=1:=by
  have z:=Int.gcd_ediv_gcd_ediv_gcd g0
  rw[fT,fB,hd]
  split
  ·rw[Int.ediv_neg,Int.ediv_neg,Int.neg_gcd,Int.gcd_neg]; exact z
  ·exact z
 have pos:1≤B.fdiv d:=by
  by_cases hb:B<0
  ·have dn:d<0:=by rw[hd,if_pos hb]; omega
   by_cases q:B.fdiv d≤0
   ·have:=Int.mul_nonneg_of_nonpos_of_nonpos q (Int.le_of_lt dn)
    omega
   ·omega
  ·have dp:0<d:=by rw[hd,if_neg hb]; omega
   by_cases q:B.fdiv d≤0
   ·have:=Vax (show 0≤-(B.fdiv d) by omega) (Int.le_of_lt dp)
    rw[Va1] at this
    omega
   ·omega
 refine⟨hne,mT,mB,pos,gg,?_⟩
 calc T.fdiv d*B=T.fdiv d*(B.fdiv d*d):=by rw[mB]
  _=T.fdiv d*d*B.fdiv d:=by grind
  _=T*B.fdiv d:=by rw[mT]
theorem zpy {T d:Int}(hne:d≠0)(mT:T.fdiv d*d=T):(T.fdiv d).natAbs≤T.natAbs:=by
 have h:(T.fdiv d).natAbs*d.natAbs=T.natAbs:=by rw[← Vbg,mT]
 have hd:1≤d.natAbs:=by omega
 calc (T.fdiv d).natAbs=(T.fdiv d).natAbs*1:=by omega
  _≤(T.fdiv d).natAbs*d.natAbs:=Nat.mul_le_mul_left _ hd
  _=T.natAbs:=h
theorem zfD (m:Int){g:Int}(hg:0<g):m/g*g≤m∧m<(m/g+1)*g:=by
 have h1:=Int.emod_add_mul_ediv m g
 have h2:=Int.emod_nonneg m (show g≠0 by omega)
 have h3:=Int.emod_lt_of_pos m hg
 have e:(m/g+1)*g=g*(m/g)+g:=by grind
 have e2:m/g*g=g*(m/g):=Va0 _ _
 omega
theorem zj2 (m:Int){g:Int}(hg:0<g):m≤-(-m/g)*g∧(-(-m/g)-1)*g<m:=by
 obtain⟨h1,h2⟩:=zfD (-m) hg
 have e1:-(-m/g)*g=-(-m/g*g):=by rw[Va1]
 have e2:(-(-m/g)-1)*g=-((-m/g+1)*g):=by grind
 omega
section
variable {X:Cx}{Z:Zx}
def wIf (C:Int→Int→Bool)(g:Int→Int→D):W2:=λx y S Q=>match x,y with
 | .int i,.int j=>if C i j=true then Q (g i j) S else False
 | _,_=>False
theorem opIf {f:Value→Value→Sem Value}{C:Int→Int→Prop}{C':Int→Int→Bool}{g:Int→Int→D}(h:OpR X f (upO X.K Z (wI C g)))(hc:∀i j,C' i j=true→C i j):OpR X f (upO X.K Z (wIf C' g)):=
 zeP h λx y H Qv ⟨r,S,dx,dy,Q,rel,px,py,q,ret⟩=>⟨r,S,dx,dy,Q,rel,px,py,by
  unfold wIf at q
  split at q
  ·obtain⟨h1,h2⟩:=zlo q
   exact⟨hc _ _ h1,h2⟩
  ·exact q.elim,ret⟩
def zhn (_ j:Int):Bool:=decide (0<j)&&decide (j<1073741824)
abbrev zuG:W2:=wIf zhn λi j=>.int (i/j)
abbrev wModL:W2:=wIf zhn λi j=>.int (i%j)
def powB (i j:Int):Bool:=decide (0≤j)&&decide (j≤1000)&&decide (-1000<i)&&decide (i<1000)
theorem zqZ {i j:Int}(h:zhn i j=true):0<j∧j<1073741824:=by
 unfold zhn at h
 simpa using h
theorem zdM:OpR X (binaryOp .FloorDiv) (upO X.K Z zuG):=opIf zdh λi j h=>by
 obtain⟨h1,h2⟩:=zqZ h
 refine⟨h1,?_⟩
 have:j.natAbs.log2<30:=(Nat.log2_lt (by omega)).mpr (by omega)
 omega
theorem zbF:OpR X (binaryOp .Mod) (upO X.K Z wModL):=opIf ziZ λi j h=>(zqZ h).1
structure Df (K:PySem.W.Frag)(mg:Str→Option Value)(x:Str)(st:Stmt)(ps:List Str) where
 f:Addr
 fd:FuncData
 F:Fun K x x st f fd
 m:mg x=some (.ref f)
 b:zbP K fd ps []
structure Fk (P:Program)(w:World)(K:PySem.W.Frag)(mg:Str→Option Value)(base:Heap)(k:Nat)(x:Str)(ps:List Str)(sd:Sd) where
 f:Addr
 fd:FuncData
 ok:za6 P w K mg base (CXE P w) k f fd ps (upF K sd)
 m:mg x=some (.ref f)
 kp:PySem.W.keepIn K (.ref f)=true
 b:zbP K fd ps []
def Df.mk' {P:Program}{w:World}{K:PySem.W.Frag}{mg:Str→Option Value}{base:Heap}{k:Nat}{x:Str}{st:Stmt}{ps:List Str}{sd:Sd}(d:Df K mg x st ps)(h:za6 P w K mg base (CXE P w) k d.f d.fd ps (upF K sd)):Fk P w K mg base k x ps sd:=
 ⟨d.f,d.fd,h,d.m,d.F.kp,d.b⟩
theorem zrC {x:Str}{p pos:Pos}{e:Expr}{es:List Expr}{t:TDA}{k:Nat}{ps:List Str}{sd:Sd}{ex:Ev→Addr→Sto→Prop}{W:St→XK}(G:Fk X.prog X.w X.K X.mg X.base k x ps sd)(hr:zaK k X.A)(hx:zdi X W)(hg:Gl X x)(ha:PDA X ⟨ex,W⟩ (e::es) t)
  (hdb:(x==("__debug__":Str))=false:=by decide)(he:starEach (e::es) X.env=(false,eval e X.env)::starEach es X.env:=by rfl)(hpl:(backTo pos (starEach es X.env)).any (·.1)=false:=by rfl):
  PD X ⟨ex,W⟩ (.Call (.Name x p) (e::es) [] pos) (zlG ex sd t):=zvC G.ok hr hg G.m G.kp G.b hx ha hdb he hpl
theorem zyd {st:Stmt}:PDS X Z st (λ_ _ _=>False):=zbZ zr8 λF σ H ⟨_,_,_,_,_,_,h,_⟩=>h
end
def zfH:Sd:=λds S Q _=>∃ns:List Int,ds=[.ref 0]∧S=[.frz (ns.map D.int)]∧ns.length≤63∧∀S',Q (.bl true) S'
theorem zuF:∀ds S Q ex,zfH ds S Q ex→ds.length=1:=λds S Q ex h=>by
 obtain⟨ns,rfl,_⟩:=h
 rfl
theorem zvu {K:PySem.W.Frag}{H:Hp}{a:Addr}{xs:List V}(hO:zhJ H)(h:SqL K H a xs):SqF K H a xs:=by
 rcases h with (h | ⟨o,h⟩) | h
 ·rcases hO a with z | ⟨o,ys,z⟩
  ·rw[h] at z; cases z
  ·rw[h] at z; cases z
 ·exact .inl ⟨o,h⟩
 ·exact .inr h
theorem zuQ {r:List Addr}{H:Hp}(ns:List Int):Rps r H (ns.map D.int) (ns.map V.int):=by
 refine⟨by simp,λi d v h1 h2=>?_⟩
 rw[Vaf] at h1 h2
 cases q:ns[i]? with
 | none=>rw[q] at h1; cases h1
 | some z=>
  rw[q] at h1 h2
  cases h1
  cases h2
  exact .int z
theorem zu1 {K:PySem.W.Frag}{H:Hp}{a:Addr}{ns:List Int}(hl:ns.length≤63)(hO:zhJ H)(hS:SqL K H a (ns.map V.int)):upF K zfH [.ref a] H (λv _=>v=.bl true) λ_ _ _=>False:=by
 refine⟨λ_ _=>False,[a],[.frz (ns.map D.int)],[.ref 0],λd _=>d=.bl true,⟨⟨rfl,λn b o h1 h2=>?_,λn m b xs ys h1 h2 h3 h4 o1 o2=>?_⟩,λ_ _ _ _ _ _ _ _ _ z=>z.elim⟩,Rps.cons (.ref rfl) Rps.nil,⟨ns,rfl,rfl,hl,λ_=>rfl⟩,λv H' r' d S' e rel p q=>?_⟩
 ·cases n with
  | zero=>
   simp at h1 h2
   subst h1; subst h2
   exact⟨_,zvu hO hS,zuQ ns⟩
  | succ n=>simp at h1
 ·cases n with
  | zero=>
   simp at h3
   subst h3
   cases o1
  | succ n=>simp at h1
 ·subst q
  cases p
  rfl
theorem zw3 {l:PySem.W.OpenLaw}{q:Program}{loose:List Str}{XP:(Str→Option Value)→Heap→Prop}{YP:World→Heap→Prop}{d:DefRec}{K:Params→PySem.W.Frag}{x:Str}(k:Nat)(hn:l.most=some 63)(hdf:d.params.defaults=[])(hr:zaK k callerA)
  (hY:∀(w:World) (h:Heap),YP w h→(K w.params).In h)
  (F:∀(w:World) (mg:Str→Option Value) (fa:Addr) (h:Heap),(K w.params).In h→h.Ns mainGlobals mg→mg d.name=some (.ref fa)→
   ∃fd:FuncData,(∀(s:Shared) (u:Value),BindsTo s fd ⟨[u],[]⟩ [(x,u)])∧∀base:Heap,(K w.params).In base→base.Ns mainGlobals mg→za6 l.prog w (K w.params) mg base (CXE l.prog w) k fa fd [x] (upF (K w.params) zfH)):
  PySem.W.WalkO q loose XP YP l.row.toRowW d [] (λf vs=>PySem.call f vs):=
 L2.zx6 (n:=63) (k:=k) (x:=x) (CX:=λw=>CXE l.prog w) (sp:=λw=>upF (K w.params) zfH) hn (by decide) hdf hr hY F (λ_ _ a ns hl hO hS=>zu1 hl hO hS) λ_ _ _ _ _ ⟨_,_,_,_,_,_,_,_,_,_,_,_,z⟩=>z
theorem zn9 (K:PySem.W.Frag)(T:String)(h:T∈["int","bool","tuple","str"]):Kit K T:=by
 intro t ht
 simp only[Vas,List.not_mem_nil,or_false] at h ht
 rcases h with rfl | rfl | rfl | rfl <;> rcases ht with rfl | rfl | rfl | rfl | rfl <;> kernel_rfl
theorem ifF {c:Bool}{A B:Prop}(h:c=false)(b:B):if c=true then A else B:=by rw[h]; exact zbn b
theorem ifP {c A B:Prop} [Decidable c] (h:c)(a:A):if c then A else B:=by rw[if_pos h]; exact a
theorem ifD {c:Prop} [Decidable c] {A B:Prop}(h1:c→A)(h2:¬ c→B):if decide c=true then A else B:=by
 by_cases h:c
 ·rw[decide_eq_true h]; exact zbD (h1 h)
 ·rw[decide_eq_false h]; exact zbn (h2 h)
open PySem L2
open PySem L2
theorem Sz.pow {n:Nat}{i:Int}(h:Sz n i)(k:Nat):Sz (n*k+1) (i^k):=by
 unfold Sz at *
 rw[Int.natAbs_pow,Nat.pow_succ,Nat.pow_mul]
 have h1:i.natAbs^k≤(2^n)^k:=Nat.pow_le_pow_left (VaX h) k
 have h2:0<(2^n)^k:=VaN (VaN (by decide))
 omega
theorem ifN {c:Prop} [Decidable c] {A B:Prop}(h1:¬ c→A)(h2:c→B):if (!decide c)=true then A else B:=by
 by_cases h:c
 ·rw[decide_eq_true h]; exact L2.zbn (h2 h)
 ·rw[decide_eq_false h]; exact L2.zbD (h1 h)
section
variable {X:Cx}{Z:Zx}
abbrev Cx.held (X:Cx)(pins:List (Addr×Obj))(E:Value→Shared→Prop):Cx:={ X with pn:=X.pn++pins,xe:=E }
end
structure zea (k:Nat)(A:Around):Prop where
 dp:A.depth+3*k+5<recursionLimit
 un:A.units+16*k+200<cLine
theorem zea.mono {j k:Nat}{A:Around}(r:zea k A)(h:j≤k):zea j A:=⟨by have:=r.dp; omega,by have:=r.un; omega⟩
theorem zea.deeper {k:Nat}{A:Around}(r:zea (k+1) A)(env:Env):zea k (A.deeper env):=
 ⟨by have:=r.dp; show A.depth+1+3*k+5<_; omega,by have:=r.un; show A.units+3+16*k+200<_; omega⟩
structure FnOkN (P:Program)(w:World)(K:PySem.W.Frag)(mg:Str→Option Value)(base:Heap)(k:Nat)(f:Addr)(fd:FuncData)(ps:List Str)(sp:Sp):Prop where
 len:∀vs H Q E,sp vs H Q E→vs.length=ps.length
 run:∀(A:Around) (outer:List Env) (s:Shared) (H:Hp) (args:Args) (us:List Value) (vs:List V) (Q:VK) (E:XK),zea k A→zcx P w K mg base A outer s H→BindsTo s fd args (ps.zip us)→zau vs us→sp vs H Q E→
  codeAny (model P w) A (.call (.ref f) args) (CR (CXE P w) outer P w H s Q E) s
section
variable {X:Cx}{k:Nat}{f:Addr}{fd:FuncData}{ps:List Str}{sp:Sp}{W:St→XK}{x:Str}{p pos:Pos}{e:Expr}{es:List Expr}{t:TA}
end
section
variable {X:Cx}{Z:Zx}{x:Str}{p pos:Pos}{e:Expr}{es:List Expr}{t:TDA}
end
section
variable {P:Program}{w:World}{K:PySem.W.Frag}{mg:Str→Option Value}{base:Heap}
end
structure FkN (P:Program)(w:World)(K:PySem.W.Frag)(mg:Str→Option Value)(base:Heap)(k:Nat)(x:Str)(ps:List Str)(sd:Sd) where
 f:Addr
 fd:FuncData
 ok:FnOkN P w K mg base k f fd ps (upF K sd)
 m:mg x=some (.ref f)
 kp:PySem.W.keepIn K (.ref f)=true
 b:zbP K fd ps []
section
variable {X:Cx}{Z:Zx}
theorem zoq {r:List Addr}{H:Hp}{a:Addr}{o:HO}(h:H a=none):Ext r r H (upd H a o):=⟨λ_ _ q=>q,λ_ _ q=>zcP h _ _ q,λ_ _ q=>zcP h _ _ q⟩
open PySem.W in
end
abbrev VE:List Value:=[.type "ValueError",.type "Exception",.type "BaseException",.type "object"]
structure Ec (K:PySem.W.Frag)(mg:Str→Option Value)(x:Str) where
 c:Addr
 xc:Xc K mg x c VE "ValueError.__new__"
theorem qt {Q:DK}{S:Sto}{b:Bool}(e:b=true)(h:Q (.bl true) S):Q (.bl b) S:=by rw[e]; exact h
theorem Sz.div {n:Nat}{i j:Int}(h:Sz n i)(hj:1≤j):Sz n (i/j):=by
 refine Nat.lt_of_le_of_lt ?_ h
 obtain⟨h1,h2⟩:=zfD i (show 0<j by omega)
 by_cases q:0≤i/j
 ·have:=Int.mul_le_mul_of_nonneg_left hj q
  omega
 ·have:=Int.mul_le_mul_of_nonneg_left hj (show 0≤-(i/j+1) by omega)
  have e:-(i/j+1)*j=-((i/j+1)*j):=Va1 _ _
  omega
inductive Sco (n:Nat):D→Prop
 | non:Sco n .non
 | bl (b:Bool):Sco n (.bl b)
 | int (i:Int):Sco n (.int i)
 | str (x:Str):Sco n (.str x)
 | tup {ds:List D}:(∀d∈ds,Sco n d)→Sco n (.tup ds)
 | ref {m:Nat}:m<n→Sco n (.ref m)
 | exc (c:Addr):Sco n (.exc c)
theorem Rp.sco {r:List Addr}{H:Hp}{d:D}{v:V}(h:Rp r H d v):Sco r.length d:=by
 induction h with
 | non=>exact .non
 | bl b=>exact .bl b
 | int i=>exact .int i
 | str x=>exact .str x
 | @tup ds xs a _ l _ ih=>
  refine .tup λd hd=>?_
  obtain⟨i,hi,e⟩:=VaJ.mp hd
  exact ih i d xs[i] (by simp[hi,e]) (by simp[l ▸ hi])
 | ref h=>exact .ref (Vad.mp h).1
 | exc _=>exact .exc _
theorem Rp.low {r r':List Addr}{H:Hp}{d:D}{v:V}(h:Rp r' H d v)(low:∀m a,m<r.length→r'[m]?=some a→r[m]?=some a)(s:Sco r.length d):Rp r H d v:=by
 induction h with
 | non=>exact .non
 | bl b=>exact .bl b
 | int i=>exact .int i
 | str x=>exact .str x
 | tup e l f ih=>
  cases s with
  | tup s=>exact .tup e l λi d v h1 h2=>ih i d v h1 h2 (s d (Vag h1))
 | ref h=>
  cases s with
  | ref s=>exact .ref (low _ _ s h)
 | exc h=>exact .exc h
def Pre (S S':Sto):Prop:=∀(n:Nat) (o:Ob),S[n]?=some o→S'[n]?=some o
theorem Pre.refl {S:Sto}:Pre S S:=λ_ _ h=>h
theorem Pre.push {S S':Sto}{o:Ob}(h:Pre S S'):Pre S (S'++[o]):=λn u e=>by
 have z:=h n u e
 rw[Val (Vad.mp z).1]; exact z
theorem Pre.trans {S S' S2:Sto}(h:Pre S S')(k:Pre S' S2):Pre S S2:=λn o e=>k n o (h n o e)
theorem zqb {r r':List Addr}{H H':Hp}(e:Ext r r' H H'):∀m a,m<r.length→r'[m]?=some a→r[m]?=some a:=λm a hm h=>by
 have z:r[m]?=some r[m]:=by simp[hm]
 rw[e.adr _ _ z] at h
 rw[z]; exact h
theorem zaU.low {K:PySem.W.Frag}{r r':List Addr}{S S':Sto}{H H':Hp}(h:zaU K r S H)(e:Ext r r' H H')(h':zaU K r' S' H')(p:Pre S S'):zaU K r S H':=by
 have rl:∀ {ds:List D} {xs ys:List V},Rps r H ds xs→Rps r' H' ds ys→Rps r H' ds ys:=λ{ds xs ys} a b=>⟨b.1,λi d v h1 h2=>by
  obtain⟨v0,_,q⟩:=a.get h1
  exact(b.2 i d v h1 h2).low (zqb e) q.sco⟩
 refine⟨h.len,λn a o h1 h2=>?_,λn m a xs ys h1 h2 h3 h4 o1 o2=>h'.nd n m a xs ys (e.adr _ _ h1) (e.adr _ _ h2) (p _ _ h3) (p _ _ h4) o1 o2⟩
 have q:=h.ob n a o h1 h2
 have q':=h'.ob n a o (e.adr _ _ h1) (p _ _ h2)
 cases o with
 | lst ds=>
  obtain⟨xs,_,a1⟩:=q
  obtain⟨ys,b0,b1⟩:=q'
  exact⟨ys,b0,rl a1 b1⟩
 | frz ds=>
  obtain⟨xs,_,a1⟩:=q
  obtain⟨ys,b0,b1⟩:=q'
  exact⟨ys,b0,rl a1 b1⟩
 | ins C fs=>
  obtain⟨_,_,_,a1⟩:=q
  obtain⟨dx,fs',b0,b1⟩:=q'
  exact⟨dx,fs',b0,b1.1,rl a1.2 b1.2⟩
 | dct kvs=>
  obtain⟨_,_,a1⟩:=q
  obtain⟨ks,b0,b1⟩:=q'
  exact⟨ks,b0,b1.1,rl a1.2 b1.2⟩
def Gc (S:Sto)(Q:DK):DK:=λd S'=>Pre S S'∧Sco S.length d∧Q d S
def GcX (S:Sto)(ex:Addr→Sto→Prop):Addr→Sto→Prop:=λc S'=>Pre S S'∧ex c S
theorem Ret.gc {K:PySem.W.Frag}{Z Z':Zx}{r:List Addr}{S:Sto}{H:Hp}{Q:DK}{Qv:VK}(h:Ret K Z r H Q Qv)(rel:Rel K Z r S H):Ret K Z' r H (Gc S Q) Qv:=λv H' r' d S' e rel' p q=>by
 obtain⟨pre,sc,q⟩:=q
 have e':Ext r r H H':=⟨λ_ _ z=>z,e.tup,e.xc⟩
 rw[← rel.len] at sc
 exact h v H' r d S e' ⟨rel.b.low e rel'.b pre,rel.xw.ext e'⟩ (p.low (zqb e) sc) q
theorem zec.gc {K:PySem.W.Frag}{ex:Addr→Sto→Prop}{E:XK}{r:List Addr}{S:Sto}{H:Hp}(rel:Rel K (Zc ex E) r S H):zec K (Zc (GcX S ex) E) r H:=λdl σ c H' r' S' e _ rb q=>by
 obtain⟨pre,q⟩:=q
 have e':Ext r r H H':=⟨λ_ _ z=>z,e.tup,e.xc⟩
 exact rel.xw [] [] c H' r S e' ⟨rfl,λi d z=>by simp at z⟩ (rel.b.low e rb pre) q
section
variable {P:Program}{w:World}{K:PySem.W.Frag}{mg:Str→Option Value}{base:Heap}
def gcS (sd:Sd):Sd:=λds S Q ex=>∃Q0 ex0,Q=Gc S Q0∧ex=GcX S ex0∧sd ds S Q0 ex0
theorem zb0 {CX:CXT}{k:Nat}{f:Addr}{fd:FuncData}{ps:List Str}{sd:Sd}(h:za6 P w K mg base CX k f fd ps (upF K (gcS sd))):za6 P w K mg base CX k f fd ps (upF K sd):=by
 have imp:∀vs H Q E,upF K sd vs H Q E→upF K (gcS sd) vs H Q E:=λvs H Qv E ⟨ex,r,S,ds,Q,rel,p,q,ret⟩=>
  ⟨GcX S ex,r,S,ds,Gc S Q,⟨rel.b,zec.gc rel⟩,p,⟨Q,ex,rfl,rfl,q⟩,ret.gc rel⟩
 obtain⟨h1,h2⟩:=h
 exact⟨λvs H Q E q=>h1 vs H Q E (imp vs H Q E q),λA outer s H args us vs Q E hr e0 hb rv q=>h2 A outer s H args us vs Q E hr e0 hb rv (imp vs H Q E q)⟩
end
theorem zbY {sd:Sd}{n:Nat}(len:∀ds S Q ex,sd ds S Q ex→ds.length=n):∀ds S Q ex,gcS sd ds S Q ex→ds.length=n:=λds S Q ex h=>by
 obtain⟨Q0,ex0,_,_,h⟩:=h
 exact len _ _ _ _ h
structure zc9 (sc around:Scope)(x:Str)(caps:List Str):Prop where
 kind:sc.kind=.function
 nocell:∀y∈sc.names,y.2≠.cell
 own:∀y∈sc.names,y.2=.local→sc.names.lookup y.1=some .local
 loc:sc.names.lookup x=some .local
 cap:∀y∈caps,sc.names.lookup y=some .free
 out:∀y∈sc.names,y.2=.free→around.names.lookup y.1=some .cell
theorem zgJ {α:Type}{y:Str}{v:α}:∀ {l:List (Str×α)},l.lookup y=some v→(y,v)∈l
 | [],h=>by simp at h
 | (n,k)::r,h=>by
  cases e:y==n with
  | true=>
   rw[VaA,e] at h
   have z:k=v:=Option.some.inj h
   have z2:y=n:=by simpa using e
   rw[z,z2]; exact Va7
  | false=>
   rw[VaA,e] at h
   exact VaT _ (zgJ h)
theorem znv {env:Env}:∀(l:List (Str×NameKind)) (acc:List (Str×Addr)),(∀y∈l,y.2=.free→∃c,env.cells.lookup y.1=some c)→(∀x c,acc.lookup x=some c→env.cells.lookup x=some c)→
  ∃cl,(forIn l acc λx r=>(if (x.2==NameKind.free)=true then do let a ← cellOf env x.1; pure (ForInStep.yield ((x.1,a)::r)) else pure (ForInStep.yield r):Sem (ForInStep (List (Str×Addr)))))=pure cl∧
   (∀x c,cl.lookup x=some c→env.cells.lookup x=some c)∧(∀y∈l,y.2=.free→cl.lookup y.1=env.cells.lookup y.1)∧∀x c,acc.lookup x=some c→∃c',cl.lookup x=some c'
 | [],acc,_,ha=>⟨acc,by simp,ha,λy hy=>(by cases hy),λx c e=>⟨c,e⟩⟩
 | (n,k)::r,acc,h,ha=>by
  cases hk:(k==NameKind.free) with
  | false=>
   obtain⟨cl,h1,h2,h3,h4⟩:=znv r acc (λy hy=>h y (VaT _ hy)) ha
   refine⟨cl,?_,h2,λy hy hf=>?_,h4⟩
   ·rw[List.forIn_cons]; simp[hk]; simpa using h1
   ·have hy':=Vas.mp hy
    rcases hy' with rfl | hy
    ·rw[show k=NameKind.free from hf] at hk; exact absurd hk (by decide)
    ·exact h3 y hy hf
  | true=>
   have hf:k=NameKind.free:=by simpa using hk
   obtain⟨c,hc⟩:=h (n,k) Va7 hf
   obtain⟨cl,h1,h2,h3,h4⟩:=znv r ((n,c)::acc) (λy hy=>h y (VaT _ hy)) (λx c' e=>by
    cases q:x==n with
    | true=>
     rw[VaA,q] at e
     have z:x=n:=by simpa using q
     rw[z,hc]; exact e
    | false=>
     rw[VaA,q] at e
     exact ha x c' e)
   refine⟨cl,?_,h2,λy hy hf=>?_,λx c' e=>?_⟩
   ·have ec:cellOf env n=pure c:=by unfold cellOf; rw[hc]
    rw[List.forIn_cons]; simp[hk,ec]; simpa using h1
   ·have hy':=Vas.mp hy
    rcases hy' with rfl | hy
    ·obtain⟨c',e⟩:=h4 n c (by simp)
     rw[e]; exact(h2 _ _ e).symm
    ·exact h3 y hy hf
   ·refine h4 x (if x==n then c else c') ?_
    cases q:x==n with
    | true=>simp[VaA,q]
    | false=>simp[VaA,q,e]
theorem zqf {sc:Scope}{env:Env}(h:∀y∈sc.names,y.2=.free→∃c,env.cells.lookup y.1=some c):
  ∃cl,closureFor sc env=pure cl∧(∀x c,cl.lookup x=some c→env.cells.lookup x=some c)∧∀y∈sc.names,y.2=.free→cl.lookup y.1=env.cells.lookup y.1:=by
 obtain⟨cl,h1,h2,h3,_⟩:=znv sc.names [] h (λx c e=>by simp at e)
 refine⟨cl,?_,h2,h3⟩
 unfold closureFor
 simp only[bind_pure]
 exact h1
theorem znY {env:Env}:∀ {names:List (Str×NameKind)} {x:Str},names.lookup x=some .free→
  (names.map λ(n,k)=>if (k==NameKind.free&&env.scope.kind==.function&&env.kindOf n==some .cell) then (n,NameKind.cell) else (n,k)).lookup x=some .cell∨
  (names.map λ(n,k)=>if (k==NameKind.free&&env.scope.kind==.function&&env.kindOf n==some .cell) then (n,NameKind.cell) else (n,k)).lookup x=some .free
 | [],_,h=>by simp at h
 | (n,k)::r,x,h=>by
  have ih:=@znY env r x
  rw[Vaz]
  cases hx:x==n with
  | true=>
   rw[VaA,hx] at h
   have hk:k=.free:=Option.some.inj h
   subst hk
   dsimp only
   split
   ·left; simp[VaA,hx]
   ·right; simp[VaA,hx]
  | false=>
   rw[VaA,hx] at h
   dsimp only
   split
   ·simp only[VaA,hx]; exact ih h
   ·simp only[VaA,hx]; exact ih h
theorem zoB {env:Env}:∀ {names:List (Str×NameKind)} {x:Str},(∀y∈names,y.2≠.cell)→
  ((names.map λ(n,k)=>if (k==NameKind.free&&env.scope.kind==.function&&env.kindOf n==some .cell) then (n,NameKind.cell) else (n,k)).lookup x=some .cell∨
  (names.map λ(n,k)=>if (k==NameKind.free&&env.scope.kind==.function&&env.kindOf n==some .cell) then (n,NameKind.cell) else (n,k)).lookup x=some .free)→names.lookup x=some .free
 | [],_,_,h=>by simp at h
 | (n,k)::r,x,hc,h=>by
  have ih:=@zoB env r x λy hy=>hc y (VaT _ hy)
  rw[Vaz] at h
  cases hx:x==n with
  | true=>
   rw[VaA,hx]
   dsimp only at h
   split at h
   ·rename_i q
    simp only[Bool.and_eq_true] at q
    have hk:k=.free:=by simpa using q.1.1
    rw[hk]
   ·simp only[VaA,hx] at h
    rcases h with h | h
    ·exact absurd (Option.some.inj h) (hc (n,k) Va7)
    ·exact h
  | false=>
   rw[VaA,hx]
   dsimp only at h
   split at h
   ·simp only[VaA,hx] at h; exact ih h
   ·simp only[VaA,hx] at h; exact ih h
abbrev Cx.comp (X:Cx)(sc:Scope)(N:List Str)(cl:List (Str×Addr))(C:Addr)(s0:Shared)(H0:Hp)(fp:List Addr)(pn:List (Addr×Obj)):Cx:=
 { X with N:=N,env:=compEnvC sc cl C X.env,s₀:=s0,H₀:=H0,outer:=X.stack,stack:=X.stack,ex:=fp,fn:=λ_=>false,pn:=pn,xe:=λ_ _=>False }
def zbe (caps:List Nat)(σ:St):St:=caps.map λj=>(σ[j]?).join
def zbx (caps:List Nat)(dl:Ev):Ev:=caps.map λj=>(dl[j]?).join
def zgI (caps:List Nat)(wi:TI)(tc:TT)(te:TE):TE:=λσ H Q=>wi σ H λJ H1=>∀D,H1 D=none→∃W:Nat→Nat→Hp→Prop,(∃m,W 0 m (upd H1 D (.lst [])))∧∀i m H,W i m H→
 (J.stop i H∧Q (.ref D) H)∨(J.go i H∧∀x H',J.yld i H x H'→tc (some x::zbe caps σ) H' λb H2=>if b=true then te (some x::zbe caps σ) H2 λy H3=>∃ys,H3 D=some (.lst ys)∧ys.length<sizeLine∧∃m',m'<m∧W (i+1) m' (upd H3 D (.lst (ys++[y])))
  else ∃m',m'<m∧W (i+1) m' H2)
def PTs (Y:Cx)(ifs:List Expr)(tc:TT):Prop:=∀(pins:List (Addr×Obj)) (s:Shared) (σ:St) (H:Hp) (Q:Bool→Hp→Prop),Inv Y pins σ H s→tc σ H Q→
 wpAny (model Y.prog Y.w) Y.A (forIn ifs true λc r=>if r=true then do let ok ← isTrue c Y.env (eval c Y.env); pure (ForInStep.yield ok) else pure (ForInStep.yield r)) (TP Y pins σ Q) Y.xe s
theorem zu4 {Y:Cx}:PTs Y [] (λ_ H Q=>Q true H):=λ_ _ _ H _ I h=>wpAny_tests_nil ⟨H,I,h⟩
theorem ztq {Y:Cx}{c:Expr}{tc:TT}(h:PT Y c tc):PTs Y [c] tc:=λpins s σ H Q I q=>wpAny_tests_one (h pins s σ H Q I q)
section
variable {X:Cx}{pins:List (Addr×Obj)}{σ:St}{H:Hp}{s:Shared}
theorem zxp {sc:Scope}{x:Str}{N:List Str}{caps:List Nat}{cl:List (Str×Addr)}{fp:List Addr}{h1:Heap}{m:Str→Option Value}{tk:Nat}(I:Inv X pins σ H s)(cs:zc9 sc X.env.scope x N)
  (hN:∀(j:Nat) (y:Str),N[j]?=some y→∃i,caps[j]?=some i∧X.N[i]?=some y)(hlen:caps.length=N.length)
  (c1:∀x c,cl.lookup x=some c→X.env.cells.lookup x=some c)(c2:∀y∈sc.names,y.2=.free→cl.lookup y.1=X.env.cells.lookup y.1)
  (hf:∀b∈fp,zbQ X pins H b)(hfo:∀b∈fp,b<s.heap.objs.size)(hns:h1.Ns s.heap.objs.size m)(hk:∀b o,s.heap.get? b=some o→h1.get? b=some o):
  Inv (Cx.comp X sc (x::N) cl s.heap.objs.size s H fp (X.pn++pins)) [] (none::zbe caps σ) H { s with heap:=h1,toks:=tk }:=by
 have stk:∀b∈frs X.stack,b=X.env.locals∨b∈X.fs:=λb hb=>Vas.mp (I.stkSub b hb)
 refine⟨⟨I.ok.mod,cs.kind,I.ok.glob,I.ok.blt,Vaa _,λa b c h1 h2=>I.ok.inj a b c (c1 _ _ h1) (c1 _ _ h2),λy hy=>?_,λ_ _ z=>Bool.noConfusion z,I.ok.hd,I.ok.frames,.inl rfl,λb hb=>⟨Van (hfo b hb),λy c e=>(hf b hb).2.2.2.2.1 y c (c1 _ _ e)⟩,
  I.bs,VaD I.ok.bsz I.sz,λb o e hb=>?_,λb hb z=>?_,I.stack,I.stkFree⟩,rfl,I.bare,Un.kept hk,⟨m,hns,λi y v e1 e2 e3=>?_⟩,λy c e=>?_,I.hok.fresh (Vaa _),λy c e=>I.freeC y c (c1 _ _ e),λp hp=>?_,I.hok.kept hk,?_⟩
 ·have hfr:sc.names.lookup y=some .free:=zoB cs.nocell hy
  have hm:=zgJ hfr
  obtain⟨c,e⟩:=I.ok.has y (.inl (cs.out _ hm rfl))
  exact⟨c,(c2 _ hm rfl).trans e⟩
 ·rcases (hf b hb).2.2.2.1 with z | z
  ·exact I.ok.noex b o e z
  ·exact absurd (Vaw (Heap.lt_size (I.ok.bs b o e).1) z) (VaH _)
 ·rcases stk b z with z | z
  ·exact(hf b hb).2.1 z
  ·exact(hf b hb).2.2.1 z
 ·cases i with
  | zero=>simp at e2
  | succ i=>
   have e1':N[i]?=some y:=by simpa using e1
   obtain⟨j,hj,hy⟩:=hN i y e1'
   have e2':σ[j]?=some (some v):=by
    simp only[List.getElem?_cons_succ,zbe,Vaf,hj,Option.map_some,Option.some.injEq] at e2
    cases q:σ[j]? with
    | none=>rw[q] at e2; cases e2
    | some o=>rw[q] at e2; simp at e2; rw[e2]
   have hfr:sc.names.lookup y=some .free:=cs.cap y (Vag e1')
   have hm:=zgJ hfr
   have hce:X.env.scope.names.lookup y=some .cell:=cs.out _ hm rfl
   obtain⟨m0,_,hl⟩:=I.loc
   obtain⟨u,r,l⟩:=hl j y v hy e2' (.inr (.inl hce))
   refine⟨u,r,.inr ⟨znY hfr,?_⟩⟩
   rcases l with ⟨k,_⟩ | ⟨_,c,ec,hcell⟩
   ·rw[show X.env.kindOf y=some .cell from hce] at k; cases k
   ·exact⟨c,(c2 _ hm rfl).trans ec,hcell.keeps hk⟩
 ·obtain⟨v,z⟩:=I.cell y c (c1 _ _ e)
  exact⟨v,z.keeps hk⟩
 ·have hp':p∈X.pn++pins:=by simpa using hp
  obtain⟨p1,p2,p3,p4,p5⟩:=I.pin p hp'
  refine⟨hk _ _ p1,p2,Van (Heap.lt_size p1),λz=>?_,p5⟩
  rcases stk _ z with z | z
  ·exact p3 z
  ·exact p4 z
 ·simp[zbe,hlen]
end
section
variable {X:Cx}{elt iter:Expr}{x:Str}{px pos:Pos}{ifs:List Expr}{sc:Scope}{N:List Str}{caps:List Nat}{wi:TI}{tc:TT}{te:TE}
structure zqV (X:Cx)(pins:List (Addr×Obj))(σ:St)(C:Addr)(Q:VK)(D:Addr)(s':Shared):Prop where
 q:∃H',Inv X pins σ H' s'∧Q (.ref D) H'∧H' C=none
 ns:∃m,s'.heap.Ns C m
 loc:C≠X.env.locals
 old:X.s₀.heap.objs.size≤C
 cell:∀x c,X.env.cells.lookup x=some c→c≠C
 pin:∀p∈X.pn++pins,p.1≠C
theorem zpb {use:Option (Value→Sem Unit)}{Qr:Value→Shared→Prop}(hc:X.calm=true)(cs:zc9 sc X.env.scope x N)(hN:∀(j:Nat) (y:Str),N[j]?=some y→∃i,caps[j]?=some i∧X.N[i]?=some y)(hlen:caps.length=N.length)(hnd:(x::N).Nodup)
  (hi:PI X (.Name x px) iter wi)(ht:∀cl C s0 H0 fp pn,PTs (Cx.comp X sc (x::N) cl C s0 H0 fp pn) ifs tc)(he:∀cl C s0 H0 fp pn,PE (Cx.comp X sc (x::N) cl C s0 H0 fp pn) elt te)
  (hs:∀y,foldedSetIterable iter X.env y=pure y)
  {pins:List (Addr×Obj)}{s:Shared}{σ:St}{H:Hp}{Q:VK}{p2:Pos}(I:Inv X pins σ H s)(h:zgI caps wi tc te σ H Q)
  (fin:∀D C s',zqV X pins σ C Q D s'→compPost (model X.prog X.w) X.A X.xe use Qr (.ref D) C (.ok .next) s'):
  wpAny (model X.prog X.w) X.A (comprehension (.ListComp elt [⟨.Name x px,iter,ifs,0⟩] sc pos) sc X.env p2 (newList []) false (eval iter X.env) use) Qr X.xe s:=by
 obtain⟨cl,k1,k2,k3⟩:=zqf (sc:=sc) (env:=X.env) λy hy hf=>I.ok.has y.1 (.inl (cs.out y hy hf))
 refine wpAny_comprehension_free rfl hs k1 cs.kind cs.own (thn (hi pins s σ H _ I h) λv s1 h1=>thn h1 λitv s2 h2=>?_)
 obtain⟨it,fp,tn,J,H2,e,I2,T,st2,f2,body⟩:=h2
 subst e
 have hfo:∀b∈fp,b<s2.heap.objs.size:=λb hb=>by
  obtain⟨o,e,_⟩:=T.obj _ _ st2 b hb
  exact Heap.lt_size e
 have hD:H2 s2.heap.objs.size=none:=I2.hok.fresh (Vaa _)
 obtain⟨W,⟨m0,w0⟩,turn⟩:=body _ hD
 refine wpAny_newObj_type ?_
 have I3:Inv X pins σ (upd H2 s2.heap.objs.size (.lst [])) { s2 with heap:=s2.heap.push { cls:=.type "list",dict:=none,data:=.seq ([]:List Value).toArray },toks:=s2.toks }:=
  I2.laid (t':=s2.toks) (λb u e=>Heap.get?_push_of_some _ e) (Vaa _) ⟨Vak _,[],0,.nil,Heap.get?_push_size _ rfl⟩
 generalize hs3:({ s2 with heap:=s2.heap.push { cls:=.type "list",dict:=none,data:=.seq ([]:List Value).toArray },toks:=s2.toks }:Shared)=s3 at I3
 have es3:({ s2 with heap:=s2.heap.push { cls:=.type "list",dict:=none,data:=.seq ([]:List Value).toArray } }:Shared)=s3:=hs3
 try rw[es3]
 have f3:∀b∈fp,zbQ X pins (upd H2 s2.heap.objs.size (.lst [])) b:=λb hb=>⟨by rw[za1 (Van (hfo b hb))]; exact(f2 b hb).1,(f2 b hb).2⟩
 have up3:∀b o,s2.heap.get? b=some o→s3.heap.get? b=some o:=λb o e=>by rw[← hs3]; exact Heap.get?_push_of_some _ e
 have st3:tn 0 s3.heap:=T.keep _ _ _ st2 λb _ o e=>up3 b o e
 have hfo3:∀b∈fp,b<s3.heap.objs.size:=λb hb=>by
  obtain⟨o,e,_⟩:=T.obj _ _ st3 b hb
  exact Heap.lt_size e
 refine wpAny_newFunctionEnv cs.nocell (λy hy=>by simp at hy) (λh4 ns4 sb4=>?_) cs.kind
 have hk4:∀b o,s3.heap.get? b=some o→h4.get? b=some o:=λb o e=>(sb4.2 b (Van (Heap.lt_size e))).trans (Heap.get?_push_of_some _ e)
 have I4:=zxp (tk:=s3.toks+([]:List (Str×Value)).length) I3 cs hN hlen k2 k3 f3 hfo3 ns4 hk4
 generalize hs4:({ s3 with heap:=h4,toks:=s3.toks+([]:List (Str×Value)).length }:Shared)=s4 at I4 ⊢
 have eh4:s4.heap=h4:=by rw[← hs4]
 have st4:tn 0 s4.heap:=by rw[eh4]; exact T.keep _ _ _ st3 λb _ o e=>hk4 b o e
 have fY:∀ {H':Hp},(∀b∈fp,H' b=none)→∀b∈fp,zbQ (Cx.comp X sc (x::N) cl s3.heap.objs.size s3 (upd H2 s2.heap.objs.size (.lst [])) fp (X.pn++pins)) [] H' b:=λhn b hb=>by
  obtain⟨_,z2,z3,z4,z5,z6⟩:=f3 b hb
  refine⟨hn b hb,Van (hfo3 b hb),λz=>?_,.inl hb,λy c e=>z5 y c (k2 _ _ e),λp hp=>z6 p (by simpa using hp)⟩
  rcases Vas.mp (I3.stkSub b z) with z | z
  ·exact z2 z
  ·exact z3 z
 have locY:(Cx.comp X sc (x::N) cl s3.heap.objs.size s3 (upd H2 s2.heap.objs.size (.lst [])) fp (X.pn++pins)).env.scope.names.lookup x=some .local:=lookup_relabel_local cs.loc
 have loop:codeAny (model X.prog X.w) X.A (.compLoop (.ListComp elt [⟨.Name x px,iter,ifs,0⟩] sc pos) 0 (.ref it) (.ref s2.heap.objs.size) (compEnvC sc cl s3.heap.objs.size X.env))
   (compPost (model X.prog X.w) X.A X.xe use Qr (.ref s2.heap.objs.size) s3.heap.objs.size) s4:=by
  refine codeAny_compLoop_tests (λn s'=>∃i o H',Inv (Cx.comp X sc (x::N) cl s3.heap.objs.size s3 (upd H2 s2.heap.objs.size (.lst [])) fp (X.pn++pins)) [] (o::zbe caps σ) H' s'∧tn i s'.heap∧(∀b∈fp,H' b=none)∧W i n H') ?_ m0
   ⟨0,none,_,I4,st4,λb hb=>(f3 b hb).1,w0⟩
  rintro n s5 ⟨i,o,H5,I5,st5,fr5,w5⟩
  rcases turn i n H5 w5 with ⟨stop,q⟩ | ⟨go,step⟩
  ·refine thn (T.done (Cx.comp X sc (x::N) cl s3.heap.objs.size s3 (upd H2 s2.heap.objs.size (.lst [])) fp (X.pn++pins)) rfl rfl rfl hc i [] s5 _ H5 _ I5 (fY fr5) st5 stop) λr s6 ⟨hr,I6⟩=>?_
   subst hr
   refine fin _ _ _ ⟨⟨H5,I3.call' I6.os I6.base I6.hok I6.bare (λb hb=>?_),q,I6.free⟩,?_,Nat.ne_of_gt I3.lt,I3.sz,λy c e z=>?_,λp hp z=>?_⟩
   ·obtain⟨_,z2,z3,z4,z5,z6⟩:=f3 b hb
    exact⟨z4,z2,z5,z6⟩
   ·obtain⟨m,hm,_⟩:=I6.loc
    exact⟨m,hm⟩
   ·obtain⟨v,hv⟩:=I3.cell y c e
    exact absurd (z ▸ hv.lt) (VaH _)
   ·exact absurd (z ▸ Heap.lt_size (I3.pin p hp).1) (VaH _)
  ·refine thn (T.item (Cx.comp X sc (x::N) cl s3.heap.objs.size s3 (upd H2 s2.heap.objs.size (.lst [])) fp (X.pn++pins)) rfl rfl rfl hc i [] s5 _ H5 _ I5 (fY fr5) st5 go) λr s6 ⟨u,hr,h6⟩=>?_
   subst hr
   show wpAny _ _ (letOwnedTupleGo (.Name x px) (.ref it) u >>= λ_=>assign (.Name x px) (compEnvC sc cl s3.heap.objs.size X.env) u) _ _ s6
   refine wpAny_bind (thn h6 λ_ s7 ⟨y,H7,I7,r7,y7,st7,fr7⟩=>?_)
   have I7':=I7.pinned (fY fr7) (T.obj _ _ st7)
   refine wpAny_mono (zku (X:=Cx.comp X sc (x::N) cl s3.heap.objs.size s3 (upd H2 s2.heap.objs.size (.lst [])) fp (X.pn++pins)) (pos:=px) hnd (i:=0) rfl (.inl locY) (.inr locY) _ s7 _ H7 y u (λσ8 H8=>σ8=some y::zbe caps σ∧H8=H7) I7' r7 ⟨rfl,rfl⟩) (λ_ s8 ⟨σ8,H8,I8,e8,e8'⟩=>?_) λ_ _ z=>z.elim
   subst e8
   subst e8'
   have stay:∀ {H':Hp} {s':Shared},Inv (Cx.comp X sc (x::N) cl s3.heap.objs.size s3 (upd H2 s2.heap.objs.size (.lst [])) fp (X.pn++pins)) ([]++zfC fp s7.heap) (some y::zbe caps σ) H' s'→∀m',m'<n→W (i+1) m' H'→
     ∃m,m<n∧∃i o H',Inv (Cx.comp X sc (x::N) cl s3.heap.objs.size s3 (upd H2 s2.heap.objs.size (.lst [])) fp (X.pn++pins)) [] (o::zbe caps σ) H' s'∧tn i s'.heap∧(∀b∈fp,H' b=none)∧W i m H':=λ{H' s'} J m' hm w'=>by
    refine⟨m',hm,i+1,some y,H',J.unpinned,T.keep _ _ _ st7 λb hb o e=>(J.pin (b,o) (VaI _ (VaI _ (ze3 hb e)))).1,λb hb=>?_,w'⟩
    obtain⟨o,e,d⟩:=T.obj _ _ st7 b hb
    exact(J.pin (b,o) (VaI _ (VaI _ (ze3 hb e)))).2.1
   refine wpAny_mono (ht _ _ _ _ _ _ _ s8 _ H8 _ I8 (step y H8 y7)) (λb s9 ⟨H9,I9,q9⟩=>?_) λ_ _ z=>z.elim
   cases b with
   | false=>
    rw[if_neg Vao] at q9 ⊢
    obtain⟨m',hm,w9⟩:=q9
    exact stay I9 m' hm w9
   | true=>
    rw[if_pos rfl] at q9 ⊢
    refine wpAny_mono (he _ _ _ _ _ _ _ s9 _ H9 _ I9 q9) (λu2 s10 ⟨z,H10,I10,r10,q10⟩=>?_) λ_ _ z=>z.elim
    obtain⟨ys,hD10,hlt,m',hm,w10⟩:=q10
    refine wpAny_mono (zoG (X:=(Cx.comp X sc (x::N) cl s3.heap.objs.size s3 (upd H2 s2.heap.objs.size (.lst [])) fp (X.pn++pins))) _ s10 _ H10 (.ref s2.heap.objs.size) [z] (.ref s2.heap.objs.size) [u2] (λ_ H'=>H'=upd H10 s2.heap.objs.size (.lst (ys++[z]))) I10 rfl (.cons r10 .nil) ⟨_,ys,z,rfl,rfl,hD10,hlt,rfl⟩) (λ_ s11 ⟨_,H11,I11,_,e11⟩=>?_) λ_ _ z=>z.elim
    subst e11
    exact stay I11 m' hm w10
 exact codeAny_compStart_list loop (T.self _ 0 s4 _ _ st4 loop)
theorem zdU {X:Cx}{caps:List Nat}{N:List Str}(h:caps.map (λi=>X.N[i]?)=N.map some):(∀(j:Nat) (y:Str),N[j]?=some y→∃i,caps[j]?=some i∧X.N[i]?=some y)∧caps.length=N.length:=by
 refine⟨λj y e=>?_,by simpa using congrArg List.length h⟩
 have z:(caps.map (λi=>X.N[i]?))[j]?=some (some y):=by rw[h,Vaf,e]; rfl
 rw[Vaf] at z
 cases q:caps[j]? with
 | none=>rw[q] at z; cases z
 | some i=>rw[q] at z; exact⟨i,rfl,by simpa using z⟩
theorem zpj (hc:X.calm=true)(cs:zc9 sc X.env.scope x N)(hN:caps.map (λi=>X.N[i]?)=N.map some)(hnd:(x::N).Nodup)
  (hi:PI X (.Name x px) iter wi)(ht:∀cl C s0 H0 fp pn,PTs (Cx.comp X sc (x::N) cl C s0 H0 fp pn) ifs tc)(he:∀cl C s0 H0 fp pn,PE (Cx.comp X sc (x::N) cl C s0 H0 fp pn) elt te)
  (hs:∀y,foldedSetIterable iter X.env y=pure y:=by intro _; rfl):PE X (.ListComp elt [⟨.Name x px,iter,ifs,0⟩] sc pos) (zgI caps wi tc te):=by
 intro pins s σ H Q I h
 rw[eval_ListComp]
 refine zpb (use:=none) hc cs (zdU hN).1 (zdU hN).2 hnd hi ht he hs I h λD C s' f=>?_
 obtain⟨⟨H',I',q,hC⟩,⟨m,ns⟩,l,o,c,p⟩:=f
 exact⟨m,ns,λh' sb=>⟨.ref D,H',I'.turned (t':=s'.toks) (λb ob hb e=>(sb.2 b hb).trans e) hC l (.inr o) c p,rfl,q⟩⟩
theorem zqJ {i:Nat}{y:Str}{py spos:Pos}(hc:X.calm=true)(cs:zc9 sc X.env.scope x N)(hN:caps.map (λi=>X.N[i]?)=N.map some)(hnd:(x::N).Nodup)
  (hi:PI X (.Name x px) iter wi)(ht:∀cl C s0 H0 fp pn,PTs (Cx.comp X sc (x::N) cl C s0 H0 fp pn) ifs tc)(he:∀cl C s0 H0 fp pn,PE (Cx.comp X sc (x::N) cl C s0 H0 fp pn) elt te)
  (hNd:X.N.Nodup)(hy:X.N[i]?=some y)(hl:X.env.scope.names.lookup y=some .local)
  (hsw:swapsWith (.ListComp elt [⟨.Name x px,iter,ifs,0⟩] sc pos) (some (.Name y py)) spos.line X.env=pure true)
  (hs:∀y,foldedSetIterable iter X.env y=pure y:=by intro _; rfl):PS X (.Assign [.Name y py] (.ListComp elt [⟨.Name x px,iter,ifs,0⟩] sc pos) spos) (λE σ H=>zgI caps wi tc te σ H λv H1=>E.nx (σ.set i (some v)) H1):=by
 intro pins s σ H E I h
 rw[exec_Assign_Name_used (hs:=hsw)]
 refine wpAny_bind (wpAny_standAt ?_); refine wpAny_bind ?_; show wpAny _ _ (comprehension _ sc X.env _ (newList []) false (eval iter X.env) (some (assign (.Name y py) X.env)) >>= λ_=>pure ()) _ _ s
 refine wpAny_bind (thn (zpb (use:=some (assign (.Name y py) X.env)) (Qr:=λ_ s'=>SP X pins E .next s') hc cs (zdU hN).1 (zdU hN).2 hnd hi ht he hs I h λD C s' f=>?_) λ_ s' hq=>wpAny_pure (wpAny_pure hq))
 obtain⟨⟨H',I',q,hC⟩,⟨m,ns⟩,l,o,c,p⟩:=f
 refine wpAny_assign_Name (znu (v:=.ref D) I' hNd hy (.inl hl) rfl (λs'' I'' ⟨a,sb,ha⟩=>⟨m,ns.sameBut sb ?_,λh' sb'=>⟨_,H',I''.turned (t':=s''.toks) (λb ob hb e=>(sb'.2 b hb).trans e) hC l (.inr o) c p,q⟩⟩) (.inr hl))
 rcases ha with rfl | ha
 ·exact l
 ·exact Ne.symm (c _ _ ha)
end
section
variable {X:Cx}{Z:Zx}{elt iter:Expr}{x:Str}{px pos:Pos}{ifs:List Expr}{sc ar:Scope}{N:List Str}{caps:List Nat}
theorem zre {r:List Addr}{H:Hp}{dl:Ev}{σ:St}{d:D}{v:V}(h:Rs r H dl σ)(p:Rp r H d v):Rs r H (some d::zbx caps dl) (some v::zbe caps σ):=by
 refine⟨by simp[zbx,zbe],λi e hi=>?_⟩
 cases i with
 | zero=>simp at hi; subst hi; exact⟨v,rfl,p⟩
 | succ i=>
  simp only[List.getElem?_cons_succ,zbx,Vaf] at hi
  cases q:caps[i]? with
  | none=>rw[q] at hi; cases hi
  | some j=>
   rw[q] at hi
   simp only[Option.map_some,Option.some.injEq] at hi
   have hj:dl[j]?=some (some e):=by
    cases q2:dl[j]? with
    | none=>rw[q2] at hi; cases hi
    | some o=>rw[q2] at hi; simp at hi; rw[hi]
   obtain⟨w,h1,h2⟩:=h.2 j e hj
   refine⟨w,?_,h2⟩
   simp only[List.getElem?_cons_succ,zbe,Vaf,q,Option.map_some,h1,Option.join_some]
def zfz (Y:Cx)(ifs:List Expr)(t:TDT):Prop:=PTs Y ifs (upT Y.K Z0 t)
def zcm:TDT:=λ_ S Q=>Q true S
theorem zbW {Y:Cx}:zfz Y [] zcm:=λpins s σ H Qb I ⟨r,dl,S,Q,rs,rel,q,ret⟩=>zu4 pins s σ H Qb I (ret true H r S Ext.refl rel q)
theorem zns {Y:Cx}{c:Expr}{t:TDT}(h:PDT Y Z0 c t):zfz Y [c] t:=ztq h
def zc3 (caps:List Nat)(tc:TDT)(te:TDE)(k:Nat)(dl:Ev)(d:D)(S:Sto)(nx:Sto→Prop):Prop:=
 tc (some d::zbx caps dl) S λb S1=>if b=true then te (some d::zbx caps dl) S1 λy S2=>match S2[k]? with
  | some (.lst ys)=>ys.length<1000∧nx (S2.set k (.lst (ys++[y])))
  | _=>False
 else nx S1
@[irreducible] def zco (caps:List Nat)(tl:TDE)(tc:TDT)(te:TDE):TDE:=λdl S Q=>tl dl S λd S1=>match d with
 | .ref n=>(lAt S1 n).isSome=true∧∃W:Nat→Nat→Sto→Prop,(∃m,W 0 m (S1++[.lst []]))∧∀k m S2,W k m S2→match lAt S2 n with
  | some o=>match (zah o)[k]? with
   | some y=>zc3 caps tc te S1.length dl y S2 λS3=>∃m',m'<m∧W (k+1) m' S3
   | none=>Q (.ref S1.length) S2
  | none=>False
 | _=>False
@[irreducible] def zc4 (caps:List Nat)(ta:TDA)(tc:TDT)(te:TDE):TDE:=λdl S Q=>ta dl S λds S1=>match ds with
 | [.int j]=>(-(2^62)≤j∧j<2^62)∧∃W:Nat→Sto→Prop,W 0 (S1++[.lst []])∧∀k S2,W k S2→
   if k<j.toNat then zc3 caps tc te S1.length dl (.int k) S2 λS3=>W (k+1) S3 else Q (.ref S1.length) S2
 | _=>False
theorem zq0 {tc:TDT}{te:TDE}{r2:List Addr}{H2:Hp}{S1 S2:Sto}{dl:Ev}{σ:St}{D0:Addr}{d:D}{v:V}{nx:Sto→Prop}{Nx:Hp→Prop}(rs:Rs r2 H2 dl σ)(ha:r2[S1.length]?=some D0)(rb:zaU X.K r2 S2 H2)(p:Rp r2 H2 d v)
  (h:zc3 caps tc te S1.length dl d S2 nx)(hn:∀r' S' H',Ext r2 r' H2 H'→zaU X.K r' S' H'→nx S'→Nx H'):
  upT X.K Z0 tc (some v::zbe caps σ) H2 λb H3=>if b=true then up X.K Z0 te (some v::zbe caps σ) H3 λy H4=>∃ys,H4 D0=some (.lst ys)∧ys.length<sizeLine∧Nx (upd H4 D0 (.lst (ys++[y]))) else Nx H3:=by
 have rsY:Rs r2 H2 (some d::zbx caps dl) (some v::zbe caps σ):=zre rs p
 refine⟨r2,_,S2,_,rsY,⟨rb,λ_ _ _ _ _ _ _ _ _ z=>z.elim⟩,h,λb H3 r3 S3 x3 rel3 q3=>?_⟩
 cases b with
 | false=>rw[if_neg Vao] at q3 ⊢; exact hn r3 S3 H3 x3 rel3.b q3
 | true=>
  rw[if_pos rfl] at q3 ⊢
  refine⟨r3,_,S3,_,rsY.ext x3,rel3,q3,λz H4 r4 dz S4 x4 rel4 p4 q4=>?_⟩
  split at q4
  ·rename_i ys eys
   obtain⟨hl,q4⟩:=q4
   have ha4:r4[S1.length]?=some D0:=x4.adr _ _ (x3.adr _ _ ha)
   obtain⟨zs,hD4,pz⟩:=rel4.b.ob _ _ _ ha4 eys
   obtain⟨rel5,x5⟩:=rel4.b.set ha4 eys (pz.snoc p4)
   exact⟨zs,hD4,by rw[← pz.1]; exact zh8 (VaX hl),hn r4 _ _ (x3.trans (x4.trans x5)) rel5 q4⟩
  ·exact q4.elim
theorem zhP {r:List Addr}{D0:Addr}{n:Nat}(h:r.length=n):(r++[D0])[n]?=some D0:=by subst h; simp
theorem zpk {tl:TDE}{tc:TDT}{te:TDE}{σ:St}{H:Hp}{Qv:VK}(h:up X.K Z (zco caps tl tc te) σ H Qv):zgI caps (zpX X.K (up X.K Z tl)) (upT X.K Z0 tc) (up X.K Z0 te) σ H Qv:=by
 obtain⟨r,dl,S,Q,rs,rel,h,ret⟩:=h
 unfold zco at h
 refine⟨r,dl,S,_,rs,rel,h,λv H1 r1 d S1 x1 rel1 p1 q1=>?_⟩
 cases p1 with
 | @ref n a hn=>
  obtain⟨hsome,W,⟨m0,w0⟩,turn⟩:=q1
  have sql:∀ {r':List Addr} {S':Sto} {H':Hp} {o:Ob},Ext r1 r' H1 H'→zaU X.K r' S' H'→lAt S' n=some o→∃xs,SqL X.K H' a xs∧Rps r' H' (zah o) xs:=λ{r' S' H' o} x' rel' eo=>by
   obtain⟨eo,eL⟩:=zbk eo
   obtain⟨a',ha,ob⟩:=rel'.at eo
   rw[x'.adr n a hn] at ha; cases ha
   exact ob.list eL
  obtain⟨o1,eo1⟩:=VaZ.mp hsome
  obtain⟨xs1,sq1,_⟩:=sql Ext.refl rel1.b eo1
  refine⟨a,rfl,⟨xs1,sq1⟩,λD0 hD=>?_⟩
  obtain⟨rel2,x2⟩:=rel1.b.push (ds:=[]) (xs:=[]) hD Rps.nil
  refine⟨λk m H'=>∃r' S',Ext (r1++[D0]) r' (upd H1 D0 (.lst [])) H'∧zaU X.K r' S' H'∧W k m S',⟨m0,_,_,Ext.refl,rel2,w0⟩,?_⟩
  rintro k m H2 ⟨r2,S2,x3,rb2,w2⟩
  have ha2:r2[S1.length]?=some D0:=x3.adr _ _ (zhP rel1.len)
  have q:=turn k m S2 w2
  split at q
  ·rename_i o eo
   obtain⟨xs,sq,pr⟩:=sql (x2.trans x3) rb2 eo
   split at q
   ·rename_i y ey
    obtain⟨v,hv,pv⟩:=pr.get ey
    refine .inr ⟨⟨xs,v,sq,hv⟩,λv' H' y'=>?_⟩
    obtain⟨eH,y'⟩:=y'
    subst eH
    have ev:v'=v:=by
     have z:=y' xs sq
     rw[hv] at z; exact(Option.some.inj z).symm
    subst ev
    have z:=zq0 (Nx:=λH'=>∃m',m'<m∧∃r' S',Ext (r1++[D0]) r' (upd H1 D0 (.lst [])) H'∧zaU X.K r' S' H'∧W (k+1) m' S') (rs.ext (x1.trans (x2.trans x3))) ha2 rb2 pv q λr' S' H' x' rb' ⟨m',hm,w'⟩=>⟨m',hm,r',S',x3.trans x',rb',w'⟩
    exact z
   ·rename_i ey
    have hlen:(zah o).length≤k:=VaV.mp ey
    exact .inl ⟨⟨xs,sq,by rw[← pr.1]; exact hlen⟩,ret _ H2 r2 _ S2 (x1.trans (x2.trans x3)) ⟨rb2,rel.xw.ext (x1.trans (x2.trans x3))⟩ (.ref ha2) q⟩
  ·exact q.elim
 | _=>exact(show False from q1).elim
theorem zpn {ta:TDA}{tc:TDT}{te:TDE}{σ:St}{H:Hp}{Qv:VK}(h:up X.K Z (zc4 caps ta tc te) σ H Qv):zgI caps (zpH (upA X.K Z ta)) (upT X.K Z0 tc) (up X.K Z0 te) σ H Qv:=by
 obtain⟨r,dl,S,Q,rs,rel,h,ret⟩:=h
 unfold zc4 at h
 refine⟨r,dl,S,_,rs,rel,h,λvs H1 r1 ds S1 x1 rel1 p1 q1=>?_⟩
 split at q1
 ·rename_i j
  obtain⟨v,vs',rfl,p2,p3⟩:=p1.uncons
  have z:=p3.unnil
  subst z
  cases p2
  obtain⟨⟨b1,b2⟩,W,w0,turn⟩:=q1
  refine⟨j,rfl,b1,b2,λD0 hD=>?_⟩
  obtain⟨rel2,x2⟩:=rel1.b.push (ds:=[]) (xs:=[]) hD Rps.nil
  refine⟨λk m H'=>m=j.toNat-k∧∃r' S',Ext (r1++[D0]) r' (upd H1 D0 (.lst [])) H'∧zaU X.K r' S' H'∧W k S',⟨j.toNat,by simp,_,_,Ext.refl,rel2,w0⟩,?_⟩
  rintro k m H2 ⟨em,r2,S2,x3,rb2,w2⟩
  have ha2:r2[S1.length]?=some D0:=x3.adr _ _ (zhP rel1.len)
  have q:=turn k S2 w2
  split at q
  ·rename_i hk
   refine .inr ⟨hk,λv' H' y'=>?_⟩
   obtain⟨eH,y'⟩:=y'
   subst eH
   subst y'
   have pk:Rp r2 H' (.int (k:Int)) (.int (0+(k:Int))):=by rw[Int.zero_add]; exact .int _
   have z:=zq0 (Nx:=λH'=>∃m',m'<m∧m'=j.toNat-(k+1)∧∃r' S',Ext (r1++[D0]) r' (upd H1 D0 (.lst [])) H'∧zaU X.K r' S' H'∧W (k+1) S') (rs.ext (x1.trans (x2.trans x3))) ha2 rb2 pk q
    λr' S' H' x' rb' w'=>⟨j.toNat-(k+1),by omega,rfl,r',S',x3.trans x',rb',w'⟩
   exact z
  ·rename_i hk
   exact .inl ⟨by show j.toNat≤k; omega,ret _ H2 r2 _ S2 (x1.trans (x2.trans x3)) ⟨rb2,rel.xw.ext (x1.trans (x2.trans x3))⟩ (.ref ha2) q⟩
 ·exact q1.elim
theorem zcS {tl:TDE}{tc:TDT}{te:TDE}(har:X.env.scope=ar)(hc:X.calm=true)(cs:zc9 sc ar x N)(hN:caps.map (λi=>X.N[i]?)=N.map some)(hnd:(x::N).Nodup)(hl:PD X Z iter tl)
  (ht:∀cl C s0 H0 fp pn,zfz (Cx.comp X sc (x::N) cl C s0 H0 fp pn) ifs tc)(he:∀cl C s0 H0 fp pn,PD (Cx.comp X sc (x::N) cl C s0 H0 fp pn) Z0 elt te)
  (hs:∀y,foldedSetIterable iter X.env y=pure y:=by intro _; rfl):PD X Z (.ListComp elt [⟨.Name x px,iter,ifs,0⟩] sc pos) (zco caps tl tc te):=by
 subst har
 exact za5 (zpj hc cs hN hnd (tc:=upT X.K Z0 tc) (te:=up X.K Z0 te) (zoe hl) ht he hs) λ_ _ _ h=>zpk h
theorem zoi {ta:TDA}{tc:TDT}{te:TDE}{a:Expr}{p pos2:Pos}(har:X.env.scope=ar)(hc:X.calm=true)(cs:zc9 sc ar x N)(hN:caps.map (λi=>X.N[i]?)=N.map some)(hnd:(x::N).Nodup)(hg:Gl X "range")(hm:X.mg "range"=none)(ha:PDA X Z [a] ta)
  (ht:∀cl C s0 H0 fp pn,zfz (Cx.comp X sc (x::N) cl C s0 H0 fp pn) ifs tc)(he:∀cl C s0 H0 fp pn,PD (Cx.comp X sc (x::N) cl C s0 H0 fp pn) Z0 elt te)
  (hs:∀y,foldedSetIterable (.Call (.Name "range" p) [a] [] pos2) X.env y=pure y:=by intro _; rfl)(hst:starEach [a] X.env=[(false,eval a X.env)]:=by rfl):
  PD X Z (.ListComp elt [⟨.Name x px,.Call (.Name "range" p) [a] [] pos2,ifs,0⟩] sc pos) (zc4 caps ta tc te):=by
 subst har
 exact za5 (zpj hc cs hN hnd (tc:=upT X.K Z0 tc) (te:=up X.K Z0 te) (znt hg hm ha hst) ht he hs) λ_ _ _ h=>zpn h
theorem znU {t:TE}{td:TDE}{i:Nat}{F:zdJ}{σ:St}{H:Hp}(imp:∀Qv,up X.K Z td σ H Qv→t σ H Qv)(h:upS X.K Z (λE dl S=>td dl S λd S1=>E.nx (dl.set i (some d)) S1) F σ H):t σ H λv H1=>F.nx (σ.set i (some v)) H1:=by
 obtain⟨r,dl,S,E,rs,rel,h,ret⟩:=h
 exact imp _ ⟨r,dl,S,_,rs,rel,h,λv H1 r1 d S1 x rel1 p q=>ret.nx _ H1 r1 _ S1 x ((rs.ext x).set i p) rel1 q⟩
theorem zlf {tl:TDE}{tc:TDT}{te:TDE}{i:Nat}{y:Str}{py spos:Pos}(har:X.env.scope=ar)(hc:X.calm=true)(cs:zc9 sc ar x N)(hN:caps.map (λi=>X.N[i]?)=N.map some)(hnd:(x::N).Nodup)(hNd:X.N.Nodup)(hy:X.N[i]?=some y)(hlo:ar.names.lookup y=some .local)
  (hl:PD X Z iter tl)(ht:∀cl C s0 H0 fp pn,zfz (Cx.comp X sc (x::N) cl C s0 H0 fp pn) ifs tc)(he:∀cl C s0 H0 fp pn,PD (Cx.comp X sc (x::N) cl C s0 H0 fp pn) Z0 elt te)
  (hsw:swapsWith (.ListComp elt [⟨.Name x px,iter,ifs,0⟩] sc pos) (some (.Name y py)) spos.line X.env=pure true:=by rfl)
  (hs:∀y,foldedSetIterable iter X.env y=pure y:=by intro _; rfl):PDS X Z (.Assign [.Name y py] (.ListComp elt [⟨.Name x px,iter,ifs,0⟩] sc pos) spos) (zgS i (zco caps tl tc te)):=by
 subst har
 exact zbZ (zqJ hc cs hN hnd (tc:=upT X.K Z0 tc) (te:=up X.K Z0 te) (zoe hl) ht he hNd hy hlo hsw hs) λF σ H h=>znU (λ_ h=>zpk h) h
theorem zuc {ta:TDA}{tc:TDT}{te:TDE}{a:Expr}{p pos2:Pos}{i:Nat}{y:Str}{py spos:Pos}(har:X.env.scope=ar)(hc:X.calm=true)(cs:zc9 sc ar x N)(hN:caps.map (λi=>X.N[i]?)=N.map some)(hnd:(x::N).Nodup)(hNd:X.N.Nodup)(hy:X.N[i]?=some y)
  (hlo:ar.names.lookup y=some .local)(hg:Gl X "range")(hm:X.mg "range"=none)(ha:PDA X Z [a] ta)
  (ht:∀cl C s0 H0 fp pn,zfz (Cx.comp X sc (x::N) cl C s0 H0 fp pn) ifs tc)(he:∀cl C s0 H0 fp pn,PD (Cx.comp X sc (x::N) cl C s0 H0 fp pn) Z0 elt te)
  (hsw:swapsWith (.ListComp elt [⟨.Name x px,.Call (.Name "range" p) [a] [] pos2,ifs,0⟩] sc pos) (some (.Name y py)) spos.line X.env=pure true:=by rfl)
  (hs:∀y,foldedSetIterable (.Call (.Name "range" p) [a] [] pos2) X.env y=pure y:=by intro _; rfl)(hst:starEach [a] X.env=[(false,eval a X.env)]:=by rfl):
  PDS X Z (.Assign [.Name y py] (.ListComp elt [⟨.Name x px,.Call (.Name "range" p) [a] [] pos2,ifs,0⟩] sc pos) spos) (zgS i (zc4 caps ta tc te)):=by
 subst har
 exact zbZ (zqJ hc cs hN hnd (tc:=upT X.K Z0 tc) (te:=up X.K Z0 te) (znt hg hm ha hst) ht he hNd hy hlo hsw hs) λF σ H h=>znU (λ_ h=>zpn h) h
@[irreducible] def zdT (to te:TDE):TDE:=λdl S Q=>to dl S λx S1=>match x with
 | .ref n=>match S1[n]? with
  | some (.lst _)=>te dl S1 λy S2=>match S2[n]? with
   | some (.lst xs)=>if xs.length<1000 then Q .non (S2.set n (.lst (xs++[y]))) else False
   | _=>False
  | _=>False
 | _=>False
theorem zdO {o e:Expr}{to te:TDE}{apos cpos:Pos}(ho:PD X Z o to)(he:PD X Z e te)(hbase:attributeBase o "append" X.env (eval o X.env)=eval o X.env:=by rfl)
  (hfew:((backTo cpos (starEach [e] X.env)).all (λx=>!x.1)&&(backToKw cpos (keywordEach [] X.env)).all (λx=>x.1.isSome)
  &&decide (([e]:List Expr).length+([]:List Keyword).length+(if ([]:List Keyword).isEmpty then 0 else 1)<30))=true:=by rfl)
  (hline:(apos.endLine==cpos.line)=true:=by rfl)(hst:starEach [e] X.env=[(false,eval e X.env)]:=by rfl):
  PD X Z (.Call (.Attribute o "append" apos) [e] [] cpos) (zdT to te):=
 za5 (zpo PySem.F.plainAttrs_list PySem.F.slot_list_append PySem.F.type_list_append zoG ho (zfb he zlh hst) hbase hfew hline hst rfl) λσ H Qv h=>by
  obtain⟨r,dl,S,Q,rs,rel,h,ret⟩:=h
  unfold zdT at h
  refine⟨r,dl,S,_,rs,rel,h,λv H1 r1 d S1 x1 rel1 p1 h1=>?_⟩
  cases p1 with
  | @ref n a hn=>
   dsimp only at h1
   split at h1
   ·rename_i xs0 e0
    obtain⟨a',ha,ob⟩:=rel1.at e0
    rw[hn] at ha; cases ha
    obtain⟨ys,hH,_⟩:=ob
    refine⟨.inl ⟨rfl,ys,SqL.of hH⟩,r1,dl,S1,_,rs.ext x1,rel1,h1,λv2 H2 r2 d2 S2 x2 rel2 p2 h2=>?_⟩
    split at h2
    ·rename_i xs1 e1
     obtain⟨hlt,h2⟩:=zlo h2
     have ha2:=x2.adr n a hn
     obtain⟨zs,hH2,pz⟩:=rel2.b.ob n a _ ha2 e1
     obtain⟨rel3,x3⟩:=rel2.set ha2 e1 (pz.snoc p2)
     exact⟨a,zs,v2,rfl,rfl,hH2,by rw[← pz.1]; exact zh8 (VaX hlt),ret .non _ r2 .non _ (x1.trans (x2.trans x3)) rel3 .non h2⟩
    ·exact h2.elim
   ·exact h1.elim
  | _=>exact(show False from h1).elim
def zjL:WC:=λds S Q=>match ds with
 | [.tup xs]=>Q (.ref S.length) (S++[.lst xs])
 | [.ref n]=>match lAt S n with
  | some o=>Q (.ref S.length) (S++[.lst (zah o)])
  | none=>False
 | _=>False
theorem znp:zbc X (.type "list") (upC X.K Z zjL):=zov zvy λxs H Qv ⟨r,S,ds,Q,rel,ps,q,ret⟩=>by
 unfold zjL at q
 split at q
 ·rename_i ys
  obtain⟨v,vs,rfl,p1,p2⟩:=ps.uncons
  have z:=p2.unnil
  subst z
  obtain⟨a,zs,rfl,h1,h2⟩:=p1.untup
  refine⟨a,zs,rfl,.inr (SqT.of h1),λl hl=>?_⟩
  obtain⟨rel2,x⟩:=rel.push hl h2
  exact ret _ _ _ (.ref S.length) _ x rel2 (zeg rel.len) q
 ·rename_i n
  obtain⟨v,vs,rfl,p1,p2⟩:=ps.uncons
  have z:=p2.unnil
  subst z
  split at q
  ·rename_i o eo
   obtain⟨eo,eL⟩:=zbk eo
   obtain⟨a,ha,ob⟩:=rel.at eo
   cases p1 with
   | ref h1=>
    rw[h1] at ha; cases ha
    obtain⟨ys,sq,pr⟩:=ob.list eL
    refine⟨_,ys,rfl,.inl sq,λl hl=>?_⟩
    obtain⟨rel2,x⟩:=rel.push hl pr
    exact ret _ _ _ (.ref S.length) _ x rel2 (zeg rel.len) q
  ·exact q.elim
 ·exact q.elim
def zca:List D→Option (List Bool)
 | []=>some []
 | .bl b::r=>(zca r).map (b::·)
 | _::_=>none
def zgu (g:List Bool→Bool):WC:=λds S Q=>match ds with
 | [.ref n]=>match lAt S n with
  | some o=>match zca (zah o) with
   | some bs=>Q (.bl (g bs)) S
   | none=>False
  | none=>False
 | _=>False
theorem zpz {r:List Addr}{H:Hp}:∀ {ds:List D} {bs:List Bool} {vs:List V} {us:List Value},zca ds=some bs→Rps r H ds vs→zau vs us→us=bs.map Value.bool
 | [],bs,vs,us,e,p,q=>by
  have z:=p.unnil
  subst z
  cases q
  simp[zca] at e
  subst e
  rfl
 | d::ds,bs,vs,us,e,p,q=>by
  obtain⟨v,vs',rfl,p1,p2⟩:=p.uncons
  cases d with
  | bl b=>
   cases p1
   cases q with
   | cons q1 q2=>
    have q1':_=Value.bool b:=q1
    subst q1'
    simp only[zca,Vaj] at e
    obtain⟨ms,e1,rfl⟩:=e
    rw[zpz e1 p2 q2]
    rfl
  | _=>simp[zca] at e
theorem ztU {bs:List Bool}:(List.range bs.length).all (λi=>bs.getD i false)=bs.all id:=by
 rw[Va9]
 rw[List.all_eq_true,List.all_eq_true]
 refine⟨λh b hb=>?_,λh i hi=>?_⟩
 ·obtain⟨i,hi,e⟩:=VaJ.mp hb
  have hb':=h i (Va6.mpr hi)
  simpa [hi,e] using hb'
 ·have hi':i<bs.length:=Va6.mp hi
  have:=h bs[i] (VaB hi')
  simpa [hi'] using this
theorem zxZ {prog:Program}{w:World}{A:Around}{bs:List Bool}:TruthOf prog w A (λi v=>(bs.map Value.bool).toArray[i]?=some v) λi=>bs.getD i false:=λi v s Q E hP hQ=>by
  have e:(bs.map Value.bool)[i]?=some v:=by simpa using hP
  rw[Vaf] at e
  cases q:bs[i]? with
  | none=>
   rw[q] at e
   cases e
  | some b=>
    rw[q] at e
    have z:Value.bool b=v:=by simpa using e
    subst z
    have z2:bs.getD i false=b:=by simp[Vai,q]
    have hQ':Q (bs.getD i false) s:=hQ
    rw[z2] at hQ'
    exact wpAny_truthy_bool hQ'
theorem zuP {n:Nat}{a:Addr}{o:Ob}{bs:List Bool}{pins:List (Addr×Obj)}{σ:St}{H:Hp}{s:Shared}{r:List Addr}{S:Sto}{Q:DK}{Qv:VK}{E:Value→Shared→Prop}{g:List Bool→Bool}(G:List Nat→(Nat→Bool)→Bool)
  (hG:G (List.range bs.length) (λi=>bs.getD i false)=g bs)(hc:X.calm=true)(I:Inv X pins σ H s)(rel:Rel X.K Z r S H)(hn:r[n]?=some a)(eo:lAt S n=some o)(eb:zca (zah o)=some bs)(q:Q (.bl (g bs)) S)(ret:Ret X.K Z r H Q Qv):
  wpAny (model X.prog X.w) X.A.in1 (pyIter (.ref a)) (λit s₂=>∃I fp wr n P' St tr,it=.ref I∧Walks X.prog X.w X.A.in1 I fp wr n P' St∧St 0 s₂.heap∧TruthOf X.prog X.w X.A.in1 P' tr∧
   ∀h' tk,(∀b o,b ∉ wr→s₂.heap.get? b=some o→h'.get? b=some o)→EP X pins σ Qv (.bool (G (List.range n) tr)) { s₂ with heap:=h',toks:=tk }) E s:=by
 obtain⟨eo,eL⟩:=zbk eo
 obtain⟨a',ha,ob⟩:=rel.at eo
 rw[hn] at ha; cases ha
 obtain⟨ys,sq,pr⟩:=ob.list eL
 obtain⟨its,ri,pl,hz⟩:=I.list sq
 have eits:=zpz eb pr ri
 subst eits
 refine wpAny_pyIter_list pl.isList ?_
 have hne:a≠s.heap.objs.size:=Van (by
  obtain⟨ob,e,_⟩:=pl.isList
  exact Heap.lt_size e)
 refine⟨s.heap.objs.size,_,_,_,_,_,λi=>bs.getD i false,rfl,Walks.list (show X.A.in1.handled=none from I.ok.hd hc) _ a hne (bs.map Value.bool).toArray,⟨⟨_,Heap.get?_push_size _ rfl,rfl,rfl⟩,pl.isList.at λo e=>Heap.get?_push_of_some _ e⟩,zxZ,λh' tk hk=>?_⟩
 have ez:(bs.map Value.bool).toArray.size=bs.length:=by simp
 rw[ez,hG]
 refine⟨.bl (g bs),H,I.kept λb o e=>hk b o (λz=>?_) (Heap.get?_push_of_some _ e),rfl,ret _ _ _ _ _ Ext.refl rel (.bl _) q⟩
 have z':b=s.heap.objs.size:=by simpa using z
 exact absurd (z' ▸ Heap.lt_size e) (VaH _)
theorem zv2 {id:String}{g:List Bool→Bool}(rule:∀(pins:List (Addr×Obj)) (σ:St) (H:Hp) (s:Shared) (r:List Addr) (S:Sto) (Q:DK) (Qv:VK) (n:Nat) (a:Addr) (o:Ob) (bs:List Bool),Inv X pins σ H s→Rel X.K Z r S H→r[n]?=some a→lAt S n=some o→zca (zah o)=some bs→
   Q (.bl (g bs)) S→Ret X.K Z r H Q Qv→wpAny (model X.prog X.w) X.A (call (.builtin id) [.ref a]) (EP X pins σ Qv) X.xe s):zbc X (.builtin id) (upC X.K Z (zgu g)):=by
 intro pins s σ H xs us Qv I rv h
 obtain⟨r,S,ds,Q,rel,ps,q,ret⟩:=h
 unfold zgu at q
 split at q
 ·rename_i n
  obtain⟨v,vs,rfl,p1,p2⟩:=ps.uncons
  have z:=p2.unnil
  subst z
  split at q
  ·rename_i o eo
   split at q
   ·rename_i bs eb
    cases p1 with
    | ref h1=>
     obtain⟨u,rfl,ru⟩:=zdP rv
     cases ru
     exact rule pins σ H s r S Q Qv n _ o bs I rel h1 eo eb q ret
   ·exact q.elim
  ·exact q.elim
 ·exact q.elim
theorem zpS (hc:X.calm=true):zbc X (.builtin "all") (upC X.K Z (zgu λbs=>bs.all id)):=
 zv2 λ_ _ _ _ _ _ _ _ _ _ _ _ I rel h1 eo eb q ret=>call_all_walk (zuP (g:=λbs=>bs.all id) (λl f=>l.all f) ztU hc I rel h1 eo eb q ret)
@[irreducible] def irr (w:WC):WC:=w
@[irreducible] def zcd (w:W2):W2:=w
theorem zed (w:WC):irr w=w:=by unfold irr; rfl
theorem zcJ (w:W2):zcd w=w:=by unfold zcd; rfl
theorem zaV {f:Value}{w:WC}(h:zbc X f (upC X.K Z w)):zbc X f (upC X.K Z (irr w)):=by rw[zed]; exact h
theorem zaL {a b:Expr}{ta tb:TDE}(ha:PD X Z a ta)(hb:PD X Z b tb)(hs:zm5 b):PD X Z (.Subscript a b pos) (dOp (zcd wIx) ta tb):=by rw[zcJ]; exact zat ha hb hs
theorem zax (S:Sto)(o:Ob):(S++[o])[S.length]?=some o:=by simp
theorem zcD {S:Sto}{o u:Ob}{n:Nat}(h:S[n]?=some o):(S++[u])[n]?=some o:=by
 rw[Val (Vad.mp h).1]; exact h
theorem zc5 {tl te:TDE}{dl:Ev}{S S1:Sto}{Q:DK}{n:Nat}{o:Ob}(g:D→D)(htl:∀K:DK,K (.ref n) S1→tl dl S K)(h1:S1[n]?=some o)(hl:(zah o).length≤1000)
  (ht:∀x∈zah o,∀(S2:Sto) (K:DK),Pre S1 S2→K (g x) S2→te (some x::zbx caps dl) S2 K)(hq:Q (.ref S1.length) (S1++[.lst ((zah o).map g)]))(hL:zbT o=some o:=by rfl):zco caps tl zcm te dl S Q:=by
 unfold zco
 refine htl _ ⟨by rw[zaO h1 hL]; rfl,λk m S2=>S2=S1++[.lst (((zah o).take k).map g)]∧m+k=(zah o).length,⟨(zah o).length,by simp,by omega⟩,?_⟩
 rintro k m S2 ⟨rfl,hm⟩
 rw[zaO (zcD h1) hL]
 dsimp only
 split
 ·rename_i x hx
  have hk:k<(zah o).length:=(Vad.mp hx).1
  unfold zc3 zcm
  simp only[if_true]
  refine ht x (Vag hx) _ _ Pre.refl.push ?_
  rw[zax]
  refine⟨by simp; omega,m-1,by omega,?_,by omega⟩
  have e:(zah o).take (k+1)=(zah o).take k++[x]:=by rw[Va2,hx]; rfl
  rw[e,VaW,List.set_append_right _ _ (Vaa _)]
  simp
 ·rename_i hx
  have hk:(zah o).length≤k:=VaV.mp hx
  rw[VaF hk]
  exact hq
theorem zsv {o:Ob}{bs:List Bool}(h:zca (zah o)=some bs):zbT o=some o:=by
 cases o <;> first | rfl | cases h
theorem zqz {o:Ob}{xs:List Int}(h:zcl (zah o)=some xs):zbT o=some o:=by
 cases o <;> first | rfl | cases h
theorem zqT {g:List Bool→Bool}{n:Nat}{S:Sto}{o:Ob}{bs:List Bool}{Q:DK}(h:S[n]?=some o)(hb:zca (zah o)=some bs)(hq:Q (.bl (g bs)) S):irr (zgu g) [.ref n] S Q:=by
 rw[zed]
 unfold zgu
 simp only[zaO h (zsv hb),hb]
 exact hq
theorem zdx {le:Int→Int→Prop}{two:Int→Int→Int}{n:Nat}{S:Sto}{o:Ob}{xs:List Int}{Q:DK}(h:S[n]?=some o)(hb:zcl (zah o)=some xs)(hne:xs≠[])(hq:∀m,m∈xs→(∀y∈xs,le y m)→Q (.int m) S):irr (zd5 le two) [.ref n] S Q:=by
 rw[zed]
 unfold zd5
 simp only[zaO h (zqz hb),hb]
 exact⟨hne,hq⟩
theorem zoJ {n:Nat}{S:Sto}{o:Ob}{Q:DK}(h:lAt S n=some o)(hq:Q (.ref S.length) (S++[.lst (zah o)])):irr zjL [.ref n] S Q:=by
 rw[zed]
 unfold zjL
 simp only[h]
 exact hq
theorem zhq {to te:TDE}{dl:Ev}{S S1:Sto}{Q:DK}{n:Nat}{xs:List D}{y:D}(hto:∀K:DK,K (.ref n) S1→to dl S K)(h:S1[n]?=some (.lst xs))(hte:∀K:DK,K y S1→te dl S1 K)(hl:xs.length<1000)(hq:Q .non (S1.set n (.lst (xs++[y])))):zdT to te dl S Q:=by
 unfold zdT
 refine hto _ ?_
 simp only[h]
 refine hte _ ?_
 simp only[h]
 exact ifP hl hq
end
theorem zfe {n:Nat}{x y:Int}:Sco n (.tup [.int x,.int y]):=.tup λd hd=>by
 have z:d=.int x∨d=.int y:=by simpa using hd
 rcases z with rfl | rfl <;> exact .int _
open PySem PySem.Spec PyProof.Rows L2 PySem.W Builtin Builtin.ObjectAttr Builtin.Getset_descriptor
structure Nx (K:Frag)(D:Addr):Prop where
 ga:findIn K (.ref D) "__getattribute__"=some (some (.builtin "BaseException.__getattribute__"))
 hk:findIn K (.ref D) "__getattr__"=some none
 ha:findIn K (.ref D) "__class__"=some (some (.builtin "object.__class__"))
 hn:specialIn K (.builtin "object.__class__") "__get__"=some (some (.builtin "getset_descriptor.__get__"))
 ht:takesIn K (.builtin "object.__class__")=some true
 hm:mroIn K D (.type "object")=some true
 hb:mroIn K D (.type "BaseException")=some true
section
variable {X:Cx}{Z:Zx}
end
def eqN:Nat→D→D→Option Bool
 | 0=>eqF
 | k+1=>eqT (eqN k)
theorem znF:∀k,zfQ (eqN k)
 | 0=>zfR
 | k+1=>zqA (znF k)
theorem zjr:∀k,zdG k (eqN k)
 | 0=>zoQ 0
 | k+1=>zqv (zjr k) (znF k)
def zcp (k:Nat)(S:Sto):D→D→Option Bool
 | .ref n,.ref m=>match lAt S n,lAt S m with
  | some o,some o'=>eqL (eqN k) (zah o) (zah o')
  | _,_=>none
 | x,y=>eqN (k+1) x y
section
variable {X:Cx}{Z:Zx}
def zbB (f:D→D→Option Bool):List D→D→Option Bool
 | [],_=>some false
 | y::ys,x=>match f y x,zbB f ys x with
  | some b,some c=>some (b||c)
  | _,_=>none
def wIn (k:Nat)(neg:Bool):W2:=λx y S Q=>match y with
 | .ref n=>match lAt S n with
  | some o=>match zbB (eqN k) (zah o) x with
   | some b=>Q (.bl (if neg then !b else b)) S
   | none=>False
  | none=>False
 | _=>False
theorem zm2 {v v':V}{u:Value}(h:zav v u)(h':zav v' u):v=v':=by
 cases v <;> cases v' <;> simp[L2.zav] at h h' <;> first
  | rfl
  | (subst h; simp at h'; subst h'; rfl)
  | (obtain⟨t,rfl⟩:=h; simp at h'; subst h'; rfl)
  | (obtain⟨t,rfl⟩:=h; simp at h')
  | (subst h; simp at h')
  | skip
theorem zgR {r:List Addr}{H:Hp}{d d' x:D}{v:V}{b b':Bool}(p:Rp r H d v)(p':Rp r H d' v)(e:eqF d x=some b)(e':eqF d' x=some b'):b=b':=by
 have z:d=d':=by
  cases p <;> cases p' <;> first
   | rfl
   | (cases x <;> simp[eqF] at e)
   | (cases x <;> simp[eqF] at e')
 subst z
 rw[e] at e'
 exact Option.some.inj e'
theorem zmX {f:D→D→Option Bool}{r:List Addr}{H:Hp}(hf:∀(d d' x:D) (v:V) (b b':Bool),Rp r H d v→Rp r H d' v→f d x=some b→f d' x=some b'→b=b'):
  ∀ {ds ds' zs:List D} {vs:List V} {b b':Bool},Rps r H ds vs→Rps r H ds' vs→eqL f ds zs=some b→eqL f ds' zs=some b'→b=b'
 | [],ds',zs,vs,b,b',p,p',e,e'=>by
  have z:=p.unnil
  subst z
  cases ds' with
  | nil=>rw[e] at e'; exact Option.some.inj e'
  | cons y ys=>exact absurd p'.1 (by simp)
 | d::ds,ds',zs,vs,b,b',p,p',e,e'=>by
  obtain⟨v,vs',rfl,p1,p2⟩:=p.uncons
  cases ds' with
  | nil=>exact absurd p'.1 (by simp)
  | cons d' ds'=>
   obtain⟨q1,q2⟩:=p'.tail
   cases zs with
   | nil=>
    simp only[eqL,Option.some.injEq] at e e'
    exact e.symm.trans e'
   | cons z zs=>
    unfold eqL at e e'
    split at e
    ·rename_i b1 c1 a1 a2
     split at e'
     ·rename_i b2 c2 a3 a4
      have h1:=hf d d' z v b1 b2 p1 q1 a1 a3
      have h2:=zmX hf p2 q2 a2 a4
      subst h1 h2
      simp only[Option.some.injEq] at e e'
      exact e.symm.trans e'
     ·cases e'
    ·cases e
theorem zjw:∀(k:Nat) {r:List Addr} {H:Hp} (d d' x:D) (v:V) (b b':Bool),Rp r H d v→Rp r H d' v→eqN k d x=some b→eqN k d' x=some b'→b=b'
 | 0,r,H,d,d',x,v,b,b',p,p',e,e'=>zgR p p' e e'
 | k+1,r,H,d,d',x,v,b,b',p,p',e,e'=>by
  cases p with
  | tup h1 l1 f1=>
   cases p' with
   | tup h2 l2 f2=>
    rw[h1] at h2; cases h2
    cases x with
    | tup zs=>exact zmX (λd d' x v b b'=>zjw k d d' x v b b') ⟨l1,f1⟩ ⟨l2,f2⟩ e e'
    | _=>simp[eqN,eqT,eqF] at e
   | ref h=>cases x <;> simp[eqN,eqT,eqF] at e'
   | exc h=>cases x <;> simp[eqN,eqT,eqF] at e'
  | non=>exact zgR (x:=x) .non p' (by cases x <;> exact e) (by cases p' <;> cases x <;> exact e')
  | bl i=>exact zgR (x:=x) (.bl i) p' (by cases x <;> exact e) (by cases p' <;> cases x <;> exact e')
  | int i=>exact zgR (x:=x) (.int i) p' (by cases x <;> exact e) (by cases p' <;> cases x <;> exact e')
  | str i=>exact zgR (x:=x) (.str i) p' (by cases x <;> exact e) (by cases p' <;> cases x <;> exact e')
  | ref h=>cases x <;> simp[eqN,eqT,eqF] at e
  | exc h=>cases x <;> simp[eqN,eqT,eqF] at e
theorem zm1 {f:D→D→Option Bool}{x:D}:∀ {ys:List D} {b:Bool},zbB f ys x=some b→(∀y∈ys,∃c,f y x=some c)∧(b=true↔∃y∈ys,f y x=some true)
 | [],b,e=>by
  simp only[zbB,Option.some.injEq] at e
  subst e
  simp
 | y::ys,b,e=>by
  unfold zbB at e
  split at e
  ·rename_i b1 c1 e1 e2
   obtain⟨h1,h2⟩:=zm1 e2
   simp only[Option.some.injEq] at e
   subst e
   refine⟨λz hz=>?_,?_⟩
   ·rcases Vas.mp hz with rfl | hz'
    ·exact⟨b1,e1⟩
    ·exact h1 z hz'
   ·rw[Bool.or_eq_true,h2]
    refine⟨λq=>?_,λ⟨z,hz,q⟩=>?_⟩
    ·rcases q with q | ⟨z,hz,q⟩
     ·exact⟨y,Va7,by rw[e1,q]⟩
     ·exact⟨z,VaT _ hz,q⟩
    ·rcases Vas.mp hz with rfl | hz'
     ·left
      rw[e1] at q
      exact Option.some.inj q
     ·exact .inr ⟨z,hz',q⟩
  ·cases e
theorem zuI {k:Nat}{pins:List (Addr×Obj)}{σ:St}{H:Hp}{s:Shared}{r:List Addr}{A:Around}{ds:List D}{vs:List V}{us:List Value}{dx:D}{x:V}{u:Value}{b:Bool}(I:Inv X pins σ H s)(hu:A.units+k<cLine)
  (p:Rps r H ds vs)(rv:zau vs us)(px:Rp r H dx x)(rx:zav x u)(e:zbB (eqN k) ds dx=some b):∃g:Value→Bool,(∀y,y∈us.toArray→SeqAt.EqAt A s y u (g y))∧us.toArray.any g=b:=by
 obtain⟨h1,h2⟩:=zm1 e
 have at_:∀y∈us,∃d v,d∈ds∧Rp r H d v∧zav v y:=λy hy=>by
  obtain⟨j,hj,ej⟩:=VaJ.mp hy
  have hv:j<vs.length:=by rw[rv.length]; exact hj
  have gv:vs[j]?=some vs[j]:=by simp[hv]
  obtain⟨w,gw,rw'⟩:=rv.get gv
  obtain⟨d,gd,pd⟩:=p.get' gv
  have ew:w=y:=by
   rw[Vac hj,ej] at gw
   exact(Option.some.inj gw).symm
  subst ew
  exact⟨d,_,Vag gd,pd,rw'⟩
 classical
 refine⟨λy=>decide (∃d v,d∈ds∧Rp r H d v∧zav v y∧eqN k d dx=some true),λy hy=>?_,?_⟩
 ·obtain⟨d,v,hd,pd,rd⟩:=at_ y (by simpa using hy)
  obtain⟨c,hc⟩:=h1 d hd
  have same:decide (∃d v,d∈ds∧Rp r H d v∧zav v y∧eqN k d dx=some true)=c:=by
   cases c with
   | true=>exact decide_eq_true ⟨d,v,hd,pd,rd,hc⟩
   | false=>
    refine decide_eq_false λ⟨d',v',_,pd',rd',hc'⟩=>?_
    have ev:=zm2 rd rd'
    subst ev
    exact absurd (zjw k d d' dx v false true pd pd' hc hc') (by decide)
  show SeqAt.EqAt A s y u (decide _)
  rw[same]
  exact zjr k X pins σ H s r A d dx v x y u c I hu pd px rd rx hc
 ·rw[Va9,h2,List.any_toArray,List.any_eq_true]
  refine⟨λ⟨y,hy,q⟩=>?_,λ⟨d,hd,q⟩=>?_⟩
  ·obtain⟨d,v,hd,_,_,q'⟩:=of_decide_eq_true q
   exact⟨d,hd,q'⟩
  ·obtain⟨j,hj,ej⟩:=VaJ.mp hd
   have gd:ds[j]?=some d:=by simp[hj,ej]
   obtain⟨v,gv,pv⟩:=p.get gd
   obtain⟨w,gw,rw'⟩:=rv.get gv
   exact⟨w,Vag gw,decide_eq_true ⟨d,v,hd,pv,rw',q⟩⟩
theorem zs7 (k:Nat)(hu:X.A.units+1+k<cLine):OpR X (compareOp .NotIn) (upO X.K Z (wIn k true)):=by
 intro pins s σ H x y v u Qv I rx ry h
 obtain⟨r,S,dx,dy,Q,rel,px,py,q,ret⟩:=h
 cases py with
 | @ref n a hn=>
  unfold wIn at q
  dsimp only at q
  split at q
  ·rename_i o eo
   split at q
   ·rename_i b eb
    cases ry
    obtain⟨eo,eL⟩:=zbk eo
    obtain⟨a',ha,ob⟩:=rel.at eo
    rw[hn] at ha; cases ha
    obtain⟨ys,sq,pr⟩:=ob.list eL
    obtain⟨us,ru,pl,_⟩:=I.list sq
    obtain⟨g,g1,g2⟩:=zuI (A:=X.A.in1) I (by show X.A.units+1+k<_; omega) pr ru px rx eb
    refine SeqAt.notIn_listAt g pl.isList g1 ?_
    rw[g2]
    exact⟨.bl (!b),H,I,rfl,ret _ _ _ _ _ Ext.refl rel (.bl (!b)) q⟩
   ·exact q.elim
  ·exact q.elim
 | _=>exact(show False from q).elim
end
section
variable {X:Cx}{Z:Zx}{pos:Pos}
def zfJ:List Nat→List D→Ev→Ev
 | i::is,d::ds,dl=>zfJ is ds (dl.set i (some d))
 | _,_,dl=>dl
def zlt:List Nat→List V→St→St
 | i::is,v::vs,σ=>zlt is vs (σ.set i (some v))
 | _,_,σ=>σ
theorem znA {r:List Addr}{H:Hp}:∀ {is:List Nat} {ds:List D} {vs:List V} {dl:Ev} {σ:St},Rs r H dl σ→Rps r H ds vs→Rs r H (zfJ is ds dl) (zlt is vs σ)
 | [],ds,vs,dl,σ,h,p=>by cases ds <;> cases vs <;> exact h
 | i::is,[],vs,dl,σ,h,p=>by
  have z:=p.unnil
  subst z
  exact h
 | i::is,d::ds,vs,dl,σ,h,p=>by
  obtain⟨v,vs',rfl,p1,p2⟩:=p.uncons
  show Rs r H (zfJ is ds (dl.set i (some d))) (zlt is vs' (σ.set i (some v)))
  exact znA (Rs.set i h p1) p2
inductive Nms (X:Cx):List Expr→List Nat→Prop
 | nil:Nms X [] []
 | cons {x:Str} {p:Pos} {i:Nat} {es:List Expr} {is:List Nat}:X.N[i]?=some x→Loc X.env.scope x→(X.fn x=true∨X.env.scope.names.lookup x=some .local)→Nms X es is→Nms X (.Name x p::es) (i::is)
def zfu (is:List Nat):TGs:=λvs σ H Q=>vs.length=is.length∧Q (zlt is vs σ) H
theorem zfo (hN:X.N.Nodup):∀ {es:List Expr} {is:List Nat},Nms X es is→PGs X es (zfu is)
 | _,_,.nil=>λpins s σ H vs us Q I r h=>by
  obtain⟨e,h⟩:=h
  have z:vs=[]:=by simpa using e
  subst z
  exact zrw pins s σ H [] us Q I r ⟨rfl,h⟩
 | _,_,.cons (x:=x) (p:=p) (es:=es) (is:=is) h1 h2 h3 t=>λpins s σ H vs us Q I r h=>by
  obtain⟨e,h⟩:=h
  cases vs with
  | nil=>simp at e
  | cons v vs=>exact zuL (zku hN h1 h2 h3) (zfo hN t) rfl pins s σ H (v::vs) us Q I r ⟨v,vs,rfl,by simpa using e,h⟩
def dSetT (is:List Nat)(te:TDE):TDS:=λE dl S=>te dl S λd S1=>match d with
 | .tup xs=>xs.length=is.length∧E.nx (zfJ is xs dl) S1
 | _=>False
theorem zpu {es:List Expr}{e:Expr}{te:TDE}{k:Nat}{p:Pos}{is:List Nat}(hc:X.calm=true)(hN:X.N.Nodup)(hn:Nms X es is)(he:PD X Z e te)(hlen:(assignEach es X.env).length=is.length:=by rfl)(hst:(assignEach es X.env).findIdx? (·.1)=none:=by rfl)
  (hs:swapsWithSole [.Tuple es k p] e pos.line X.env=pure false:=by rfl)(hw:swappedStores [.Tuple es k p] e X.env=pure none:=by rfl)
  (h1:(assignEach [.Tuple es k p] X.env).map (·.2)=[assign (.Tuple es k p) X.env]:=by rfl):PDS X Z (.Assign [.Tuple es k p] e pos) (dSetT is te):=
 zbZ (zrm he (zgf hc (zfo hN hn) hlen hst) hs hw h1) λF σ H ⟨r,dl,S,E,rs,rel,h,ret⟩=>by
  refine⟨r,dl,S,_,rs,rel,h,λv H1 r1 d S1 x1 rel1 p1 q1=>?_⟩
  cases p1 with
  | @tup ds xs a e1 l1 f1=>
   obtain⟨hl,q⟩:=q1
   exact⟨a,xs,rfl,SqT.of e1,by rw[← l1]; exact hl,by rw[← l1]; exact hl,ret.nx _ H1 r1 _ S1 x1 (znA (rs.ext x1) ⟨l1,f1⟩) rel1 q⟩
  | _=>exact(show False from q1).elim
end
open PySem L2
theorem zoa (S:Sto)(o u:Ob):(S++[o]).set S.length u=S++[u]:=by simp
section
variable {X:Cx}{Z:Zx}
end
def zpx:Sd:=λ_ _ _ _=>False
def Df.never {P:Program}{w:World}{K:PySem.W.Frag}{mg:Str→Option Value}{base:Heap}{x:Str}{st:Stmt}{ps:List Str}(k:Nat)(d:Df K mg x st ps):Fk P w K mg base k x ps zpx:=
 ⟨d.f,d.fd,⟨λ_ _ _ _ ⟨_,_,_,_,_,_,_,z,_⟩=>z.elim,λ_ _ _ _ _ _ _ _ _ _ _ _ _ ⟨_,_,_,_,_,_,_,z,_⟩=>z.elim⟩,d.m,d.F.kp,d.b⟩
section
variable {X:Cx}{Z:Zx}{pos:Pos}
end
section
variable {X:Cx}{Z:Zx}{elt iter:Expr}{x:Str}{px pos:Pos}{ifs:List Expr}{sc ar:Scope}{N:List Str}{caps:List Nat}
theorem zmV {ta:TDA}{te:TDE}{dl:Ev}{S S1:Sto}{Q:DK}{j:Int}(g:Nat→D)(hta:∀K:List D→Sto→Prop,K [.int j] S1→ta dl S K)(hj:0≤j∧j≤1000)
  (ht:∀k:Nat,k<j.toNat→∀(S2:Sto) (K:DK),Pre S1 S2→K (g k) S2→te (some (.int k)::zbx caps dl) S2 K)(hq:Q (.ref S1.length) (S1++[.lst ((List.range j.toNat).map g)])):zc4 caps ta zcm te dl S Q:=by
 unfold zc4
 refine hta _ ⟨⟨by omega,by omega⟩,λk S2=>S2=S1++[.lst ((List.range k).map g)]∧k≤j.toNat,⟨by simp,by omega⟩,?_⟩
 rintro k S2 ⟨rfl,hk⟩
 split
 ·rename_i hk'
  unfold zc3 zcm
  simp only[if_true]
  refine ht k hk' _ _ Pre.refl.push ?_
  rw[zax]
  refine⟨by simp; omega,?_,by omega⟩
  rw[List.range_succ,VaW,List.set_append_right _ _ (Vaa _)]
  simp
 ·have e:k=j.toNat:=by omega
  subst e
  exact hq
end
section
variable {X:Cx}{Z:Zx}{pos:Pos}
def zb1 (zs:List Str):Str:=⟨(zs.flatMap λz=>z.cps.toList).toArray⟩
abbrev TDO:=Ev→Sto→(Option Int→Sto→Prop)→Prop
def upP (K:PySem.W.Frag)(Z:Zx)(t:TDO):TO:=λσ H Q=>∃(r:List Addr) (dl:Ev) (S:Sto) (Q':Option Int→Sto→Prop),Rs r H dl σ∧Rel K Z r S H∧t dl S Q'∧∀o H' r' S',Ext r r' H H'→Rel K Z r' S' H'→Q' o S'→Q o H'
def PDO (X:Cx)(Z:Zx)(e:Option Expr)(t:TDO):Prop:=PO X e (upP X.K Z t)
def znH:TDO:=λ_ S Q=>Q none S
def znx (t:TDE):TDO:=λdl S Q=>t dl S λd S1=>match d with
 | .int i=>Q (some i) S1
 | _=>False
theorem zqc {e:Option Expr}{t t':TO}(h:PO X e t)(g:∀σ H Q,t' σ H Q→t σ H Q):PO X e t':=λpins s σ H Q I q=>h pins s σ H Q I (g σ H Q q)
theorem zjy:PDO X Z none znH:=zqc zx4 λσ H Q ⟨r,dl,S,Q',rs,rel,h,ret⟩=>ret none H r S Ext.refl rel h
theorem zlB {e:Expr}{t:TDE}(he:PD X Z e t):PDO X Z (some e) (znx t):=zqc (zxI he) λσ H Q ⟨r,dl,S,Q',rs,rel,h,ret⟩=>⟨r,dl,S,_,rs,rel,h,λv H1 r1 d S1 e1 rel1 p1 q1=>by
 cases p1 with
 | int i=>exact⟨i,rfl,ret (some i) H1 r1 S1 e1 rel1 q1⟩
 | _=>exact(show False from q1).elim⟩
end
section
variable {X:Cx}{Z:Zx}
end
section
variable {X:Cx}{Z:Zx}
end
theorem zaI {n:Nat}{S:Sto}{o:Ob}{Q:DK}{i:Int}{d:D}(ho:S[n]?=some o)(hd:atI (zah o) i=some d)(hq:Q d S)(hL:zbT o=some o:=by rfl):zcd wIx (.ref n) (.int i) S Q:=by
 rw[zcJ]
 unfold wIx
 simp only[zaO ho hL,hd]
 exact hq
def ze9 (f:Str)(v:D):List (Str×D)→List (Str×D)
 | []=>[(f,v)]
 | p::r=>if p.1=f then (f,v)::r else p::ze9 f v r
theorem FR.lookup {r:List Addr}{H:Hp}{f:Str}:∀ {fs:List (Str×D)} {fs':List (Str×V)},FR r H fs fs'→(∀d,fs.lookup f=some d→∃v,fs'.lookup f=some v∧Rp r H d v)∧(fs.lookup f=none→fs'.lookup f=none)
 | [],fs',h=>by
  have e:fs'=[]:=by
   have:=h.1
   simpa using this.symm
  subst e
  exact⟨λd z=>by simp at z,λ_=>rfl⟩
 | p::fs,[],h=>by
  have:=h.1
  simp at this
 | p::fs,q::fs',h=>by
  obtain⟨h1,h2⟩:=h
  simp only[Vaz,List.cons.injEq] at h1
  obtain⟨p1,p2⟩:=h2.tail
  obtain⟨i1,i2⟩:=FR.lookup (f:=f) (fs:=fs) (fs':=fs') ⟨h1.2,p2⟩
  obtain⟨pk,pv⟩:=p
  obtain⟨qk,qv⟩:=q
  have ek:pk=qk:=h1.1
  subst ek
  by_cases z:f=pk
  ·subst z
   simp only[List.lookup_cons_self]
   exact⟨λd hd=>⟨qv,rfl,by cases hd; exact p1⟩,λhd=>by cases hd⟩
  ·have zb:(f==pk)=false:=by simpa using z
   simp only[VaA,zb]
   exact⟨i1,i2⟩
theorem FR.put {r:List Addr}{H:Hp}{f:Str}{d:D}{v:V}(q:Rp r H d v):∀ {fs:List (Str×D)} {fs':List (Str×V)},FR r H fs fs'→FR r H (ze9 f d fs) (zbw f v fs')
 | [],fs',h=>by
  have e:fs'=[]:=by
   have:=h.1
   simpa using this.symm
  subst e
  exact⟨rfl,Rps.cons q Rps.nil⟩
 | p::fs,[],h=>by
  have:=h.1
  simp at this
 | p::fs,p'::fs',h=>by
  obtain⟨h1,h2⟩:=h
  simp only[Vaz,List.cons.injEq] at h1
  obtain⟨p1,p2⟩:=h2.tail
  have ih:=FR.put (f:=f) q (fs:=fs) (fs':=fs') ⟨h1.2,p2⟩
  obtain⟨pk,pv⟩:=p
  obtain⟨qk,qv⟩:=p'
  have ek:pk=qk:=h1.1
  subst ek
  unfold ze9 zbw
  by_cases z:pk=f
  ·rw[if_pos z,if_pos z]
   exact⟨by simp[h1.2,z],Rps.cons q p2⟩
  ·rw[if_neg z,if_neg z]
   exact⟨by simp[ih.1],Rps.cons p1 ih.2⟩
section
variable {X:Cx}{Z:Zx}{pos:Pos}
def zcZ (C:Addr)(S:Sto):D→Option (Nat×List (Str×D))
 | .ref n=>match S[n]? with
  | some (.ins C' fs)=>if C'=C then some (n,fs) else none
  | _=>none
 | _=>none
theorem zne {C:Addr}{S:Sto}{d:D}{n:Nat}{fs:List (Str×D)}(h:zcZ C S d=some (n,fs)):d=.ref n∧S[n]?=some (.ins C fs):=by
 unfold zcZ at h
 split at h
 ·split at h
  ·rename_i m _ C' fs' e
   split at h
   ·rename_i ec
    subst ec
    simp only[Option.some.injEq,Prod.mk.injEq] at h
    obtain⟨rfl,rfl⟩:=h
    exact⟨rfl,e⟩
   ·cases h
  ·cases h
 ·cases h
@[irreducible] def zjU (C:Addr)(f:Str)(to:TDE):TDE:=λdl S Q=>to dl S λd S1=>match zcZ C S1 d with
 | some (_,fs)=>match fs.lookup f with
  | some v=>Q v S1
  | none=>False
 | none=>False
theorem za8 {C:Addr}{f:Str}{o:Expr}{to:TDE}(c:Cls X.K C)(n:zbu X.K C f)(ho:PD X Z o to)(hb:attributeBase o f X.env (eval o X.env)=eval o X.env:=by rfl):PD X Z (.Attribute o f pos) (zjU C f to):=
 za5 (zuD ho hb) λσ H Qv ⟨r,dl,S,Q,rs,rel,h,ret⟩=>by unfold zjU at h; exact⟨r,dl,S,_,rs,rel,h,λv H1 r1 d S1 e1 rel1 p1 q1=>by
  split at q1
  ·rename_i m fs ei
   obtain⟨rfl,eS⟩:=zne ei
   split at q1
   ·rename_i w ew
    obtain⟨a,ha,ob⟩:=rel1.at eS
    obtain⟨dx,fs',eH,fr⟩:=ob
    cases p1 with
    | ref hr=>
     rw[hr] at ha; cases ha
     obtain⟨u,hu,pu⟩:=fr.lookup.1 w ew
     exact⟨a,C,dx,fs',u,rfl,eH,c,n,hu,ret u H1 r1 w S1 e1 rel1 pu q1⟩
   ·exact q1.elim
  ·exact q1.elim⟩
@[irreducible] def zmh (C:Addr)(f:Str)(to te:TDE):TDS:=λE dl S=>te dl S λv S1=>to dl S1 λd S2=>match zcZ C S2 d with
 | some (n,fs)=>fs.length<1000∧E.nx dl (S2.set n (.ins C (ze9 f v fs)))
 | none=>False
theorem zcA {C:Addr}{f:Str}{o e:Expr}{to te:TDE}{p2:Pos}(c:Cls X.K C)(n:zbu X.K C f)(ho:PD X Z o to)(he:PD X Z e te)
  (hs:swapsWith e (some (.Attribute o f p2)) pos.line X.env=pure false:=by rfl):PDS X Z (.Assign [.Attribute o f p2] e pos) (zmh C f to te):=
 zbZ (zwt ho he hs) λF σ H ⟨r,dl,S,E,rs,rel,h,ret⟩=>by unfold zmh at h; exact⟨r,dl,S,_,rs,rel,h,λv H1 r1 dv S1 e1 rel1 p1 q1=>⟨r1,dl,S1,_,rs.ext e1,rel1,q1,λw H2 r2 d S2 e2 rel2 p2' q2=>by
  split at q2
  ·rename_i m fs ei
   obtain⟨rfl,eS⟩:=zne ei
   obtain⟨hl,q2⟩:=q2
   obtain⟨a,ha,ob⟩:=rel2.at eS
   obtain⟨dx,fs',eH,fr⟩:=id ob
   cases p2' with
   | ref hr=>
    rw[hr] at ha; cases ha
    have hlen:fs'.length=fs.length:=by
     have:=congrArg List.length fr.1
     simpa using this.symm
    obtain⟨rb,x⟩:=rel2.b.setO (o':=.ins C (ze9 f dv fs)) (u:=.ins C dx (zbw f v fs')) hr eS rfl rfl λx=>⟨dx,_,zcw,(fr.put (p1.ext e2)).ext x⟩
    exact⟨a,C,dx,fs',rfl,eH,c,n,by omega,ret.nx _ _ r2 _ _ (e1.trans (e2.trans x)) (rs.ext (e1.trans (e2.trans x))) ⟨rb,rel2.xw.ext x⟩ q2⟩
  ·exact q2.elim⟩⟩
@[irreducible] def zlS (C:Addr)(m:Str)(ex:Ev→Addr→Sto→Prop)(sd:Sd)(to:TDE)(t:TDA):TDE:=λdl S Q=>to dl S λd S1=>match zcZ C S1 d with
 | some (_,fs)=>fs.lookup m=none∧t dl S1 λds S2=>sd (d::ds) S2 Q (ex dl)
 | none=>False
theorem zrA {C:Addr}{m:Str}{f:Addr}{fd:FuncData}{k:Nat}{ps:List Str}{sp:Sp}{W:St→XK}{o e:Expr}{es:List Expr}{ta:TE}{t:TA}{apos:Pos}{pl:Sem Bool}(he:PE X o ta)(c:Cls X.K C)(hm:zfy X.K C m f)
  (F:za6 X.prog X.w X.K X.mg X.base (CXE X.prog X.w) k f fd ps sp)(hr:zaK k X.A)(hb:zbP X.K fd ps [])(hx:zdi X W)(ha:PA X (e::es) t)(hst:starEach (e::es) X.env=(false,eval e X.env)::starEach es X.env)(hpl:(backTo pos (starEach es X.env)).any (·.1)=false)
  (ht:eval (.Call (.Attribute o m apos) (e::es) [] pos) X.env=(do
   let ov ← eval o X.env
   standAt apos.atName
   let (f,first) ← holding [ov] (getMethod ov m pl)
   callWith pos f first (backTo pos (starEach (e::es) X.env)) (backToKw pos (keywordEach [] X.env)))):
  PE X (.Call (.Attribute o m apos) (e::es) [] pos) (λσ H Q=>ta σ H λx H1=>∃a dx fs,x=.ref a∧H1 a=some (.ins C dx fs)∧fs.lookup m=none∧t σ H1 λvs H2=>sp (x::vs) H2 Q (W σ)):=by
 intro pins s σ H Q I h
 refine PySem.W.methodCall_KW (pl:=pl) (thn (he pins s σ H _ I h) λu s1 ⟨x,H1,I1,rx,a,dx,fs,ex,ea,l,q⟩=>?_) ht
 subst ex
 obtain rfl:u=Value.ref a:=rx
 refine zq3 I1 ea c hm l ?_
 exact PySem.W.callWith_K (first:=[.ref a]) (h₀:=X.base) I.ok.mod.kin hm.kp (thn (ha pos pins s1 σ H1 _ I1 q) λus s2 ⟨vs,H2,I2,r,q2⟩=>⟨I2.kIn,znQ (us:=.ref a::us) (vs:=.ref a::vs) F hr hb hx I2 (.cons rfl r) q2⟩) hst hpl
theorem zql {C:Addr}{r:List Addr}{S:Sto}{H:Hp}{d:D}{v:V}{n:Nat}{fs:List (Str×D)}(rel:zaU X.K r S H)(p:Rp r H d v)(h:zcZ C S d=some (n,fs)):∃a dx fs',v=.ref a∧r[n]?=some a∧H a=some (.ins C dx fs')∧FR r H fs fs':=by
 obtain⟨rfl,eS⟩:=zne h
 obtain⟨a,ha,dx,fs',eH,fr⟩:=rel.at eS
 cases p with
 | ref hr=>
  rw[hr] at ha; cases ha
  exact⟨a,dx,fs',rfl,hr,eH,fr⟩
theorem znq {C:Addr}{m:Str}{f:Addr}{fd:FuncData}{k:Nat}{ps:List Str}{sd:Sd}{o e:Expr}{es:List Expr}{to:TDE}{t:TDA}{apos:Pos}{pl:Sem Bool}{ex:Ev→Addr→Sto→Prop}{W:St→XK}(ho:PD X ⟨ex,W⟩ o to)(c:Cls X.K C)(hm:zfy X.K C m f)
  (F:za6 X.prog X.w X.K X.mg X.base (CXE X.prog X.w) k f fd ps (upF X.K sd))(hr:zaK k X.A)(hb:zbP X.K fd ps [])(hx:zdi X W)(ha:PDA X ⟨ex,W⟩ (e::es) t)
  (hst:starEach (e::es) X.env=(false,eval e X.env)::starEach es X.env:=by rfl)(hpl:(backTo pos (starEach es X.env)).any (·.1)=false:=by rfl)
  (ht:eval (.Call (.Attribute o m apos) (e::es) [] pos) X.env=(do
   let ov ← eval o X.env
   standAt apos.atName
   let (f,first) ← holding [ov] (getMethod ov m pl)
   callWith pos f first (backTo pos (starEach (e::es) X.env)) (backToKw pos (keywordEach [] X.env))):=by rfl):PD X ⟨ex,W⟩ (.Call (.Attribute o m apos) (e::es) [] pos) (zlS C m ex sd to t):=
 za5 (zrA ho c hm F hr hb hx ha hst hpl ht) λσ H Qv ⟨r,dl,S,Q,rs,rel,h,ret⟩=>by unfold zlS at h; exact⟨r,dl,S,_,rs,rel,h,λv H1 r1 d S1 e1 rel1 p1 q1=>by
  split at q1
  ·rename_i n fs ei
   obtain⟨hl,q1⟩:=q1
   obtain⟨a,dx,fs',rfl,hr1,eH,fr⟩:=zql rel1.b p1 ei
   exact⟨a,dx,fs',rfl,eH,fr.lookup.2 hl,r1,dl,S1,_,rs.ext e1,rel1,q1,λvs H2 r2 ds S2 e2 rel2 p2 q2=>zoj (Z:=⟨ex,W⟩) (rs.ext (e1.trans e2)) rel2 (Rps.cons (p1.ext e2) p2) q2 (ret.ext (e1.trans e2))⟩
  ·exact q1.elim⟩
def dMake (C:Addr)(ex:Addr→Sto→Prop)(sd:Sd)(t:TDA):TDE:=λdl S Q=>t dl S λds S1=>sd (.ref S1.length::ds) (S1++[.ins C []]) (λd S2=>d=.non∧Q (.ref S1.length) S2) ex
theorem zvO {C x dx:Addr}{r:List Addr}{S:Sto}{H:Hp}(rel:Rel X.K Z r S H)(h1:H x=none)(h2:H dx=none)(h3:dx≠x):
  Rel X.K Z (r++[x]) (S++[.ins C []]) (upd (upd H dx (.own x)) x (.ins C dx []))∧Ext r (r++[x]) H (upd (upd H dx (.own x)) x (.ins C dx [])):=by
 obtain⟨rb,e⟩:=rel.b.pushO (o:=.ins C []) (H':=upd (upd H dx (.own x)) x (.ins C dx [])) h1 (λb u q=>by rw[za1 (zdN q h1),za1 (zdN q h2)]; exact q) λ_=>⟨dx,[],zcw,FR.nil⟩
 exact⟨⟨rb,rel.xw.ext e⟩,e⟩
theorem zwa {C x:Addr}{r r':List Addr}{n:Nat}{H H':Hp}{Z:Zx}{K:PySem.W.Frag}{Q:DK}{Qv:VK}(ret:Ret K Z r H Q Qv)(e:Ext r r' H H')(hx:r'[n]?=some x):
  Ret K Z r' H' (λd S2=>d=.non∧Q (.ref n) S2) (λv H2=>v=.non∧Qv (.ref x) H2):=λv H2 r2 d S2 e2 rel2 p2 q2=>by
 obtain⟨rfl,q2⟩:=q2
 cases p2
 exact⟨rfl,ret _ H2 r2 (.ref n) S2 (e.trans e2) rel2 (.ref (e2.adr _ _ hx)) q2⟩
theorem zfp {C f:Addr}{fd:FuncData}{k:Nat}{ps:List Str}{sd:Sd}{ex:Addr→Sto→Prop}{W:XK}{x:Str}{p:Pos}{e:Expr}{es:List Expr}{t:TDA}(M:Mk X.K C f)
  (F:za6 X.prog X.w X.K X.mg X.base (CXE X.prog X.w) k f fd ps (upF X.K sd))(hr:zaK (k+1) X.A)(hg:Gl X x)(hm:X.mg x=some (.ref C))(hb:zbP X.K fd ps [])(hx:zmH (CXE X.prog X.w) X W)(ha:PDA X (Zc ex W) (e::es) t)
  (hdb:(x==("__debug__":Str))=false:=by decide)(he:starEach (e::es) X.env=(false,eval e X.env)::starEach es X.env:=by rfl)(hpl:(backTo pos (starEach es X.env)).any (·.1)=false:=by rfl):
  PD X (Zc ex W) (.Call (.Name x p) (e::es) [] pos) (dMake C ex sd t):=
 za5 (zww M F hr hg hm hb .nil hx ha hdb he hpl) λσ H Qv ⟨r,dl,S,Q,rs,rel,h,ret⟩=>⟨r,dl,S,_,rs,rel,h,λvs H1 r1 ds S1 e1 rel1 p1 q1=>λx dx n1 n2 n3=>by
  obtain⟨rel2,e2⟩:=zvO (C:=C) rel1 n1 n2 n3
  show upF X.K sd (.ref x::(vs++[])) _ _ W
  rw[Vbe]
  exact⟨ex,_,_,.ref S1.length::ds,_,rel2,Rps.cons (zeg rel1.len) (p1.ext e2),q1,zwa (C:=C) ret (e1.trans e2) (zhP rel1.len)⟩⟩
end
section
variable {κ:Type} [DecidableEq κ]
def zei (kvs:List (κ×D))(k:κ):Option D:=(kvs.find? λkv=>decide (kv.1=k)).map (·.2)
def zrf (kvs:List (κ×D))(k:κ)(v:D):List (κ×D):=
 if (kvs.any λkv=>decide (kv.1=k))=true then kvs.map (λkv=>if kv.1=k then (kv.1,v) else kv) else kvs++[(k,v)]
theorem FR.split {r:List Addr}{H:Hp}{p:κ×D}{fs:List (κ×D)}{gs:List (κ×V)}(h:FR r H (p::fs) gs):∃q gs',gs=q::gs'∧p.1=q.1∧Rp r H p.2 q.2∧FR r H fs gs':=by
 cases gs with
 | nil=>
  have:=h.1
  simp at this
 | cons q gs'=>
  obtain⟨h1,h2⟩:=h
  simp only[Vaz,List.cons.injEq] at h1
  obtain⟨p1,p2⟩:=h2.tail
  exact⟨q,gs',rfl,h1.1,p1,h1.2,p2⟩
theorem FR.unnil {r:List Addr}{H:Hp}{gs:List (κ×V)}(h:FR r H ([]:List (κ×D)) gs):gs=[]:=by
 have:=h.1
 simpa using this.symm
theorem FR.cons {r:List Addr}{H:Hp}{k:κ}{d:D}{v:V}{fs:List (κ×D)}{gs:List (κ×V)}(p:Rp r H d v)(h:FR r H fs gs):FR r H ((k,d)::fs) ((k,v)::gs):=⟨by simp[h.1],Rps.cons p h.2⟩
theorem FR.val {r:List Addr}{H:Hp}{k:κ}:∀ {fs:List (κ×D)} {gs:List (κ×V)},FR r H fs gs→(∀d,zei fs k=some d→∃v,zcc gs k=some v∧Rp r H d v)∧(zei fs k=none→zcc gs k=none)
 | [],gs,h=>by
  have z:=h.unnil
  subst z
  exact⟨(λd e=>by cases e),λ_=>rfl⟩
 | p::fs,gs,h=>by
  obtain⟨q,gs',rfl,e,pr,t⟩:=h.split
  obtain⟨i1,i2⟩:=FR.val (k:=k) t
  by_cases z:p.1=k
  ·have z':q.1=k:=e.symm.trans z
   rw[zjk z']
   have zd:zei (p::fs) k=some p.2:=by simp[zei,Va4,z]
   rw[zd]
   exact⟨λd hd=>⟨q.2,rfl,by cases hd; exact pr⟩,λhd=>by cases hd⟩
  ·have z':¬ q.1=k:=λy=>z (e.trans y)
   rw[zkp z']
   have zd:zei (p::fs) k=zei fs k:=by simp[zei,Va4,z]
   rw[zd]
   exact⟨i1,i2⟩
theorem FR.putK {r:List Addr}{H:Hp}{k:κ}{d:D}{v:V}{fs:List (κ×D)}{gs:List (κ×V)}(p:Rp r H d v)(h:FR r H fs gs):FR r H (zrf fs k d) (putK gs k v):=by
 have any:∀ {fs:List (κ×D)} {gs:List (κ×V)},FR r H fs gs→(fs.any λkv=>decide (kv.1=k))=(gs.any λkv=>decide (kv.1=k)):=by
  intro fs
  induction fs with
  | nil=>intro gs h; have z:=h.unnil; subst z; rfl
  | cons q fs ih=>
   intro gs h
   obtain⟨q',gs',rfl,e,_,t⟩:=h.split
   rw[List.any_cons,List.any_cons,ih t,e]
 have mp:∀ {fs:List (κ×D)} {gs:List (κ×V)},FR r H fs gs→FR r H (fs.map λkv=>if kv.1=k then (kv.1,d) else kv) (gs.map λkv=>if kv.1=k then (kv.1,v) else kv):=by
  intro fs
  induction fs with
  | nil=>intro gs h; have z:=h.unnil; subst z; exact FR.nil
  | cons q fs ih=>
   intro gs h
   obtain⟨q',gs',rfl,e,pr,t⟩:=h.split
   rw[Vaz,Vaz]
   obtain⟨qk,qd⟩:=q
   obtain⟨qk',qv⟩:=q'
   have e':qk=qk':=e
   subst e'
   by_cases z:qk=k
   ·rw[if_pos z,if_pos z]; exact FR.cons p (ih t)
   ·rw[if_neg z,if_neg z]; exact FR.cons pr (ih t)
 have ap:∀ {fs:List (κ×D)} {gs:List (κ×V)},FR r H fs gs→FR r H (fs++[(k,d)]) (gs++[(k,v)]):=by
  intro fs
  induction fs with
  | nil=>intro gs h; have z:=h.unnil; subst z; exact FR.cons p FR.nil
  | cons q fs ih=>
   intro gs h
   obtain⟨q',gs',rfl,e,pr,t⟩:=h.split
   obtain⟨qk,qd⟩:=q
   obtain⟨qk',qv⟩:=q'
   have e':qk=qk':=e
   subst e'
   exact FR.cons pr (ih t)
 unfold zrf L2.putK
 rw[any h]
 split
 ·exact mp h
 ·exact ap h
end
section
variable {X:Cx}{Z:Zx}{pos:Pos}
end
section
variable {X:Cx}{Z:Zx}{pos:Pos}
def zdu (xs:List D)(lo hi:Option Int):List D:=(xs.drop (HT.sIx xs.length 0 lo)).take (HT.sIx xs.length xs.length hi-HT.sIx xs.length 0 lo)
theorem Rps.drop {r:List Addr}{H:Hp}{ds:List D}{vs:List V}(h:Rps r H ds vs)(k:Nat):Rps r H (ds.drop k) (vs.drop k):=
 ⟨by simp[h.1],λi d v h1 h2=>h.2 (k+i) d v (by simpa using h1) (by simpa using h2)⟩
theorem Rps.take {r:List Addr}{H:Hp}{ds:List D}{vs:List V}(h:Rps r H ds vs)(k:Nat):Rps r H (ds.take k) (vs.take k):=by
 refine⟨by simp[h.1],λi d v h1 h2=>?_⟩
 rw[List.getElem?_take] at h1 h2
 split at h1
 ·rw[if_pos (by assumption)] at h2
  exact h.2 i d v h1 h2
 ·cases h1
theorem Rps.cut {r:List Addr}{H:Hp}{ds:List D}{vs:List V}(h:Rps r H ds vs)(lo hi:Option Int):Rps r H (zdu ds lo hi) (zfU vs lo hi):=by
 unfold zdu zfU
 rw[h.1]
 exact(h.drop _).take _
@[irreducible] def zfq (te:TDE)(tl th:TDO):TDE:=λdl S Q=>te dl S λd S1=>tl dl S1 λl S2=>th dl S2 λu S3=>match d with
 | .ref n=>match lAt S3 n with
  | some o=>Q (.ref S3.length) (S3++[.lst (zdu (zah o) l u)])
  | none=>False
 | _=>False
theorem zl5 {e:Expr}{te:TDE}{lo hi:Option Expr}{tl th:TDO}{p2:Pos}(he:PD X Z e te)(hl:PDO X Z lo tl)(hu:PDO X Z hi th):PD X Z (.Subscript e (.Slice lo hi none p2) pos) (zfq te tl th):=
 za5 (zwm zsK he hl hu) λσ H Qv ⟨r,dl,S,Q,rs,rel,h,ret⟩=>by
  unfold zfq at h
  refine⟨r,dl,S,_,rs,rel,h,λv H1 r1 d S1 e1 rel1 p1 q1=>⟨r1,dl,S1,_,rs.ext e1,rel1,q1,λl H2 r2 S2 e2 rel2 q2=>⟨r2,dl,S2,_,rs.ext (e1.trans e2),rel2,q2,λu H3 r3 S3 e3 rel3 q3=>?_⟩⟩⟩
  cases p1 with
  | @ref n a hn=>
   dsimp only at q3
   split at q3
   ·rename_i o eo
    obtain⟨eo,eL⟩:=zbk eo
    obtain⟨a',ha,ob⟩:=rel3.at eo
    rw[e3.adr _ _ (e2.adr _ _ hn)] at ha; cases ha
    obtain⟨xs,sq,pr⟩:=ob.list eL
    refine⟨a,xs,rfl,sq,λp hp=>?_⟩
    obtain⟨rel4,x⟩:=rel3.push hp (pr.cut l u)
    exact ret _ _ _ (.ref S3.length) _ (e1.trans (e2.trans (e3.trans x))) rel4 (zeg rel3.len) q3
   ·exact q3.elim
  | _=>exact(show False from q3).elim
theorem zkr {te:TDE}{tl th:TDO}{dl:Ev}{S S3:Sto}{Q:DK}{n:Nat}{o:Ob}{lo hi:Option Int}(h:∀K:DK,K (.ref n) S3→te dl S K)(hl:∀K:Option Int→Sto→Prop,K lo S3→tl dl S3 K)(hh:∀K:Option Int→Sto→Prop,K hi S3→th dl S3 K)(ho:S3[n]?=some o)
  (hq:Q (.ref S3.length) (S3++[.lst (zdu (zah o) lo hi)]))(hL:zbT o=some o:=by rfl):zfq te tl th dl S Q:=by
 unfold zfq
 refine h _ (hl _ (hh _ ?_))
 simp only[zaO ho hL]
 exact hq
end
section
variable {X:Cx}{Z:Zx}{pos:Pos}
theorem Rps.put {r:List Addr}{H:Hp}{ds:List D}{vs:List V}{d:D}{v:V}(h:Rps r H ds vs)(p:Rp r H d v)(j:Nat):Rps r H (ds.set j d) (vs.set j v):=by
 refine⟨by simp[h.1],λi x y h1 h2=>?_⟩
 by_cases z:j=i
 ·subst z
  have hl:j<ds.length:=by
   have:=(Vad.mp h1).1
   simpa using this
  rw[Va8 hl] at h1
  rw[Va8 (by rw[← h.1]; exact hl)] at h2
  cases h1
  cases h2
  exact p
 ·rw[VaM z] at h1 h2
  exact h.2 i x y h1 h2
def zdk (f:D→D→Option Bool):List D→D→Option (Option Nat)
 | [],_=>some none
 | y::ys,x=>match f y x,zdk f ys x with
  | some true,some _=>some (some 0)
  | some false,some o=>some (o.map (·+1))
  | _,_=>none
theorem znV {f:D→D→Option Bool}{x:D}:∀ {ys:List D} {o:Option Nat},zdk f ys x=some o→(∀y∈ys,∃c,f y x=some c)∧∀j,o=some j→(∃y,ys[j]?=some y∧f y x=some true)∧∀m y,m<j→ys[m]?=some y→f y x=some false
 | [],o,e=>by
  have h:=Option.some.inj e
  subst h
  exact⟨(λy hy=>by cases hy),λj z=>by cases z⟩
 | y::ys,o,e=>by
  unfold zdk at e
  split at e
  ·rename_i o1 e1 e2
   have h:=Option.some.inj e
   subst h
   obtain⟨h1,_⟩:=znV e2
   refine⟨λz hz=>?_,λj hj=>?_⟩
   ·rcases Vas.mp hz with rfl | hz
    ·exact⟨true,e1⟩
    ·exact h1 z hz
   ·cases hj
    exact⟨⟨y,rfl,e1⟩,λm z hm=>by omega⟩
  ·rename_i o1 e1 e2
   have h:=Option.some.inj e
   subst h
   obtain⟨h1,h2⟩:=znV e2
   refine⟨λz hz=>?_,λj hj=>?_⟩
   ·rcases Vas.mp hz with rfl | hz
    ·exact⟨false,e1⟩
    ·exact h1 z hz
   ·obtain⟨k,rfl,rfl⟩:=Vaj.mp hj
    obtain⟨⟨z,hz1,hz2⟩,h3⟩:=h2 k rfl
    refine⟨⟨z,by simpa using hz1,hz2⟩,λm w hm hw=>?_⟩
    cases m with
    | zero=>
     have:w=y:=by simpa using hw.symm
     rw[this]; exact e1
    | succ m=>exact h3 m w (by omega) (by simpa using hw)
  ·cases e
theorem zwl {k:Nat}{pins:List (Addr×Obj)}{σ:St}{H:Hp}{s:Shared}{r:List Addr}{A:Around}{ds:List D}{vs:List V}{us:List Value}{dx:D}{x:V}{u:Value}{j:Nat}(I:Inv X pins σ H s)(hu:A.units+k<cLine)
  (p:Rps r H ds vs)(rv:zau vs us)(px:Rp r H dx x)(rx:zav x u)(e:zdk (eqN k) ds dx=some (some j)):
  ∃g:Value→Bool,(∀y,y∈us.toArray→SeqAt.EqAt A s y u (g y))∧∃hj:j<us.toArray.size,g us.toArray[j]=true∧∀m (hm:m<us.toArray.size),m<j→g us.toArray[m]=false:=by
 obtain⟨h1,h2⟩:=znV e
 obtain⟨⟨yj,hyj,htj⟩,hno⟩:=h2 j rfl
 classical
 have at_:∀(m:Nat) (hm:m<us.length),∃d v,ds[m]?=some d∧Rp r H d v∧zav v us[m]:=λm hm=>by
  have hv:m<vs.length:=by rw[rv.length]; exact hm
  have gv:vs[m]?=some vs[m]:=by simp[hv]
  obtain⟨w,gw,rw'⟩:=rv.get gv
  obtain⟨d,gd,pd⟩:=p.get' gv
  have ew:w=us[m]:=by
   rw[Vac hm] at gw
   exact(Option.some.inj gw).symm
  subst ew
  exact⟨d,_,gd,pd,rw'⟩
 have val:∀(m:Nat) (hm:m<us.length) (d:D) (c:Bool),ds[m]?=some d→eqN k d dx=some c→decide (∃d v,d∈ds∧Rp r H d v∧zav v us[m]∧eqN k d dx=some true)=c:=λm hm d c hd hc=>by
  obtain⟨d',v',gd,pd,rd⟩:=at_ m hm
  rw[hd] at gd; cases gd
  cases c with
  | true=>exact decide_eq_true ⟨d,v',Vag hd,pd,rd,hc⟩
  | false=>
   refine decide_eq_false λ⟨d2,v2,_,pd2,rd2,hc2⟩=>?_
   have ev:=zm2 rd rd2
   subst ev
   exact absurd (zjw k d d2 dx v' false true pd pd2 hc hc2) (by decide)
 refine⟨λy=>decide (∃d v,d∈ds∧Rp r H d v∧zav v y∧eqN k d dx=some true),λy hy=>?_,?_⟩
 ·have hy':y∈us:=by simpa using hy
  obtain⟨m,hm,rfl⟩:=VaJ.mp hy'
  obtain⟨d,v,gd,pd,rd⟩:=at_ m hm
  obtain⟨c,hc⟩:=h1 d (Vag gd)
  show SeqAt.EqAt A s us[m] u (decide _)
  rw[val m hm d c gd hc]
  exact zjr k X pins σ H s r A d dx v x _ u c I hu pd px rd rx hc
 ·have hjl:j<us.length:=by
   have:=(Vad.mp hyj).1
   rw[p.1,rv.length] at this
   exact this
  refine⟨by simpa using hjl,?_,λm hm hmj=>?_⟩
  ·have z:=val j hjl yj true hyj htj
   simpa using z
  ·have hm':m<us.length:=by simpa using hm
   obtain⟨d,v,gd,pd,rd⟩:=at_ m hm'
   have z:=val m hm' d false gd (hno m d hmj gd)
   simpa using z
def zjG (k:Nat)(d y:D)(S:Sto)(Q:DK):Prop:=match d with
 | .ref n=>match lAt S n with
  | some o=>match zdk (eqN k) (zah o) y with
   | some (some j)=>Q (.int (j:Int)) S
   | _=>False
  | none=>False
 | _=>False
@[irreducible] def zi1 (k:Nat)(to:TDE)(t:TDA):TDE:=λdl S Q=>to dl S λd S1=>(match d with
 | .ref n=>(lAt S1 n).isSome=true∧t dl S1 λds S2=>match ds with
  | [y]=>zjG k d y S2 Q
  | _=>False
 | _=>False)
theorem zsW {k j:Nat}(hr:zaK j X.A)(hk:k≤3):MtR X "list.index" (λx xs H Qv=>∃(r:List Addr) (S:Sto) (d y:D) (v:V) (Q:DK),Rel X.K Z r S H∧Rp r H d x∧xs=[v]∧Rp r H y v∧zjG k d y S Q∧Ret X.K Z r H Q Qv):=by
 intro pins s σ H x xs v us Qv I rx rv h
 obtain⟨r,S,d,y,v1,Q,rel,pd,rfl,py,q,ret⟩:=h
 obtain⟨u,rfl,ru⟩:=zdP rv
 unfold zjG at q
 split at q
 ·rename_i n
  split at q
  ·rename_i o eo
   obtain⟨eo,eL⟩:=zbk eo
   split at q
   ·rename_i i ei
    cases pd with
    | @ref n a hn=>
     cases rx
     obtain⟨a',ha,ob⟩:=rel.at eo
     rw[hn] at ha; cases ha
     obtain⟨ys,sq,pr⟩:=ob.list eL
     obtain⟨its,ri,pl,hz⟩:=I.list sq
     have hun:=hr.un
     obtain⟨g,g1,hj,g2,g3⟩:=zwl (A:=X.A.in1) I (by show X.A.units+1+k<_; omega) pr ri py ru ei
     obtain⟨ob2,m,e,c,hd,hdat⟩:=pl
     obtain⟨oc,od,odat,osl⟩:=ob2
     have c':oc=.type "list":=c
     have hdat':odat=.seq its.toArray m:=hdat
     subst c' hdat'
     refine call_meets PySem.F.slot_list_index ⟨_,e,rfl⟩ PySem.F.entry_list_index (PySem.F.args_list_index_2 _ _) (PySem.SeqAt.list_indexAt a its.toArray m od osl u g i hj (by
      have:its.toArray.size≤sizeLine:=by rw[Vap,← ri.length]; exact hz
      have h2:=zib
      omega) g2 λm hm h2=>g3 m hm h2) ⟨e,g1,?_⟩
     exact⟨.int (i:Int),H,I.tok _,⟨_,rfl⟩,ret _ H r (.int _) S Ext.refl rel (.int _) q⟩
   ·exact q.elim
  ·exact q.elim
 ·exact q.elim
theorem ztW {k j:Nat}{o e:Expr}{to:TDE}{t:TDA}{apos cpos:Pos}(hr:zaK j X.A)(hk:k≤3)(ho:PD X Z o to)(ha:PDA X Z [e] t)(hbase:attributeBase o "index" X.env (eval o X.env)=eval o X.env:=by rfl)
  (hfew:((backTo cpos (starEach [e] X.env)).all (λx=>!x.1)&&(backToKw cpos (keywordEach [] X.env)).all (λx=>x.1.isSome)
  &&decide ([e].length+([]:List Keyword).length+(if ([]:List Keyword).isEmpty then 0 else 1)<30))=true:=by rfl)
  (hline:(apos.endLine==cpos.line)=true:=by rfl)(hs:starEach [e] X.env=(false,eval e X.env)::starEach [] X.env:=by rfl)(hplain:(backTo cpos (starEach [] X.env)).any (·.1)=false:=by rfl):
  PD X Z (.Call (.Attribute o "index" apos) [e] [] cpos) (zi1 k to t):=
 za5 (zpo (T:="list") PySem.F.plainAttrs_list PySem.F.slot_list_index PySem.F.type_list_index (zsW (Z:=Z) hr hk) ho ha hbase hfew hline hs hplain) λσ H Qv ⟨r,dl,S,Q,rs,rel,h,ret⟩=>by
  unfold zi1 at h
  refine⟨r,dl,S,_,rs,rel,h,λv H1 r1 d S1 e1 rel1 p1 q1=>?_⟩
  cases p1 with
  | @ref n a hn=>
   obtain⟨hsome,q1⟩:=q1
   obtain⟨o1,eo⟩:=VaZ.mp hsome
   obtain⟨eo,eL⟩:=zbk eo
   obtain⟨a',ha',ob⟩:=rel1.at eo
   rw[hn] at ha'; cases ha'
   obtain⟨xs,sq,_⟩:=ob.list eL
   refine⟨.inl ⟨rfl,xs,sq⟩,r1,dl,S1,_,rs.ext e1,rel1,q1,λvs H2 r2 ds S2 e2 rel2 p2 q2=>?_⟩
   split at q2
   ·rename_i y
    obtain⟨v2,vs',rfl,p3,p4⟩:=p2.uncons
    have z:=p4.unnil
    subst z
    exact⟨r2,S2,.ref n,y,v2,Q,rel2,.ref (e2.adr _ _ hn),rfl,p3,q2,ret.ext (e1.trans e2)⟩
   ·exact q2.elim
  | _=>exact(show False from q1).elim
end
section
variable {X:Cx}{pins:List (Addr×Obj)}{σ:St}{H:Hp}{s:Shared}{h':Heap}
theorem zpq {t':Nat}{ch:List Addr}{T:Addr}{xs:List V}{vals:Array Value}(I:Inv X pins σ H s)(k:∀b o,b ∉ ch→s.heap.get? b=some o→h'.get? b=some o)(hch:∀b∈ch,zbQ X pins H b)
  (hT:s.heap.objs.size≤T)(ht:h'.IsTuple T vals)(rv:zau xs vals.toList)(hl:xs.length≤sizeLine):Inv X pins σ (upd H T (.tup xs)) { s with heap:=h',toks:=t' }:=by
 have hTn:H T=none:=I.hok.fresh hT
 have old:∀ {b:Addr} {o:Obj},s.heap.get? b=some o→b≠T:=λ{b o} e z=>absurd (Vaw (Heap.lt_size e) hT) (by rw[z]; exact VaH _)
 have trk:∀b u,H b=some u→b ∉ ch:=λb u e z=>by
  rw[(hch b z).1] at e; cases e
 have up:∀b u,H b=some u→(upd H T (.tup xs)) b=some u:=zcP hTn
 refine I.step (g':=s.gens) (d':=s.drawn) (ch:=ch) (λb hb=>?_) (λb o _ _ hc e _=>k b o hc e) (λb o _ _ hc e _=>⟨o.slots,k b o hc e⟩) (λb o _ e n=>by rw[za1 (old e)]; exact n)
  (λb o hc e=>⟨o,k b o hc e⟩) (λb ys e=>up _ _ e) (λb o u e=>up _ _ e) (λb ps e=>⟨#[],by rw[up _ _ e]; simp⟩) (λm hm=>?_) (λb u e=>?_) I.bare
 ·obtain⟨_,f1,_,f3,f4,f5⟩:=hch b hb
  exact⟨f3,f1,f4,f5⟩
 ·obtain⟨o,es,ep,ho,r⟩:=hm
  exact⟨o,es,ep,k _ o (λz=>(hch _ z).2.1 rfl) ho,r⟩
 ·by_cases hb:b=T
  ·subst hb
   rw[zcw] at e
   cases e
   exact⟨hl,vals.toList,rv,by rw[Array.toArray_toList]; exact ht⟩
  ·rw[za1 hb] at e
   refine(I.hok b u e).stay (λc v hc q=>k c v ?_ q) (λd z=>up _ _ z) λd ys z=>up _ _ z
   rcases hc with z | z
   ·rw[z]; exact trk b u e
   ·exact trk c _ z
theorem zka {t':Nat}{ch:List Addr}(I:Inv X pins σ H s)(k:∀b o,b ∉ ch→s.heap.get? b=some o→h'.get? b=some o)(hch:∀b∈ch,zbQ X pins H b):Inv X pins σ H { s with heap:=h',toks:=t' }:=by
 have trk:∀b u,H b=some u→b ∉ ch:=λb u e z=>by
  rw[(hch b z).1] at e; cases e
 refine I.step (g':=s.gens) (d':=s.drawn) (ch:=ch) (λb hb=>?_) (λb o _ _ hc e _=>k b o hc e) (λb o _ _ hc e _=>⟨o.slots,k b o hc e⟩) (λb o _ e n=>n)
  (λb o hc e=>⟨o,k b o hc e⟩) (λb ys e=>e) (λb o u e=>e) (λb ps e=>⟨#[],by rw[e]; simp⟩) (λm hm=>?_) (λb u e=>?_) I.bare
 ·obtain⟨_,f1,_,f3,f4,f5⟩:=hch b hb
  exact⟨f3,f1,f4,f5⟩
 ·obtain⟨o,es,ep,ho,r⟩:=hm
  exact⟨o,es,ep,k _ o (λz=>(hch _ z).2.1 rfl) ho,r⟩
 ·refine(I.hok b u e).stay (λc v hc q=>k c v ?_ q) (λd z=>z) λd ys z=>z
  rcases hc with z | z
  ·rw[z]; exact trk b u e
  ·exact trk c _ z
end
def Ite (K:PySem.W.Frag)(a:Addr):It:=
 ⟨λi H=>∃xs x,SqL K H a xs∧xs[i]?=some x,λi H x H'=>∃T v,x=.ref T∧H T=none∧H'=upd H T (.tup [.int (i:Int),v])∧∀xs,SqL K H a xs→xs[i]?=some v,λi H=>∃xs,SqL K H a xs∧xs.length=i⟩
theorem zsO {P:Program}{w:World}{K:PySem.W.Frag}{elts:List Expr}{kk:Nat}{tp:Pos}(a e it:Addr)(hei:e≠it)(hae:a≠e)(hai:a≠it):
  zhU P w K (.Tuple elts kk tp) (Ite K a) [e,it] e (λi h=>(∃old,IsEnum h e it i old)∧h.IsListIter it a i) where
 mem:=by simp
 obj:=λi h st b hb=>by
  obtain⟨⟨old,he⟩,o,e1,c,d⟩:=st
  have hb':b=e∨b=it:=by simpa using hb
  rcases hb' with rfl | rfl
  ·exact⟨_,he,λv z=>by cases z⟩
  ·exact⟨o,e1,λv z=>by rw[d] at z; cases z⟩
 keep:=λi h h' st k=>by
  obtain⟨⟨old,he⟩,hit⟩:=st
  exact⟨⟨old,k e (by simp) _ he⟩,hit.at λo x=>k it (by simp) o x⟩
 item:=by
  intro X hP hw hK hc i pins s σ H E I hf st hg
  subst hP hw hK
  obtain⟨xs,x,hq,hx⟩:=hg
  obtain⟨its,rv,p,hz⟩:=I.list hq
  obtain⟨u,hu,ru⟩:=rv.get hx
  have hi:i<its.toArray.size:=by
   have:=(Vad.mp hu).1
   simpa using this
  have W:=WalksT.enumerate (prog:=X.prog) (w:=X.w) (A:=X.A) (I.ok.hd hc) e it a hei hae hai its.toArray
  refine W.item i s _ _ hi ⟨st.1,st.2,p.isList⟩ λT vals h' tk hP hT ht mid k1=>?_
  obtain⟨t,y,hy,rfl⟩:=hP
  have ey:y=u:=by
   have z:its[i]?=some y:=by simpa using hy
   rw[hu] at z; exact(Option.some.inj z).symm
  subst ey
  have hw:∀b∈[e,it],zbQ X pins H b:=hf
  have I1:Inv X pins σ (upd H T (.tup [.int (i:Int),x])) { s with heap:=h',toks:=tk }:=zpq I k1 hw hT ht (.cons ⟨t,rfl⟩ (.cons ru .nil)) (show 2≤sizeLine from ze7 (by decide))
  have neT:∀b∈[e,it],b≠T:=λb hb z=>W.apart i T h' mid (z ▸ hb)
  have hf1:∀b∈[e,it],zbQ X pins (upd H T (.tup [.int (i:Int),x])) b:=λb hb=>⟨by rw[za1 (neT b hb)]; exact(hf b hb).1,(hf b hb).2⟩
  refine⟨.ref T,rfl,W.go elts kk tp i T _ _ _ mid λh2 st2 k2=>?_⟩
  have I2:Inv X pins σ (upd H T (.tup [.int (i:Int),x])) { s with heap:=h2,toks:=tk }:=zka (s:={ s with heap:=h',toks:=tk }) (t':=tk) I1 k2 hf1
  exact⟨.ref T,_,I2,rfl,⟨T,x,rfl,I.hok.fresh hT,rfl,λys hy=>by rw[I.list_inj hy hq]; exact hx⟩,⟨st2.1,st2.2.1⟩,λb hb=>(hf1 b hb).1⟩
 done:=by
  intro X hP hw hK hc i pins s σ H E I hf st hg
  subst hP hw hK
  obtain⟨xs,hq,hx⟩:=hg
  obtain⟨its,rv,p,hz⟩:=I.list hq
  have W:=WalksT.enumerate (prog:=X.prog) (w:=X.w) (A:=X.A) (I.ok.hd hc) e it a hei hae hai its.toArray
  have hi:i=its.toArray.size:=by rw[Vap,← rv.length]; exact hx.symm
  subst hi
  exact W.done s _ _ ⟨st.1,st.2,p.isList⟩ λh' tk k1=>⟨rfl,zka (t':=tk) I k1 hf⟩
 self:=λA i s Q E st h=>by
  obtain⟨⟨old,he⟩,_⟩:=st
  exact wpAny_pyIter_enum he h
section
variable {X:Cx}
def zqX (K:PySem.W.Frag)(ta:TA):TI:=λσ H R=>ta σ H λvs H1=>∃a,vs=[.ref a]∧(∃xs,SqL K H1 a xs)∧R (Ite K a) H1
theorem zuU {a:Expr}{ta:TA}{p pos tp:Pos}{elts:List Expr}{kk:Nat}(hg:Gl X "enumerate")(hm:X.mg "enumerate"=none)(hv:bootBuiltins "enumerate"=some (.type "enumerate"))(ha:PA X [a] ta)(hs:starEach [a] X.env=[(false,eval a X.env)]:=by rfl):
  PI X (.Tuple elts kk tp) (.Call (.Name "enumerate" p) [a] [] pos) (zqX X.K ta):=by
 intro pins s σ H R I h
 refine Call_ (zeU I hg hm hv (PyProof.Rows.callWith_type1 (thn (ha pos pins s σ H _ I h) λus s1 ⟨vs,H1,I1,r1,q1⟩=>?_) hs rfl))
 obtain⟨l,e,⟨xs,hq⟩,q⟩:=q1
 subst e
 cases r1 with
 | cons r rr=>
  cases rr
  cases r
  obtain⟨its,rv,pl,hz⟩:=I1.list hq
  have hll:l<s1.heap.objs.size:=by
   obtain⟨o,e,_⟩:=pl.isList
   exact Heap.lt_size e
  refine call_enumerate_list pl.isList λh' he hit hsz hk=>?_
  have I2:Inv X pins σ H1 { s1 with heap:=h' }:=I1.kept (t':=s1.toks) hk
  refine wpAny_pyIter_enum he ⟨s1.heap.objs.size+1,[s1.heap.objs.size+1,s1.heap.objs.size],_,_,H1,rfl,I2,zsO l _ _ (Nat.succ_ne_self _) (Van (Nat.lt_succ_of_lt hll)) (Van hll),⟨⟨_,he⟩,hit⟩,λb hb=>?_,q⟩
  have hb':b=s1.heap.objs.size+1∨b=s1.heap.objs.size:=by simpa using hb
  rcases hb' with rfl | rfl
  ·exact I1.fpOk (Nat.le_succ _) (I1.hok.fresh (Nat.le_succ _))
  ·exact I1.fpOk (Vaa _) (I1.hok.fresh (Vaa _))
end
def Itz (K:PySem.W.Frag)(a b:Addr):It:=
  ⟨λi H=>∃xs ys x y,SqL K H a xs∧SqL K H b ys∧xs[i]?=some x∧ys[i]?=some y,
   λi H x H'=>∃T v u,x=.ref T∧H T=none∧H'=upd H T (.tup [v,u])∧(∀xs,SqL K H a xs→xs[i]?=some v)∧∀ys,SqL K H b ys→ys[i]?=some u,
   λi H=>∃xs ys,SqL K H a xs∧SqL K H b ys∧min xs.length ys.length=i⟩
theorem zvD {P:Program}{w:World}{K:PySem.W.Frag}{elts:List Expr}{kk:Nat}{tp:Pos}(a b z TI TO i1 i2:Addr)(D:ZipApart z TI TO i1 i2 a b):
  zhU P w K (.Tuple elts kk tp) (Itz K a b) [z,TI,TO,i1,i2] z (λi h=>IsZip h z TI TO .none∧IsPair h TI (.ref i1) (.ref i2)∧(∃p q,IsPair h TO p q)∧h.IsListIter i1 a i∧h.IsListIter i2 b i) where
 mem:=by simp
 obj:=λi h st c hc=>by
  obtain⟨hz,hTI,⟨p,q,hTO⟩,⟨o1,e1,c1,d1⟩,o2,e2,c2,d2⟩:=st
  have hc':c=z∨c=TI∨c=TO∨c=i1∨c=i2:=by simpa using hc
  rcases hc' with rfl | rfl | rfl | rfl | rfl
  ·exact⟨_,hz,λv y=>by cases y⟩
  ·exact⟨_,hTI,λv y=>by cases y⟩
  ·exact⟨_,hTO,λv y=>by cases y⟩
  ·exact⟨o1,e1,λv y=>by rw[d1] at y; cases y⟩
  ·exact⟨o2,e2,λv y=>by rw[d2] at y; cases y⟩
 keep:=λi h h' st k=>by
  obtain⟨hz,hTI,⟨p,q,hTO⟩,h1,h2⟩:=st
  exact⟨k z (by simp) _ hz,k TI (by simp) _ hTI,⟨p,q,k TO (by simp) _ hTO⟩,h1.at λo x=>k i1 (by simp) o x,h2.at λo x=>k i2 (by simp) o x⟩
 item:=by
  intro X hP hw hK hc i pins s σ H E I hf st hg
  subst hP hw hK
  obtain⟨xs,ys,x,y,hq,hq2,hx,hy⟩:=hg
  obtain⟨its,rv,p,_⟩:=I.list hq
  obtain⟨jts,rv2,p2,_⟩:=I.list hq2
  obtain⟨u,hu,ru⟩:=rv.get hx
  obtain⟨u2,hu2,ru2⟩:=rv2.get hy
  have hi:i<min its.toArray.size jts.toArray.size:=by
   have z1:=(Vad.mp hu).1
   have z2:=(Vad.mp hu2).1
   have sizes:its.toArray.size=its.length∧jts.toArray.size=jts.length:=⟨by simp,by simp⟩
   omega
  have W:=WalksT.zip2 (prog:=X.prog) (w:=X.w) (A:=X.A) (I.ok.hd hc) z TI TO i1 i2 a b D its.toArray jts.toArray
  obtain⟨s1,s2,s3,s4,s5⟩:=st
  refine W.item i s _ _ hi ⟨s1,s2,s3,s4,s5,p.isList,p2.isList⟩ λT vals h' tk hP hT ht mid k1=>?_
  obtain⟨v1,v2,hv1,hv2,rfl⟩:=hP
  have e1:v1=u:=by
   have z:its[i]?=some v1:=by simpa using hv1
   rw[hu] at z; exact(Option.some.inj z).symm
  have e2:v2=u2:=by
   have z:jts[i]?=some v2:=by simpa using hv2
   rw[hu2] at z; exact(Option.some.inj z).symm
  subst e1 e2
  have sub:∀c∈[z,TO,i1,i2],c∈[z,TI,TO,i1,i2]:=λc hc=>by
   have hc':c=z∨c=TO∨c=i1∨c=i2:=by simpa using hc
   rcases hc' with rfl | rfl | rfl | rfl <;> simp
  have I1:Inv X pins σ (upd H T (.tup [x,y])) { s with heap:=h',toks:=tk }:=zpq I k1 (λc hc=>hf c (sub c hc)) hT ht (.cons ru (.cons ru2 .nil)) (show 2≤sizeLine from ze7 (by decide))
  have tiT:TI≠T:=λq=>by
   have hl:TI<s.heap.objs.size:=Heap.lt_size s2
   rw[q] at hl
   exact absurd (Vaw hl hT) (VaH _)
  have neT:∀c∈[z,TI,TO,i1,i2],c≠T:=λc hc q=>by
   have hc':c=TI∨c∈[z,TO,i1,i2]:=by
    have hc2:c=z∨c=TI∨c=TO∨c=i1∨c=i2:=by simpa using hc
    rcases hc2 with rfl | rfl | rfl | rfl | rfl <;> simp
   rcases hc' with rfl | hc'
   ·exact tiT q
   ·exact W.apart i T h' mid (q ▸ hc')
  have hf1:∀c∈[z,TI,TO,i1,i2],zbQ X pins (upd H T (.tup [x,y])) c:=λc hc=>⟨by rw[za1 (neT c hc)]; exact(hf c hc).1,(hf c hc).2⟩
  refine⟨.ref T,rfl,W.go elts kk tp i T _ _ _ mid λh2 st2 k2=>?_⟩
  have I2:Inv X pins σ (upd H T (.tup [x,y])) { s with heap:=h2,toks:=tk }:=zka (s:={ s with heap:=h',toks:=tk }) (t':=tk) I1 k2 λc hc=>hf1 c (sub c hc)
  obtain⟨t1,t2,t3,t4,t5,_,_⟩:=st2
  exact⟨.ref T,_,I2,rfl,⟨T,x,y,rfl,I.hok.fresh hT,rfl,λzs hz=>by rw[I.list_inj hz hq]; exact hx,λzs hz=>by rw[I.list_inj hz hq2]; exact hy⟩,⟨t1,t2,t3,t4,t5⟩,λc hc=>(hf1 c hc).1⟩
 done:=by
  intro X hP hw hK hc i pins s σ H E I hf st hg
  subst hP hw hK
  obtain⟨xs,ys,hq,hq2,hx⟩:=hg
  obtain⟨its,rv,p,_⟩:=I.list hq
  obtain⟨jts,rv2,p2,_⟩:=I.list hq2
  have W:=WalksT.zip2 (prog:=X.prog) (w:=X.w) (A:=X.A) (I.ok.hd hc) z TI TO i1 i2 a b D its.toArray jts.toArray
  have hi:i=min its.toArray.size jts.toArray.size:=by rw[Vap,Vap,← rv.length,← rv2.length]; exact hx.symm
  subst hi
  have sub:∀c∈[z,TO,i1,i2],c∈[z,TI,TO,i1,i2]:=λc hc=>by
   have hc':c=z∨c=TO∨c=i1∨c=i2:=by simpa using hc
   rcases hc' with rfl | rfl | rfl | rfl <;> simp
  obtain⟨s1,s2,s3,s4,s5⟩:=st
  exact W.done s _ _ ⟨s1,s2,s3,s4,s5,p.isList,p2.isList⟩ λh' tk k1=>⟨rfl,zka (t':=tk) I k1 λc hc=>hf c (sub c hc)⟩
 self:=λA i s Q E st h=>wpAny_pyIter_zip st.1 h
section
variable {X:Cx}
theorem zti {n l m:Nat}(h1:l<n)(h2:m<n):ZipApart (n+4) (n+2) (n+3) n (n+1) l m:=by
 have ne:∀ {i j:Nat},i<j∨j<i→i≠j:=λ{i j} h z=>by omega
 exact⟨ne (by omega),ne (by omega),ne (by omega),ne (by omega),ne (by omega),ne (by omega),ne (by omega),ne (by omega),ne (by omega),ne (by omega),ne (by omega),ne (by omega),ne (by omega),ne (by omega),ne (by omega),ne (by omega),ne (by omega),ne (by omega)⟩
def iZip (K:PySem.W.Frag)(ta:TA):TI:=λσ H R=>ta σ H λvs H1=>∃a b,vs=[.ref a,.ref b]∧(∃xs,SqL K H1 a xs)∧(∃ys,SqL K H1 b ys)∧R (Itz K a b) H1
theorem zop {a b:Expr}{ta:TA}{p pos tp:Pos}{elts:List Expr}{kk:Nat}(hg:Gl X "zip")(hm:X.mg "zip"=none)(hv:bootBuiltins "zip"=some (.type "zip"))(ha:PA X [a,b] ta)
  (hs:starEach [a,b] X.env=[(false,eval a X.env),(false,eval b X.env)]:=by rfl)(hs2:starEach [b] X.env=[(false,eval b X.env)]:=by rfl):PI X (.Tuple elts kk tp) (.Call (.Name "zip" p) [a,b] [] pos) (iZip X.K ta):=by
 intro pins s σ H R I h
 refine Call_ (zeU I hg hm hv (PyProof.Rows.callWith_type1 (thn (ha pos pins s σ H _ I h) λus s1 ⟨vs,H1,I1,r1,q1⟩=>?_) (by rw[hs,hs2]) (by rw[hs2]; rfl)))
 obtain⟨l,m,e,⟨xs,hq⟩,⟨ys,hq2⟩,q⟩:=q1
 subst e
 cases r1 with
 | cons r rr=>
  cases rr with
  | cons r2 rr=>
   cases rr
   cases r
   cases r2
   obtain⟨its,rv,pl,_⟩:=I1.list hq
   obtain⟨jts,rv2,pl2,_⟩:=I1.list hq2
   have h1:l<s1.heap.objs.size:=by
    obtain⟨o,e,_⟩:=pl.isList
    exact Heap.lt_size e
   have h2:m<s1.heap.objs.size:=by
    obtain⟨o,e,_⟩:=pl2.isList
    exact Heap.lt_size e
   refine call_zip_2 pl.isList pl2.isList λh' hz hTI hTO hi1 hi2 hsz hk=>?_
   have I2:Inv X pins σ H1 { s1 with heap:=h' }:=I1.kept (t':=s1.toks) hk
   have D:=zti h1 h2
   refine wpAny_pyIter_zip hz ⟨s1.heap.objs.size+4,[s1.heap.objs.size+4,s1.heap.objs.size+2,s1.heap.objs.size+3,s1.heap.objs.size,s1.heap.objs.size+1],_,_,H1,rfl,I2,zvD l m _ _ _ _ _ D,⟨hz,hTI,⟨_,_,hTO⟩,hi1,hi2⟩,λc hc=>?_,q⟩
   have hge:s1.heap.objs.size≤c:=by
    have hc':c=s1.heap.objs.size+4∨c=s1.heap.objs.size+2∨c=s1.heap.objs.size+3∨c=s1.heap.objs.size∨c=s1.heap.objs.size+1:=by simpa using hc
    rcases hc' with rfl | rfl | rfl | rfl | rfl
    ·exact Nat.le_add_right _ _
    ·exact Nat.le_add_right _ _
    ·exact Nat.le_add_right _ _
    ·exact Vaa _
    ·exact Nat.le_add_right _ _
   exact I1.fpOk hge (I1.hok.fresh hge)
end
section
variable {X:Cx}{Z:Zx}{pos:Pos}
theorem zc0 {r r':List Addr}{S':Sto}{H':Hp}{n:Nat}{a:Addr}{o:Ob}(hn:r'[n]?=some a)(rel:zaU X.K r' S' H')(eo:lAt S' n=some o):∃xs,SqL X.K H' a xs∧Rps r' H' (zah o) xs:=by
 obtain⟨eo,eL⟩:=zbk eo
 obtain⟨a',ha,ob⟩:=rel.at eo
 rw[hn] at ha; cases ha
 exact ob.list eL
@[irreducible] def zlC (is:List Nat)(ta:TDA)(tb:TDS):TDS:=λE dl S=>ta dl S λds S1=>match ds with
 | [.ref n,.ref n']=>((lAt S1 n).isSome=true∧(lAt S1 n').isSome=true)∧∃W:Nat→Nat→Ev→Sto→Prop,(∃m,W 0 m dl S1)∧∀k m dl S,W k m dl S→match lAt S n,lAt S n' with
  | some o,some o'=>match (zah o)[k]?,(zah o')[k]? with
   | some x,some y=>tb { nx:=λdl' S'=>∃m',m'<m∧W (k+1) m' dl' S',rt:=E.rt,bk:=E.nx,ct:=λdl' S'=>∃m',m'<m∧W (k+1) m' dl' S' } (zfJ is [x,y] dl) S
   | _,_=>k=min (zah o).length (zah o').length∧E.nx dl S
  | _,_=>False
 | _=>False
theorem zuS {i1 i2:Expr}{body:List Stmt}{es:List Expr}{kk:Nat}{tp p pos2:Pos}{is:List Nat}{ta:TDA}{tb:TDS}(hp:PassesOwn (model X.prog X.w) X.A X.env X.xe)(hc:X.calm=true)(hN:X.N.Nodup)(hn:Nms X es is)(h2:is.length=2)
  (hg:Gl X "zip")(hm:X.mg "zip"=none)(hv:bootBuiltins "zip"=some (.type "zip"))(ha:PDA X Z [i1,i2] ta)(hb:zcL X Z body tb)
  (hlen:(assignEach es X.env).length=is.length:=by rfl)(hst:(assignEach es X.env).findIdx? (·.1)=none:=by rfl)(hse:starEach [i1,i2] X.env=[(false,eval i1 X.env),(false,eval i2 X.env)]:=by rfl)(hse2:starEach [i2] X.env=[(false,eval i2 X.env)]:=by rfl)
  (hs:∀y,foldedSetIterable (.Call (.Name "zip" p) [i1,i2] [] pos2) X.env y=pure y:=by intro _; rfl):PDS X Z (.For (.Tuple es kk tp) (.Call (.Name "zip" p) [i1,i2] [] pos2) body [] pos) (zlC is ta tb):=
 zbZ (znf hp hc (zop hg hm hv ha hse hse2) (zgf hc (zfo hN hn) hlen hst) hb hs) λF σ H ⟨r,dl,S,E,rs,rel,h,ret⟩=>by
  unfold zlC at h
  refine⟨r,dl,S,_,rs,rel,h,λvs H1 r1 ds S1 x1 rel1 p1 q1=>?_⟩
  split at q1
  ·rename_i n n'
   obtain⟨v,vs',rfl,p2,p3⟩:=p1.uncons
   obtain⟨v',vs2,rfl,p4,p5⟩:=p3.uncons
   have z:=p5.unnil
   subst z
   cases p2 with
   | @ref n a hr=>
    cases p4 with
    | @ref n' a' hr'=>
     obtain⟨⟨hsome,hsome'⟩,W,⟨m0,w0⟩,turn⟩:=q1
     obtain⟨o1,eo1⟩:=VaZ.mp hsome
     obtain⟨o2,eo2⟩:=VaZ.mp hsome'
     obtain⟨xs1,sq1,_⟩:=zc0 (r:=r1) hr rel1.b eo1
     obtain⟨ys1,sq2,_⟩:=zc0 (r:=r1) hr' rel1.b eo2
     refine⟨a,a',rfl,⟨xs1,sq1⟩,⟨ys1,sq2⟩,λk m σ' H'=>∃r' dl' S',Ext r1 r' H1 H'∧Rs r' H' dl' σ'∧Rel X.K Z r' S' H'∧W k m dl' S',⟨m0,r1,dl,S1,Ext.refl,rs.ext x1,rel1,w0⟩,?_⟩
     rintro k m σ2 H2 ⟨r2,dl2,S2,x2,rs2,rel2,w2⟩
     have q:=turn k m dl2 S2 w2
     split at q
     ·rename_i o o' eo eo'
      obtain⟨xs,sq,pr⟩:=zc0 (r:=r2) (x2.adr _ _ hr) rel2.b eo
      obtain⟨ys,sq',pr'⟩:=zc0 (r:=r2) (x2.adr _ _ hr') rel2.b eo'
      split at q
      ·rename_i y y2 ey ey2
       obtain⟨v,hvv,pv⟩:=pr.get ey
       obtain⟨u,hvu,pu⟩:=pr'.get ey2
       refine .inr ⟨⟨xs,ys,v,u,sq,sq',hvv,hvu⟩,λσ' H'=>∃m',m'<m∧∃r' dl' S',Ext r1 r' H1 H'∧Rs r' H' dl' σ'∧Rel X.K Z r' S' H'∧W (k+1) m' dl' S',λ_ _ z=>z,λv' H' y'=>?_⟩
       obtain⟨T,w,w2',rfl,hT,rfl,hw,hw2⟩:=y'
       have ew:w=v:=by
        have z:=hw xs sq
        rw[hvv] at z; exact(Option.some.inj z).symm
       have ew2:w2'=u:=by
        have z:=hw2 ys sq'
        rw[hvu] at z; exact(Option.some.inj z).symm
       subst ew ew2
       have x3:Ext r2 r2 H2 (upd H2 T (.tup [w,w2'])):=zoq hT
       have pp:Rps r2 (upd H2 T (.tup [w,w2'])) [y,y2] [w,w2']:=Rps.cons (pv.ext x3) (Rps.cons (pu.ext x3) Rps.nil)
       have rel3:=rel2.same (zcP (o:=.tup [w,w2']) hT)
       have go:∀σ' H' r' dl' S',Ext r2 r' (upd H2 T (.tup [w,w2'])) H'→Rs r' H' dl' σ'→Rel X.K Z r' S' H'→(∃m',m'<m∧W (k+1) m' dl' S')→∃m',m'<m∧∃r' dl' S',Ext r1 r' H1 H'∧Rs r' H' dl' σ'∧Rel X.K Z r' S' H'∧W (k+1) m' dl' S':=
        λσ' H' r' dl' S' x rs' rel' ⟨m',hm,w'⟩=>⟨m',hm,r',dl',S',x2.trans (x3.trans x),rs',rel',w'⟩
       exact⟨T,[w,w2'],rfl,SqT.of zcw,by rw[h2]; rfl,by rw[h2]; rfl,r2,_,S2,_,znA (rs2.ext x3) pp,rel3,q,⟨go,λσ' H' r' dl' S' x rs' rel' z=>ret.nx σ' H' r' dl' S' (x1.trans (x2.trans (x3.trans x))) rs' rel' z,go,ret.rt.ext (x1.trans (x2.trans x3))⟩⟩
      ·obtain⟨hk,q⟩:=q
       exact .inl ⟨⟨xs,ys,sq,sq',by rw[← pr.1,← pr'.1]; exact hk.symm⟩,ret.nx σ2 H2 r2 dl2 S2 (x1.trans x2) rs2 rel2 q⟩
     ·exact q.elim
  ·exact q1.elim
end
section
variable {X:Cx}{Z:Zx}{pos:Pos}
@[irreducible] def zk4 (T:String)(te:TDE):TDE:=λdl S Q=>te dl S λd S1=>match d with
 | .ref n=>match S1[n]? with
  | some (.lst _)=>Q (.bl (zdc "list" T)) S1
  | _=>False
 | _=>False
theorem zwu {T:String}{e:Expr}{te:TDE}{y:Str}{p p2:Pos}(KT:PySem.W.kitOne X.K (.type "list") (.type T)=some (zdc "list" T))(hg:Gl X "isinstance")(hm:X.mg "isinstance"=none)(hg2:Gl X y)(hm2:X.mg y=none)(hv2:bootBuiltins y=some (.type T))(ha:PD X Z e te)
  (hv:bootBuiltins "isinstance"=some (.builtin "isinstance"):=by exact PyProof.Rows.Boot.«isinstance»)
  (hn2:y≠"__name__":=by decide)(hd2:(y==("__debug__":Str))=false:=by decide)(he2:starEach [e,.Name y p2] X.env=(false,eval e X.env)::starEach [.Name y p2] X.env:=by rfl)
  (he3:starEach [.Name y p2] X.env=(false,eval (.Name y p2) X.env)::starEach [] X.env:=by rfl)(hpl:(backTo pos (starEach [.Name y p2] X.env)).any (·.1)=false:=by rfl):
  PD X Z (.Call (.Name "isinstance" p) [e,.Name y p2] [] pos) (zk4 T te):=
 za5 (zoL zqe hg hm hv (zfb ha (zfb (zqL (v:=.ty T) hg2 hm2 hv2 rfl hn2 hd2) zlh he3) he2) (by decide) (by decide) he2 hpl) λσ H Qv ⟨r,dl,S,Q,rs,rel,h,ret⟩=>
  by unfold zk4 at h; exact⟨r,dl,S,_,rs,rel,h,λv H1 r1 d S1 e1 rel1 p1 h1=>by
   cases p1 with
   | @ref n a hr=>
    dsimp only at h1
    split at h1
    ·rename_i xs eS
     obtain⟨ys,eH,_⟩:=rel1.b.ob n a _ hr eS
     exact⟨_,T,_,_,rfl,.lst eH,KT,ret _ _ _ _ _ e1 rel1 (.bl _) h1⟩
    ·exact h1.elim
   | _=>exact(show False from h1).elim⟩
end
theorem zvk (K:PySem.W.Frag):PySem.W.kitOne K (.type "list") (.type "list")=some (zdc "list" "list"):=by kernel_rfl
structure Dm (K:PySem.W.Frag)(C:Addr)(m qual:Str)(st:Stmt)(ps:List Str) where
 f:Addr
 fd:FuncData
 F:Fun K m qual st f fd
 m:zfy K C m f
 b:zbP K fd ps []
structure Fm (P:Program)(w:World)(K:PySem.W.Frag)(mg:Str→Option Value)(base:Heap)(k:Nat)(C:Addr)(x:Str)(ps:List Str)(sd:Sd) where
 f:Addr
 fd:FuncData
 ok:za6 P w K mg base (CXE P w) k f fd ps (upF K sd)
 m:zfy K C x f
 b:zbP K fd ps []
def Dm.mk' {P:Program}{w:World}{K:PySem.W.Frag}{mg:Str→Option Value}{base:Heap}{k:Nat}{C:Addr}{x qual:Str}{st:Stmt}{ps:List Str}{sd:Sd}(d:Dm K C x qual st ps)(h:za6 P w K mg base (CXE P w) k d.f d.fd ps (upF K sd)):Fm P w K mg base k C x ps sd:=
 ⟨d.f,d.fd,h,d.m,d.b⟩
theorem zeE {P:Program}{w:World}{X:Cx}:zmH (CXE P w) X (λ_ _ _=>False):=λ_ _ _ _ _ _ _ h=>by
 obtain⟨_,_,_,_,_,_,_,_,_,_,_,_,q⟩:=h
 exact q.elim
section
variable {X:Cx}{Z:Zx}
theorem zu6 {k:Nat}(hr:zaK k X.A):OpR X (compareOp .NotIn) (upO X.K Z (zcd (wIn 1 true))):=by rw[zcJ]; exact zs7 1 (by have:=hr.un; omega)
end
section
variable {X:Cx}{Z:Zx}{pos:Pos}
def zh2:W2:=λx y S Q=>match x,y with
 | .ref n,.ref m=>match S[n]?,S[m]? with
  | some (.lst xs),some (.lst ys)=>xs.length+ys.length≤1000∧Q (.ref S.length) (S++[.lst (xs++ys)])
  | _,_=>False
 | _,_=>False
theorem Rps.app {r:List Addr}{H:Hp}:∀ {ds es:List D} {xs ys:List V},Rps r H ds xs→Rps r H es ys→Rps r H (ds++es) (xs++ys)
 | [],es,xs,ys,p,q=>by
  have z:=p.unnil
  subst z
  exact q
 | d::ds,es,xs,ys,p,q=>by
  obtain⟨v,vs,rfl,p1,p2⟩:=p.uncons
  exact Rps.cons p1 (p2.app q)
theorem zpc:OpR X (binaryOp .Add) (upO X.K Z (zcd zh2)):=by
 rw[zcJ]
 exact zeP zsb λx y H Qv ⟨r,S,dx,dy,Q,rel,px,py,q,ret⟩=>by
  unfold zh2 at q
  split at q
  ·rename_i n m
   split at q
   ·rename_i xs ys e1 e2
    obtain⟨hl,q⟩:=q
    cases px with
    | @ref _ a hn=>
     cases py with
     | @ref _ a' hm=>
      obtain⟨z,hz,ob⟩:=rel.at e1
      rw[hn] at hz; cases hz
      obtain⟨z,hz,ob'⟩:=rel.at e2
      rw[hm] at hz; cases hz
      obtain⟨us,h1,p1⟩:=ob
      obtain⟨vs,h2,p2⟩:=ob'
      refine⟨a,a',us,vs,rfl,rfl,h1,h2,?_,λp hp=>?_⟩
      ·rw[← p1.1,← p2.1]; exact ze7 hl
      ·obtain⟨rel4,x⟩:=rel.push hp (p1.app p2)
       exact ret _ _ _ (.ref S.length) _ x rel4 (zeg rel.len) q
   ·exact q.elim
  ·exact q.elim
theorem zo8 {n m:Nat}{S:Sto}{Q:DK}{xs ys:List D}(h1:S[n]?=some (.lst xs))(h2:S[m]?=some (.lst ys))(hl:xs.length+ys.length≤1000)(hq:Q (.ref S.length) (S++[.lst (xs++ys)])):zcd zh2 (.ref n) (.ref m) S Q:=by
 rw[zcJ]
 unfold zh2
 simp only[h1,h2]
 exact⟨hl,hq⟩
def MT (X:Cx)(m:Str)(tbl:List (Addr×Sd)):Prop:=∀C sd,(C,sd)∈tbl→Cls X.K C∧∃(f:Addr) (fd:FuncData) (k:Nat) (ps:List Str),zfy X.K C m f∧za6 X.prog X.w X.K X.mg X.base (CXE X.prog X.w) k f fd ps (upF X.K sd)∧zaK k X.A∧zbP X.K fd ps []
theorem zpr {m:Str}:MT X m []:=λ_ _ h=>by cases h
theorem zcs {C:Addr}{m:Str}{k:Nat}{ps:List Str}{sd:Sd}{tbl:List (Addr×Sd)}(c:Cls X.K C)(G:Fm X.prog X.w X.K X.mg X.base k C m ps sd)(hr:zaK k X.A)(h:MT X m tbl):MT X m ((C,sd)::tbl):=λC' sd' hm=>by
 rcases Vas.mp hm with e | e
 ·cases e
  exact⟨c,G.f,G.fd,k,ps,G.m,G.ok,hr,G.b⟩
 ·exact h C' sd' e
theorem zye {m:Str}{W:St→XK}{o e:Expr}{es:List Expr}{ta:TE}{t:TA}{apos:Pos}{pl:Sem Bool}{tbl:List (Addr×Sd)}(he:PE X o ta)(M:MT X m tbl)(hx:zdi X W)(ha:PA X (e::es) t)(hst:starEach (e::es) X.env=(false,eval e X.env)::starEach es X.env)(hpl:(backTo pos (starEach es X.env)).any (·.1)=false)
  (ht:eval (.Call (.Attribute o m apos) (e::es) [] pos) X.env=(do
   let ov ← eval o X.env
   standAt apos.atName
   let (f,first) ← holding [ov] (getMethod ov m pl)
   callWith pos f first (backTo pos (starEach (e::es) X.env)) (backToKw pos (keywordEach [] X.env)))):
  PE X (.Call (.Attribute o m apos) (e::es) [] pos) (λσ H Q=>ta σ H λx H1=>∃a C dx fs sd,x=.ref a∧H1 a=some (.ins C dx fs)∧(C,sd)∈tbl∧fs.lookup m=none∧t σ H1 λvs H2=>upF X.K sd (x::vs) H2 Q (W σ)):=by
 intro pins s σ H Q I h
 refine PySem.W.methodCall_KW (pl:=pl) (thn (he pins s σ H _ I h) λu s1 ⟨x,H1,I1,rx,a,C,dx,fs,sd,ex,ea,hm',l,q⟩=>?_) ht
 subst ex
 obtain rfl:u=Value.ref a:=rx
 obtain⟨c,f,fd,k,ps,hm,F,hr,hb⟩:=M C sd hm'
 refine zq3 I1 ea c hm l ?_
 exact PySem.W.callWith_K (first:=[.ref a]) (h₀:=X.base) I.ok.mod.kin hm.kp (thn (ha pos pins s1 σ H1 _ I1 q) λus s2 ⟨vs,H2,I2,r,q2⟩=>⟨I2.kIn,znQ (us:=.ref a::us) (vs:=.ref a::vs) F hr hb hx I2 (.cons rfl r) q2⟩) hst hpl
@[irreducible] def zjc (tbl:List (Addr×Sd))(m:Str)(ex:Ev→Addr→Sto→Prop)(to:TDE)(t:TDA):TDE:=λdl S Q=>to dl S λd S1=>∃n C fs sd,d=.ref n∧S1[n]?=some (.ins C fs)∧(C,sd)∈tbl∧fs.lookup m=none∧t dl S1 λds S2=>sd (d::ds) S2 Q (ex dl)
theorem zrd {m:Str}{o e:Expr}{es:List Expr}{to:TDE}{t:TDA}{apos:Pos}{pl:Sem Bool}{ex:Ev→Addr→Sto→Prop}{W:St→XK}{tbl:List (Addr×Sd)}(ho:PD X ⟨ex,W⟩ o to)(M:MT X m tbl)(hx:zdi X W)(ha:PDA X ⟨ex,W⟩ (e::es) t)
  (hst:starEach (e::es) X.env=(false,eval e X.env)::starEach es X.env:=by rfl)(hpl:(backTo pos (starEach es X.env)).any (·.1)=false:=by rfl)
  (ht:eval (.Call (.Attribute o m apos) (e::es) [] pos) X.env=(do
   let ov ← eval o X.env
   standAt apos.atName
   let (f,first) ← holding [ov] (getMethod ov m pl)
   callWith pos f first (backTo pos (starEach (e::es) X.env)) (backToKw pos (keywordEach [] X.env))):=by rfl):PD X ⟨ex,W⟩ (.Call (.Attribute o m apos) (e::es) [] pos) (zjc tbl m ex to t):=
 za5 (zye ho M hx ha hst hpl ht) λσ H Qv ⟨r,dl,S,Q,rs,rel,h,ret⟩=>by
  unfold zjc at h
  refine⟨r,dl,S,_,rs,rel,h,λv H1 r1 d S1 e1 rel1 p1 q1=>?_⟩
  obtain⟨n,C,fs,sd,rfl,eS,hm,hl,q1⟩:=q1
  obtain⟨a,dx,fs',rfl,hr1,eH,fr⟩:=zql (C:=C) (n:=n) (fs:=fs) rel1.b p1 (by simp only[zcZ,eS,if_pos])
  exact⟨a,C,dx,fs',sd,rfl,eH,hm,fr.lookup.2 hl,r1,dl,S1,_,rs.ext e1,rel1,q1,λvs H2 r2 ds S2 e2 rel2 p2 q2=>zoj (Z:=⟨ex,W⟩) (rs.ext (e1.trans e2)) rel2 (Rps.cons (p1.ext e2) p2) q2 (ret.ext (e1.trans e2))⟩
theorem zrc {tbl:List (Addr×Sd)}{C:Addr}{m:Str}{ex:Ev→Addr→Sto→Prop}{sd:Sd}{to:TDE}{t:TDA}{dl:Ev}{S S1:Sto}{Q:DK}{n:Nat}{fs:List (Str×D)}(hto:∀K:DK,K (.ref n) S1→to dl S K)(h:S1[n]?=some (.ins C fs))(hm:(C,sd)∈tbl)(hf:fs.lookup m=none)(hq:t dl S1 λds S2=>sd (.ref n::ds) S2 Q (ex dl)):zjc tbl m ex to t dl S Q:=by
 unfold zjc
 exact hto _ ⟨n,C,fs,sd,rfl,h,hm,hf,hq⟩
structure Kx (K:PySem.W.Frag)(C:Addr):Prop where
 cl:Cls K C
 ha:PySem.W.findIn K (.ref C) "__class__"=some (some (.builtin "object.__class__"))
 hn:PySem.W.specialIn K (.builtin "object.__class__") "__get__"=some (some (.builtin "getset_descriptor.__get__"))
 ht:PySem.W.takesIn K (.builtin "object.__class__")=some true
 hm:PySem.W.mroIn K C (.type "object")=some true
def KT (K:PySem.W.Frag)(cv:Value)(ans:List (Addr×Bool)):Prop:=∀C b,(C,b)∈ans→PySem.W.kitOne K (.ref C) cv=some b∧Kx K C
end
section
variable {X:Cx}{Z:Zx}
end
section
variable {n:Nat}{I:Addr}{fp wr:List Addr}{P:Nat→Value→Prop}{St:Nat→Shared→Prop}{prog:Program}{w:World}{A:Around}{s:Shared}{E:Value→Shared→Prop}{G:Array GenState→Array GenState→Prop}
end
section
variable {X:Cx}{Z:Zx}
end
structure zdv (sc around:Scope)(own caps:List Str):Prop where
 kind:sc.kind=.function
 nocell:∀y∈sc.names,y.2≠.cell
 own:∀y∈sc.names,y.2=.local→sc.names.lookup y.1=some .local
 cap:∀y∈caps,sc.names.lookup y=some .free
 out:∀y∈sc.names,y.2=.free→around.names.lookup y.1=some .cell
def zgK (k:Nat)(caps:List Nat)(wi:TI)(gt:TG)(te:TE):TE:=λσ H Q=>wi σ H λJ H1=>∀D,H1 D=none→∃W:Nat→Nat→Hp→Prop,(∃m,W 0 m (upd H1 D (.lst [])))∧∀i m H,W i m H→
 (J.stop i H∧Q (.ref D) H)∨(J.go i H∧∀x H',J.yld i H x H'→∀o:St,o.length=k→gt x (o++zbe caps σ) H' λσ8 H8=>(∃o8:St,o8.length=k∧σ8=o8++zbe caps σ)∧
  te σ8 H8 λy H3=>∃ys,H3 D=some (.lst ys)∧ys.length<sizeLine∧∃m',m'<m∧W (i+1) m' (upd H3 D (.lst (ys++[y]))))
section
variable {X:Cx}{pins:List (Addr×Obj)}{σ:St}{H:Hp}{s:Shared}
theorem zxi {sc:Scope}{own N:List Str}{caps:List Nat}{cl:List (Str×Addr)}{fp:List Addr}{h1:Heap}{m:Str→Option Value}{tk:Nat}(I:Inv X pins σ H s)(cs:zdv sc X.env.scope own N)
  (hN:∀(j:Nat) (y:Str),N[j]?=some y→∃i,caps[j]?=some i∧X.N[i]?=some y)(hlen:caps.length=N.length)
  (c1:∀x c,cl.lookup x=some c→X.env.cells.lookup x=some c)(c2:∀y∈sc.names,y.2=.free→cl.lookup y.1=X.env.cells.lookup y.1)
  (hf:∀b∈fp,zbQ X pins H b)(hfo:∀b∈fp,b<s.heap.objs.size)(hns:h1.Ns s.heap.objs.size m)(hk:∀b o,s.heap.get? b=some o→h1.get? b=some o):
  Inv (Cx.comp X sc (own++N) cl s.heap.objs.size s H fp (X.pn++pins)) [] (List.replicate own.length none++zbe caps σ) H { s with heap:=h1,toks:=tk }:=by
 have stk:∀b∈frs X.stack,b=X.env.locals∨b∈X.fs:=λb hb=>Vas.mp (I.stkSub b hb)
 refine⟨⟨I.ok.mod,cs.kind,I.ok.glob,I.ok.blt,Vaa _,λa b c h1 h2=>I.ok.inj a b c (c1 _ _ h1) (c1 _ _ h2),λy hy=>?_,λ_ _ z=>Bool.noConfusion z,I.ok.hd,I.ok.frames,.inl rfl,λb hb=>⟨Van (hfo b hb),λy c e=>(hf b hb).2.2.2.2.1 y c (c1 _ _ e)⟩,
  I.bs,VaD I.ok.bsz I.sz,λb o e hb=>?_,λb hb z=>?_,I.stack,I.stkFree⟩,rfl,I.bare,Un.kept hk,⟨m,hns,λi y v e1 e2 e3=>?_⟩,λy c e=>?_,I.hok.fresh (Vaa _),λy c e=>I.freeC y c (c1 _ _ e),λp hp=>?_,I.hok.kept hk,?_⟩
 ·have hfr:sc.names.lookup y=some .free:=zoB cs.nocell hy
  have hm:=zgJ hfr
  obtain⟨c,e⟩:=I.ok.has y (.inl (cs.out _ hm rfl))
  exact⟨c,(c2 _ hm rfl).trans e⟩
 ·rcases (hf b hb).2.2.2.1 with z | z
  ·exact I.ok.noex b o e z
  ·exact absurd (Vaw (Heap.lt_size (I.ok.bs b o e).1) z) (VaH _)
 ·rcases stk b z with z | z
  ·exact(hf b hb).2.1 z
  ·exact(hf b hb).2.2.1 z
 ·rcases Nat.lt_or_ge i own.length with hi | hi
  ·rw[Val (by simpa using hi),List.getElem?_replicate] at e2
   simp[hi] at e2
  ·obtain⟨i,rfl⟩:∃k,i=own.length+k:=⟨i-own.length,by omega⟩
   have e1':N[i]?=some y:=by
    rw[VaG hi] at e1
    simpa using e1
   have e2:(zbe caps σ)[i]?=some (some v):=by
    rw[VaG (by simp)] at e2
    simpa using e2
   obtain⟨j,hj,hy⟩:=hN i y e1'
   have e2':σ[j]?=some (some v):=by
    simp only[zbe,Vaf,hj,Option.map_some,Option.some.injEq] at e2
    cases q:σ[j]? with
    | none=>rw[q] at e2; cases e2
    | some o=>rw[q] at e2; simp at e2; rw[e2]
   have hfr:sc.names.lookup y=some .free:=cs.cap y (Vag e1')
   have hm:=zgJ hfr
   have hce:X.env.scope.names.lookup y=some .cell:=cs.out _ hm rfl
   obtain⟨m0,_,hl⟩:=I.loc
   obtain⟨u,r,l⟩:=hl j y v hy e2' (.inr (.inl hce))
   refine⟨u,r,.inr ⟨znY hfr,?_⟩⟩
   rcases l with ⟨k,_⟩ | ⟨_,c,ec,hcell⟩
   ·rw[show X.env.kindOf y=some .cell from hce] at k; cases k
   ·exact⟨c,(c2 _ hm rfl).trans ec,hcell.keeps hk⟩
 ·obtain⟨v,z⟩:=I.cell y c (c1 _ _ e)
  exact⟨v,z.keeps hk⟩
 ·have hp':p∈X.pn++pins:=by simpa using hp
  obtain⟨p1,p2,p3,p4,p5⟩:=I.pin p hp'
  refine⟨hk _ _ p1,p2,Van (Heap.lt_size p1),λz=>?_,p5⟩
  rcases stk _ z with z | z
  ·exact p3 z
  ·exact p4 z
 ·simp[zbe,hlen]
end
section
variable {X:Cx}{elt iter:Expr}{elts:List Expr}{kk:Nat}{tp:Pos}{pos:Pos}{sc:Scope}{own N:List Str}{caps:List Nat}{wi:TI}{gt:TG}{te:TE}
theorem zpK {use:Option (Value→Sem Unit)}{Qr:Value→Shared→Prop}(hc:X.calm=true)(cs:zdv sc X.env.scope own N)(hN:∀(j:Nat) (y:Str),N[j]?=some y→∃i,caps[j]?=some i∧X.N[i]?=some y)(hlen:caps.length=N.length)
  (hi:PI X (.Tuple elts kk tp) iter wi)(hg:∀cl C s0 H0 fp pn,PG (Cx.comp X sc (own++N) cl C s0 H0 fp pn) (.Tuple elts kk tp) gt)(he:∀cl C s0 H0 fp pn,PE (Cx.comp X sc (own++N) cl C s0 H0 fp pn) elt te)
  (hs:∀y,foldedSetIterable iter X.env y=pure y)
  {pins:List (Addr×Obj)}{s:Shared}{σ:St}{H:Hp}{Q:VK}{p2:Pos}(I:Inv X pins σ H s)(h:zgK own.length caps wi gt te σ H Q)
  (fin:∀D C s',zqV X pins σ C Q D s'→compPost (model X.prog X.w) X.A X.xe use Qr (.ref D) C (.ok .next) s'):
  wpAny (model X.prog X.w) X.A (comprehension (.ListComp elt [⟨.Tuple elts kk tp,iter,[],0⟩] sc pos) sc X.env p2 (newList []) false (eval iter X.env) use) Qr X.xe s:=by
 obtain⟨cl,k1,k2,k3⟩:=zqf (sc:=sc) (env:=X.env) λy hy hf=>I.ok.has y.1 (.inl (cs.out y hy hf))
 refine wpAny_comprehension_free rfl hs k1 cs.kind cs.own (thn (hi pins s σ H _ I h) λv s1 h1=>thn h1 λitv s2 h2=>?_)
 obtain⟨it,fp,tn,J,H2,e,I2,T,st2,f2,body⟩:=h2
 subst e
 have hfo:∀b∈fp,b<s2.heap.objs.size:=λb hb=>by
  obtain⟨o,e,_⟩:=T.obj _ _ st2 b hb
  exact Heap.lt_size e
 have hD:H2 s2.heap.objs.size=none:=I2.hok.fresh (Vaa _)
 obtain⟨W,⟨m0,w0⟩,turn⟩:=body _ hD
 refine wpAny_newObj_type ?_
 have I3:Inv X pins σ (upd H2 s2.heap.objs.size (.lst [])) { s2 with heap:=s2.heap.push { cls:=.type "list",dict:=none,data:=.seq ([]:List Value).toArray },toks:=s2.toks }:=
  I2.laid (t':=s2.toks) (λb u e=>Heap.get?_push_of_some _ e) (Vaa _) ⟨Vak _,[],0,.nil,Heap.get?_push_size _ rfl⟩
 generalize hs3:({ s2 with heap:=s2.heap.push { cls:=.type "list",dict:=none,data:=.seq ([]:List Value).toArray },toks:=s2.toks }:Shared)=s3 at I3
 have es3:({ s2 with heap:=s2.heap.push { cls:=.type "list",dict:=none,data:=.seq ([]:List Value).toArray } }:Shared)=s3:=hs3
 try rw[es3]
 have f3:∀b∈fp,zbQ X pins (upd H2 s2.heap.objs.size (.lst [])) b:=λb hb=>⟨by rw[za1 (Van (hfo b hb))]; exact(f2 b hb).1,(f2 b hb).2⟩
 have up3:∀b o,s2.heap.get? b=some o→s3.heap.get? b=some o:=λb o e=>by rw[← hs3]; exact Heap.get?_push_of_some _ e
 have st3:tn 0 s3.heap:=T.keep _ _ _ st2 λb _ o e=>up3 b o e
 have hfo3:∀b∈fp,b<s3.heap.objs.size:=λb hb=>by
  obtain⟨o,e,_⟩:=T.obj _ _ st3 b hb
  exact Heap.lt_size e
 refine wpAny_newFunctionEnv cs.nocell (λy hy=>by simp at hy) (λh4 ns4 sb4=>?_) cs.kind
 have hk4:∀b o,s3.heap.get? b=some o→h4.get? b=some o:=λb o e=>(sb4.2 b (Van (Heap.lt_size e))).trans (Heap.get?_push_of_some _ e)
 have I4:=zxi (tk:=s3.toks+([]:List (Str×Value)).length) I3 cs hN hlen k2 k3 f3 hfo3 ns4 hk4
 generalize hs4:({ s3 with heap:=h4,toks:=s3.toks+([]:List (Str×Value)).length }:Shared)=s4 at I4 ⊢
 have eh4:s4.heap=h4:=by rw[← hs4]
 have st4:tn 0 s4.heap:=by rw[eh4]; exact T.keep _ _ _ st3 λb _ o e=>hk4 b o e
 have fY:∀ {H':Hp},(∀b∈fp,H' b=none)→∀b∈fp,zbQ (Cx.comp X sc (own++N) cl s3.heap.objs.size s3 (upd H2 s2.heap.objs.size (.lst [])) fp (X.pn++pins)) [] H' b:=λhn b hb=>by
  obtain⟨_,z2,z3,z4,z5,z6⟩:=f3 b hb
  refine⟨hn b hb,Van (hfo3 b hb),λz=>?_,.inl hb,λy c e=>z5 y c (k2 _ _ e),λp hp=>z6 p (by simpa using hp)⟩
  rcases Vas.mp (I3.stkSub b z) with z | z
  ·exact z2 z
  ·exact z3 z
 have loop:codeAny (model X.prog X.w) X.A (.compLoop (.ListComp elt [⟨.Tuple elts kk tp,iter,[],0⟩] sc pos) 0 (.ref it) (.ref s2.heap.objs.size) (compEnvC sc cl s3.heap.objs.size X.env))
   (compPost (model X.prog X.w) X.A X.xe use Qr (.ref s2.heap.objs.size) s3.heap.objs.size) s4:=by
  refine LCp.codeAny_compLoop_pair (λn s'=>∃i o H',o.length=own.length∧Inv (Cx.comp X sc (own++N) cl s3.heap.objs.size s3 (upd H2 s2.heap.objs.size (.lst [])) fp (X.pn++pins)) [] (o++zbe caps σ) H' s'∧tn i s'.heap∧(∀b∈fp,H' b=none)∧W i n H') ?_ m0
   ⟨0,_,_,List.length_replicate,I4,st4,λb hb=>(f3 b hb).1,w0⟩
  rintro n s5 ⟨i,o,H5,ho,I5,st5,fr5,w5⟩
  rcases turn i n H5 w5 with ⟨stop,q⟩ | ⟨go,step⟩
  ·refine thn (T.done (Cx.comp X sc (own++N) cl s3.heap.objs.size s3 (upd H2 s2.heap.objs.size (.lst [])) fp (X.pn++pins)) rfl rfl rfl hc i [] s5 _ H5 _ I5 (fY fr5) st5 stop) λr s6 ⟨hr,I6⟩=>?_
   subst hr
   refine fin _ _ _ ⟨⟨H5,I3.call' I6.os I6.base I6.hok I6.bare (λb hb=>?_),q,I6.free⟩,?_,Nat.ne_of_gt I3.lt,I3.sz,λy c e z=>?_,λp hp z=>?_⟩
   ·obtain⟨_,z2,z3,z4,z5,z6⟩:=f3 b hb
    exact⟨z4,z2,z5,z6⟩
   ·obtain⟨m,hm,_⟩:=I6.loc
    exact⟨m,hm⟩
   ·obtain⟨v,hv⟩:=I3.cell y c e
    exact absurd (z ▸ hv.lt) (VaH _)
   ·exact absurd (z ▸ Heap.lt_size (I3.pin p hp).1) (VaH _)
  ·refine thn (T.item (Cx.comp X sc (own++N) cl s3.heap.objs.size s3 (upd H2 s2.heap.objs.size (.lst [])) fp (X.pn++pins)) rfl rfl rfl hc i [] s5 _ H5 _ I5 (fY fr5) st5 go) λr s6 ⟨u,hr,h6⟩=>?_
   subst hr
   refine wpAny_mono h6 (λ_ s7 ⟨y,H7,I7,r7,y7,st7,fr7⟩=>?_) λ_ _ z=>z
   have I7':=I7.pinned (fY fr7) (T.obj _ _ st7)
   refine wpAny_mono (hg _ _ _ _ _ _ _ s7 _ H7 y u _ I7' r7 (step y H7 y7 o ho)) (λ_ s8 ⟨σ8,H8,I8,⟨o8,ho8,e8⟩,q8⟩=>?_) λ_ _ z=>z.elim
   subst e8
   have stay:∀ {H':Hp} {s':Shared},Inv (Cx.comp X sc (own++N) cl s3.heap.objs.size s3 (upd H2 s2.heap.objs.size (.lst [])) fp (X.pn++pins)) ([]++zfC fp s7.heap) (o8++zbe caps σ) H' s'→∀m',m'<n→W (i+1) m' H'→
     ∃m,m<n∧∃i o H',o.length=own.length∧Inv (Cx.comp X sc (own++N) cl s3.heap.objs.size s3 (upd H2 s2.heap.objs.size (.lst [])) fp (X.pn++pins)) [] (o++zbe caps σ) H' s'∧tn i s'.heap∧(∀b∈fp,H' b=none)∧W i m H':=λ{H' s'} J m' hm w'=>by
    refine⟨m',hm,i+1,o8,H',ho8,J.unpinned,T.keep _ _ _ st7 λb hb o e=>(J.pin (b,o) (VaI _ (VaI _ (ze3 hb e)))).1,λb hb=>?_,w'⟩
    obtain⟨o,e,d⟩:=T.obj _ _ st7 b hb
    exact(J.pin (b,o) (VaI _ (VaI _ (ze3 hb e)))).2.1
   refine wpAny_mono (he _ _ _ _ _ _ _ s8 _ H8 _ I8 q8) (λu2 s10 ⟨z,H10,I10,r10,q10⟩=>?_) λ_ _ z=>z.elim
   obtain⟨ys,hD10,hlt,m',hm,w10⟩:=q10
   refine wpAny_mono (zoG (X:=(Cx.comp X sc (own++N) cl s3.heap.objs.size s3 (upd H2 s2.heap.objs.size (.lst [])) fp (X.pn++pins))) _ s10 _ H10 (.ref s2.heap.objs.size) [z] (.ref s2.heap.objs.size) [u2] (λ_ H'=>H'=upd H10 s2.heap.objs.size (.lst (ys++[z]))) I10 rfl (.cons r10 .nil) ⟨_,ys,z,rfl,rfl,hD10,hlt,rfl⟩) (λ_ s11 ⟨_,H11,I11,_,e11⟩=>?_) λ_ _ z=>z.elim
   subst e11
   exact stay I11 m' hm w10
 exact codeAny_compStart_list loop (T.self _ 0 s4 _ _ st4 loop)
theorem zpp (hc:X.calm=true)(cs:zdv sc X.env.scope own N)(hN:caps.map (λi=>X.N[i]?)=N.map some)
  (hi:PI X (.Tuple elts kk tp) iter wi)(hg:∀cl C s0 H0 fp pn,PG (Cx.comp X sc (own++N) cl C s0 H0 fp pn) (.Tuple elts kk tp) gt)(he:∀cl C s0 H0 fp pn,PE (Cx.comp X sc (own++N) cl C s0 H0 fp pn) elt te)
  (hs:∀y,foldedSetIterable iter X.env y=pure y:=by intro _; rfl):PE X (.ListComp elt [⟨.Tuple elts kk tp,iter,[],0⟩] sc pos) (zgK own.length caps wi gt te):=by
 intro pins s σ H Q I h
 rw[eval_ListComp]
 refine zpK (use:=none) hc cs (zdU hN).1 (zdU hN).2 hi hg he hs I h λD C s' f=>?_
 obtain⟨⟨H',I',q,hC⟩,⟨m,ns⟩,l,o,c,p⟩:=f
 exact⟨m,ns,λh' sb=>⟨.ref D,H',I'.turned (t':=s'.toks) (λb ob hb e=>(sb.2 b hb).trans e) hC l (.inr o) c p,rfl,q⟩⟩
end
section
variable {X:Cx}{Z:Zx}{elt:Expr}{pos:Pos}{sc ar:Scope}{N:List Str}{caps:List Nat}
def zkQ (caps:List Nat)(te:TDE)(k:Nat)(dl:Ev)(d1 d2:D)(S:Sto)(nx:Sto→Prop):Prop:=
 te (some d1::some d2::zbx caps dl) S λy S2=>match S2[k]? with
  | some (.lst ys)=>ys.length<1000∧nx (S2.set k (.lst (ys++[y])))
  | _=>False
@[irreducible] def zin (caps:List Nat)(ta:TDA)(te:TDE):TDE:=λdl S Q=>ta dl S λds S1=>match ds with
 | [.ref n]=>(lAt S1 n).isSome=true∧∃W:Nat→Nat→Sto→Prop,(∃m,W 0 m (S1++[.lst []]))∧∀k m S2,W k m S2→match lAt S2 n with
  | some o=>match (zah o)[k]? with
   | some y=>zkQ caps te S1.length dl (.int (k:Int)) y S2 λS3=>∃m',m'<m∧W (k+1) m' S3
   | none=>k=(zah o).length∧Q (.ref S1.length) S2
  | none=>False
 | _=>False
theorem zo9 {r:List Addr}{H:Hp}{dl:Ev}{σ:St}{d1 d2:D}{v1 v2:V}(h:Rs r H dl σ)(p1:Rp r H d1 v1)(p2:Rp r H d2 v2):Rs r H (some d1::some d2::zbx caps dl) (some v1::some v2::zbe caps σ):=by
 have z:=zre (caps:=caps) h p2
 refine⟨by have:=z.1; simp only[VaE] at this ⊢; omega,λi e hi=>?_⟩
 cases i with
 | zero=>simp at hi; subst hi; exact⟨v1,rfl,p1⟩
 | succ i=>exact z.2 i e (by simpa using hi)
theorem zr3 {ta:TDA}{te:TDE}{σ:St}{H:Hp}{Qv:VK}(h:up X.K Z (zin caps ta te) σ H Qv):
  zgK 2 caps (zqX X.K (upA X.K Z ta)) (zff X.K 2 (zfu [0,1])) (up X.K Z0 te) σ H Qv:=by
 obtain⟨r,dl,S,Q,rs,rel,h,ret⟩:=h
 unfold zin at h
 refine⟨r,dl,S,_,rs,rel,h,λvs H1 r1 ds S1 x1 rel1 p1 q1=>?_⟩
 split at q1
 ·rename_i n
  obtain⟨v,vs',rfl,p2,p3⟩:=p1.uncons
  have z:=p3.unnil
  subst z
  cases p2 with
  | @ref n a hr=>
   obtain⟨hsome,W,⟨m0,w0⟩,turn⟩:=q1
   obtain⟨o1,eo1⟩:=VaZ.mp hsome
   obtain⟨xs1,sq1,_⟩:=zc0 (r:=r1) hr rel1.b eo1
   refine⟨a,rfl,⟨xs1,sq1⟩,λD0 hD=>?_⟩
   obtain⟨rel2,x2⟩:=rel1.b.push (ds:=[]) (xs:=[]) hD Rps.nil
   refine⟨λk m H'=>∃r' S',Ext (r1++[D0]) r' (upd H1 D0 (.lst [])) H'∧zaU X.K r' S' H'∧W k m S',⟨m0,_,_,Ext.refl,rel2,w0⟩,?_⟩
   rintro k m H2 ⟨r2,S2,x3,rb2,w2⟩
   have ha2:r2[S1.length]?=some D0:=x3.adr _ _ (zhP rel1.len)
   have hr2:r2[n]?=some a:=(x2.trans x3).adr _ _ hr
   have q:=turn k m S2 w2
   split at q
   ·rename_i o eo
    obtain⟨xs,sq,pr⟩:=zc0 (r:=r2) hr2 rb2 eo
    split at q
    ·rename_i y ey
     obtain⟨v,hv,pv⟩:=pr.get ey
     refine .inr ⟨⟨xs,v,sq,hv⟩,λv' H' y' o8 ho8=>?_⟩
     obtain⟨T,w,rfl,hT,rfl,hw⟩:=y'
     have ew:w=v:=by
      have z:=hw xs sq
      rw[hv] at z; exact(Option.some.inj z).symm
     subst ew
     obtain⟨c1,c2,rfl⟩:∃c1 c2,o8=[c1,c2]:=by
      match o8,ho8 with
      | [c1,c2],_=>exact⟨c1,c2,rfl⟩
     have x4:Ext r2 r2 H2 (upd H2 T (.tup [.int (k:Int),w])):=zoq hT
     have rb3:=rb2.same (zcP (o:=.tup [.int (k:Int),w]) hT)
     have rs3:=rs.ext (x1.trans (x2.trans (x3.trans x4)))
     refine⟨T,[.int (k:Int),w],rfl,SqT.of zcw,rfl,rfl,⟨[some (.int (k:Int)),some w],rfl,rfl⟩,?_⟩
     have rsY:=zo9 (caps:=caps) rs3 (.int (k:Int)) (pv.ext x4)
     refine⟨r2,_,S2,_,rsY,⟨rb3,λ_ _ _ _ _ _ _ _ _ z=>z.elim⟩,q,λz H4 r4 dz S4 x6 rel4 p4 q4=>?_⟩
     split at q4
     ·rename_i ys eys
      obtain⟨hl,m',hm,q4⟩:=q4
      have ha4:r4[S1.length]?=some D0:=x6.adr _ _ ha2
      obtain⟨zs,hD4,pz⟩:=rel4.b.ob _ _ _ ha4 eys
      obtain⟨rel5,x7⟩:=rel4.b.set ha4 eys (pz.snoc p4)
      exact⟨zs,hD4,by rw[← pz.1]; exact zh8 (VaX hl),m',hm,r4,_,x3.trans (x4.trans (x6.trans x7)),rel5,q4⟩
     ·exact q4.elim
    ·obtain⟨hk,q⟩:=q
     exact .inl ⟨⟨xs,sq,by rw[← pr.1]; exact hk.symm⟩,ret _ H2 r2 _ S2 (x1.trans (x2.trans x3)) ⟨rb2,rel.xw.ext (x1.trans (x2.trans x3))⟩ (.ref ha2) q⟩
   ·exact q.elim
 ·exact q1.elim
theorem ze8 {ta:TDA}{te:TDE}{x1 x2:Str}{p1 p2 p pos2 tp:Pos}{kk:Nat}{a:Expr}(har:X.env.scope=ar)(hc:X.calm=true)(cs:zdv sc ar [x1,x2] N)(hl1:sc.names.lookup x1=some .local)(hl2:sc.names.lookup x2=some .local)
  (hN:caps.map (λi=>X.N[i]?)=N.map some)(hnd:([x1,x2]++N).Nodup)(hg:Gl X "enumerate")(hm:X.mg "enumerate"=none)(hv:bootBuiltins "enumerate"=some (.type "enumerate"))(ha:PDA X Z [a] ta)
  (he:∀cl C s0 H0 fp pn,PD (Cx.comp X sc ([x1,x2]++N) cl C s0 H0 fp pn) Z0 elt te)
  (hse:starEach [a] X.env=[(false,eval a X.env)]:=by rfl)(hs:∀y,foldedSetIterable (.Call (.Name "enumerate" p) [a] [] pos2) X.env y=pure y:=by intro _; rfl):
  PD X Z (.ListComp elt [⟨.Tuple [.Name x1 p1,.Name x2 p2] kk tp,.Call (.Name "enumerate" p) [a] [] pos2,[],0⟩] sc pos) (zin caps ta te):=by
 subst har
 refine za5 (zpp hc cs hN (gt:=zff X.K 2 (zfu [0,1])) (te:=up X.K Z0 te) (zuU hg hm hv ha hse) (λcl C s0 H0 fp pn=>?_) he hs) λ_ _ _ h=>zr3 h
 have l1:(Cx.comp X sc ([x1,x2]++N) cl C s0 H0 fp pn).env.scope.names.lookup x1=some .local:=lookup_relabel_local hl1
 have l2:(Cx.comp X sc ([x1,x2]++N) cl C s0 H0 fp pn).env.scope.names.lookup x2=some .local:=lookup_relabel_local hl2
 exact zgf hc (zfo hnd (.cons rfl (.inl l1) (.inr l1) (.cons rfl (.inl l2) (.inr l2) .nil))) rfl rfl
end
section
variable {X:Cx}{Z:Zx}{pos:Pos}
def zmB:WC:=λds S Q=>match ds with
 | [.ref n]=>match lAt S n with
  | some o=>match zcl (zah o) with
   | some ns=>Q (.int ns.sum) S
   | none=>False
  | none=>False
 | _=>False
theorem zgw (hc:X.calm=true):zbc X (.builtin "sum") (upC X.K Z zmB):=by
 intro pins s σ H xs us Qv I rv h
 obtain⟨r,S,ds,Q,rel,ps,q,ret⟩:=h
 unfold zmB at q
 split at q
 ·rename_i n
  obtain⟨v,vs,rfl,p1,p2⟩:=ps.uncons
  have z:=p2.unnil
  subst z
  split at q
  ·rename_i o eo
   split at q
   ·rename_i ns en
    cases p1 with
    | ref h1=>
     obtain⟨eo,eL⟩:=zbk eo
     obtain⟨a,ha,ob⟩:=rel.at eo
     rw[h1] at ha; cases ha
     obtain⟨ys,sq,pr⟩:=ob.list eL
     obtain⟨u,rfl,ru⟩:=zdP rv
     cases ru
     obtain⟨its,ri,pl,hz⟩:=I.list sq
     obtain⟨zs,hz1,hz2⟩:=zlF en pr ri
     have isl:=pl.isList
     rw[hz1] at isl
     refine sum_intListG (I.ok.hd hc) isl λh' tk t' hk=>?_
     have e:preSum (numAt zs.toArray) zs.toArray.size=ns.sum:=by
      rw[preSum_eq,VaF (by simp)]
      show (zs.map (·.1)).sum=ns.sum
      rw[hz2]
     rw[e]
     exact⟨.int _,H,I.kept hk,⟨_,rfl⟩,ret _ _ _ _ _ Ext.refl rel (.int _) q⟩
   ·exact q.elim
  ·exact q.elim
 ·exact q.elim
end
section
variable {X:Cx}{Z:Zx}
theorem zxx {A:Around}{k n m:Nat}{a a':Addr}{o o':Ob}{b:Bool}{pins:List (Addr×Obj)}{σ:St}{H:Hp}{s:Shared}{r:List Addr}{S:Sto}(I:Inv X pins σ H s)(rel:Rel X.K Z r S H)(hn:r[n]?=some a)(hm:r[m]?=some a')(eo:lAt S n=some o)(eo':lAt S m=some o')
  (e:eqL (eqN k) (zah o) (zah o')=some b)(hu:A.units+1+k<cLine):SeqAt.RcAt A s (.ref a) (.ref a') b:=by
 obtain⟨eo,eL⟩:=zbk eo
 obtain⟨eo',eL'⟩:=zbk eo'
 obtain⟨z,hz,ob⟩:=rel.at eo
 rw[hn] at hz; cases hz
 obtain⟨z,hz,ob'⟩:=rel.at eo'
 rw[hm] at hz; cases hz
 obtain⟨xs,sq,pr⟩:=ob.list eL
 obtain⟨ys,sq',pr'⟩:=ob'.list eL'
 obtain⟨is,ri,pl,_⟩:=I.list sq
 obtain⟨js,rj,pl',_⟩:=I.list sq'
 obtain⟨g1,g2⟩:=zlc (A:=A.in1) (zjr k) I (by show A.units+1+k<_; omega) pr pr' ri rj e
 by_cases hs:is.toArray.size=js.toArray.size
 ·have q:=SeqAt.RcAt.lists (A:=A) pl.isList pl'.isList hs (by omega) g1
  have e2:(List.range is.toArray.size).all (zcH (eqN k) (zah o) (zah o'))=b:=by
   rw[← g2,← hs,Nat.min_self]; simp
  rw[e2] at q
  exact q
 ·have q:=SeqAt.RcAt.lists_lengths (A:=A) pl.isList pl'.isList (by simpa using hs) (by omega)
  have e2:b=false:=by
   rw[← g2,show (is.toArray.size==js.toArray.size)=false by simpa using hs,Bool.and_false]
  rw[e2]
  exact q
end
section
variable {X:Cx}{Z:Zx}{pos:Pos}
theorem ziY:∀ {us:List Value} {ms:List Int},IntsAre us ms→zau (ms.map V.int) us
 | _,_,.nil=>.nil
 | _,_,.cons n t h=>.cons ⟨t,rfl⟩ (ziY h)
def zjO:W2:=λx y S Q=>match x,y with
 | .ref n,.int k=>match S[n]? with
  | some (.lst xs)=>(0≤k∧k≤1000∧xs.length*k.toNat≤1000)∧Q (.ref S.length) (S++[.lst (List.replicate k.toNat xs).flatten])
  | _=>False
 | _,_=>False
theorem Rps.rep {r:List Addr}{H:Hp}{ds:List D}{xs:List V}(h:Rps r H ds xs):∀k:Nat,Rps r H (List.replicate k ds).flatten (List.replicate k xs).flatten
 | 0=>Rps.nil
 | k+1=>by
  simp only[Vba,Vbf]
  exact h.app (Rps.rep h k)
theorem zun:OpR X (binaryOp .Mult) (upO X.K Z (zcd zjO)):=by
 rw[zcJ]
 exact zeP zxP λx y H Qv ⟨r,S,dx,dy,Q,rel,px,py,q,ret⟩=>by
  unfold zjO at q
  split at q
  ·rename_i n k
   split at q
   ·rename_i xs e1
    obtain⟨⟨h0,h1,hl⟩,q⟩:=q
    cases py
    cases px with
    | @ref _ a hn=>
     obtain⟨z,hz,ob⟩:=rel.at e1
     rw[hn] at hz; cases hz
     obtain⟨us,g1,p1⟩:=ob
     refine⟨a,k,us,rfl,rfl,g1,by omega,by omega,by rw[← p1.1]; exact ze7 hl,λp hp=>?_⟩
     obtain⟨rel4,x⟩:=rel.push hp (p1.rep k.toNat)
     exact ret _ _ _ (.ref S.length) _ x rel4 (zeg rel.len) q
   ·exact q.elim
  ·exact q.elim
theorem zxR {n:Nat}{k:Int}{S:Sto}{Q:DK}{xs:List D}(h1:S[n]?=some (.lst xs))(hk:0≤k∧k≤1000)(hl:xs.length*k.toNat≤1000)(hq:Q (.ref S.length) (S++[.lst (List.replicate k.toNat xs).flatten])):zcd zjO (.ref n) (.int k) S Q:=by
 rw[zcJ]
 unfold zjO
 simp only[h1]
 exact⟨⟨hk.1,hk.2,hl⟩,hq⟩
end
section
variable {X:Cx}{Z:Zx}{elt:Expr}{pos:Pos}{sc ar:Scope}{N:List Str}{caps:List Nat}
@[irreducible] def zeY (caps:List Nat)(ta:TDA)(te:TDE):TDE:=λdl S Q=>ta dl S λds S1=>match ds with
 | [.ref n,.ref n']=>((lAt S1 n).isSome=true∧(lAt S1 n').isSome=true)∧∃W:Nat→Nat→Sto→Prop,(∃m,W 0 m (S1++[.lst []]))∧∀k m S2,W k m S2→match lAt S2 n,lAt S2 n' with
  | some o,some o'=>match (zah o)[k]?,(zah o')[k]? with
   | some x,some y=>zkQ caps te S1.length dl x y S2 λS3=>∃m',m'<m∧W (k+1) m' S3
   | _,_=>k=min (zah o).length (zah o').length∧Q (.ref S1.length) S2
  | _,_=>False
 | _=>False
theorem zp5 {ta:TDA}{te:TDE}{σ:St}{H:Hp}{Qv:VK}(h:up X.K Z (zeY caps ta te) σ H Qv):
  zgK 2 caps (iZip X.K (upA X.K Z ta)) (zff X.K 2 (zfu [0,1])) (up X.K Z0 te) σ H Qv:=by
 obtain⟨r,dl,S,Q,rs,rel,h,ret⟩:=h
 unfold zeY at h
 refine⟨r,dl,S,_,rs,rel,h,λvs H1 r1 ds S1 x1 rel1 p1 q1=>?_⟩
 split at q1
 ·rename_i n n'
  obtain⟨v,vs',rfl,p2,p3⟩:=p1.uncons
  obtain⟨v',vs2,rfl,p4,p5⟩:=p3.uncons
  have z:=p5.unnil
  subst z
  cases p2 with
  | @ref n a hr=>
   cases p4 with
   | @ref n' a' hr'=>
    obtain⟨⟨hsome,hsome'⟩,W,⟨m0,w0⟩,turn⟩:=q1
    obtain⟨o1,eo1⟩:=VaZ.mp hsome
    obtain⟨o2,eo2⟩:=VaZ.mp hsome'
    obtain⟨xs1,sq1,_⟩:=zc0 (r:=r1) hr rel1.b eo1
    obtain⟨ys1,sq2,_⟩:=zc0 (r:=r1) hr' rel1.b eo2
    refine⟨a,a',rfl,⟨xs1,sq1⟩,⟨ys1,sq2⟩,λD0 hD=>?_⟩
    obtain⟨rel2,x2⟩:=rel1.b.push (ds:=[]) (xs:=[]) hD Rps.nil
    refine⟨λk m H'=>∃r' S',Ext (r1++[D0]) r' (upd H1 D0 (.lst [])) H'∧zaU X.K r' S' H'∧W k m S',⟨m0,_,_,Ext.refl,rel2,w0⟩,?_⟩
    rintro k m H2 ⟨r2,S2,x3,rb2,w2⟩
    have ha2:r2[S1.length]?=some D0:=x3.adr _ _ (zhP rel1.len)
    have hr2:r2[n]?=some a:=(x2.trans x3).adr _ _ hr
    have hr2':r2[n']?=some a':=(x2.trans x3).adr _ _ hr'
    have q:=turn k m S2 w2
    split at q
    ·rename_i o o' eo eo'
     obtain⟨xs,sq,pr⟩:=zc0 (r:=r2) hr2 rb2 eo
     obtain⟨ys,sq',pr'⟩:=zc0 (r:=r2) hr2' rb2 eo'
     split at q
     ·rename_i y y2 ey ey2
      obtain⟨v,hv,pv⟩:=pr.get ey
      obtain⟨u,hvu,pu⟩:=pr'.get ey2
      refine .inr ⟨⟨xs,ys,v,u,sq,sq',hv,hvu⟩,λv' H' y' o8 ho8=>?_⟩
      obtain⟨T,w,w2',rfl,hT,rfl,hw,hw2⟩:=y'
      have ew:w=v:=by
       have z:=hw xs sq
       rw[hv] at z; exact(Option.some.inj z).symm
      have ew2:w2'=u:=by
       have z:=hw2 ys sq'
       rw[hvu] at z; exact(Option.some.inj z).symm
      subst ew ew2
      obtain⟨c1,c2,rfl⟩:∃c1 c2,o8=[c1,c2]:=by
       match o8,ho8 with
       | [c1,c2],_=>exact⟨c1,c2,rfl⟩
      have x4:Ext r2 r2 H2 (upd H2 T (.tup [w,w2'])):=zoq hT
      have rb3:=rb2.same (zcP (o:=.tup [w,w2']) hT)
      have rs3:=rs.ext (x1.trans (x2.trans (x3.trans x4)))
      refine⟨T,[w,w2'],rfl,SqT.of zcw,rfl,rfl,⟨[some w,some w2'],rfl,rfl⟩,?_⟩
      have rsY:=zo9 (caps:=caps) rs3 (pv.ext x4) (pu.ext x4)
      refine⟨r2,_,S2,_,rsY,⟨rb3,λ_ _ _ _ _ _ _ _ _ z=>z.elim⟩,q,λz H4 r4 dz S4 x6 rel4 p4 q4=>?_⟩
      split at q4
      ·rename_i ys eys
       obtain⟨hl,m',hm,q4⟩:=q4
       have ha4:r4[S1.length]?=some D0:=x6.adr _ _ ha2
       obtain⟨zs,hD4,pz⟩:=rel4.b.ob _ _ _ ha4 eys
       obtain⟨rel5,x7⟩:=rel4.b.set ha4 eys (pz.snoc p4)
       exact⟨zs,hD4,by rw[← pz.1]; exact zh8 (VaX hl),m',hm,r4,_,x3.trans (x4.trans (x6.trans x7)),rel5,q4⟩
      ·exact q4.elim
     ·obtain⟨hk,q⟩:=q
      exact .inl ⟨⟨xs,ys,sq,sq',by rw[← pr.1,← pr'.1]; exact hk.symm⟩,ret _ H2 r2 _ S2 (x1.trans (x2.trans x3)) ⟨rb2,rel.xw.ext (x1.trans (x2.trans x3))⟩ (.ref ha2) q⟩
    ·exact q.elim
 ·exact q1.elim
theorem zk0 {ta:TDA}{te:TDE}{x1 x2:Str}{p1 p2 p pos2 tp:Pos}{kk:Nat}{a b:Expr}(har:X.env.scope=ar)(hc:X.calm=true)(cs:zdv sc ar [x1,x2] N)(hl1:sc.names.lookup x1=some .local)(hl2:sc.names.lookup x2=some .local)
  (hN:caps.map (λi=>X.N[i]?)=N.map some)(hnd:([x1,x2]++N).Nodup)(hg:Gl X "zip")(hm:X.mg "zip"=none)(hv:bootBuiltins "zip"=some (.type "zip"))(ha:PDA X Z [a,b] ta)
  (he:∀cl C s0 H0 fp pn,PD (Cx.comp X sc ([x1,x2]++N) cl C s0 H0 fp pn) Z0 elt te)
  (hse:starEach [a,b] X.env=[(false,eval a X.env),(false,eval b X.env)]:=by rfl)(hse2:starEach [b] X.env=[(false,eval b X.env)]:=by rfl)(hs:∀y,foldedSetIterable (.Call (.Name "zip" p) [a,b] [] pos2) X.env y=pure y:=by intro _; rfl):
  PD X Z (.ListComp elt [⟨.Tuple [.Name x1 p1,.Name x2 p2] kk tp,.Call (.Name "zip" p) [a,b] [] pos2,[],0⟩] sc pos) (zeY caps ta te):=by
 subst har
 refine za5 (zpp hc cs hN (gt:=zff X.K 2 (zfu [0,1])) (te:=up X.K Z0 te) (zop hg hm hv ha hse hse2) (λcl C s0 H0 fp pn=>?_) he hs) λ_ _ _ h=>zp5 h
 have l1:(Cx.comp X sc ([x1,x2]++N) cl C s0 H0 fp pn).env.scope.names.lookup x1=some .local:=lookup_relabel_local hl1
 have l2:(Cx.comp X sc ([x1,x2]++N) cl C s0 H0 fp pn).env.scope.names.lookup x2=some .local:=lookup_relabel_local hl2
 exact zgf hc (zfo hnd (.cons rfl (.inl l1) (.inr l1) (.cons rfl (.inl l2) (.inr l2) .nil))) rfl rfl
end
section
variable {X:Cx}{Z:Zx}{pos:Pos}
def dPar (i j:Nat)(ta:TDA):TDS:=λE dl S=>ta dl S λds S1=>match ds with
 | [v,w]=>E.nx ((dl.set i (some v)).set j (some w)) S1
 | _=>False
theorem zsk {i j:Nat}{x y:Str}{a b:Expr}{ta:TDA}{px py pt:Pos}{kt k2 pt2}(hc:X.calm=true)(hN:X.N.Nodup)(hi:X.N[i]?=some x)(hj:X.N[j]?=some y)(hij:i≠j)
  (hx:X.env.scope.names.lookup x=some .local)(hy:X.env.scope.names.lookup y=some .local)(ha:PDA X Z [a,b] ta)
  (hw:swappedStores [.Tuple [.Name x px,.Name y py] kt pt] (.Tuple [a,b] k2 pt2) X.env=pure (some [x,y]):=by rfl)
  (hs:swapsWithSole [.Tuple [.Name x px,.Name y py] kt pt] (.Tuple [a,b] k2 pt2) pos.line X.env=pure false:=by rfl):
  PDS X Z (.Assign [.Tuple [.Name x px,.Name y py] kt pt] (.Tuple [a,b] k2 pt2) pos) (dPar i j ta):=
 zbZ (zxg hc hN hi hj hij hx hy ha hw hs) λF σ H ⟨r,dl,S,E,rs,rel,h,ret⟩=>by
  refine⟨r,dl,S,_,rs,rel,h,λvs H1 r1 ds S1 x1 rel1 p1 q1=>?_⟩
  split at q1
  ·rename_i v w
   obtain⟨v1,vs1,rfl,p2,p3⟩:=p1.uncons
   obtain⟨v2,vs2,rfl,p4,p5⟩:=p3.uncons
   have z:=p5.unnil
   subst z
   exact⟨v1,v2,rfl,ret.nx _ H1 r1 _ S1 x1 (((rs.ext x1).set i p2).set j p4) rel1 q1⟩
  ·exact q1.elim
end
section
variable {n:Nat}{I:Addr}{fp wr:List Addr}{P:Nat→Value→Prop}{St:Nat→Shared→Prop}{prog:Program}{w:World}{A:Around}{s:Shared}{E:Value→Shared→Prop}{G:Array GenState→Array GenState→Prop}
end
section
variable {X:Cx}{Z:Zx}{pos:Pos}
end
section
variable {X:Cx}{Z:Zx}{pos:Pos}
theorem Rps.ins {r:List Addr}{H:Hp}{y:D}{w:V}(hy:Rp r H y w):∀ {ds:List D} {xs:List V} (k:Nat),Rps r H ds xs→Rps r H (ds.take k++y::ds.drop k) (xs.take k++w::xs.drop k)
 | [],xs,k,h=>by
  have z:=h.unnil
  subst z
  simpa using Rps.cons hy h
 | d::ds,xs,0,h=>Rps.cons hy h
 | d::ds,xs,k+1,h=>by
  obtain⟨v,vs,rfl,p1,p2⟩:=h.uncons
  exact Rps.cons p1 (Rps.ins hy k p2)
end
section
variable {X:Cx}{Z:Zx}{elt iter:Expr}{elts:List Expr}{kk:Nat}{tp pos:Pos}{sc ar:Scope}{own N:List Str}{caps:List Nat}{wi:TI}{gt:TG}
theorem zxV {te:TE}{i:Nat}{y:Str}{py spos:Pos}(hc:X.calm=true)(cs:zdv sc X.env.scope own N)(hN:caps.map (λi=>X.N[i]?)=N.map some)
  (hi:PI X (.Tuple elts kk tp) iter wi)(hg:∀cl C s0 H0 fp pn,PG (Cx.comp X sc (own++N) cl C s0 H0 fp pn) (.Tuple elts kk tp) gt)(he:∀cl C s0 H0 fp pn,PE (Cx.comp X sc (own++N) cl C s0 H0 fp pn) elt te)
  (hNd:X.N.Nodup)(hy:X.N[i]?=some y)(hl:X.env.scope.names.lookup y=some .local)
  (hsw:swapsWith (.ListComp elt [⟨.Tuple elts kk tp,iter,[],0⟩] sc pos) (some (.Name y py)) spos.line X.env=pure true)
  (hs:∀y,foldedSetIterable iter X.env y=pure y:=by intro _; rfl):PS X (.Assign [.Name y py] (.ListComp elt [⟨.Tuple elts kk tp,iter,[],0⟩] sc pos) spos) (λE σ H=>zgK own.length caps wi gt te σ H λv H1=>E.nx (σ.set i (some v)) H1):=by
 intro pins s σ H E I h
 rw[exec_Assign_Name_used (hs:=hsw)]
 refine wpAny_bind (wpAny_standAt ?_); refine wpAny_bind ?_; show wpAny _ _ (comprehension _ sc X.env _ (newList []) false (eval iter X.env) (some (assign (.Name y py) X.env)) >>= λ_=>pure ()) _ _ s
 refine wpAny_bind (thn (zpK (use:=some (assign (.Name y py) X.env)) (Qr:=λ_ s'=>SP X pins E .next s') hc cs (zdU hN).1 (zdU hN).2 hi hg he hs I h λD C s' f=>?_) λ_ s' hq=>wpAny_pure (wpAny_pure hq))
 obtain⟨⟨H',I',q,hC⟩,⟨m,ns⟩,l,o,c,p⟩:=f
 refine wpAny_assign_Name (znu (v:=.ref D) I' hNd hy (.inl hl) rfl (λs'' I'' ⟨a,sb,ha⟩=>⟨m,ns.sameBut sb ?_,λh' sb'=>⟨_,H',I''.turned (t':=s''.toks) (λb ob hb e=>(sb'.2 b hb).trans e) hC l (.inr o) c p,q⟩⟩) (.inr hl))
 rcases ha with rfl | ha
 ·exact l
 ·exact Ne.symm (c _ _ ha)
theorem zvo {ta:TDA}{te:TDE}{x1 x2:Str}{p1 p2 p pos2:Pos}{a b:Expr}{i:Nat}{y:Str}{py spos:Pos}(har:X.env.scope=ar)(hc:X.calm=true)(cs:zdv sc ar [x1,x2] N)(hl1:sc.names.lookup x1=some .local)(hl2:sc.names.lookup x2=some .local)
  (hN:caps.map (λi=>X.N[i]?)=N.map some)(hnd:([x1,x2]++N).Nodup)(hNd:X.N.Nodup)(hy:X.N[i]?=some y)(hlo:ar.names.lookup y=some .local)(hg:Gl X "zip")(hm:X.mg "zip"=none)(hv:bootBuiltins "zip"=some (.type "zip"))(ha:PDA X Z [a,b] ta)
  (he:∀cl C s0 H0 fp pn,PD (Cx.comp X sc ([x1,x2]++N) cl C s0 H0 fp pn) Z0 elt te)
  (hsw:swapsWith (.ListComp elt [⟨.Tuple [.Name x1 p1,.Name x2 p2] kk tp,.Call (.Name "zip" p) [a,b] [] pos2,[],0⟩] sc pos) (some (.Name y py)) spos.line X.env=pure true:=by rfl)
  (hse:starEach [a,b] X.env=[(false,eval a X.env),(false,eval b X.env)]:=by rfl)(hse2:starEach [b] X.env=[(false,eval b X.env)]:=by rfl)(hs:∀y,foldedSetIterable (.Call (.Name "zip" p) [a,b] [] pos2) X.env y=pure y:=by intro _; rfl):
  PDS X Z (.Assign [.Name y py] (.ListComp elt [⟨.Tuple [.Name x1 p1,.Name x2 p2] kk tp,.Call (.Name "zip" p) [a,b] [] pos2,[],0⟩] sc pos) spos) (zgS i (zeY caps ta te)):=by
 subst har
 refine zbZ (zxV hc cs hN (gt:=zff X.K 2 (zfu [0,1])) (te:=up X.K Z0 te) (zop hg hm hv ha hse hse2) (λcl C s0 H0 fp pn=>?_) he hNd hy hlo hsw hs) λF σ H h=>znU (λ_ h=>zp5 h) h
 have l1:(Cx.comp X sc ([x1,x2]++N) cl C s0 H0 fp pn).env.scope.names.lookup x1=some .local:=lookup_relabel_local hl1
 have l2:(Cx.comp X sc ([x1,x2]++N) cl C s0 H0 fp pn).env.scope.names.lookup x2=some .local:=lookup_relabel_local hl2
 exact zgf hc (zfo hnd (.cons rfl (.inl l1) (.inr l1) (.cons rfl (.inl l2) (.inr l2) .nil))) rfl rfl
end
section
variable {X:Cx}{Z:Zx}
end
section
variable {X:Cx}{Z:Zx}{pos:Pos}
end
end L3
set_option Elab.async false
set_option linter.all false
set_option maxRecDepth 100000
set_option maxHeartbeats 40000000
namespace Mine
open PySem PySem.Spec PyProof.Rows L2 L3
theorem fsc {N P:List Str}{sc:Scope}(a:sc.kind=.function:=by rfl)(b:sc.isCoroutine=false:=by rfl)(c:sc.isGenerator=false:=by rfl)(d:N.Nodup:=by decide +kernel)(e:N.take P.length=P:=by rfl)(f:∀x∈P,sc.names.lookup x=some .local∨sc.names.lookup x=some .cell:=by decide +kernel)(g:∀y∈sc.names,y.2≠.free:=by decide +kernel):zay N P sc:=⟨a,b,c,d,e,f,g⟩
theorem csc {sc ar:Scope}{x:Str}{caps:List Str}(a:sc.kind=.function:=by rfl)(b:∀y∈sc.names,y.2≠.cell:=by decide +kernel)(c:∀y∈sc.names,y.2=.local→sc.names.lookup y.1=some .local:=by decide +kernel)(d:sc.names.lookup x=some .local:=by rfl)(e:∀y∈caps,sc.names.lookup y=some .free:=by decide +kernel)(f:∀y∈sc.names,y.2=.free→ar.names.lookup y.1=some .cell:=by decide +kernel):zc9 sc ar x caps:=⟨a,b,c,d,e,f⟩
theorem zcM {sc ar:Scope}{own caps:List Str}(a:sc.kind=.function:=by rfl)(b:∀y∈sc.names,y.2≠.cell:=by decide +kernel)(c:∀y∈sc.names,y.2=.local→sc.names.lookup y.1=some .local:=by decide +kernel)(e:∀y∈caps,sc.names.lookup y=some .free:=by decide +kernel)(f:∀y∈sc.names,y.2=.free→ar.names.lookup y.1=some .cell:=by decide +kernel):zdv sc ar own caps:=⟨a,b,c,e,f⟩
abbrev Ln (sp:Sd)(n:Nat):Prop:=∀ds S Q ex,sp ds S Q ex→ds.length=n
theorem zan {X:Cx}{x:Str}{p pos:Pos}{e:Expr}{es:List Expr}{t:TDA}{k j:Nat}{ps:List Str}{sd:Sd}{ex:Ev→Addr→Sto→Prop}(G:Fk X.prog X.w X.K X.mg X.base k x ps sd)(hr:zaK j X.A)(ha:PDA X ⟨ex,Z0.w⟩ (e::es) t)(hk:k≤j:=by decide)(hg:Gl X x:=by rfl)
  (hdb:(x==("__debug__":Str))=false:=by decide)(he:starEach (e::es) X.env=(false,eval e X.env)::starEach es X.env:=by rfl)(hpl:(backTo pos (starEach es X.env)).any (·.1)=false:=by rfl):PD X ⟨ex,Z0.w⟩ (.Call (.Name x p) (e::es) [] pos) (zlG ex sd t):=zrC G (hr.mono hk) zeZ hg ha hdb he hpl
abbrev zmj:Stmt:=top 60
abbrev zid:List Str:=["_law_cell_here"]
theorem zt8:zay ["_law_cell_here"] zid (zam zmj):=fsc
abbrev ziR:Stmt:=top 55
abbrev zdl:List Str:=["_law_script","_law_k"]
theorem zto:zay ["_law_script","_law_k"] zdl (zam ziR):=fsc
abbrev zi6:Stmt:=top 67
abbrev zih:List Str:=["_law_answer","_law_script"]
theorem zft:zay ["_law_answer","_law_script","_law_box","_law_k","_law_place","_law_low","_law_high"] zih (zam zi6):=fsc
abbrev zhy:Stmt:=top 41
abbrev zik:List Str:=["rows"]
theorem zyx:zay ["rows"] zik (zam zhy):=fsc
abbrev zgd:Stmt:=top 42
abbrev zeD:List Str:=["each","places"]
theorem zry:zay ["each","places"] zeD (zam zgd):=fsc
abbrev zl6:Stmt:=top 14
abbrev zim:List Str:=["a","b"]
theorem zvc:zay ["a","b"] zim (zam zl6):=fsc
abbrev zli:Stmt:=top 16
abbrev zd6:List Str:=["top","bottom"]
theorem zs3:zay ["top","bottom"] zd6 (zam zli):=fsc
abbrev zlM:Stmt:=top 17
abbrev zgq:List Str:=["low","high","grid"]
theorem ztY:zay ["low","high","grid"] zgq (zam zlM):=fsc
abbrev zmI:Stmt:=zaN (top 27) 2
abbrev zgN:List Str:=["self","spans","box","grid"]
theorem zp0:zay ["self","spans","box","grid","number"] zgN (zam zmI):=fsc
abbrev zkF:Stmt:=zaN (top 28) 2
abbrev zhE:List Str:=["self","spans","box","grid"]
theorem zwb:zay ["self","spans","box","grid"] zhE (zam zkF):=fsc
abbrev zk1:Stmt:=top 18
abbrev zdb:List Str:=["a","b"]
theorem zvN:zay ["a","b"] zdb (zam zk1):=fsc
abbrev zl0:Stmt:=zaN (top 30) 1
abbrev zhY:List Str:=["self","spans","box","grid"]
theorem zud:zay ["self","spans","box","grid"] zhY (zam zl0):=fsc
abbrev ziI:Stmt:=top 19
abbrev zdZ:List Str:=["a","b"]
theorem ztj:zay ["a","b"] zdZ (zam ziI):=fsc
abbrev zkc:Stmt:=zaN (top 31) 1
abbrev zho:List Str:=["self","spans","box","grid"]
theorem zyf:zay ["self","spans","box","grid"] zho (zam zkc):=fsc
abbrev ziX:Stmt:=top 20
abbrev zdq:List Str:=["a","b","grid"]
theorem zpU:zay ["a","b","grid","products"] zdq (zam ziX):=fsc
abbrev zi2:Stmt:=zaN (top 32) 1
abbrev zhC:List Str:=["self","spans","box","grid"]
theorem zsh:zay ["self","spans","box","grid"] zhC (zam zi2):=fsc
abbrev zmP:Stmt:=top 13
abbrev zhd:List Str:=["number","many"]
theorem zmx:zay ["number","many","worth","step"] zhd (zam zmP):=fsc
abbrev ziw:Stmt:=top 21
abbrev zfM:List Str:=["a","many","grid"]
theorem zmi:zay ["a","many","grid","places","powers","bottom"] zfM (zam ziw):=fsc
abbrev zjC:Stmt:=zaN (top 33) 2
abbrev zia:List Str:=["self","spans","box","grid"]
theorem zyh:zay ["self","spans","box","grid"] zia (zam zjC):=fsc
abbrev zlA:Stmt:=zaN (top 33) 0
abbrev zg5:List Str:=["self","one","many"]
theorem zuY:zay ["self","one","many"] zg5 (zam zlA):=fsc
abbrev zi3:Stmt:=zaN (top 27) 0
abbrev zhH:List Str:=["self","top","bottom"]
theorem zuf:zay ["self","top","bottom"] zhH (zam zi3):=fsc
abbrev zmv:Stmt:=zaN (top 28) 0
abbrev zgh:List Str:=["self","place"]
theorem zv9:zay ["self","place"] zgh (zam zmv):=fsc
abbrev zj3:Stmt:=zaN (top 29) 0
abbrev zhD:List Str:=["self","one","other"]
theorem zv7:zay ["self","one","other"] zhD (zam zj3):=fsc
abbrev zki:Stmt:=zaN (top 29) 0
abbrev zgi:List Str:=["self","one","other"]
theorem zua:zay ["self","one","other"] zgi (zam zki):=fsc
abbrev zjV:Stmt:=zaN (top 29) 0
abbrev zhQ:List Str:=["self","one","other"]
theorem zwG:zay ["self","one","other"] zhQ (zam zjV):=fsc
abbrev ziP:Stmt:=top 34
abbrev zez:List Str:=["node"]
theorem zvw:zay ["node"] zez (zam ziP):=fsc
abbrev zmw:Stmt:=top 36
abbrev zd7:List Str:=["nodes","box","grid"]
theorem zny:zay ["nodes","box","grid","found","node"] zd7 (zam zmw):=fsc
abbrev ziE:Stmt:=zaN (top 27) 4
abbrev zf5:List Str:=["self","spans","slants","unknowns","grid"]
theorem zuT:zay ["self","spans","slants","unknowns","grid"] zf5 (zam ziE):=fsc
abbrev zg2:Stmt:=zaN (top 28) 4
abbrev zhp:List Str:=["self","spans","slants","unknowns","grid"]
theorem zsc:zay ["self","spans","slants","unknowns","grid"] zhp (zam zg2):=fsc
abbrev zkD:Stmt:=zaN (top 30) 4
abbrev zhi:List Str:=["self","x","y","a","b","grid"]
theorem zxM:zay ["self","x","y","a","b","grid"] zhi (zam zkD):=fsc
abbrev ziu:Stmt:=zaN (top 29) 2
abbrev zgO:List Str:=["self","spans","slants","unknowns","grid"]
theorem zo0:zay ["self","spans","slants","unknowns","grid","x","y"] zgO (zam ziu):=fsc
abbrev zkv:Stmt:=zaN (top 31) 4
abbrev zgm:List Str:=["self","x","y","a","b","grid"]
theorem zx7:zay ["self","x","y","a","b","grid"] zgm (zam zkv):=fsc
abbrev zhu:Stmt:=zaN (top 29) 2
abbrev zh1:List Str:=["self","spans","slants","unknowns","grid"]
theorem zom:zay ["self","spans","slants","unknowns","grid","x","y"] zh1 (zam zhu):=fsc
abbrev zmu:Stmt:=zaN (top 32) 4
abbrev zgr:List Str:=["self","x","y","a","b","grid"]
theorem zxS:zay ["self","x","y","a","b","grid"] zgr (zam zmu):=fsc
abbrev zhv:Stmt:=zaN (top 29) 2
abbrev zif:List Str:=["self","spans","slants","unknowns","grid"]
theorem zoZ:zay ["self","spans","slants","unknowns","grid","x","y"] zif (zam zhv):=fsc
abbrev zkY:Stmt:=top 22
abbrev zg8:List Str:=["a","many"]
theorem zsz:zay ["a","many"] zg8 (zam zkY):=fsc
abbrev zgE:Stmt:=zaN (top 33) 4
abbrev zhz:List Str:=["self","spans","slants","unknowns","grid"]
theorem znN:zay ["self","spans","slants","unknowns","grid","lower","steep"] zhz (zam zgE):=fsc
abbrev zkm:Stmt:=top 39
abbrev zil:List Str:=["nodes","box","grid"]
theorem zjq:zay ["nodes","box","grid","spans","found","node"] zil (zam zkm):=fsc
abbrev zj5:Stmt:=top 50
abbrev zg3:List Str:=["nodes","places","box","grid"]
theorem zrp:zay ["nodes","places","box","grid"] zg3 (zam zj5):=fsc
abbrev zl1:Stmt:=top 2
abbrev zdW:List Str:=["number","place"]
theorem zuq:zay ["number","place"] zdW (zam zl1):=fsc
abbrev zgb:Stmt:=top 3
abbrev zdE:List Str:=["matrix","row","column"]
theorem zpi:zay ["matrix","row","column","rest"] zdE (zam zgb):=fsc
abbrev zej:Stmt:=top 4
abbrev zbU:List Str:=["matrix","row","column"]
theorem zkI:zay ["matrix","row","column"] zbU (zam zej):=fsc
abbrev zce:Stmt:=top 5
abbrev zbR:List Str:=["matrix"]
theorem zir:zay ["matrix"] zbR (zam zce):=fsc
abbrev zmJ:Stmt:=top 6
abbrev zht:List Str:=["matrix","whole","row","column","grid"]
theorem zr6:zay ["matrix","whole","row","column","grid"] zht (zam zmJ):=fsc
abbrev zgl:Stmt:=top 7
abbrev zgM:List Str:=["matrix","whole","row","grid"]
theorem zwU:zay ["matrix","whole","row","grid"] zgM (zam zgl):=fsc
abbrev zhK:Stmt:=top 8
abbrev zgt:List Str:=["matrix","grid"]
theorem zpf:zay ["matrix","grid","whole"] zgt (zam zhK):=fsc
abbrev zjx:Stmt:=top 24
abbrev zhZ:List Str:=["a"]
theorem zuR:zay ["a"] zhZ (zam zjx):=fsc
abbrev zh6:Stmt:=top 43
abbrev ze4:List Str:=["spans"]
theorem zwD:zay ["spans"] ze4 (zam zh6):=fsc
abbrev zg1:Stmt:=top 44
abbrev zfL:List Str:=["box"]
theorem ztS:zay ["box"] zfL (zam zg1):=fsc
abbrev zkH:Stmt:=top 45
abbrev zey:List Str:=["ones","others","grid"]
theorem zkq:zay ["ones","others","grid","total","one","other"] zey (zam zkH):=fsc
abbrev zg0:Stmt:=top 46
abbrev zhr:List Str:=["k","column","turns","slants","grid"]
theorem zmT:zay ["k","column","turns","slants","grid","whole","column_slants"] zhr (zam zg0):=fsc
abbrev zet:Stmt:=top 47
abbrev zie:List Str:=["k","box","grid","entries","thin","slants"]
theorem zeW:zay ["k","box","grid","entries","thin","slants","turns","centres","moved","lacks","ways"] zie (zam zet):=fsc
abbrev zgz:Stmt:=top 48
abbrev zh0:List Str:=["box","grid","turn","thin","slants"]
theorem zst:zay ["box","grid","turn","thin","slants"] zh0 (zam zgz):=fsc
abbrev zms:Stmt:=top 49
abbrev zhx:List Str:=["nodes","places","box","grid"]
theorem zyl:zay ["nodes","places","box","grid"] zhx (zam zms):=fsc
abbrev zlx:Stmt:=top 23
abbrev zgs:List Str:=["a","b"]
theorem zvq:zay ["a","b"] zgs (zam zlx):=fsc
abbrev ziq:Stmt:=top 52
abbrev zhV:List Str:=["near","box"]
theorem zxq:zay ["near","box"] zhV (zam ziq):=fsc
abbrev zjW:Stmt:=top 37
abbrev zh5:List Str:=["word","span"]
theorem zrX:zay ["word","span"] zh5 (zam zjW):=fsc
abbrev zgx:Stmt:=top 51
abbrev zgj:List Str:=["rows","spans"]
theorem ztu:zay ["rows","spans"] zgj (zam zgx):=fsc
abbrev zhw:Stmt:=top 53
abbrev zgV:List Str:=["nodes","rows","box","grid"]
theorem zgH:zay ["nodes","rows","box","grid","places","slants","turn","near"] zgV (zam zhw):=fsc
abbrev zi9:Stmt:=top 64
abbrev zfv:List Str:=["_law_script","_law_first","_law_many","_law_grid_here","_law_parts"]
theorem zeT:zay ["_law_script","_law_first","_law_many","_law_grid_here","_law_parts","_law_made","_law_k","_law_cell_here","_law_place"] zfv (zam zi9):=fsc
abbrev zll:Stmt:=top 61
abbrev zeu:List Str:=["_law_nodes","_law_node"]
theorem ztt:zay ["_law_nodes","_law_node"] zeu (zam zll):=fsc
abbrev zlj:Stmt:=top 66
abbrev zij:List Str:=["_law_ones","_law_others","_law_share"]
theorem zga:zay ["_law_ones","_law_others","_law_share","_law_made","_law_one_here","_law_other","_law_answer"] zij (zam zlj):=fsc
abbrev zjd:Stmt:=top 59
abbrev zg9:List Str:=["_law_top","_law_bottom"]
theorem zi4:zay ["_law_top","_law_bottom","_law_a","_law_b"] zg9 (zam zjd):=fsc
abbrev zmD:Stmt:=top 65
abbrev zeI:List Str:=["_law_nodes","_law_start","_law_numbers_here"]
theorem zd8:zay ["_law_nodes","_law_start","_law_numbers_here","_law_total","_law_number","_law_place","_law_part"] zeI (zam zmD):=fsc
abbrev zfY:Stmt:=top 69
abbrev zhj:List Str:=["_law_script","_law_grid_here","_law_parts"]
theorem zcu:zay ["_law_script","_law_grid_here","_law_parts","_law_ones","_law_others","_law_share","_law_first","_law_nodes","_law_number","_law_mixed","_law_rows","_law_answers_here"] zhj (zam zfY):=fsc
abbrev zjE:Stmt:=top 70
abbrev zh3:List Str:=["_law_script","_law_grid_here","_law_parts"]
theorem zfX:zay ["_law_script","_law_grid_here","_law_parts","_law_numbers_here","_law_nodes","_law_rows","_law_answers_here","_law_number"] zh3 (zam zjE):=fsc
abbrev zjb:Stmt:=top 62
abbrev zgv:List Str:=["_law_span_here","_law_a","_law_grid_here"]
theorem ztN:zay ["_law_span_here","_law_a","_law_grid_here"] zgv (zam zjb):=fsc
abbrev zks:Stmt:=top 68
abbrev zf1:List Str:=["_law_answer","_law_box","_law_grid_here"]
theorem zqP:zay ["_law_answer","_law_box","_law_grid_here","_law_k"] zf1 (zam zks):=fsc
abbrev zmc:Stmt:=top 63
abbrev zgc:List Str:=["_law_near","_law_box"]
theorem zo3:zay ["_law_near","_law_box","_law_k"] zgc (zam zmc):=fsc
abbrev zmd:Stmt:=top 56
abbrev zf3:List Str:=["_law_found"]
theorem ztc:zay ["_law_found"] zf3 (zam zmd):=fsc
abbrev zmp:Stmt:=top 57
abbrev zf8:List Str:=["_law_found"]
theorem zxz:zay ["_law_found"] zf8 (zam zmp):=fsc
abbrev zkZ:Stmt:=top 58
abbrev zgT:List Str:=["_law_found","_law_size"]
theorem zqw:zay ["_law_found","_law_size","_law_span_here"] zgT (zam zkZ):=fsc
abbrev zc8:Stmt:=top 71
abbrev zlO:List Str:=["_law_script"]
theorem zc7:zay ["_law_script","_law_grid_here","_law_parts","_law_nodes","_law_rows","_law_answers_here","_law_chosen","_law_box","_law_found","_law_within"] zlO (zam zc8):=fsc
theorem kfo {K:PySem.W.Frag}{f c:Addr}{m:Value}{n q:Str}{st:Stmt}(l:K.lookup f=some (fo n q st m c)):PySem.W.keepIn K (.ref f)=true:=by
 unfold PySem.W.keepIn
 simp only[l]
theorem ifo {K:PySem.W.Frag}{f c:Addr}{m:Value}{n q:Str}{st:Stmt}(l:K.lookup f=some (fo n q st m c)):PySem.W.isFn K (.ref f)=true:=by
 unfold PySem.W.isFn PySem.W.typeIn
 simp only[l]
 rfl
theorem ln1 {P:List Value→Prop}(h:∀a,P [a]):∀us:List Value,us.length=1→P us
 | [a],_=>h a
theorem ln2 {P:List Value→Prop}(h:∀a b,P [a,b]):∀us:List Value,us.length=2→P us
 | [a,b],_=>h a b
theorem ln3 {P:List Value→Prop}(h:∀a b c,P [a,b,c]):∀us:List Value,us.length=3→P us
 | [a,b,c],_=>h a b c
theorem ln4 {P:List Value→Prop}(h:∀a b c d,P [a,b,c,d]):∀us:List Value,us.length=4→P us
 | [a,b,c,d],_=>h a b c d
theorem ln5 {P:List Value→Prop}(h:∀a b c d e,P [a,b,c,d,e]):∀us:List Value,us.length=5→P us
 | [a,b,c,d,e],_=>h a b c d e
theorem ln6 {P:List Value→Prop}(h:∀a b c d e f,P [a,b,c,d,e,f]):∀us:List Value,us.length=6→P us
 | [a,b,c,d,e,f],_=>h a b c d e f
abbrev Bn (n q:Str)(st:Stmt)(ps:List Str):Prop:=∀(kV doc pm:Value) (an:Option Addr) (cdv ct:Value) (us:List Value),us.length=ps.length→bindArgs (PySem.W.fnOf n q (zeb st) (zdf st) (zam st) .none kV doc pm an cdv ct) ⟨us,[]⟩=pure (ps.zip us)
def dfo {K:PySem.W.Frag}{mg:Str→Option Value}{h:Heap}(X:K.In h)(G:h.Ns mainGlobals mg){n:Str}{st:Stmt}{f c:Addr}{m:Value}{ps:List Str}(a:PySem.W.nsIn K mainGlobals n=some (some (.ref f)))(l:K.lookup f=some (fo n n st m c))(e:PySem.W.codeIn K (.ref c) n=true)(b:Bn n n st ps):Df K mg n st ps:=⟨_,_,zlp (st:=st) l e (kfo l),PySem.W.mg_of X G a,(zlp (st:=st) l e (kfo l)).binds b⟩
def dmo {K:PySem.W.Frag}{C:Addr}{n q:Str}{st:Stmt}{f c:Addr}{m:Value}{ps:List Str}(a:PySem.W.findIn K (.ref C) n=some (some (.ref f)))(l:K.lookup f=some (fo n q st m c))(e:PySem.W.codeIn K (.ref c) q=true)(b:Bn n q st ps):Dm K C n q st ps:=⟨_,_,zlp (st:=st) l e (kfo l),⟨a,ifo l,kfo l⟩,(zlp (st:=st) l e (kfo l)).binds b⟩
abbrev nsA (K:PySem.W.Frag)(n:Str)(f:Addr):Prop:=PySem.W.nsIn K mainGlobals n=some (some (.ref f))
abbrev fdA (K:PySem.W.Frag)(C:Addr)(n:Str)(f:Addr):Prop:=PySem.W.findIn K (.ref C) n=some (some (.ref f))
abbrev lkA (K:PySem.W.Frag)(f:Addr)(n q:Str)(st:Stmt)(m:Value)(c:Addr):Prop:=K.lookup f=some (fo n q st m c)
abbrev cdA (K:PySem.W.Frag)(c:Addr)(q:Str):Prop:=PySem.W.codeIn K (.ref c) q=true
theorem za7 {C:Addr}{f:Str}{to:TDE}{dl:Ev}{S S1:Sto}{Q:DK}{n:Nat}{fs:List (Str×D)}{v:D}(hto:∀K:DK,K (.ref n) S1→to dl S K)(h:S1[n]?=some (.ins C fs))(hf:fs.lookup f=some v)(hq:Q v S1):zjU C f to dl S Q:=by
 unfold zjU
 refine hto _ ?_
 simp only[zcZ,h,if_pos,hf]
 exact hq
theorem zcN {C:Addr}{f:Str}{to te:TDE}{dl:Ev}{S S1 S2:Sto}{E:zdQ}{n:Nat}{fs:List (Str×D)}{v:D}(hte:∀K:DK,K v S1→te dl S K)(hto:∀K:DK,K (.ref n) S2→to dl S1 K)(h:S2[n]?=some (.ins C fs))(hl:fs.length<1000)(hq:E.nx dl (S2.set n (.ins C (ze9 f v fs)))):zmh C f to te E dl S:=by
 unfold zmh
 refine hte _ (hto _ ?_)
 simp only[zcZ,h,if_pos]
 exact⟨hl,hq⟩
theorem znD {C:Addr}{m:Str}{ex:Ev→Addr→Sto→Prop}{sd:Sd}{to:TDE}{t:TDA}{dl:Ev}{S S1:Sto}{Q:DK}{n:Nat}{fs:List (Str×D)}(hto:∀K:DK,K (.ref n) S1→to dl S K)(h:S1[n]?=some (.ins C fs))(hf:fs.lookup m=none)(hq:t dl S1 λds S2=>sd (.ref n::ds) S2 Q (ex dl)):zlS C m ex sd to t dl S Q:=by
 unfold zlS
 refine hto _ ?_
 simp only[zcZ,h,if_pos]
 exact⟨hf,hq⟩
theorem zym {te:TDE}{dl:Ev}{S:Sto}{Q:DK}{n:Nat}{xs:List D}(ht:∀K:DK,K (.ref n) S→te dl S K)(h:S[n]?=some (.lst xs))(hq:Q (.bl true) S):zk4 "list" te dl S Q:=by
 unfold zk4
 refine ht _ ?_
 simp only[h]
 exact hq
theorem zbC {n:Nat}{S:Sto}{Q:DK}{xs:List D}(h:S[n]?=some (.lst xs))(hq:Q (.int (xs.length:Nat)) S):irr zeS [.ref n] S Q:=by
 rw[zed]
 unfold zeS
 simp only[zaO h rfl]
 exact hq
theorem zc1 {S:Sto}{n a:Nat}{o u:Ob}(h:S[n]?=some o)(hn:a≠n):(S.set a u)[n]?=some o:=by rw[VaM hn]; exact h
theorem zcI {S:Sto}{n:Nat}{o u:Ob}(h:S[n]?=some o):(S.set n u)[n]?=some u:=by
 have hk:=(Vad.mp h).1
 simp[hk]
theorem zaz {S:Sto}{n:Nat}{o:Ob}{T:Sto}(h:S[n]?=some o):(S++T)[n]?=some o:=by
 have hk:=(Vad.mp h).1
 rw[Val hk]
 exact h
theorem zcG (T R:Sto)(u:Ob):(T++u::R)[T.length]?=some u:=by simp
theorem zcE (T R:Sto)(u v:Ob):(T++u::R).set T.length v=T++v::R:=by simp
def zpW (S T:Sto):Prop:=∀(x:Nat) (o:Ob),S[x]?=some o→T[x]?=some o
theorem zpW.app (S T:Sto):zpW S (S++T):=λ_ _ h=>zaz h
theorem zbX {S:Sto}{n:Nat}{o:Ob}(h:S[n]?=some o):n<S.length:=(Vad.mp h).1
theorem zep {i n:Nat}{tb:TDS}{E:zdQ}{dl:Ev}{S:Sto}{o:Ob}(W:Nat→Ev→Sto→Prop)(h0:W 0 dl S)(hk:∀k dl' S',W k dl' S'→S'[n]?=some o)
  (ht:∀(k:Nat) (x:D) (dl':Ev) (S':Sto) (nx ct:Ev→Sto→Prop),(zah o)[k]?=some x→W k dl' S'→(∀dl2 S2,W (k+1) dl2 S2→nx dl2 S2)→tb { nx:=nx,rt:=E.rt,bk:=E.nx,ct:=ct } (dl'.set i (some x)) S')(he:∀dl' S',W (zah o).length dl' S'→E.nx dl' S')(hL:zbT o=some o:=by rfl):
  (lAt S n).isSome=true∧∃W:Nat→Nat→Ev→Sto→Prop,(∃m,W 0 m dl S)∧∀k m dl S,W k m dl S→match lAt S n with
  | some o=>match (zah o)[k]? with
   | some x=>tb { nx:=λdl' S'=>∃m',m'<m∧W (k+1) m' dl' S',rt:=E.rt,bk:=E.nx,ct:=λdl' S'=>∃m',m'<m∧W (k+1) m' dl' S' } (dl.set i (some x)) S
   | none=>E.nx dl S
  | none=>False:=by
 refine⟨by rw[zaO (hk _ _ _ h0) hL]; rfl,λk m dl' S'=>m+k=(zah o).length∧W k dl' S',⟨(zah o).length,by omega,h0⟩,?_⟩
 rintro k m dl' S' ⟨hm,w⟩
 rw[zaO (hk _ _ _ w) hL]
 show (match (zah o)[k]? with
   | some x=>tb { nx:=λdl' S''=>∃m',m'<m∧(m'+(k+1)=(zah o).length∧W (k+1) dl' S''),rt:=E.rt,bk:=E.nx,ct:=λdl' S''=>∃m',m'<m∧(m'+(k+1)=(zah o).length∧W (k+1) dl' S'') } (dl'.set i (some x)) S'
   | none=>E.nx dl' S')
 split
 ·rename_i x hx
  have hk:k<(zah o).length:=(Vad.mp hx).1
  exact ht k x dl' S' _ _ hx w λdl2 S2 w2=>⟨m-1,by omega,by omega,w2⟩
 ·rename_i hx
  have hk:k=(zah o).length:=by
   have:=VaV.mp hx
   omega
  exact he dl' S' (hk ▸ w)
inductive Nd where
 | number (t b:Int) | unknown (k:Int) | plus (i j:Int) | minus (i j:Int) | times (i j:Int) | power (i n:Int)
def Nd.d:Nd→D
 | .number t b=>.tup [.str "number",.int t,.int b]
 | .unknown k=>.tup [.str "unknown",.int k]
 | .plus i j=>.tup [.str "plus",.int i,.int j]
 | .minus i j=>.tup [.str "minus",.int i,.int j]
 | .times i j=>.tup [.str "times",.int i,.int j]
 | .power i n=>.tup [.str "power",.int i,.int n]
def Nd.ob (cN cU cP cM cT cW:Addr):Nd→Ob
 | .number t b=>.ins cN [("top",.int t),("bottom",.int b)]
 | .unknown k=>.ins cU [("place",.int k)]
 | .plus i j=>.ins cP [("one",.int i),("other",.int j)]
 | .minus i j=>.ins cM [("one",.int i),("other",.int j)]
 | .times i j=>.ins cT [("one",.int i),("other",.int j)]
 | .power i n=>.ins cW [("one",.int i),("many",.int n)]
def inR (m i:Int):Prop:=0≤i∧i<m
def Nd.ok (m q:Int):Nd→Prop
 | .number t b=>(1≤b∧b≤10^9)∧Int.gcd t b=1∧t.natAbs≤10^9
 | .unknown k=>inR q k
 | .plus i j=>inR m i∧inR m j
 | .minus i j=>inR m i∧inR m j
 | .times i j=>inR m i∧inR m j
 | .power i n=>inR m i∧2≤n∧n≤6
def frD (p:Int×Int):D:=.tup [.int p.1,.int p.2]
abbrev gt (vs:List (Int×Int))(i:Int):Int×Int:=vs.getD i.toNat (0,1)
theorem zd0 {vs:List (Int×Int)}{i:Int}(h:inR vs.length i):gt vs i∈vs:=by
 obtain⟨h0,h1⟩:=h
 have hk:i.toNat<vs.length:=by omega
 have e:gt vs i=vs[i.toNat]:=by simp[gt,hk]
 rw[e]
 exact VaB hk
theorem zbd {vs:List (Int×Int)}{i:Int}(h:inR vs.length i):atI (vs.map frD) i=some (frD (gt vs i)):=by
 obtain⟨h0,h1⟩:=h
 have hk:i.toNat<vs.length:=by omega
 have z:=zix (xs:=vs.map frD) (j:=i.toNat) (v:=frD (gt vs i)) (by rw[Vaf,Vac hk]; simp[gt,hk])
 rw[show ((i.toNat:Nat):Int)=i by omega] at z
 exact z
theorem fr_eq (p q:Int×Int):eqN 1 (frD p) (frD q)=some (decide (p.1=q.1)&&(decide (p.2=q.2)&&true)):=by simp[frD,eqN,L3.eqT,eqL,eqF]
theorem zpT:∀vs:List (Int×Int),eqL (eqN 1) (vs.map frD) (vs.map frD)=some true
 | []=>rfl
 | u::us=>by
  show (match eqN 1 (frD u) (frD u),eqL (eqN 1) (us.map frD) (us.map frD) with | some b,some c=>some (b&&c) | _,_=>none)=_
  rw[fr_eq,zpT us]
  simp
theorem zxl {xs:List D}{d e:D}{i:Nat}{P:Nat→D→Prop}(h:(xs++[d])[i]?=some e)(hp:∀i d,xs[i]?=some d→P i d)(hd:P xs.length d):P i e:=by
 by_cases hi:i<xs.length
 ·rw[Val hi] at h
  exact hp i e h
 ·have hk:=(Vad.mp h).1
  simp only[Vav,VaE,Va3] at hk
  have e1:i=xs.length:=by omega
  subst e1
  simp at h
  subst h
  exact hd
theorem zqC {caps:List Nat}{tl te:TDE}{dl:Ev}{S S1:Sto}{Q:DK}{n:Nat}{o:Ob}(P:Nat→D→Prop)(htl:∀K:DK,K (.ref n) S1→tl dl S K)(h1:S1[n]?=some o)(hl:(zah o).length≤1000)
  (ht:∀(k:Nat) (x:D),(zah o)[k]?=some x→∀(S2:Sto) (K:DK),Pre S1 S2→(∀d,P k d→K d S2)→te (some x::zbx caps dl) S2 K)(hq:∀xs:List D,xs.length=(zah o).length→(∀k d,xs[k]?=some d→P k d)→Q (.ref S1.length) (S1++[.lst xs]))(hL:zbT o=some o:=by rfl):zco caps tl zcm te dl S Q:=by
 unfold zco
 refine htl _ ⟨by rw[zaO h1 hL]; rfl,λk m S2=>(∃xs:List D,S2=S1++[.lst xs]∧xs.length=k∧∀i d,xs[i]?=some d→P i d)∧m+k=(zah o).length,⟨(zah o).length,⟨[],rfl,rfl,λi d h=>by simp at h⟩,by omega⟩,?_⟩
 rintro k m S2 ⟨⟨xs,rfl,hx,hp⟩,hm⟩
 rw[zaO (zcD h1) hL]
 dsimp only
 split
 ·rename_i x hk
  have hk':k<(zah o).length:=(Vad.mp hk).1
  unfold zc3 zcm
  simp only[if_true]
  refine ht k x hk _ _ Pre.refl.push λd hd=>?_
  rw[zax]
  refine⟨by omega,m-1,by omega,⟨xs++[d],zoa _ _ _,by simp[hx],λi e he=>zxl he hp (hx ▸ hd)⟩,by omega⟩
 ·rename_i hk
  have hk':=VaV.mp hk
  exact hq xs (by omega) hp
structure ze5 (a b c d mn mx:Int):Prop where
 lo:mn=a*c∨mn=a*d∨mn=b*c∨mn=b*d
 l1:mn≤a*c
 l2:mn≤a*d
 l3:mn≤b*c
 l4:mn≤b*d
 hi:mx=a*c∨mx=a*d∨mx=b*c∨mx=b*d
 h1:a*c≤mx
 h2:a*d≤mx
 h3:b*c≤mx
 h4:b*d≤mx
theorem ze5.of {a b c d mn mx:Int}(m1:mn∈[a*c,a*d,b*c,b*d])(m2:∀y∈[a*c,a*d,b*c,b*d],mn≤y)(x1:mx∈[a*c,a*d,b*c,b*d])(x2:∀y∈[a*c,a*d,b*c,b*d],y≤mx):ze5 a b c d mn mx:=by
 simp only[Vas,List.not_mem_nil,or_false] at m1 x1
 exact⟨m1,m2 _ (by simp),m2 _ (by simp),m2 _ (by simp),m2 _ (by simp),x1,x2 _ (by simp),x2 _ (by simp),x2 _ (by simp),x2 _ (by simp)⟩
structure zdY (a b:Int)(n:Nat)(m M:Int):Prop where
 lo:m=a^n∨m=b^n∨(a<0∧0<b∧m=0)
 l1:m≤a^n
 l2:m≤b^n
 l3:a<0→0<b→m≤0
 hi:M=a^n∨M=b^n
 h1:a^n≤M
 h2:b^n≤M
theorem zkj {n:Nat}(h:1≤n):(0:Int)^n=0:=by
 cases n with
 | zero=>omega
 | succ k=>rw[Var,Int.mul_zero]
theorem zqM (n:Nat):(∀x:Int,(-x)^n=x^n)∨(∀x:Int,(-x)^n=-(x^n)):=by
 induction n with
 | zero=>left; intro x; rw[Vbh,Vbh]
 | succ k ih=>
  rcases ih with e | e
  ·right; intro x; rw[Var,Var,e,Int.mul_neg]
  ·left; intro x; rw[Var,Var,e,Int.neg_mul_neg]
theorem zfP {x y:Int}(h0:0≤x)(h:x≤y)(n:Nat):x^n≤y^n:=by
 induction n with
 | zero=>rw[Vbh,Vbh]; exact Vat _
 | succ k ih=>
  rw[Var,Var]
  exact Vbi ih h h0 (VaO (by omega))
theorem zvf {y z x m M:Int}{n:Nat}(hn:1≤n)(h1:y≤x)(h2:x≤z)(m1:m≤y^n)(m2:m≤z^n)(m3:y<0→0<z→m≤0)(M1:y^n≤M)(M2:z^n≤M):m≤x^n∧x^n≤M:=by
 by_cases hy:0≤y
 ·have e1:=zfP hy h1 n
  have e2:=zfP (show 0≤x by omega) h2 n
  omega
 ·by_cases hz:z≤0
  ·have e1:=zfP (show 0≤-z by omega) (show -z≤-x by omega) n
   have e2:=zfP (show 0≤-x by omega) (show -x≤-y by omega) n
   rcases zqM n with p | p <;> rw[p,p] at e1 e2 <;> omega
  ·have m3':=m3 (by omega) (by omega)
   have z0:(0:Int)≤z^n:=VaO (by omega)
   by_cases hx:0≤x
   ·have e1:(0:Int)≤x^n:=VaO hx
    have e2:=zfP hx h2 n
    omega
   ·have e1:(0:Int)≤(-x)^n:=VaO (by omega)
    have e2:=zfP (show 0≤-x by omega) (show -x≤-y by omega) n
    rcases zqM n with p | p
    ·rw[p] at e1
     rw[p,p] at e2
     omega
    ·rw[p] at e1
     rw[p,p] at e2
     omega
theorem zdY.of {a b g mn mx:Int}{n:Nat}(hg:1≤g){l:List Int}(hl:l=[a^n*g,b^n*g]∧¬ (a<0∧0<b)∨l=[a^n*g,b^n*g,0^n*g]∧a<0∧0<b)(hn:1≤n)(m1:mn∈l)(m2:∀y∈l,mn≤y)(x1:mx∈l)(x2:∀y∈l,y≤mx):
  ∃m M,zdY a b n m M∧mn=m*g∧mx=M*g:=by
 have can:∀ {x y:Int},x*g≤y*g→x≤y:=λ{x y} h=>VaK h (by omega)
 rcases hl with ⟨rfl,hz⟩ | ⟨rfl,hz1,hz2⟩
 ·simp only[Vas,List.not_mem_nil,or_false] at m1 x1
  have a1:=m2 (a^n*g) (by simp)
  have a2:=m2 (b^n*g) (by simp)
  have b1:=x2 (a^n*g) (by simp)
  have b2:=x2 (b^n*g) (by simp)
  obtain⟨m,hm,em⟩:∃m,(m=a^n∨m=b^n)∧mn=m*g:=by
   rcases m1 with e | e
   ·exact⟨_,.inl rfl,e⟩
   ·exact⟨_,.inr rfl,e⟩
  obtain⟨M,hM,eM⟩:∃m,(m=a^n∨m=b^n)∧mx=m*g:=by
   rcases x1 with e | e
   ·exact⟨_,.inl rfl,e⟩
   ·exact⟨_,.inr rfl,e⟩
  subst em eM
  exact⟨m,M,⟨hm.elim .inl λe=>.inr (.inl e),can a1,can a2,λc1 c2=>absurd ⟨c1,c2⟩ hz,hM,can b1,can b2⟩,rfl,rfl⟩
 ·rw[zkj hn,VaU] at m1 m2 x1 x2
  simp only[Vas,List.not_mem_nil,or_false] at m1 x1
  have a1:=m2 (a^n*g) (by simp)
  have a2:=m2 (b^n*g) (by simp)
  have a3:=m2 0 (by simp)
  have b1:=x2 (a^n*g) (by simp)
  have b2:=x2 (b^n*g) (by simp)
  have b3:=x2 0 (by simp)
  obtain⟨m,hm,em⟩:∃m,(m=a^n∨m=b^n∨m=0)∧mn=m*g:=by
   rcases m1 with e | e | e
   ·exact⟨_,.inl rfl,e⟩
   ·exact⟨_,.inr (.inl rfl),e⟩
   ·exact⟨0,.inr (.inr rfl),by rw[e,VaU]⟩
  have bp:(0:Int)≤b^n:=VaO (by omega)
  have bg:=Vax bp (show 0≤g by omega)
  obtain⟨M,hM,eM⟩:∃m,(m=a^n∨m=b^n)∧mx=m*g:=by
   rcases x1 with e | e | e
   ·exact⟨_,.inl rfl,e⟩
   ·exact⟨_,.inr rfl,e⟩
   ·exact⟨_,.inr rfl,by omega⟩
  subst em eM
  refine⟨m,M,⟨?_,can a1,can a2,λ_ _=>can (by rw[VaU]; exact a3),hM,can b1,can b2⟩,rfl,rfl⟩
  rcases hm with e | e | e
  ·exact .inl e
  ·exact .inr (.inl e)
  ·exact .inr (.inr ⟨hz1,hz2,e⟩)
theorem zeX {m g:Int}{n:Nat}(hg:1≤g)(hn:1≤n):m*g/g^n=m/g^(n-1):=by
 obtain⟨k,rfl⟩:∃k,n=k+1:=⟨n-1,by omega⟩
 rw[Var,Nat.add_sub_cancel,Int.mul_ediv_mul_of_pos_left _ _ (by omega)]
def mn4 (a b c d:Int):Int:=min (min (a*c) (a*d)) (min (b*c) (b*d))
def mx4 (a b c d:Int):Int:=max (max (a*c) (a*d)) (max (b*c) (b*d))
theorem ze5.eq {a b c d mn mx:Int}(h:ze5 a b c d mn mx):mn=mn4 a b c d∧mx=mx4 a b c d:=by
 obtain⟨h0,h1,h2,h3,h4,h5,h6,h7,h8,h9⟩:=h
 unfold mn4 mx4
 omega
def zaH (a b:Int)(n:Nat):Int:=if n%2=0∧a≤0∧0≤b then 0 else min (a^n) (b^n)
def za0 (a b:Int)(n:Nat):Int:=max (a^n) (b^n)
theorem zdr {n:Nat}(h:n%2=0)(x:Int):0≤x^n:=by
 obtain⟨k,rfl⟩:∃k,n=k+k:=⟨n/2,by omega⟩
 rw[Int.pow_add]
 by_cases c:0≤x^k
 ·exact Vax c c
 ·have:=Vax (show 0≤-(x^k) by omega) (show 0≤-(x^k) by omega)
  rw[Int.neg_mul_neg] at this
  exact this
theorem zjI {n:Nat}(h:n%2=1){x:Int}(hx:x<0):x^n<0:=by
 obtain⟨k,rfl⟩:∃k,n=k+1:=⟨n-1,by omega⟩
 have z:=zdr (n:=k) (by omega) x
 have nz:∀k:Nat,x^k≠0:=λk=>by
  induction k with
  | zero=>rw[Vbh]; decide
  | succ k ih=>rw[Var]; exact Int.mul_ne_zero ih (by omega)
 have nz:=nz k
 have:=VaC (show 0<x^k by omega) (show 0 < -x by omega)
 rw[Int.mul_neg] at this
 rw[Var]
 omega
theorem zdY.eq {a b m M:Int}{n:Nat}(h:zdY a b n m M)(hn:1≤n):m=zaH a b n∧M=za0 a b n:=by
 obtain⟨h0,h1,h2,h3,h4,h5,h6⟩:=h
 refine⟨?_,by unfold za0; omega⟩
 unfold zaH
 split
 ·rename_i c
  obtain⟨c1,c2,c3⟩:=c
  have e1:=zdr c1 a
  have e2:=zdr c1 b
  by_cases z:a<0∧0<b
  ·have:=h3 z.1 z.2
   omega
  ·have z':a=0∨b=0:=by omega
   rcases z' with rfl | rfl
   ·rw[zkj hn] at h1
    omega
   ·rw[zkj hn] at h2
    omega
 ·rename_i c
  have hz:a<0→0<b→m≠0:=λa1 b1 e=>by
   by_cases p:n%2=0
   ·exact c ⟨p,by omega,by omega⟩
   ·have:=zjI (n:=n) (by omega) a1
    omega
  omega
def Nd.fw (vs bs:List (Int×Int))(g:Int):Nd→Int×Int
 | .number t b=>(t*g/b,-(-(t*g)/b))
 | .unknown k=>gt bs k
 | .plus i j=>((gt vs i).1+(gt vs j).1,(gt vs i).2+(gt vs j).2)
 | .minus i j=>((gt vs i).1-(gt vs j).2,(gt vs i).2-(gt vs j).1)
 | .times i j=>(mn4 (gt vs i).1 (gt vs i).2 (gt vs j).1 (gt vs j).2/g,-(-mx4 (gt vs i).1 (gt vs i).2 (gt vs j).1 (gt vs j).2/g))
 | .power i n=>(zaH (gt vs i).1 (gt vs i).2 n.toNat/g^(n.toNat-1),-(-za0 (gt vs i).1 (gt vs i).2 n.toNat/g^(n.toNat-1)))
def Spn (B:Nat)(vs:List (Int×Int)):Prop:=∀p∈vs,p.1≤p.2∧Sz B p.1∧Sz B p.2
theorem Spn.at {B:Nat}{vs:List (Int×Int)}(h:Spn B vs){i:Int}(hi:inR vs.length i):(gt vs i).1≤(gt vs i).2∧Sz B (gt vs i).1∧Sz B (gt vs i).2:=h _ (zd0 hi)
theorem Spn.mono {B C:Nat}{vs:List (Int×Int)}(h:Spn B vs)(hc:B≤C):Spn C vs:=λp hp=>⟨(h p hp).1,(h p hp).2.1.mono hc,(h p hp).2.2.mono hc⟩
theorem zfs {m M g:Int}(hg:1≤g)(h:m≤M):m/g≤-(-M/g):=by
 have h1:=Int.ediv_mul_le m (show g≠0 by omega)
 have h2:=Int.ediv_mul_le (-M) (show g≠0 by omega)
 have:m/g*g≤-(-M/g)*g:=by rw[Va1]; omega
 exact VaK this (by omega)
theorem zoY (a b:Int)(n:Nat):zaH a b n≤za0 a b n:=by
 unfold zaH za0
 split
 ·rename_i c
  have:=zdr c.1 a
  omega
 ·omega
theorem zqn (a b c d:Int):mn4 a b c d≤mx4 a b c d:=by unfold mn4 mx4; omega
theorem Nd.fw_le {vs bs:List (Int×Int)}{g:Int}{B:Nat}(h1:Spn B vs)(h2:Spn B bs)(hg:1≤g):∀v:Nd,v.ok vs.length bs.length→(v.fw vs bs g).1≤(v.fw vs bs g).2
 | .number t b,ok=>zfs ok.1.1 (Vat _)
 | .unknown k,ok=>(h2.at ok).1
 | .plus i j,ok=>by
  have a:=(h1.at ok.1).1
  have b:=(h1.at ok.2).1
  show (gt vs i).1+(gt vs j).1≤(gt vs i).2+(gt vs j).2
  omega
 | .minus i j,ok=>by
  have a:=(h1.at ok.1).1
  have b:=(h1.at ok.2).1
  show (gt vs i).1-(gt vs j).2≤(gt vs i).2-(gt vs j).1
  omega
 | .times i j,ok=>zfs hg (zqn _ _ _ _)
 | .power i n,ok=>zfs (VaL (by omega)) (zoY _ _ _)
theorem zg4 {a b:TDS}{E:zdQ}{dl:Ev}{S:Sto}(W:Ev→Sto→Prop)(ha:∀nx:Ev→Sto→Prop,(∀dl' S',W dl' S'→nx dl' S')→a { nx:=nx,rt:=E.rt,bk:=E.bk,ct:=E.ct } dl S)(hb:∀dl' S',W dl' S'→b E dl' S'):zfK a b E dl S:=ha _ hb
theorem zsB {S:Sto}{Q:DK}{xs:List D}(hq:Q (.int (xs.length:Nat)) S):irr zeS [.tup xs] S Q:=by
 rw[zed]
 exact hq
theorem znk {a b c:TDS}{E:zdQ}{dl:Ev}{S:Sto}(W:Ev→Sto→Prop)(ha:∀nx:Ev→Sto→Prop,(∀dl' S',W dl' S'→nx dl' S')→zfK a b { nx:=nx,rt:=E.rt,bk:=E.bk,ct:=E.ct } dl S)(hb:∀dl' S',W dl' S'→c E dl' S'):zfK a (zfK b c) E dl S:=ha _ hb
theorem zel {n:Nat}{m g:Int}(h:Sz n m)(hg:1≤g):Sz n (-(-m/g)):=(h.neg.div hg).neg
theorem zdg {n:Nat}{a b:Int}(ha:Sz n a)(hb:Sz n b):Sz n (min a b):=by unfold Sz at *; omega
theorem zcT {n:Nat}{a b:Int}(ha:Sz n a)(hb:Sz n b):Sz n (max a b):=by unfold Sz at *; omega
theorem Spn.set {B:Nat}{vs:List (Int×Int)}(h:Spn B vs){k:Nat}{u:Int}(hu:Sz B u):Spn B (vs.set k (u,u)):=λp hp=>by
 rcases List.mem_or_eq_of_mem_set hp with e | e
 ·exact h p e
 ·subst e; exact⟨Vat _,hu,hu⟩
def Nd.wt (ws:List Nat):Nd→Nat
 | .number _ _=>1
 | .unknown _=>1
 | .plus i j=>ws.getD i.toNat 0+ws.getD j.toNat 0
 | .minus i j=>ws.getD i.toNat 0+ws.getD j.toNat 0
 | .times i j=>ws.getD i.toNat 0+ws.getD j.toNat 0
 | .power i n=>n.toNat*ws.getD i.toNat 0
structure zaD (q:Int)(ns:List Nd)(ws:List Nat):Prop where
 len:ws.length=ns.length
 ok:∀(k:Nat) (v:Nd),ns[k]?=some v→v.ok k q∧ws.getD k 0=v.wt ws∧1≤v.wt ws∧v.wt ws≤16
theorem zaD.nil (q:Int):zaD q [] []:=⟨rfl,λk v h=>by simp at h⟩
theorem zaD.w1 {q:Int}{ns:List Nd}{ws:List Nat}(h:zaD q ns ws){i:Int}(hi:inR ns.length i):1≤ws.getD i.toNat 0∧ws.getD i.toNat 0≤16:=by
 obtain⟨h0,h1⟩:=hi
 have hk:i.toNat<ns.length:=(by omega)
 obtain⟨_,e,a,b⟩:=h.ok i.toNat _ (Vac hk)
 omega
theorem zaD.w2 {q:Int}{ns:List Nd}{ws:List Nat}(h:zaD q ns ws):∀v:Nd,v.ok ns.length q→1≤v.wt ws∧v.wt ws≤96
 | .number _ _,_=>⟨Vaa 1,show 1≤96 by decide⟩
 | .unknown _,_=>⟨Vaa 1,show 1≤96 by decide⟩
 | .plus i j,ok=>by have a:=h.w1 ok.1; have b:=h.w1 ok.2; simp only[Nd.wt]; omega
 | .minus i j,ok=>by have a:=h.w1 ok.1; have b:=h.w1 ok.2; simp only[Nd.wt]; omega
 | .times i j,ok=>by have a:=h.w1 ok.1; have b:=h.w1 ok.2; simp only[Nd.wt]; omega
 | .power i n,ok=>by
  have a:=h.w1 ok.1
  have n2:=ok.2.1
  have n6:=ok.2.2
  have m1:=Va5 (show 1≤n.toNat by omega) a.1
  have m2:=Va5 (show n.toNat≤6 by omega) a.2
  simp only[Nd.wt]
  omega
theorem zrg {ws:List Nat}{w:Nat}{k:Nat}(h:k<ws.length):(ws++[w]).getD k 0=ws.getD k 0:=by
 rw[Vai,Vai,Val h]
theorem zpl {ws:List Nat}{w:Nat}{q:Int}{k:Nat}(hk:k≤ws.length):∀v:Nd,v.ok k q→v.wt (ws++[w])=v.wt ws:=by
 have e:∀i:Int,inR k i→(ws++[w]).getD i.toNat 0=ws.getD i.toNat 0:=λi hi=>zrg (by have a:=hi.1; have b:=hi.2; omega)
 intro v ok
 cases v with
 | number _ _=>rfl
 | unknown _=>rfl
 | plus i j=>show _+_=_+_; rw[e i ok.1,e j ok.2]
 | minus i j=>show _+_=_+_; rw[e i ok.1,e j ok.2]
 | times i j=>show _+_=_+_; rw[e i ok.1,e j ok.2]
 | power i n=>show _*_=_*_; rw[e i ok.1]
theorem zaD.snoc {q:Int}{ns:List Nd}{ws:List Nat}(h:zaD q ns ws){v:Nd}(ok:v.ok ns.length q)(h16:v.wt ws≤16):zaD q (ns++[v]) (ws++[v.wt ws]):=by
 refine⟨by simp[h.len],λk u hu=>?_⟩
 by_cases hk:k<ns.length
 ·rw[Val hk] at hu
  obtain⟨a,b,c,d⟩:=h.ok k u hu
  have e:=zpl (w:=v.wt ws) (q:=q) (k:=k) (by rw[h.len]; omega) u a
  rw[e,zrg (by rw[h.len]; exact hk)]
  exact⟨a,b,c,d⟩
 ·have hl:=(Vad.mp hu).1
  simp only[Vav,VaE,Va3] at hl
  have ek:k=ns.length:=by omega
  subst ek
  simp at hu
  subst hu
  have e:=zpl (w:=v.wt ws) (q:=q) (k:=ns.length) (by rw[h.len]; omega) v ok
  rw[e]
  refine⟨ok,?_,(h.w2 v ok).1,h16⟩
  rw[← h.len]
  simp
theorem zaD.take {q:Int}{ns:List Nd}{ws:List Nat}(h:zaD q ns ws)(n:Nat):zaD q (ns.take n) (ws.take n):=by
 have e:∀k:Nat,k<n→(ws.take n).getD k 0=ws.getD k 0:=λk hk=>by
  rw[Vai,Vai,List.getElem?_take_of_lt hk]
 refine⟨by simp[h.len],λk u hu=>?_⟩
 have hl:=(Vad.mp hu).1
 rw[Vaq] at hl
 have hk:k<n:=by omega
 rw[List.getElem?_take_of_lt hk] at hu
 obtain⟨a,b,c,d⟩:=h.ok k u hu
 have e2:u.wt (ws.take n)=u.wt ws:=by
  have f:∀i:Int,inR k i→(ws.take n).getD i.toNat 0=ws.getD i.toNat 0:=λi hi=>e _ (by have:=hi.1; have:=hi.2; omega)
  cases u with
  | number _ _=>rfl
  | unknown _=>rfl
  | plus i j=>show _+_=_+_; rw[f i a.1,f j a.2]
  | minus i j=>show _+_=_+_; rw[f i a.1,f j a.2]
  | times i j=>show _+_=_+_; rw[f i a.1,f j a.2]
  | power i m=>show _*_=_*_; rw[f i a.1]
 rw[e2,e k hk]
 exact⟨a,b,c,d⟩
def zar (bs:List (Int×Int))(g:Int)(ns:List Nd):List (Int×Int):=ns.foldl (λacc v=>acc++[v.fw acc bs g]) []
theorem zge (bs:List (Int×Int))(g:Int)(ns:List Nd)(v:Nd):zar bs g (ns++[v])=zar bs g ns++[v.fw (zar bs g ns) bs g]:=by
 unfold zar
 rw[List.foldl_append]
 rfl
theorem zbV {α:Type}{xs:List α}{k:Nat}{x:α}(h:xs[k]?=some x):xs.take (k+1)=xs.take k++[x]:=by rw[Va2,h]; rfl
theorem zcf (bs:List (Int×Int))(g:Int)(ns:List Nd):(zar bs g ns).length=ns.length:=by
 have z:∀k,k≤ns.length→(zar bs g (ns.take k)).length=k:=λk=>by
  induction k with
  | zero=>intro _; rfl
  | succ k ih=>
   intro hk
   rw[zbV (Vac (show k<ns.length by omega)),zge]
   simp[ih (by omega)]
 have:=z ns.length (Vaa _)
 rwa [Vay] at this
theorem zxO (bs:List (Int×Int))(g:Int)(ns:List Nd)(k:Nat):k≤ns.length→(zar bs g ns).take k=zar bs g (ns.take k):=by
 have z:∀m,k≤m→m≤ns.length→(zar bs g (ns.take m)).take k=zar bs g (ns.take k):=λm=>by
  induction m with
  | zero=>
   intro h1 _
   have:k=0:=by omega
   subst this
   rfl
  | succ m ih=>
   intro h1 h2
   by_cases e:k=m+1
   ·subst e
    rw[VaF (by rw[zcf,Vaq]; omega)]
   ·rw[zbV (Vac (show m<ns.length by omega)),zge,List.take_append_of_le_length (by rw[zcf,Vaq]; omega)]
    exact ih (by omega) (by omega)
 intro hk
 have:=z ns.length hk (Vaa _)
 rwa [Vay] at this
def SzW (ws:List Nat)(vs:List (Int×Int)):Prop:=∀(k:Nat) (p:Int×Int),vs[k]?=some p→p.1≤p.2∧Sz (60*ws.getD k 0-1) p.1∧Sz (60*ws.getD k 0-1) p.2
theorem SzW.at {ws:List Nat}{vs:List (Int×Int)}(h:SzW ws vs){i:Int}(hi:inR vs.length i):(gt vs i).1≤(gt vs i).2∧Sz (60*ws.getD i.toNat 0-1) (gt vs i).1∧Sz (60*ws.getD i.toNat 0-1) (gt vs i).2:=by
 obtain⟨h0,h1⟩:=hi
 have hk:i.toNat<vs.length:=by omega
 have e:gt vs i=vs[i.toNat]:=by simp[gt,hk]
 rw[e]
 exact h _ _ (Vac hk)
theorem fw_w {ws:List Nat}{vs bs:List (Int×Int)}{g:Int}(hs:SzW ws vs)(hb:Spn 51 bs)(hg:1≤g∧g≤1000000)(hw:∀i:Int,inR vs.length i→1≤ws.getD i.toNat 0):∀v:Nd,v.ok vs.length bs.length→Sz (60*v.wt ws-1) (v.fw vs bs g).1∧Sz (60*v.wt ws-1) (v.fw vs bs g).2
 | .number t b,ok=>by
  have z:Sz 52 (t*g):=(Sz.of (n:=31) (10^9) ok.2.2).mul (Sz.of (n:=21) (10^6) (show g.natAbs≤_ by omega))
  exact⟨(z.div ok.1.1).mono (show 52≤60*1-1 by decide),(zel z ok.1.1).mono (show 52≤60*1-1 by decide)⟩
 | .unknown k,ok=>⟨(hb.at ok).2.1.mono (show 51≤60*1-1 by decide),(hb.at ok).2.2.mono (show 51≤60*1-1 by decide)⟩
 | .plus i j,ok=>by
  have a:=hs.at ok.1
  have b:=hs.at ok.2
  have p:=hw i ok.1
  have q:=hw j ok.2
  exact⟨(a.2.1.add b.2.1).mono (by simp only[Nd.wt]; omega),(a.2.2.add b.2.2).mono (by simp only[Nd.wt]; omega)⟩
 | .minus i j,ok=>by
  have a:=hs.at ok.1
  have b:=hs.at ok.2
  have p:=hw i ok.1
  have q:=hw j ok.2
  exact⟨(a.2.1.sub b.2.2).mono (by simp only[Nd.wt]; omega),(a.2.2.sub b.2.1).mono (by simp only[Nd.wt]; omega)⟩
 | .times i j,ok=>by
  have a:=hs.at ok.1
  have b:=hs.at ok.2
  have p:=hw i ok.1
  have q:=hw j ok.2
  have le:∀ {x y:Int},Sz (60*ws.getD i.toNat 0-1) x→Sz (60*ws.getD j.toNat 0-1) y→Sz (60*Nd.wt ws (.times i j)-1) (x*y):=λh1 h2=>(h1.mul h2).mono (by simp only[Nd.wt]; omega)
  have l:=zdg (zdg (le a.2.1 b.2.1) (le a.2.1 b.2.2)) (zdg (le a.2.2 b.2.1) (le a.2.2 b.2.2))
  have u:=zcT (zcT (le a.2.1 b.2.1) (le a.2.1 b.2.2)) (zcT (le a.2.2 b.2.1) (le a.2.2 b.2.2))
  exact⟨l.div hg.1,zel u hg.1⟩
 | .power i n,ok=>by
  have a:=hs.at ok.1
  have p:=hw i ok.1
  have n2:=ok.2.1
  have gp:(1:Int)≤g^(n.toNat-1):=VaL (by omega)
  have hn:(60*ws.getD i.toNat 0-1)*n.toNat+1≤60*Nd.wt ws (.power i n)-1:=by
   simp only[Nd.wt]
   rw[Nat.sub_mul,Nat.one_mul]
   have e:60*ws.getD i.toNat 0*n.toNat=60*(n.toNat*ws.getD i.toNat 0):=by rw[Nat.mul_assoc,Nat.mul_comm (ws.getD i.toNat 0)]
   have m1:=Va5 (Vaa n.toNat) p
   omega
  have p1:Sz (60*Nd.wt ws (.power i n)-1) ((gt vs i).1^n.toNat):=(a.2.1.pow _).mono hn
  have p2:Sz (60*Nd.wt ws (.power i n)-1) ((gt vs i).2^n.toNat):=(a.2.2.pow _).mono hn
  have l:Sz (60*Nd.wt ws (.power i n)-1) (zaH (gt vs i).1 (gt vs i).2 n.toNat):=by
   unfold zaH
   split
   ·exact(Sz.of (n:=1) 0 (by decide)).mono (by have:=Va5 (show 1≤n.toNat by omega) p; simp only[Nd.wt]; omega)
   ·exact zdg p1 p2
  exact⟨l.div gp,zel (zcT p1 p2) gp⟩
theorem Spn.of_w {ws:List Nat}{vs:List (Int×Int)}(h:SzW ws vs)(hw:∀k:Nat,k<vs.length→ws.getD k 0≤16):Spn 1000 vs:=λp hp=>by
 obtain⟨k,hk,e⟩:=VaJ.mp hp
 obtain⟨a,b,c⟩:=h k p (by rw[Vac hk,e])
 have:=hw k hk
 exact⟨a,b.mono (by omega),c.mono (by omega)⟩
theorem zps {q:Int}{ns:List Nd}{ws:List Nat}{bs:List (Int×Int)}{g:Int}(h:zaD q ns ws)(hq:q=bs.length)(hb:Spn 51 bs)(hg:1≤g∧g≤1000000):∀k,k≤ns.length→SzW ws (zar bs g (ns.take k)):=λk=>by
 induction k with
 | zero=>intro _ i p hp; simp[zar] at hp
 | succ k ih=>
  intro hk
  have hv:=Vac (show k<ns.length by omega)
  have s:=ih (by omega)
  have ln:(zar bs g (ns.take k)).length=k:=by rw[zcf,Vaq]; omega
  obtain⟨ok,e,_,_⟩:=h.ok k _ hv
  rw[zbV hv,zge]
  have okv:(ns[k]).ok (zar bs g (ns.take k)).length bs.length:=by rw[ln,← hq]; exact ok
  have w1:∀i:Int,inR (zar bs g (ns.take k)).length i→1≤ws.getD i.toNat 0:=λi hi=>(h.w1 (i:=i) (by rw[ln] at hi; exact⟨hi.1,by have:=hi.2; omega⟩)).1
  have z:=fw_w s hb hg w1 ns[k] okv
  have l:((ns[k]).fw (zar bs g (ns.take k)) bs g).1≤((ns[k]).fw (zar bs g (ns.take k)) bs g).2:=by
   refine Nd.fw_le (B:=6000) ?_ (hb.mono (by decide)) hg.1 _ okv
   intro p hp
   obtain⟨i,hi,ei⟩:=VaJ.mp hp
   obtain⟨a,b,c⟩:=s i p (by rw[Vac hi,ei])
   have:=(h.w1 (i:=i) ⟨by omega,by rw[ln] at hi; omega⟩).2
   rw[Vam] at this
   exact⟨a,b.mono (by omega),c.mono (by omega)⟩
  intro i p hp
  by_cases hi:i<k
  ·rw[Val (by rw[ln]; exact hi)] at hp
   exact s i p hp
  ·have hl:=(Vad.mp hp).1
   simp only[Vav,VaE,Va3,ln] at hl
   have ei:i=k:=by omega
   subst ei
   rw[VaG (by rw[ln]; exact Vaa _),ln,Vbb] at hp
   simp at hp
   subst hp
   rw[e]
   exact⟨l,z⟩
theorem zoP {q:Int}{ns:List Nd}{ws:List Nat}{bs:List (Int×Int)}{g:Int}(h:zaD q ns ws)(hq:q=bs.length)(hb:Spn 51 bs)(hg:1≤g∧g≤1000000)(k:Nat)(hk:k≤ns.length):Spn 1000 (zar bs g (ns.take k)):=
 Spn.of_w (zps h hq hb hg k hk) λi hi=>by
  rw[zcf,Vaq] at hi
  have:=(h.w1 (i:=i) ⟨by omega,by omega⟩).2
  rwa [Vam] at this
theorem zdy {S T:Sto}{n:Nat}{o:Ob}(h:Pre S T)(hn:S.length≤n):Pre S (T.set n o):=λk u e=>by
 have hk:=(Vad.mp e).1
 rw[VaM (by omega)]
 exact h k u e
theorem zbf {S T:Sto}(h:Pre S T)(U:Sto):Pre S (T++U):=λk u e=>zaz (h k u e)
theorem zsX {to te:TDE}{dl:Ev}{S S1 S2:Sto}{Q:DK}{n:Nat}{xs:List D}{y:D}(hto:∀K:DK,K (.ref n) S1→to dl S K)(h:S1[n]?=some (.lst xs))(hte:∀K:DK,K y S2→te dl S1 K)(h2:S2[n]?=some (.lst xs))(hl:xs.length<1000)(hq:Q .non (S2.set n (.lst (xs++[y])))):zdT to te dl S Q:=by
 unfold zdT
 refine hto _ ?_
 simp only[h]
 refine hte _ ?_
 simp only[h2,if_pos hl]
 exact hq
theorem zoT (u v:Nd):∃b,eqN 1 u.d v.d=some b:=by cases u <;> cases v <;> exact⟨_,rfl⟩
theorem zuy (u:Nd):eqN 1 u.d u.d=some true:=by cases u <;> simp[Nd.d,eqN,L3.eqT,eqL,eqF]
theorem zoR (v:Nd):∀ns:List Nd,∃b,zbB (eqN 1) (ns.map Nd.d) v.d=some b
 | []=>⟨false,rfl⟩
 | u::us=>by
  obtain⟨b,e⟩:=zoT u v
  obtain⟨c,e2⟩:=zoR v us
  refine⟨b||c,?_⟩
  show (match eqN 1 u.d v.d,zbB (eqN 1) (us.map Nd.d) v.d with | some b,some c=>some (b||c) | _,_=>none)=_
  rw[e,e2]
def wtD (w:Nat):D:=.int (w:Int)
theorem zpJ (q:Nat):zaD q ((List.range q).map λ(k:Nat)=>Nd.unknown (k:Int)) ((List.range q).map λ_=>1):=by
 refine⟨by simp,λk v hv=>?_⟩
 have hl:=(Vad.mp hv).1
 simp only[Vab,Vbc] at hl
 rw[Vaf,Vbd hl] at hv
 cases hv
 refine⟨⟨by omega,by omega⟩,?_,Vaa _,show 1≤16 by decide⟩
 simp[Nd.wt,hl]
theorem zsZ {u v:Nd}(h:eqN 1 u.d v.d=some true):u=v:=by
 cases u <;> cases v <;> simp[Nd.d,eqN,L3.eqT,eqL,eqF] at h
 all_goals first | (obtain⟨rfl,rfl⟩:=h; rfl) | (subst h; rfl) | exact absurd h.1 (by decide)
theorem zoW (v:Nd):∀ns:List Nd,∃o:Option Nat,zdk (eqN 1) (ns.map Nd.d) v.d=some o∧zbB (eqN 1) (ns.map Nd.d) v.d=some o.isSome∧∀j,o=some j→ns[j]?=some v
 | []=>⟨none,rfl,rfl,λj h=>by cases h⟩
 | u::us=>by
  obtain⟨b,e⟩:=zoT u v
  obtain⟨o,h1,h2,h3⟩:=zoW v us
  have f1:zdk (eqN 1) ((u::us).map Nd.d) v.d=(match eqN 1 u.d v.d,zdk (eqN 1) (us.map Nd.d) v.d with | some true,some _=>some (some 0) | some false,some o=>some (o.map (·+1)) | _,_=>none):=rfl
  have f2:zbB (eqN 1) ((u::us).map Nd.d) v.d=(match eqN 1 u.d v.d,zbB (eqN 1) (us.map Nd.d) v.d with | some b,some c=>some (b||c) | _,_=>none):=rfl
  rw[f1,f2,e,h1,h2]
  cases b with
  | true=>exact⟨some 0,rfl,rfl,λj hj=>by
    cases hj
    rw[zsZ e]
    rfl⟩
  | false=>exact⟨o.map (·+1),rfl,by cases o <;> rfl,λj hj=>by
    cases o with
    | none=>cases hj
    | some i=>
     cases hj
     exact h3 i rfl⟩
theorem zpC {v:Nd}{ns:List Nd}{n j:Nat}{to:TDE}{t:TDA}{dl:Ev}{S:Sto}{Q:DK}(hto:∀K:DK,K (.ref n) S→to dl S K)(ht:∀K:List D→Sto→Prop,K [v.d] S→t dl S K)(h:S[n]?=some (.lst (ns.map Nd.d)))(e:zdk (eqN 1) (ns.map Nd.d) v.d=some (some j))(hq:Q (.int (j:Int)) S):zi1 1 to t dl S Q:=by
 unfold zi1
 refine hto _ ⟨by rw[zaO h rfl]; rfl,ht _ ?_⟩
 unfold zjG
 simp only[zaO h rfl,zah,e]
 exact hq
theorem zgy {caps:List Nat}{ta:TDA}{te:TDE}{dl:Ev}{S S1:Sto}{Q:DK}{n n':Nat}{xs ys:List D}(g:D→D→D)(hta:∀K:List D→Sto→Prop,K [.ref n,.ref n'] S1→ta dl S K)(h1:S1[n]?=some (.lst xs))(h2:S1[n']?=some (.lst ys))(hl:xs.length≤1000)
  (ht:∀(k:Nat) (x y:D),xs[k]?=some x→ys[k]?=some y→∀(S2:Sto) (K:DK),Pre S1 S2→K (g x y) S2→te (some x::some y::zbx caps dl) S2 K)(hq:Q (.ref S1.length) (S1++[.lst (List.zipWith g xs ys)])):zeY caps ta te dl S Q:=by
 unfold zeY
 refine hta _ ⟨⟨by rw[zaO h1 rfl]; rfl,by rw[zaO h2 rfl]; rfl⟩,λk m S2=>S2=S1++[.lst (List.zipWith g (xs.take k) (ys.take k))]∧m+k=min xs.length ys.length,⟨min xs.length ys.length,by simp,by omega⟩,?_⟩
 rintro k m S2 ⟨rfl,hm⟩
 rw[zaO (zcD h1) rfl,zaO (zcD h2) rfl]
 dsimp only[zah]
 split
 ·rename_i x y hx hy
  have hk:k<xs.length:=(Vad.mp hx).1
  have hk':k<ys.length:=(Vad.mp hy).1
  unfold zkQ
  refine ht k x y hx hy _ _ Pre.refl.push ?_
  rw[zax]
  refine⟨by simp; omega,m-1,by omega,?_,by omega⟩
  have e:xs.take (k+1)=xs.take k++[x]:=by rw[Va2,hx]; rfl
  have e':ys.take (k+1)=ys.take k++[y]:=by rw[Va2,hy]; rfl
  rw[e,e',List.zipWith_append (by rw[Vaq,Vaq]; omega),zoa]
  rfl
 ·rename_i no
  have hk:min xs.length ys.length≤k:=by
   by_cases l:k<min xs.length ys.length
   ·exact absurd (Vac (l:=ys) (i:=k) (by omega)) (no _ _ (Vac (l:=xs) (i:=k) (by omega)))
   ·omega
  refine⟨by omega,?_⟩
  have e:List.zipWith g (xs.take k) (ys.take k)=List.zipWith g xs ys:=by
   rw[← List.take_zipWith,VaF (by rw[List.length_zipWith]; exact hk)]
  rw[e]
  exact hq
theorem zrW {vs:List (Int×Int)}{k:Nat}{i:Int}(h:inR k i):gt (vs.take k) i=gt vs i:=by
 have:=h.1
 have:=h.2
 unfold gt
 rw[Vai,Vai,List.getElem?_take_of_lt (by omega)]
theorem zvn {vs us:List (Int×Int)}{k:Nat}{i:Int}(h:inR k i)(hk:k≤vs.length):gt (vs++us) i=gt vs i:=by
 have:=h.1
 have:=h.2
 unfold gt
 rw[Vai,Vai,Val (by omega)]
theorem zbv {vs:List (Int×Int)}{k:Nat}{p:Int×Int}(h:vs[k]?=some p):gt vs (k:Int)=p:=by
 unfold gt
 rw[Vai,Vam,h]
 rfl
theorem Sz.pow' {n:Nat}{i:Int}(h:Sz n i){k:Nat}(hk:1≤k):Sz (n*k) (i^k):=by
 unfold Sz at *
 rw[Int.natAbs_pow,Nat.pow_mul]
 exact Nat.pow_lt_pow_left h (by omega)
theorem SzW.spn {ws:List Nat}{vs:List (Int×Int)}(h:SzW ws vs)(hw:∀k:Nat,k<vs.length→ws.getD k 0≤16):Spn 1000 vs:=Spn.of_w h hw
theorem SzW.snoc {ws:List Nat}{vs:List (Int×Int)}{p:Int×Int}(h:SzW ws vs)(h1:p.1≤p.2)(h2:Sz (60*ws.getD vs.length 0-1) p.1)(h3:Sz (60*ws.getD vs.length 0-1) p.2):SzW ws (vs++[p]):=λk q hq=>by
 by_cases hk:k<vs.length
 ·rw[Val hk] at hq
  exact h k q hq
 ·have hl:=(Vad.mp hq).1
  simp only[Vav,VaE,Va3] at hl
  have ek:k=vs.length:=by omega
  subst ek
  simp at hq
  subst hq
  exact⟨h1,h2,h3⟩
theorem znz {caps:List Nat}{tl te:TDE}{dl:Ev}{S S1:Sto}{Q:DK}{n:Nat}{o:Ob}(W:Nat→List D→Sto→Prop)(htl:∀K:DK,K (.ref n) S1→tl dl S K)(h1:S1[n]?=some o)(hw:∀k ys S2,W k ys S2→S2[n]?=some o∧S2[S1.length]?=some (.lst ys)∧ys.length=k)(hl:(zah o).length≤1000)(h0:W 0 [] (S1++[.lst []]))
  (ht:∀(k:Nat) (x:D) (ys:List D) (S2:Sto) (K:DK),(zah o)[k]?=some x→W k ys S2→(∀y S3,S3[S1.length]?=some (.lst ys)→W (k+1) (ys++[y]) (S3.set S1.length (.lst (ys++[y])))→K y S3)→te (some x::zbx caps dl) S2 K)
  (hq:∀ys S2,W (zah o).length ys S2→Q (.ref S1.length) S2)(hL:zbT o=some o:=by rfl):zco caps tl zcm te dl S Q:=by
 unfold zco
 refine htl _ ⟨by rw[zaO h1 hL]; rfl,λk m S2=>(∃ys,W k ys S2)∧m+k=(zah o).length,⟨(zah o).length,⟨_,h0⟩,by omega⟩,?_⟩
 rintro k m S2 ⟨⟨ys,w⟩,hm⟩
 obtain⟨w1,w2,w3⟩:=hw _ _ _ w
 rw[zaO w1 hL]
 dsimp only
 split
 ·rename_i x hx
  have hk:k<(zah o).length:=(Vad.mp hx).1
  unfold zc3 zcm
  simp only[if_true]
  refine ht k x ys S2 _ hx w λy S3 e3 w4=>?_
  rw[e3]
  exact⟨by omega,m-1,by omega,⟨_,w4⟩,by omega⟩
 ·rename_i hx
  have hk:k=(zah o).length:=by
   have:=VaV.mp hx
   omega
  exact hq ys S2 (hk ▸ w)
theorem zuZ {caps:List Nat}{ta:TDA}{te:TDE}{dl:Ev}{S S1:Sto}{Q:DK}{j:Int}(W:Nat→List D→Sto→Prop)(hta:∀K:List D→Sto→Prop,K [.int j] S1→ta dl S K)(hj:0≤j∧j≤1000)(hw:∀k ys S2,W k ys S2→S2[S1.length]?=some (.lst ys)∧ys.length=k)(h0:W 0 [] (S1++[.lst []]))
  (ht:∀(k:Nat) (ys:List D) (S2:Sto) (K:DK),k<j.toNat→W k ys S2→(∀y S3,S3[S1.length]?=some (.lst ys)→W (k+1) (ys++[y]) (S3.set S1.length (.lst (ys++[y])))→K y S3)→te (some (.int (k:Int))::zbx caps dl) S2 K)
  (hq:∀ys S2,W j.toNat ys S2→Q (.ref S1.length) S2):zc4 caps ta zcm te dl S Q:=by
 unfold zc4
 refine hta _ ⟨⟨by omega,by omega⟩,λk S2=>k≤j.toNat∧∃ys,W k ys S2,⟨Vak _,_,h0⟩,?_⟩
 rintro k S2 ⟨hk,ys,w⟩
 obtain⟨w2,w3⟩:=hw _ _ _ w
 split
 ·rename_i c
  unfold zc3 zcm
  simp only[if_true]
  refine ht k ys S2 _ c w λy S3 e3 w4=>?_
  rw[e3]
  exact⟨by omega,by omega,_,w4⟩
 ·rename_i c
  have hk:k=j.toNat:=by omega
  exact hq ys S2 (hk ▸ w)
theorem zpw {S T:Sto}{n:Nat}{o:Ob}(h:Pre S T)(hn:S.length≤n):Pre S (T.set n o):=λk u e=>by
 have l:=(Vad.mp e).1
 rw[VaM (by omega)]
 exact h k u e
theorem zfI {S T:Sto}(h:Pre S T):S.length≤T.length:=by
 rcases Nat.eq_zero_or_pos S.length with e | e
 ·omega
 ·have z:=h (S.length-1) _ (Vac (show S.length-1<S.length by omega))
  have:=(Vad.mp z).1
  omega
theorem zqs {to te:TDE}{dl:Ev}{S:Sto}{Q:DK}{n:Nat}{xs:List D}(hto:∀K:DK,K (.ref n) S→to dl S K)(h:S[n]?=some (.lst xs))(hte:∀K:DK,(∀(y:D) (S2:Sto),S2[n]?=some (.lst xs)→Q .non (S2.set n (.lst (xs++[y])))→K y S2)→te dl S K)(hl:xs.length<1000):zdT to te dl S Q:=by
 unfold zdT
 refine hto _ ?_
 simp only[h]
 refine hte _ λy S2 h2 q=>?_
 simp only[h2,if_pos hl]
 exact q
def zaF (S:Sto)(lo:Nat)(ds:List D)(R:List (List (Int×Int))):Prop:=ds.length=R.length∧∀(k:Nat) (d:D) (r:List (Int×Int)),ds[k]?=some d→R[k]?=some r→∃a,d=.ref a∧lo≤a∧S[a]?=some (.lst (r.map frD))
theorem zaF.nil {S:Sto}{lo:Nat}:zaF S lo [] []:=⟨rfl,λk d r h=>by simp at h⟩
theorem zaF.pre {S T:Sto}{lo:Nat}{ds:List D}{R:List (List (Int×Int))}(h:zaF S lo ds R)(p:Pre S T):zaF T lo ds R:=⟨h.1,λk d r hd hr=>by
 obtain⟨a,e,l,s⟩:=h.2 k d r hd hr
 exact⟨a,e,l,p _ _ s⟩⟩
theorem zaF.low {S:Sto}{lo lo':Nat}{ds:List D}{R:List (List (Int×Int))}(h:zaF S lo ds R)(l:lo'≤lo):zaF S lo' ds R:=⟨h.1,λk d r hd hr=>by
 obtain⟨a,e,l,s⟩:=h.2 k d r hd hr
 exact⟨a,e,by omega,s⟩⟩
theorem zaF.keep {S T:Sto}{lo:Nat}{ds:List D}{R:List (List (Int×Int))}(h:zaF S lo ds R)(p:∀(x:Nat) (o:Ob),lo≤x→S[x]?=some o→T[x]?=some o):zaF T lo ds R:=⟨h.1,λk d r hd hr=>by
 obtain⟨a,e,l,s⟩:=h.2 k d r hd hr
 exact⟨a,e,l,p _ _ l s⟩⟩
theorem zaF.at {S:Sto}{lo:Nat}{ds:List D}{R:List (List (Int×Int))}(h:zaF S lo ds R){i:Int}(hi:inR R.length i):∃a,atI ds i=some (.ref a)∧lo≤a∧S[a]?=some (.lst ((R.getD i.toNat []).map frD)):=by
 obtain⟨h0,h1⟩:=hi
 have hk:i.toNat<R.length:=by omega
 have hk':i.toNat<ds.length:=by rw[h.1]; exact hk
 obtain⟨a,e,l,s⟩:=h.2 i.toNat _ _ (Vac hk') (Vac hk)
 refine⟨a,?_,l,?_⟩
 ·have z:=zix (xs:=ds) (j:=i.toNat) (v:=.ref a) (by rw[Vac hk',e])
  rw[show ((i.toNat:Nat):Int)=i by omega] at z
  exact z
 ·rw[s]
  simp[hk]
theorem zaF.snoc {S:Sto}{lo:Nat}{ds:List D}{R:List (List (Int×Int))}{a:Nat}{r:List (Int×Int)}(h:zaF S lo ds R)(hl:lo≤a)(hs:S[a]?=some (.lst (r.map frD))):zaF S lo (ds++[.ref a]) (R++[r]):=⟨by rw[Vav,Vav,h.1]; rfl,λk d r' hd hr=>by
 by_cases hk:k<ds.length
 ·rw[Val hk] at hd
  rw[Val (by rw[← h.1]; exact hk)] at hr
  exact h.2 k d r' hd hr
 ·have l:=(Vad.mp hd).1
  simp only[Vav,VaE,Va3] at l
  have ek:k=ds.length:=by omega
  subst ek
  rw[VaG (Vaa _),Vbb] at hd
  rw[h.1,VaG (Vaa _),Vbb] at hr
  cases hd
  cases hr
  exact⟨a,rfl,hl,hs⟩⟩
abbrev gs (sl:List (List (Int×Int)))(i:Int)(l:Nat):Int×Int:=(sl.getD i.toNat []).getD l (0,0)
def zaQ (p q:Int×Int)(g:Int):Int×Int:=(mn4 p.1 p.2 q.1 q.2/g,-(-mx4 p.1 p.2 q.1 q.2/g))
def zbt (p:Int×Int)(n g:Int):Int×Int:=(zaH p.1 p.2 (n-1).toNat/g^((n-1).toNat-1)*n,-(-za0 p.1 p.2 (n-1).toNat/g^((n-1).toNat-1))*n)
def Nd.sl (vs:List (Int×Int))(sl:List (List (Int×Int)))(g:Int)(l:Nat):Nd→Int×Int
 | .number _ _=>(0,0)
 | .unknown k=>if (l:Int)=k then (g,g) else (0,0)
 | .plus i j=>((gs sl i l).1+(gs sl j l).1,(gs sl i l).2+(gs sl j l).2)
 | .minus i j=>((gs sl i l).1-(gs sl j l).2,(gs sl i l).2-(gs sl j l).1)
 | .times i j=>((zaQ (gt vs i) (gs sl j l) g).1+(zaQ (gt vs j) (gs sl i l) g).1,(zaQ (gt vs i) (gs sl j l) g).2+(zaQ (gt vs j) (gs sl i l) g).2)
 | .power i n=>zaQ (zbt (gt vs i) n g) (gs sl i l) g
def zba (vs:List (Int×Int))(sl:List (List (Int×Int)))(g:Int)(q:Nat)(v:Nd):List (Int×Int):=(List.range q).map λl=>v.sl vs sl g l
theorem zwB {vs:List (Int×Int)}{sl:List (List (Int×Int))}{g:Int}{q:Nat}{v:Nd}:(zba vs sl g q v).length=q:=by simp[zba]
theorem zs4 {α:Type}(f:Int×Int→α)(r:List (Int×Int)){q:Nat}(h:r.length=q):r.map f=(List.range q).map λl=>f (r.getD l (0,0)):=by
 subst h
 refine Vbj λk=>?_
 by_cases hk:k<r.length
 ·rw[Vaf,Vaf,Vbd hk,Vac hk]
  simp[hk]
 ·rw[VaP (by simpa using hk),VaP (by simpa using hk)]
theorem znl {α:Type}(f:Int×Int→Int×Int→α)(r s:List (Int×Int)){q:Nat}(h:r.length=q)(h':s.length=q):List.zipWith f r s=(List.range q).map λl=>f (r.getD l (0,0)) (s.getD l (0,0)):=by
 subst h
 refine Vbj λk=>?_
 by_cases hk:k<r.length
 ·rw[List.getElem?_zipWith,Vaf,Vbd hk,Vac hk,Vac (show k<s.length by omega)]
  simp[hk,show k<s.length by omega]
 ·rw[VaP (by rw[List.length_zipWith]; omega),VaP (by simpa using hk)]
theorem zw8 (x:D)(q:Nat):(List.replicate q [x]).flatten=(List.range q).map λ_=>x:=by
 refine Vbj λk=>?_
 have l:(List.replicate q [x]).flatten=List.replicate q x:=by
  induction q with
  | zero=>rfl
  | succ q ih=>rw[Vba,Vbf,ih]; rfl
 rw[l]
 by_cases hk:k<q
 ·rw[Vaf,Vbd hk,List.getElem?_replicate,if_pos hk]
  rfl
 ·rw[VaP (by simpa using hk),VaP (by simpa using hk)]
theorem zmn (p q:Int×Int){g:Int}(hg:1≤g):(zaQ p q g).1≤(zaQ p q g).2:=zfs hg (zqn _ _ _ _)
theorem zx0 (p:Int×Int){n g:Int}(hn:0≤n)(hg:1≤g):(zbt p n g).1≤(zbt p n g).2:=Vae (zfs (VaL (by omega)) (zoY _ _ _)) hn
def zaC (vs:List (Int×Int))(g:Int)(q:Nat)(ns:List Nd):List (List (Int×Int)):=ns.foldl (λacc v=>acc++[zba vs acc g q v]) []
theorem zjK (vs:List (Int×Int))(g:Int)(q:Nat)(ns:List Nd)(v:Nd):zaC vs g q (ns++[v])=zaC vs g q ns++[zba vs (zaC vs g q ns) g q v]:=by
 unfold zaC
 rw[List.foldl_append]
 rfl
theorem zeN (vs:List (Int×Int))(g:Int)(q:Nat)(ns:List Nd):(zaC vs g q ns).length=ns.length:=by
 have z:∀k,k≤ns.length→(zaC vs g q (ns.take k)).length=k:=λk=>by
  induction k with
  | zero=>intro _; rfl
  | succ k ih=>
   intro hk
   rw[zbV (Vac (show k<ns.length by omega)),zjK]
   simp[ih (by omega)]
 have:=z ns.length (Vaa _)
 rwa [Vay] at this
def SlW (q:Nat)(ws:List Nat)(sl:List (List (Int×Int))):Prop:=∀(k:Nat) (r:List (Int×Int)),sl[k]?=some r→r.length=q∧∀p∈r,p.1≤p.2∧Sz (64*ws.getD k 0-1) p.1∧Sz (64*ws.getD k 0-1) p.2
theorem SlW.at {q:Nat}{ws:List Nat}{sl:List (List (Int×Int))}(h:SlW q ws sl){i:Int}(hi:inR sl.length i):(sl.getD i.toNat []).length=q∧∀l,l<q→(gs sl i l).1≤(gs sl i l).2∧Sz (64*ws.getD i.toNat 0-1) (gs sl i l).1∧Sz (64*ws.getD i.toNat 0-1) (gs sl i l).2:=by
 obtain⟨h0,h1⟩:=hi
 have hk:i.toNat<sl.length:=by omega
 obtain⟨a,b⟩:=h i.toNat _ (Vac hk)
 have e:sl.getD i.toNat []=sl[i.toNat]:=by simp[hk]
 refine⟨by rw[e]; exact a,λl hl=>?_⟩
 have e2:gs sl i l=sl[i.toNat][l]'(by rw[a]; exact hl):=by
  unfold gs
  rw[e]
  simp[show l<sl[i.toNat].length by rw[a]; exact hl]
 rw[e2]
 exact b _ (VaB _)
theorem SlW.snoc {q:Nat}{ws:List Nat}{sl:List (List (Int×Int))}{r:List (Int×Int)}(h:SlW q ws sl)(hr:r.length=q)(hp:∀p∈r,p.1≤p.2∧Sz (64*ws.getD sl.length 0-1) p.1∧Sz (64*ws.getD sl.length 0-1) p.2):SlW q ws (sl++[r]):=λk u hu=>by
 by_cases hk:k<sl.length
 ·rw[Val hk] at hu
  exact h k u hu
 ·have l:=(Vad.mp hu).1
  simp only[Vav,VaE,Va3] at l
  have ek:k=sl.length:=by omega
  subst ek
  rw[VaG (Vaa _),Vbb] at hu
  cases hu
  exact⟨hr,hp⟩
theorem zlX {m n:Nat}{p q:Int×Int}{g:Int}(hg:1≤g)(h1:Sz m p.1)(h2:Sz m p.2)(h3:Sz n q.1)(h4:Sz n q.2):Sz (m+n) (zaQ p q g).1∧Sz (m+n) (zaQ p q g).2:=
 ⟨(zdg (zdg (h1.mul h3) (h1.mul h4)) (zdg (h2.mul h3) (h2.mul h4))).div hg,zel (zcT (zcT (h1.mul h3) (h1.mul h4)) (zcT (h2.mul h3) (h2.mul h4))) hg⟩
theorem zuW:∀n:Nat,2≤n→n≤6→n≤2^(n-1):=λn h1 h2=>by
 have:n=2∨n=3∨n=4∨n=5∨n=6:=by omega
 rcases this with rfl | rfl | rfl | rfl | rfl <;> decide
theorem zlJ {m e:Nat}{x n:Int}(h:Sz m x)(hn:n.natAbs≤2^e)(hp:1≤n.natAbs):Sz (m+e) (x*n):=by
 unfold Sz at *
 rw[Nat.pow_add,Vbg]
 exact Nat.mul_lt_mul_of_lt_of_le h hn (VaN (by decide))
theorem zxH {m:Nat}{p:Int×Int}{n g:Int}(hg:1≤g)(n2:2≤n)(n6:n≤6)(h1:Sz m p.1)(h2:Sz m p.2):Sz (m*(n.toNat-1)+(n.toNat-1)) (zbt p n g).1∧Sz (m*(n.toNat-1)+(n.toNat-1)) (zbt p n g).2:=by
 have en:(n-1).toNat=n.toNat-1:=by omega
 have gp:(1:Int)≤g^((n-1).toNat-1):=VaL (by omega)
 have p1:Sz (m*(n.toNat-1)) (p.1^(n-1).toNat):=by rw[en]; exact Sz.pow' h1 (by omega)
 have p2:Sz (m*(n.toNat-1)) (p.2^(n-1).toNat):=by rw[en]; exact Sz.pow' h2 (by omega)
 have lo:Sz (m*(n.toNat-1)) (zaH p.1 p.2 (n-1).toNat):=by
  unfold zaH
  split
  ·show (0:Int).natAbs<_
   exact VaN (by decide)
  ·exact zdg p1 p2
 have nb:n.natAbs≤2^(n.toNat-1):=by
  have:=zuW n.toNat (by omega) (by omega)
  omega
 exact⟨zlJ (lo.div gp) nb (by omega),zlJ (zel (zcT p1 p2) gp) nb (by omega)⟩
theorem sl_ok {q:Nat}{ws:List Nat}{vs:List (Int×Int)}{sl:List (List (Int×Int))}{g:Int}(hs:SzW ws vs)(hl:SlW q ws sl)(hg:1≤g∧g≤1000000)(hv:sl.length≤vs.length)(hw:∀i:Int,inR vs.length i→1≤ws.getD i.toNat 0){l:Nat}(hq:l<q):∀v:Nd,v.ok sl.length q→1≤v.wt ws→(v.sl vs sl g l).1≤(v.sl vs sl g l).2∧Sz (64*v.wt ws-2) (v.sl vs sl g l).1∧Sz (64*v.wt ws-2) (v.sl vs sl g l).2
 | .number t b,ok,h1=>⟨Vat _,by show Sz _ 0; exact VaN (by decide),by show Sz _ 0; exact VaN (by decide)⟩
 | .unknown k,ok,h1=>by
  have sg:Sz (64*Nd.wt ws (.unknown k)-2) g:=(Sz.of (n:=21) (10^6) (show g.natAbs≤_ by omega)).mono (by show 21≤64*1-2; decide)
  show (if (l:Int)=k then (g,g) else (0,0)).1≤(if (l:Int)=k then (g,g) else (0,0)).2∧Sz _ (if (l:Int)=k then (g,g) else (0,0)).1∧Sz _ (if (l:Int)=k then (g,g) else (0,0)).2
  split
  ·exact⟨Vat _,sg,sg⟩
  ·exact⟨Vat _,VaN (by decide),VaN (by decide)⟩
 | .plus i j,ok,h1=>by
  have a:=(hl.at ok.1).2 l hq
  have b:=(hl.at ok.2).2 l hq
  have p:=hw i ⟨ok.1.1,by have:=ok.1.2; omega⟩
  have q:=hw j ⟨ok.2.1,by have:=ok.2.2; omega⟩
  refine⟨?_,(a.2.1.add b.2.1).mono (by simp only[Nd.wt]; omega),(a.2.2.add b.2.2).mono (by simp only[Nd.wt]; omega)⟩
  show (gs sl i l).1+(gs sl j l).1≤(gs sl i l).2+(gs sl j l).2
  omega
 | .minus i j,ok,h1=>by
  have a:=(hl.at ok.1).2 l hq
  have b:=(hl.at ok.2).2 l hq
  have p:=hw i ⟨ok.1.1,by have:=ok.1.2; omega⟩
  have q:=hw j ⟨ok.2.1,by have:=ok.2.2; omega⟩
  refine⟨?_,(a.2.1.sub b.2.2).mono (by simp only[Nd.wt]; omega),(a.2.2.sub b.2.1).mono (by simp only[Nd.wt]; omega)⟩
  show (gs sl i l).1-(gs sl j l).2≤(gs sl i l).2-(gs sl j l).1
  omega
 | .times i j,ok,h1=>by
  have oi:inR vs.length i:=⟨ok.1.1,by have:=ok.1.2; omega⟩
  have oj:inR vs.length j:=⟨ok.2.1,by have:=ok.2.2; omega⟩
  have a:=(hl.at ok.1).2 l hq
  have b:=(hl.at ok.2).2 l hq
  have c:=hs.at oi
  have d:=hs.at oj
  have p:=hw i oi
  have q:=hw j oj
  have z1:=zlX hg.1 c.2.1 c.2.2 b.2.1 b.2.2
  have z2:=zlX hg.1 d.2.1 d.2.2 a.2.1 a.2.2
  refine⟨?_,(z1.1.add z2.1).mono (by simp only[Nd.wt]; omega),(z1.2.add z2.2).mono (by simp only[Nd.wt]; omega)⟩
  have m1:=zmn (gt vs i) (gs sl j l) hg.1
  have m2:=zmn (gt vs j) (gs sl i l) hg.1
  show (zaQ (gt vs i) (gs sl j l) g).1+(zaQ (gt vs j) (gs sl i l) g).1≤(zaQ (gt vs i) (gs sl j l) g).2+(zaQ (gt vs j) (gs sl i l) g).2
  omega
 | .power i n,ok,h1=>by
  have oi:inR vs.length i:=⟨ok.1.1,by have:=ok.1.2; omega⟩
  have a:=(hl.at ok.1).2 l hq
  have c:=hs.at oi
  have p:=hw i oi
  have n2:=ok.2.1
  have f:=zxH hg.1 ok.2.1 ok.2.2 c.2.1 c.2.2
  have z:=zlX hg.1 f.1 f.2 a.2.1 a.2.2
  have hn:(60*ws.getD i.toNat 0-1)*(n.toNat-1)+(n.toNat-1)+(64*ws.getD i.toNat 0-1)≤64*Nd.wt ws (.power i n)-2:=by
   simp only[Nd.wt]
   generalize ws.getD i.toNat 0=w at p
   obtain⟨k,hk⟩:∃k,n.toNat=k+2:=⟨n.toNat-2,by omega⟩
   rw[hk,show k+2-1=k+1 by omega,Nat.sub_mul,Nat.one_mul]
   have e1:60*w*(k+1)=60*(k*w)+60*w:=by rw[Nat.mul_add,Nat.mul_one,Nat.mul_assoc,Nat.mul_comm w k]
   have e2:(k+2)*w=k*w+2*w:=Nat.add_mul ..
   have e3:k+1≤60*w*(k+1):=Nat.le_mul_of_pos_left _ (by omega)
   rw[e2]
   omega
  exact⟨zmn _ _ hg.1,z.1.mono hn,z.2.mono hn⟩
theorem zpG {q:Nat}{ns:List Nd}{ws:List Nat}{vs:List (Int×Int)}{g:Int}(h:zaD q ns ws)(hs:SzW ws vs)(hv:vs.length=ns.length)(hg:1≤g∧g≤1000000):∀k,k≤ns.length→SlW q ws (zaC vs g q (ns.take k)):=λk=>by
 induction k with
 | zero=>intro _ i p hp; simp[zaC] at hp
 | succ k ih=>
  intro hk
  have hv':=Vac (show k<ns.length by omega)
  have s:=ih (by omega)
  have ln:(zaC vs g q (ns.take k)).length=k:=by rw[zeN,Vaq]; omega
  obtain⟨ok,e,p1,_⟩:=h.ok k _ hv'
  rw[zbV hv',zjK]
  refine s.snoc zwB λp hp=>?_
  obtain⟨l,hl,rfl⟩:=Vah.mp hp
  have z:=sl_ok hs s hg (by omega) (λi hi=>(h.w1 (by rw[← hv]; exact hi)).1) (Va6.mp hl) ns[k] (by rw[ln]; exact ok) p1
  rw[ln,e]
  exact⟨z.1,z.2.1.mono (by omega),z.2.2.mono (by omega)⟩
theorem zqk {q:Int}{ns:List Nd}{ws:List Nat}{bs:List (Int×Int)}{g:Int}(h:zaD q ns ws)(hq:q=bs.length)(hb:Spn 51 bs)(hg:1≤g∧g≤1000000):SzW ws (zar bs g ns):=by
 have z:=zps h hq hb hg ns.length (Vaa _)
 rwa [Vay] at z
theorem SlW.spn {q:Nat}{ws:List Nat}{sl:List (List (Int×Int))}(h:SlW q ws sl)(hw:∀k:Nat,k<sl.length→ws.getD k 0≤16):∀i:Int,inR sl.length i→(sl.getD i.toNat []).length=q∧∀l,l<q→(gs sl i l).1≤(gs sl i l).2∧Sz 1100 (gs sl i l).1∧Sz 1100 (gs sl i l).2:=λi hi=>by
 obtain⟨a,b⟩:=h.at hi
 refine⟨a,λl hl=>?_⟩
 obtain⟨c,d,e⟩:=b l hl
 have:=hw i.toNat (by have:=hi.1; have:=hi.2; omega)
 exact⟨c,d.mono (by omega),e.mono (by omega)⟩
theorem zgD {caps:List Nat}{ta:TDA}{te:TDE}{dl:Ev}{S S1:Sto}{Q:DK}{n:Nat}{xs:List D}(g:Nat→D→D)(hta:∀K:List D→Sto→Prop,K [.ref n] S1→ta dl S K)(h1:S1[n]?=some (.lst xs))(hl:xs.length≤1000)
  (ht:∀(k:Nat) (x:D),xs[k]?=some x→∀(S2:Sto) (K:DK),Pre S1 S2→K (g k x) S2→te (some (.int (k:Int))::some x::zbx caps dl) S2 K)(hq:Q (.ref S1.length) (S1++[.lst (xs.mapIdx g)])):zin caps ta te dl S Q:=by
 unfold zin
 refine hta _ ⟨by rw[zaO h1 rfl]; rfl,λk m S2=>S2=S1++[.lst ((xs.take k).mapIdx g)]∧m+k=xs.length,⟨xs.length,by simp,by omega⟩,?_⟩
 rintro k m S2 ⟨rfl,hm⟩
 rw[zaO (zcD h1) rfl]
 dsimp only[zah]
 split
 ·rename_i x hx
  have hk:k<xs.length:=(Vad.mp hx).1
  unfold zkQ
  refine ht k x hx _ _ Pre.refl.push ?_
  rw[zax]
  refine⟨by simp; omega,m-1,by omega,?_,by omega⟩
  have e:xs.take (k+1)=xs.take k++[x]:=by rw[Va2,hx]; rfl
  rw[e,List.mapIdx_append,List.set_append_right _ _ (Vaa _)]
  have l:(xs.take k).length=k:=by rw[Vaq]; omega
  simp[l]
 ·rename_i hx
  have hk:xs.length≤k:=VaV.mp hx
  refine⟨by omega,?_⟩
  rw[VaF hk]
  exact hq
def mid (p:Int×Int):Int:=(p.1+p.2)/2
def zaE (p:Int×Int):Int×Int:=(mid p,mid p)
def zdt (p q:Int×Int):Int×Int:=(p.1+q.1,p.2+q.2)
def zbp (p q:Int×Int):Int×Int:=(p.1-q.2,p.2-q.1)
def sumP (g:Int)(us vs:List (Int×Int)):Int×Int:=(List.zip us vs).foldl (λt z=>zdt t (zaQ z.1 z.2 g)) (0,0)
def rwD (r:Bool×Nat):D:=.tup [.str (if r.1 then "zero" else "least"),.int (r.2:Int)]
def eqs (rows:List (Bool×Nat)):List Nat:=rows.filterMap λr=>if r.1 then some r.2 else none
theorem zoU {caps:List Nat}{tl te:TDE}{tc:TDT}{dl:Ev}{S S1:Sto}{Q:DK}{n:Nat}{o:Ob}(f:D→Option D)(htl:∀K:DK,K (.ref n) S1→tl dl S K)(h1:S1[n]?=some o)(hl:(zah o).length≤1000)
  (hc:∀x∈zah o,∀(S2:Sto) (K:Bool→Sto→Prop),Pre S1 S2→K (f x).isSome S2→tc (some x::zbx caps dl) S2 K)(ht:∀x∈zah o,∀y,f x=some y→∀(S2:Sto) (K:DK),Pre S1 S2→K y S2→te (some x::zbx caps dl) S2 K)(hq:Q (.ref S1.length) (S1++[.lst ((zah o).filterMap f)]))(hL:zbT o=some o:=by rfl):zco caps tl tc te dl S Q:=by
 unfold zco
 refine htl _ ⟨by rw[zaO h1 hL]; rfl,λk m S2=>S2=S1++[.lst (((zah o).take k).filterMap f)]∧m+k=(zah o).length,⟨(zah o).length,by simp,by omega⟩,?_⟩
 rintro k m S2 ⟨rfl,hm⟩
 rw[zaO (zcD h1) hL]
 dsimp only
 split
 ·rename_i x hx
  have hk:k<(zah o).length:=(Vad.mp hx).1
  have e:(zah o).take (k+1)=(zah o).take k++[x]:=by rw[Va2,hx]; rfl
  unfold zc3
  refine hc x (Vag hx) _ _ Pre.refl.push ?_
  cases ef:f x with
  | none=>
   refine zbn ?_
   refine⟨m-1,by omega,?_,by omega⟩
   rw[e,List.filterMap_append]
   simp[ef]
  | some y=>
   refine zbD ?_
   refine ht x (Vag hx) y ef _ _ Pre.refl.push ?_
   rw[zax]
   have ll:=List.length_filterMap_le f ((zah o).take k)
   refine⟨by rw[Vaq] at ll; omega,m-1,by omega,?_,by omega⟩
   rw[e,List.filterMap_append,zoa]
   simp[ef]
 ·rename_i hx
  have hk:(zah o).length≤k:=VaV.mp hx
  rw[VaF hk]
  exact hq
def zbA (g:Int)(k c:Nat)(ts:List (Int×Int))(R:List (List (Int×Int))):Int×Int:=zbp (if k=c then (g,g) else (0,0)) (sumP g ts (R.map λr=>r.getD c (0,0)))
def za9 (g:Int)(box:List (Int×Int))(thin:List (Int×Int))(R:List (List (Int×Int)))(k:Nat)(es:List Int):Int×Int:=
 zdt (zbp (zaE (gt box k)) (sumP g (es.map λe=>(e,e)) thin)) (sumP g ((List.range box.length).map λc=>zbA g k c (es.map λe=>(e,e)) R) (box.map λp=>zbp p (zaE p)))
theorem zhe (g:Int)(us vs:List (Int×Int))(k:Nat){u v:Int×Int}(hu:us[k]?=some u)(hv:vs[k]?=some v):sumP g (us.take (k+1)) (vs.take (k+1))=zdt (sumP g (us.take k) (vs.take k)) (zaQ u v g):=by
 unfold sumP
 have l1:=(Vad.mp hu).1
 have l2:=(Vad.mp hv).1
 rw[zbV hu,zbV hv,List.zip_append (by rw[Vaq,Vaq]; omega),List.foldl_append]
 rfl
theorem zow (g:Int)(us vs:List (Int×Int)):sumP g (us.take (min us.length vs.length)) (vs.take (min us.length vs.length))=sumP g us vs:=by
 unfold sumP
 congr 1
 show List.zipWith Prod.mk _ _=List.zipWith Prod.mk _ _
 rw[← List.take_zipWith,VaF (by rw[List.length_zipWith]; exact Vaa _)]
def Bd (B:Nat)(vs:List (Int×Int)):Prop:=∀p∈vs,Sz B p.1∧Sz B p.2
theorem zqi {g:Int}(hg:1≤g){us vs:List (Int×Int)}{A B:Nat}(h1:Bd A us)(h2:Bd B vs):∀k:Nat,k≤us.length→k≤vs.length→Sz (A+B+k+1) (sumP g (us.take k) (vs.take k)).1∧Sz (A+B+k+1) (sumP g (us.take k) (vs.take k)).2
 | 0,_,_=>⟨VaN (by decide),VaN (by decide)⟩
 | k+1,l1,l2=>by
  have hu:=Vac (show k<us.length by omega)
  have hv:=Vac (show k<vs.length by omega)
  rw[zhe g us vs k hu hv]
  have ih:=zqi hg h1 h2 k (by omega) (by omega)
  have a:=h1 _ (Vag hu)
  have b:=h2 _ (Vag hv)
  have m:=zlX hg a.1 a.2 b.1 b.2
  exact⟨(ih.1.add m.1).mono (by omega),(ih.2.add m.2).mono (by omega)⟩
theorem zrF {g:Int}(hg:1≤g){us vs:List (Int×Int)}{A B:Nat}(h1:Bd A us)(h2:Bd B vs)(l:us.length≤60):Sz (A+B+61) (sumP g us vs).1∧Sz (A+B+61) (sumP g us vs).2:=by
 rw[← zow]
 have z:=zqi hg h1 h2 (min us.length vs.length) (by omega) (by omega)
 exact⟨z.1.mono (by omega),z.2.mono (by omega)⟩
theorem zs9 {is:List Nat}{ta:TDA}{tb:TDS}{E:zdQ}{dl:Ev}{S:Sto}{n n':Nat}{xs ys:List D}(W:Nat→Ev→Prop)(hta:∀K:List D→Sto→Prop,K [.ref n,.ref n'] S→ta dl S K)(h1:S[n]?=some (.lst xs))(h2:S[n']?=some (.lst ys))(h0:W 0 dl)
  (hb:∀(k:Nat) (x y:D) (dl':Ev) (nx ct:Ev→Sto→Prop),xs[k]?=some x→ys[k]?=some y→W k dl'→(∀dl2,W (k+1) dl2→nx dl2 S)→tb { nx:=nx,rt:=E.rt,bk:=E.nx,ct:=ct } (zfJ is [x,y] dl') S)(he:∀dl',W (min xs.length ys.length) dl'→E.nx dl' S):zlC is ta tb E dl S:=by
 unfold zlC
 refine hta _ ⟨⟨by rw[zaO h1 rfl]; rfl,by rw[zaO h2 rfl]; rfl⟩,λk m dl' S'=>S'=S∧W k dl'∧k+m=min xs.length ys.length,⟨min xs.length ys.length,rfl,h0,by simp⟩,?_⟩
 rintro k m dl' S' ⟨rfl,w,hk⟩
 simp only[zaO h1 rfl,zaO h2 rfl,zah]
 split
 ·rename_i x y e1 e2
  have l1:=(Vad.mp e1).1
  have l2:=(Vad.mp e2).1
  exact hb k x y dl' _ _ e1 e2 w (λdl2 w2=>⟨m-1,by omega,rfl,w2,by omega⟩)
 ·rename_i no
  have ek:k=min xs.length ys.length:=by
   by_cases l:k<min xs.length ys.length
   ·exact absurd (Vac (l:=ys) (i:=k) (by omega)) (no _ _ (Vac (l:=xs) (i:=k) (by omega)))
   ·omega
  exact⟨ek,he _ (ek ▸ w)⟩
theorem zoy {B:Nat}{p:Int×Int}(h1:Sz B p.1)(h2:Sz B p.2):Sz (B+1) (mid p):=(h1.add h2).div (by decide) |>.mono (by omega)
theorem zqm {B C:Nat}{p q:Int×Int}(hp:Sz B p.1∧Sz B p.2)(hq:Sz C q.1∧Sz C q.2):Sz (max B C+1) (zbp p q).1∧Sz (max B C+1) (zbp p q).2:=⟨hp.1.sub hq.2,hp.2.sub hq.1⟩
def zfN (S:Sto)(ds:List D)(M:List (List Int)):Prop:=ds.length=M.length∧∀(k:Nat) (d:D) (r:List Int),ds[k]?=some d→M[k]?=some r→∃a,d=.ref a∧S[a]?=some (.lst (r.map D.int))
theorem zfN.pre {S T:Sto}{ds:List D}{M:List (List Int)}(h:zfN S ds M)(p:Pre S T):zfN T ds M:=⟨h.1,λk d r hd hr=>by
 obtain⟨a,e,s⟩:=h.2 k d r hd hr
 exact⟨a,e,p _ _ s⟩⟩
theorem zpL {p:Int×Int}(h:p.1≤p.2):p.1≤mid p∧mid p≤p.2:=by unfold mid; omega
theorem zmR {B:Nat}{bs:List (Int×Int)}(h:Spn B bs):Spn B (bs.map zaE):=λp hp=>by
 obtain⟨x,hx,rfl⟩:=Vah.mp hp
 obtain⟨a,b,c⟩:=h x hx
 have z:=zpL a
 have s:Sz B (mid x):=by
  unfold Sz at *
  omega
 exact⟨Vat _,s,s⟩
theorem zm4 {A B x:Int}(y:Int)(h1:A≤x)(h2:x≤B):min (A*y) (B*y)≤x*y∧x*y≤max (A*y) (B*y):=by
 rcases Int.le_total 0 y with h | h
 ·have a:=Vae h1 h
  have b:=Vae h2 h
  omega
 ·have a:=Vae h1 (show 0≤-y by omega)
  have b:=Vae h2 (show 0≤-y by omega)
  simp only[Int.mul_neg] at a b
  omega
theorem zpm {A B C D x y:Int}(h1:A≤x)(h2:x≤B)(h3:C≤y)(h4:y≤D):mn4 A B C D≤x*y∧x*y≤mx4 A B C D:=by
 have a:=zm4 y h1 h2
 have b:=zm4 A h3 h4
 have c:=zm4 B h3 h4
 rw[Va0 C A,Va0 D A,Va0 y A] at b
 rw[Va0 C B,Va0 D B,Va0 y B] at c
 unfold mn4 mx4
 omega
theorem zmA {vs:List (Int×Int)}{p:Int×Int}{i:Int}(h:inR vs.length i):gt (vs++[p]) i=gt vs i:=by
 have hk:i.toNat<vs.length:=by
  have:=h.1
  have:=h.2
  omega
 simp only[gt,Vai,Val hk]
theorem zhA {vs:List (Int×Int)}{p:Int×Int}{k:Nat}(h:vs.length=k):gt (vs++[p]) (k:Int)=p:=by
 subst h
 simp[gt]
def Gd (B:Nat)(vs:List (Int×Int)):Prop:=∀p∈vs,1≤p.2∧Int.gcd p.1 p.2=1∧Sz B p.1∧Sz B p.2
theorem Gd.at {B:Nat}{vs:List (Int×Int)}(h:Gd B vs){i:Int}(hi:inR vs.length i):1≤(gt vs i).2∧Int.gcd (gt vs i).1 (gt vs i).2=1∧Sz B (gt vs i).1∧Sz B (gt vs i).2:=h _ (zd0 hi)
theorem Gd.mono {B C:Nat}{vs:List (Int×Int)}(h:Gd B vs)(hc:B≤C):Gd C vs:=λp hp=>⟨(h p hp).1,(h p hp).2.1,(h p hp).2.2.1.mono hc,(h p hp).2.2.2.mono hc⟩
def Pz (B:Nat)(vs:List (Int×Int)):Prop:=∀p∈vs,1≤p.2∧Sz B p.1∧Sz B p.2
theorem Pz.at {B:Nat}{vs:List (Int×Int)}(h:Pz B vs){i:Int}(hi:inR vs.length i):1≤(gt vs i).2∧Sz B (gt vs i).1∧Sz B (gt vs i).2:=h _ (zd0 hi)
def Nd.due (vs ps:List (Int×Int)):Nd→Int×Int
 | .number t b=>(t,b)
 | .unknown k=>gt ps k
 | .plus i j=>((gt vs i).1*(gt vs j).2+(gt vs j).1*(gt vs i).2,(gt vs i).2*(gt vs j).2)
 | .minus i j=>((gt vs i).1*(gt vs j).2-(gt vs j).1*(gt vs i).2,(gt vs i).2*(gt vs j).2)
 | .times i j=>((gt vs i).1*(gt vs j).1,(gt vs i).2*(gt vs j).2)
 | .power i n=>((gt vs i).1^n.toNat,(gt vs i).2^n.toNat)
def PzW (ws:List Nat)(vs:List (Int×Int)):Prop:=∀(k:Nat) (p:Int×Int),vs[k]?=some p→1≤p.2∧Sz (112*ws.getD k 0-2) p.1∧Sz (112*ws.getD k 0-2) p.2
theorem PzW.at {ws:List Nat}{vs:List (Int×Int)}(h:PzW ws vs){i:Int}(hi:inR vs.length i):1≤(gt vs i).2∧Sz (112*ws.getD i.toNat 0-2) (gt vs i).1∧Sz (112*ws.getD i.toNat 0-2) (gt vs i).2:=by
 obtain⟨h0,h1⟩:=hi
 have hk:i.toNat<vs.length:=by omega
 have e:gt vs i=vs[i.toNat]:=by simp[gt,hk]
 rw[e]
 exact h _ _ (Vac hk)
theorem due_w {ws:List Nat}{vs ps:List (Int×Int)}(hs:PzW ws vs)(hp:Pz 110 ps)(hw:∀i:Int,inR vs.length i→1≤ws.getD i.toNat 0):∀v:Nd,v.ok vs.length ps.length→1≤(v.due vs ps).2∧Sz (112*v.wt ws-2) (v.due vs ps).1∧Sz (112*v.wt ws-2) (v.due vs ps).2
 | .number t b,ok=>⟨ok.1.1,(Sz.of (n:=31) (10^9) ok.2.2).mono (show 31≤112*1-2 by decide),(Sz.of (n:=31) (10^9) (by have:=ok.1; show b.natAbs≤_; omega)).mono (show 31≤112*1-2 by decide)⟩
 | .unknown k,ok=>⟨(hp.at ok).1,(hp.at ok).2.1.mono (show 110≤112*1-2 by decide),(hp.at ok).2.2.mono (show 110≤112*1-2 by decide)⟩
 | .plus i j,ok=>by
  have a:=hs.at ok.1
  have b:=hs.at ok.2
  have p:=hw i ok.1
  have q:=hw j ok.2
  exact⟨VaC (show 0<_ by omega) (show 0<_ by omega),((a.2.1.mul b.2.2).add (b.2.1.mul a.2.2)).mono (by simp only[Nd.wt]; omega),(a.2.2.mul b.2.2).mono (by simp only[Nd.wt]; omega)⟩
 | .minus i j,ok=>by
  have a:=hs.at ok.1
  have b:=hs.at ok.2
  have p:=hw i ok.1
  have q:=hw j ok.2
  exact⟨VaC (show 0<_ by omega) (show 0<_ by omega),((a.2.1.mul b.2.2).sub (b.2.1.mul a.2.2)).mono (by simp only[Nd.wt]; omega),(a.2.2.mul b.2.2).mono (by simp only[Nd.wt]; omega)⟩
 | .times i j,ok=>by
  have a:=hs.at ok.1
  have b:=hs.at ok.2
  have p:=hw i ok.1
  have q:=hw j ok.2
  exact⟨VaC (show 0<_ by omega) (show 0<_ by omega),(a.2.1.mul b.2.1).mono (by simp only[Nd.wt]; omega),(a.2.2.mul b.2.2).mono (by simp only[Nd.wt]; omega)⟩
 | .power i n,ok=>by
  have a:=hs.at ok.1
  have p:=hw i ok.1
  have n2:=ok.2.1
  have hn:(112*ws.getD i.toNat 0-2)*n.toNat+1≤112*Nd.wt ws (.power i n)-2:=by
   simp only[Nd.wt]
   rw[Nat.sub_mul]
   have e:112*ws.getD i.toNat 0*n.toNat=112*(n.toNat*ws.getD i.toNat 0):=by rw[Nat.mul_assoc,Nat.mul_comm (ws.getD i.toNat 0)]
   have m1:=Va5 (Vaa n.toNat) p
   omega
  exact⟨VaL (show 0<_ by omega),(a.2.1.pow _).mono hn,(a.2.2.pow _).mono hn⟩
def zal (ps:List (Int×Int))(ns:List Nd):List (Int×Int):=ns.foldl (λacc v=>acc++[v.due acc ps]) []
theorem zdD (ps:List (Int×Int))(ns:List Nd)(v:Nd):zal ps (ns++[v])=zal ps ns++[v.due (zal ps ns) ps]:=by
 unfold zal
 rw[List.foldl_append]
 rfl
theorem zb4 (ps:List (Int×Int))(ns:List Nd):(zal ps ns).length=ns.length:=by
 have z:∀k,k≤ns.length→(zal ps (ns.take k)).length=k:=λk=>by
  induction k with
  | zero=>intro _; rfl
  | succ k ih=>
   intro hk
   rw[zbV (Vac (show k<ns.length by omega)),zdD]
   simp[ih (by omega)]
 have y:=z ns.length (Vaa _)
 rwa [Vay] at y
theorem zwy {ws:List Nat}{vs:List (Int×Int)}{p:Int×Int}{k:Nat}(h:PzW ws vs)(lk:vs.length=k)(hp:1≤p.2∧Sz (112*ws.getD k 0-2) p.1∧Sz (112*ws.getD k 0-2) p.2):PzW ws (vs++[p]):=λi q hq=>by
 by_cases hi:i<k
 ·rw[Val (by omega)] at hq
  exact h i q hq
 ·have hl:=(Vad.mp hq).1
  simp only[Vav,VaE,Va3,lk] at hl
  have ei:i=k:=by omega
  subst ei
  rw[VaG (by omega),lk,Vbb] at hq
  simp at hq
  subst hq
  exact hp
theorem zwq {q:Int}{ns:List Nd}{ws:List Nat}(h:zaD q ns ws){k:Nat}{vs:List (Int×Int)}(hk:k≤ns.length)(lv:vs.length=k):∀i:Int,inR vs.length i→1≤ws.getD i.toNat 0:=λi hi=>(h.w1 (i:=i) ⟨hi.1,by have:=hi.2; omega⟩).1
theorem zef {q:Int}{ns:List Nd}{ws:List Nat}{ps:List (Int×Int)}(h:zaD q ns ws)(hq:q=ps.length)(hp:Pz 110 ps):∀k,k≤ns.length→PzW ws (zal ps (ns.take k)):=by
 intro k
 induction k with
 | zero=>intro _ i p hp; simp[zal] at hp
 | succ k ih=>
  intro hk
  have hv:=Vac (show k<ns.length by omega)
  have s:=ih (by omega)
  have ln:(zal ps (ns.take k)).length=k:=by rw[zb4,Vaq]; omega
  obtain⟨ok,e,_,_⟩:=h.ok k _ hv
  rw[zbV hv,zdD]
  refine zwy s ln ?_
  rw[e]
  exact due_w s hp (zwq h (by omega) ln) _ (by rw[ln,← hq]; exact ok)
theorem Pz.of_w {ws:List Nat}{vs:List (Int×Int)}(h:PzW ws vs)(hw:∀k:Nat,k<vs.length→ws.getD k 0≤16):Pz 1800 vs:=λp hp=>by
 obtain⟨k,hk,e⟩:=VaJ.mp hp
 obtain⟨a,b,c⟩:=h k p (by rw[Vac hk,e])
 have:=hw k hk
 exact⟨a,b.mono (by omega),c.mono (by omega)⟩
theorem zdw {p q k:Int}(h:0≤k):min (p*k) (q*k)=min p q*k∧max (p*k) (q*k)=max p q*k:=by
 rcases Int.le_total p q with c | c
 ·have:=Vae c h
  rw[Int.min_eq_left c,Int.max_eq_right c]
  omega
 ·have:=Vae c h
  rw[Int.min_eq_right c,Int.max_eq_left c]
  omega
theorem zkl {a b c d p q:Int}(h:0≤p*q):mn4 (a*p) (b*p) (c*q) (d*q)=mn4 a b c d*(p*q)∧mx4 (a*p) (b*p) (c*q) (d*q)=mx4 a b c d*(p*q):=by
 have e:∀x y:Int,x*p*(y*q)=x*y*(p*q):=λx y=>by grind
 unfold mn4 mx4
 rw[e,e,e,e]
 refine⟨?_,?_⟩
 ·rw[(zdw h).1,(zdw h).1,(zdw h).1]
 ·rw[(zdw h).2,(zdw h).2,(zdw h).2]
theorem zxm {a b p x:Int}{n:Nat}(hn:1≤n)(hp:1≤p)(h1:a*p≤x)(h2:x≤b*p):zaH a b n*p^n≤x^n∧x^n≤za0 a b n*p^n:=by
 have pp:0<p^n:=VaL (by omega)
 have lo1:zaH a b n≤a^n:=by
  unfold zaH
  split
  ·rename_i c; exact zdr c.1 a
  ·omega
 have lo2:zaH a b n≤b^n:=by
  unfold zaH
  split
  ·rename_i c; exact zdr c.1 b
  ·omega
 refine zvf hn h1 h2 ?_ ?_ (λha hb=>?_) ?_ ?_
 ·rw[VaR]; exact Vae lo1 (by omega)
 ·rw[VaR]; exact Vae lo2 (by omega)
 ·have a0:a<0:=by
   by_cases c:a<0
   ·exact c
   ·have:=Vax (show 0≤a by omega) (show 0≤p by omega)
    omega
  have b0:0<b:=by
   by_cases c:0<b
   ·exact c
   ·have:=Vax (show 0≤-b by omega) (show 0≤p by omega)
    rw[Va1] at this
    omega
  have z:zaH a b n≤0:=by
   unfold zaH
   split
   ·exact Vat _
   ·rename_i c
    have:=zjI (n:=n) (by omega) a0
    omega
  have:=Vax (show 0≤-zaH a b n by omega) (show 0≤p^n by omega)
  rw[Va1] at this
  omega
 ·rw[VaR]; exact Vae (by unfold za0; omega) (by omega)
 ·rw[VaR]; exact Vae (by unfold za0; omega) (by omega)
theorem znB {m M G X B:Int}(hG:1≤G)(hB:0≤B)(h1:m*B≤X*G)(h2:X*G≤M*B):m/G*B≤X∧X≤-(-M/G)*B:=by
 have a:=Vae (zfD m (show 0<G by omega)).1 hB
 have b:=Vae (zj2 M (show 0<G by omega)).1 hB
 have e1:m/G*G*B=m/G*B*G:=by grind
 have e2:-(-M/G)*G*B=-(-M/G)*B*G:=by grind
 rw[e1] at a
 rw[e2] at b
 exact⟨VaK (a:=G) (by omega) (by omega),VaK (a:=G) (by omega) (by omega)⟩
theorem ifNF {c:Prop} [Decidable c] {A B:Prop}(h:c)(b:B):if (!decide c)=true then A else B:=by
 rw[decide_eq_true h]
 exact b
def InW (g:Int)(vs ds:List (Int×Int)):Prop:=∀i:Int,inR ds.length i→(gt vs i).1*(gt ds i).2≤(gt ds i).1*g∧(gt ds i).1*g≤(gt vs i).2*(gt ds i).2
theorem zvB {vs bs ds ps:List (Int×Int)}{g:Int}{B:Nat}(hg:1≤g)(h:InW g vs ds)(hp:InW g bs ps)(pd:Pz B ds)(pp:Pz B ps):∀v:Nd,v.ok ds.length ps.length→(v.fw vs bs g).1*(v.due ds ps).2≤(v.due ds ps).1*g∧(v.due ds ps).1*g≤(v.fw vs bs g).2*(v.due ds ps).2
 | .number t b,ok=>⟨(zfD (t*g) (show 0<b by have:=ok.1.1; omega)).1,(zj2 (t*g) (show 0<b by have:=ok.1.1; omega)).1⟩
 | .unknown k,ok=>hp k ok
 | .plus i j,ok=>by
  have a:=h i ok.1
  have b:=h j ok.2
  have p1:=(pd.at ok.1).1
  have p2:=(pd.at ok.2).1
  simp only[Nd.fw,Nd.due]
  have a1:=Vae a.1 (show 0≤(gt ds j).2 by omega)
  have a2:=Vae a.2 (show 0≤(gt ds j).2 by omega)
  have b1:=Vae b.1 (show 0≤(gt ds i).2 by omega)
  have b2:=Vae b.2 (show 0≤(gt ds i).2 by omega)
  grind
 | .minus i j,ok=>by
  have a:=h i ok.1
  have b:=h j ok.2
  have p1:=(pd.at ok.1).1
  have p2:=(pd.at ok.2).1
  simp only[Nd.fw,Nd.due]
  have a1:=Vae a.1 (show 0≤(gt ds j).2 by omega)
  have a2:=Vae a.2 (show 0≤(gt ds j).2 by omega)
  have b1:=Vae b.1 (show 0≤(gt ds i).2 by omega)
  have b2:=Vae b.2 (show 0≤(gt ds i).2 by omega)
  grind
 | .times i j,ok=>by
  have a:=h i ok.1
  have b:=h j ok.2
  have p1:=(pd.at ok.1).1
  have p2:=(pd.at ok.2).1
  have pq:0≤(gt ds i).2*(gt ds j).2:=Vax (by omega) (by omega)
  have z:=zpm a.1 a.2 b.1 b.2
  rw[(zkl pq).1,(zkl pq).2] at z
  have e:(gt ds i).1*g*((gt ds j).1*g)=(gt ds i).1*(gt ds j).1*g*g:=by grind
  rw[e] at z
  exact znB hg pq z.1 z.2
 | .power i n,ok=>by
  have a:=h i ok.1
  have p1:=(pd.at ok.1).1
  have n2:=ok.2.1
  obtain⟨k,hk⟩:∃k,n.toNat=k+1:=⟨n.toNat-1,by omega⟩
  have z:=zxm (n:=n.toNat) (by omega) p1 a.1 a.2
  have e:((gt ds i).1*g)^n.toNat=(gt ds i).1^n.toNat*g*g^(n.toNat-1):=by
   rw[VaR,hk,Nat.add_sub_cancel,Var g k]
   grind
  rw[e] at z
  exact znB (VaL (by omega)) (Int.le_of_lt (VaL (by omega))) z.1 z.2
theorem znW {q:Int}{ns:List Nd}{ws:List Nat}{bs ps:List (Int×Int)}{g:Int}(h:zaD q ns ws)(hq:q=bs.length)(hqp:q=ps.length)(hg:1≤g)(hp:InW g bs ps)(pp:Pz 110 ps):∀k,k≤ns.length→InW g (zar bs g (ns.take k)) (zal ps (ns.take k)):=by
 intro k
 induction k with
 | zero=>intro _ i hi; exact absurd hi.2 (by have:=hi.1; simp[zal]; omega)
 | succ k ih=>
  intro hk i hi
  have hv:ns[k]?=some ns[k]:=Vac (by omega)
  obtain⟨ok,_⟩:=h.ok k _ hv
  have ln:(zar bs g (ns.take k)).length=k:=by rw[zcf,Vaq]; omega
  have lN:(zal ps (ns.take k)).length=k:=by rw[zb4,Vaq]; omega
  rw[zbV hv,zdD] at hi
  rw[zbV hv,zge,zdD]
  have hi2:i<k+1:=by have:=hi.2; simp only[Vav,VaE,Va3,lN] at this; omega
  by_cases c:i<k
  ·rw[zmA (by rw[ln]; exact⟨hi.1,c⟩),zmA (by rw[lN]; exact⟨hi.1,c⟩)]
   exact ih (by omega) i (by rw[lN]; exact⟨hi.1,c⟩)
  ·have e:i=k:=by omega
   subst e
   rw[zhA ln,zhA lN]
   have pz:Pz 1800 (zal ps (ns.take k)):=Pz.of_w (zef h hqp pp k (by omega)) λj hj=>(h.w1 (i:=j) ⟨by omega,by omega⟩).2
   refine zvB (B:=1800) hg (ih (by omega)) hp pz (λp hp=>⟨(pp p hp).1,(pp p hp).2.1.mono (by decide),(pp p hp).2.2.mono (by decide)⟩) _ ?_
   rw[lN,← hqp]
   exact ok
def hs:Nat→Int→Int→Int
 | 0,_,_=>0
 | k+1,x,y=>x*hs k x y+y^k
theorem zf6 (x y:Int):∀n:Nat,(x-y)*hs n x y=x^n-y^n
 | 0=>by simp[hs]
 | k+1=>by
  have z:=zf6 x y k
  have e:(x-y)*hs (k+1) x y=x*((x-y)*hs k x y)+(x-y)*y^k:=by
   show (x-y)*(x*hs k x y+y^k)=_
   grind
  rw[e,z,Var,Var]
  grind
theorem zjP (x:Int):∀n:Nat,hs (n+1) x x=((n+1:Nat):Int)*x^n
 | 0=>by simp[hs]
 | k+1=>by
  show x*hs (k+1) x x+x^(k+1)=_
  rw[zjP x k,Var]
  have e:((k+1+1:Nat):Int)=((k+1:Nat):Int)+1:=by omega
  rw[e]
  grind
theorem zox (x y g:Int):∀n:Nat,hs (n+1) (x*g) (y*g)=hs (n+1) x y*g^n
 | 0=>by simp[hs]
 | k+1=>by
  show x*g*hs (k+1) (x*g) (y*g)+(y*g)^(k+1)=(x*hs (k+1) x y+y^(k+1))*g^(k+1)
  rw[zox x y g k,VaR,Var g]
  grind
theorem zvI (x y:Int)(n:Nat):hs n x y=hs n y x:=by
 by_cases e:x=y
 ·rw[e]
 ·have a:=zf6 x y n
  have b:=zf6 y x n
  have c:(x-y)*hs n x y=(x-y)*hs n y x:=by grind
  exact Int.eq_of_mul_eq_mul_left (by omega) c
theorem zqp (x y:Int)(n:Nat):hs (n+1) (-x) (-y)=hs (n+1) x y*(-1)^n:=by
 have z:=zox x y (-1) n
 rw[Int.mul_neg_one,Int.mul_neg_one] at z
 exact z
theorem zk2 {a b:Int}(h0:0≤a)(h:a≤b):∀n:Nat,a^n≤b^n
 | 0=>by simp
 | k+1=>by
  rw[Var,Var]
  exact Vbi (zk2 h0 h k) h h0 (VaO (by omega))
theorem zk7 {x y:Int}(hx:0≤x)(hy:0≤y):∀n:Nat,0≤hs n x y
 | 0=>Vat _
 | k+1=>Int.add_nonneg (Vax hx (zk7 hx hy k)) (VaO hy)
theorem znZ {x y u v:Int}(hx:0≤x)(hy:0≤y)(h1:x≤u)(h2:y≤v):∀n:Nat,hs n x y≤hs n u v
 | 0=>Vat _
 | k+1=>Int.add_le_add (Vbi h1 (znZ hx hy h1 h2 k) (zk7 hx hy k) (by omega)) (zk2 hy h2 k)
theorem zeL {n:Nat}(x:Int):(-x)^n=x^n*(-1)^n:=by
 rw[← VaR,Int.mul_neg_one]
theorem zd2 {n:Nat}(h:n%2=0):(-1:Int)^n=1:=by
 obtain⟨k,rfl⟩:∃k,n=2*k:=⟨n/2,by omega⟩
 rw[Int.pow_mul]
 show (1:Int)^k=1
 exact Int.one_pow
theorem zoM {n:Nat}(h:n%2=1):(-1:Int)^n=-1:=by
 obtain⟨k,rfl⟩:∃k,n=2*k+1:=⟨n/2,by omega⟩
 rw[Var,zd2 (by omega)]
 rfl
theorem zu3 {a b:Int}(ha:0≤a)(hb:0≤b)(m:Nat):(m%2=0→0≤hs (m+1) (-a) b∧hs (m+1) (-a) b≤max (a^m) (b^m))∧(m%2=1→-(a^m)≤hs (m+1) (-a) b∧hs (m+1) (-a) b≤b^m):=by
 have pa:0≤a^m:=VaO ha
 have pb:0≤b^m:=VaO hb
 by_cases z:a+b=0
 ·have a0:a=0:=by omega
  have b0:b=0:=by omega
  subst a0 b0
  have e:hs (m+1) (-0) 0=((m+1:Nat):Int)*0^m:=zjP 0 m
  rw[e]
  cases m with
  | zero=>simp
  | succ m=>simp[Var]
 have pos:0<a+b:=by omega
 have k:=zf6 (-a) b (m+1)
 have e1:(-a)^(m+1)=a^(m+1)*(-1)^(m+1):=zeL a
 have ea:a^(m+1)=a^m*a:=Var a m
 have eb:b^(m+1)=b^m*b:=Var b m
 have pab:=Vax pa hb
 have pba:=Vax pb ha
 have paa:=Vax pa ha
 have pbb:=Vax pb hb
 refine⟨λev=>?_,λod=>?_⟩
 ·rw[e1,zoM (show (m+1)%2=1 by omega)] at k
  have k2:(a+b)*hs (m+1) (-a) b=a^m*a+b^m*b:=by grind
  refine⟨?_,?_⟩
  ·have q:0*(a+b)≤hs (m+1) (-a) b*(a+b):=by grind
   exact VaK q pos
  ·have m1:=Vae (show a^m≤max (a^m) (b^m) by omega) ha
   have m2:=Vae (show b^m≤max (a^m) (b^m) by omega) hb
   generalize max (a^m) (b^m)=M at m1 m2
   have q:hs (m+1) (-a) b*(a+b)≤M*(a+b):=by grind
   exact VaK q pos
 ·rw[e1,zd2 (show (m+1)%2=0 by omega)] at k
  have k2:(a+b)*hs (m+1) (-a) b=b^m*b-a^m*a:=by grind
  refine⟨?_,?_⟩
  ·have q:-(a^m)*(a+b)≤hs (m+1) (-a) b*(a+b):=by grind
   exact VaK q pos
  ·have q:hs (m+1) (-a) b*(a+b)≤b^m*(a+b):=by grind
   exact VaK q pos
theorem zjT {L H x y:Int}(h0:0≤L)(x1:L≤x)(x2:x≤H)(y1:L≤y)(y2:y≤H)(m:Nat):((m+1:Nat):Int)*L^m≤hs (m+1) x y∧hs (m+1) x y≤((m+1:Nat):Int)*H^m:=by
 rw[← zjP,← zjP]
 exact⟨znZ h0 h0 x1 y1 _,znZ (by omega) (by omega) x2 y2 _⟩
theorem zxs {L H x y:Int}(x1:L≤x)(x2:x≤H)(y1:L≤y)(y2:y≤H){m:Nat}(hm:1≤m):((m+1:Nat):Int)*zaH L H m≤hs (m+1) x y∧hs (m+1) x y≤((m+1:Nat):Int)*za0 L H m:=by
 have n0:(0:Int)≤((m+1:Nat):Int):=by omega
 have up:∀ {u v:Int},u≤v→((m+1:Nat):Int)*u≤((m+1:Nat):Int)*v:=λh=>Int.mul_le_mul_of_nonneg_left h n0
 have lo1:zaH L H m≤L^m:=by
  unfold zaH
  split
  ·rename_i c; exact zdr c.1 L
  ·omega
 have lo2:zaH L H m≤H^m:=by
  unfold zaH
  split
  ·rename_i c; exact zdr c.1 H
  ·omega
 have hi1:L^m≤za0 L H m:=by unfold za0; omega
 have hi2:H^m≤za0 L H m:=by unfold za0; omega
 have big:∀ {u:Int},0≤u→u≤((m+1:Nat):Int)*u:=λ{u} h=>by
  have:=Vax (show (0:Int)≤(m:Int) by omega) h
  have e:((m+1:Nat):Int)*u=(m:Int)*u+u:=by
   have:((m+1:Nat):Int)=(m:Int)+1:=by omega
   rw[this]; grind
  omega
 have pp:0≤x→0≤y→((m+1:Nat):Int)*zaH L H m≤hs (m+1) x y∧hs (m+1) x y≤((m+1:Nat):Int)*za0 L H m:=λhx hy=>by
  have hiH:=(zjT (L:=0) (Vat _) hx x2 hy y2 m).2
  refine⟨?_,Vbk hiH (up hi2)⟩
  by_cases c:0≤L
  ·exact Vbk (up lo1) (zjT c x1 x2 y1 y2 m).1
  ·have nn:=zk7 hx hy (m+1)
   have z:zaH L H m≤0:=by
    by_cases p:m%2=0
    ·unfold zaH
     rw[if_pos ⟨p,by omega,by omega⟩]
     exact Vat _
    ·have:=zjI (n:=m) (by omega) (show L<0 by omega)
     omega
   have:=up z
   omega
 have mm:x≤0→y≤0→((m+1:Nat):Int)*zaH L H m≤hs (m+1) x y∧hs (m+1) x y≤((m+1:Nat):Int)*za0 L H m:=λhx hy=>by
  have top:=(zjT (L:=0) (H:=-L) (x:=-x) (y:=-y) (Vat _) (by omega) (by omega) (by omega) (by omega) m).2
  have nn:=zk7 (x:=-x) (y:=-y) (by omega) (by omega) (m+1)
  rw[zqp] at top nn
  rw[zeL L] at top
  have low:H≤0→((m+1:Nat):Int)*(H^m*(-1)^m)≤hs (m+1) x y*(-1)^m:=λc=>by
   have z:=(zjT (L:=-H) (H:=-L) (x:=-x) (y:=-y) (by omega) (by omega) (by omega) (by omega) (by omega) m).1
   rw[zqp,zeL H] at z
   exact z
  by_cases p:m%2=0
  ·rw[zd2 p,VaY,VaY] at top
   rw[zd2 p,VaY] at nn
   refine⟨?_,Vbk top (up hi1)⟩
   by_cases c:H≤0
   ·have z:=low c
    rw[zd2 p,VaY,VaY] at z
    exact Vbk (up lo2) z
   ·have z:zaH L H m=0:=by
     unfold zaH
     rw[if_pos ⟨p,by omega,by omega⟩]
    rw[z]
    omega
  ·have p':m%2=1:=by omega
   rw[zoM p'] at top nn low
   have top':((m+1:Nat):Int)*L^m≤hs (m+1) x y:=by grind
   refine⟨Vbk (up lo1) top',?_⟩
   by_cases c:H≤0
   ·have z:=low c
    have z':hs (m+1) x y≤((m+1:Nat):Int)*H^m:=by grind
    exact Vbk z' (up hi2)
   ·have:0≤H^m:=VaO (by omega)
    have:=up (show (0:Int)≤za0 L H m by omega)
    omega
 have mix:∀ {x y:Int},L≤x→y≤H→x≤0→0≤y→((m+1:Nat):Int)*zaH L H m≤hs (m+1) x y∧hs (m+1) x y≤((m+1:Nat):Int)*za0 L H m:=λ{x y} x1 y2 hx hy=>by
  have z:=zu3 (a:=-x) (b:=y) (by omega) hy m
  rw[Int.neg_neg] at z
  have ax:=zk2 (show (0:Int)≤-x by omega) (show -x≤-L by omega) m
  rw[zeL x,zeL L] at ax
  rw[zeL x] at z
  have by':=zk2 hy y2 m
  have pH:0≤H^m:=VaO (by omega)
  by_cases p:m%2=0
  ·obtain⟨z1,z2⟩:=z.1 p
   rw[zd2 p,VaY] at z2
   rw[zd2 p,VaY,VaY] at ax
   have zl:zaH L H m=0:=by
    unfold zaH
    rw[if_pos ⟨p,by omega,by omega⟩]
   rw[zl]
   refine⟨by omega,?_⟩
   have:=big (u:=za0 L H m) (by omega)
   omega
  ·have p':m%2=1:=by omega
   obtain⟨z1,z2⟩:=z.2 p'
   rw[zoM p'] at z1 ax
   have ax':L^m≤x^m:=by grind
   have z1':x^m≤hs (m+1) x y:=by grind
   refine⟨?_,?_⟩
   ·have l0:L^m≤0:=by
     rcases Int.lt_or_eq_of_le (show L≤0 by omega) with c | c
     ·have:=zjI (n:=m) p' c
      omega
     ·rw[c,zkj hm]
      exact Vat _
    have b:=big (u:=-(L^m)) (by omega)
    have b':((m+1:Nat):Int)*L^m≤L^m:=by grind
    have:=up lo1
    omega
   ·have:=big (u:=za0 L H m) (by omega)
    omega
 rcases Int.le_total 0 x with hx | hx
 ·rcases Int.le_total 0 y with hy | hy
  ·exact pp hx hy
  ·rw[zvI]
   exact mix y1 x2 hy hx
 ·rcases Int.le_total 0 y with hy | hy
  ·exact mix x1 y2 hx hy
  ·exact mm hx hy
theorem zqE {a b p:Int}{n:Nat}(hp:1≤p):zaH (a*p) (b*p) n=zaH a b n*p^n∧za0 (a*p) (b*p) n=za0 a b n*p^n:=by
 have pp:0≤p^n:=VaO (by omega)
 have sgn:∀x:Int,(x*p≤0↔x≤0)∧(0≤x*p↔0≤x):=λx=>by
  refine⟨⟨λh=>?_,λh=>?_⟩,⟨λh=>?_,λh=>Vax h (by omega)⟩⟩
  ·exact VaK (show x*p≤0*p by omega) (by omega)
  ·have:=Vae h (show 0≤p by omega)
   omega
  ·exact VaK (show 0*p≤x*p by omega) (by omega)
 unfold zaH za0
 rw[VaR,VaR,(zdw pp).1,(zdw pp).2]
 refine⟨?_,rfl⟩
 by_cases c:n%2=0∧a≤0∧0≤b
 ·rw[if_pos c,if_pos ⟨c.1,(sgn a).1.mpr c.2.1,(sgn b).2.mpr c.2.2⟩,VaU]
 ·rw[if_neg c,if_neg (λz=>c ⟨z.1,(sgn a).1.mp z.2.1,(sgn b).2.mp z.2.2⟩)]
def zaZ:Nat→(Nat→Int)→Int
 | 0,_=>0
 | k+1,f=>zaZ k f+f k
theorem zlL (a b:Int)(m n s:Nat→Int):∀q,zaZ q (λk=>(a*m k+b*n k)*s k)=a*zaZ q (λk=>m k*s k)+b*zaZ q (λk=>n k*s k)
 | 0=>by simp[zaZ]
 | q+1=>by
  show zaZ q _+_=a*(zaZ q _+_)+b*(zaZ q _+_)
  rw[zlL a b m n s q]
  grind
theorem zpB (a:Int)(m s:Nat→Int):∀q,zaZ q (λk=>(a*m k)*s k)=a*zaZ q (λk=>m k*s k)
 | 0=>by simp[zaZ]
 | q+1=>by
  show zaZ q _+_=a*(zaZ q _+_)
  rw[zpB a m s q]
  grind
def Dif (U:Int)(q:Nat)(s:Nat→Int)(f l:Int×Int)(row:Nat→Int×Int):Prop:=
 ∃(d:Int) (n:Nat→Int),1≤d∧(∀k,k<q→(row k).1*d≤n k∧n k≤(row k).2*d)∧(f.1*l.2-l.1*f.2)*U*d=f.2*l.2*zaZ q (λk=>n k*s k)
theorem zuK {U:Int}{q:Nat}{s:Nat→Int}{a b c e:Int×Int}{r t:Nat→Int×Int}(h1:Dif U q s a c r)(h2:Dif U q s b e t):
  Dif U q s (a.1*b.2+b.1*a.2,a.2*b.2) (c.1*e.2+e.1*c.2,c.2*e.2) (λk=>((r k).1+(t k).1,(r k).2+(t k).2)):=by
 obtain⟨d1,n1,p1,b1,e1⟩:=h1
 obtain⟨d2,n2,p2,b2,e2⟩:=h2
 refine⟨d1*d2,λk=>d2*n1 k+d1*n2 k,VaC (by omega) (by omega),λk hk=>?_,?_⟩
 ·obtain⟨x1,x2⟩:=b1 k hk
  obtain⟨y1,y2⟩:=b2 k hk
  have u1:=Vae x1 (show 0≤d2 by omega)
  have u2:=Vae x2 (show 0≤d2 by omega)
  have v1:=Vae y1 (show 0≤d1 by omega)
  have v2:=Vae y2 (show 0≤d1 by omega)
  try dsimp only
  constructor <;> grind
 ·rw[zlL]
  generalize zaZ q (λk=>n1 k*s k)=S1 at e1
  generalize zaZ q (λk=>n2 k*s k)=S2 at e2
  try dsimp only
  grind
theorem zru {U:Int}{q:Nat}{s:Nat→Int}{a b c e:Int×Int}{r t:Nat→Int×Int}(h1:Dif U q s a c r)(h2:Dif U q s b e t):
  Dif U q s (a.1*b.2-b.1*a.2,a.2*b.2) (c.1*e.2-e.1*c.2,c.2*e.2) (λk=>((r k).1-(t k).2,(r k).2-(t k).1)):=by
 obtain⟨d1,n1,p1,b1,e1⟩:=h1
 obtain⟨d2,n2,p2,b2,e2⟩:=h2
 refine⟨d1*d2,λk=>d2*n1 k + -d1*n2 k,VaC (by omega) (by omega),λk hk=>?_,?_⟩
 ·obtain⟨x1,x2⟩:=b1 k hk
  obtain⟨y1,y2⟩:=b2 k hk
  have u1:=Vae x1 (show 0≤d2 by omega)
  have u2:=Vae x2 (show 0≤d2 by omega)
  have v1:=Vae y1 (show 0≤d1 by omega)
  have v2:=Vae y2 (show 0≤d1 by omega)
  try dsimp only
  constructor <;> grind
 ·rw[zlL]
  generalize zaZ q (λk=>n1 k*s k)=S1 at e1
  generalize zaZ q (λk=>n2 k*s k)=S2 at e2
  try dsimp only
  grind
theorem zof {v r:Int×Int}{g x b n d:Int}(hg:1≤g)(hb:1≤b)(hd:1≤d)(h1:v.1*b≤x*g)(h2:x*g≤v.2*b)(h3:r.1*d≤n)(h4:n≤r.2*d):(zaQ v r g).1*(b*d)≤x*n∧x*n≤(zaQ v r g).2*(b*d):=by
 have pq:0≤b*d:=Vax (by omega) (by omega)
 have z:=zpm h1 h2 h3 h4
 rw[(zkl pq).1,(zkl pq).2] at z
 have e:x*g*n=x*n*g:=by grind
 rw[e] at z
 exact znB hg pq z.1 z.2
theorem zxf {U g:Int}{q:Nat}{s:Nat→Int}{a b c e v w:Int×Int}{r t:Nat→Int×Int}(hg:1≤g)(h1:Dif U q s a c r)(h2:Dif U q s b e t)(pa:1≤a.2)(pe:1≤e.2)
  (va:v.1*a.2≤a.1*g∧a.1*g≤v.2*a.2)(we:w.1*e.2≤e.1*g∧e.1*g≤w.2*e.2):
  Dif U q s (a.1*b.1,a.2*b.2) (c.1*e.1,c.2*e.2) (λk=>((zaQ v (t k) g).1+(zaQ w (r k) g).1,(zaQ v (t k) g).2+(zaQ w (r k) g).2)):=by
 obtain⟨d1,n1,p1,b1,e1⟩:=h1
 obtain⟨d2,n2,p2,b2,e2⟩:=h2
 have q1:(1:Int)≤d1*d2:=VaC (by omega) (by omega)
 have q2:(1:Int)≤a.2*e.2:=VaC (by omega) (by omega)
 refine⟨a.2*e.2*(d1*d2),λk=>(a.1*e.2*d1)*n2 k+(e.1*a.2*d2)*n1 k,VaC (by omega) (by omega),λk hk=>?_,?_⟩
 ·obtain⟨x1,x2⟩:=b1 k hk
  obtain⟨y1,y2⟩:=b2 k hk
  have m1:=zof hg pa p2 va.1 va.2 y1 y2
  have m2:=zof hg pe p1 we.1 we.2 x1 x2
  have f1:(0:Int)≤e.2*d1:=Vax (by omega) (by omega)
  have f2:(0:Int)≤a.2*d2:=Vax (by omega) (by omega)
  have u1:=Vae m1.1 f1
  have u2:=Vae m1.2 f1
  have v1:=Vae m2.1 f2
  have v2:=Vae m2.2 f2
  try dsimp only
  generalize zaQ v (t k) g=M1 at u1 u2
  generalize zaQ w (r k) g=M2 at v1 v2
  clear m1 m2 x1 x2 y1 y2 va we e1 e2
  constructor <;> grind
 ·rw[zlL]
  generalize zaZ q (λk=>n1 k*s k)=S1 at e1
  generalize zaZ q (λk=>n2 k*s k)=S2 at e2
  try dsimp only
  clear b1 b2 va we
  have k1:=congrArg (λz=>z*(e.1*b.2*a.2*e.2*d2)) e1
  have k2:=congrArg (λz=>z*(a.1*c.2*a.2*e.2*d1)) e2
  try dsimp only at k1 k2
  clear e1 e2
  grind
theorem zsf {v:Int×Int}{g x y N:Int}{n:Int}(hg:1≤g)(hN:1≤N)(n2:2≤n)(h1:v.1*N≤x*g)(h2:x*g≤v.2*N)(h3:v.1*N≤y*g)(h4:y*g≤v.2*N):(zbt v n g).1*N^(n.toNat-1)≤hs n.toNat x y*g∧hs n.toNat x y*g≤(zbt v n g).2*N^(n.toNat-1):=by
 obtain⟨m,hm⟩:∃m,n.toNat=m+2:=⟨n.toNat-2,by omega⟩
 have en:(n-1).toNat=m+1:=by omega
 have nn:n=((m+1+1:Nat):Int):=by omega
 have z:=zxs h1 h2 h3 h4 (m:=m+1) (by omega)
 rw[(zqE hN).1,(zqE hN).2,zox] at z
 have gp:(0:Int)<g^m:=VaL (by omega)
 have np:(0:Int)≤N^(m+1):=VaO (by omega)
 have l:=(zfD (zaH v.1 v.2 (m+1)) gp).1
 have u:=(zj2 (za0 v.1 v.2 (m+1)) gp).1
 unfold zbt
 rw[hm,en,show m+2-1=m+1 by omega,show m+1-1=m by omega]
 have eg:g^(m+1)=g^m*g:=Var g m
 rw[eg] at z
 rw[← nn] at z
 have f:(0:Int)≤n*N^(m+1):=Vax (by omega) np
 have l2:=Vae l f
 have u2:=Vae u f
 dsimp only
 generalize zaH v.1 v.2 (m+1)/g^m=A at l2
 generalize -(-za0 v.1 v.2 (m+1)/g^m)=B at u2
 generalize zaH v.1 v.2 (m+1)=C at l2 z
 generalize za0 v.1 v.2 (m+1)=D at u2 z
 generalize g^m=G at *
 generalize N^(m+1)=M at *
 have z1:=z.1
 have z2:=z.2
 show _≤hs (m+1+1) x y*g∧hs (m+1+1) x y*g≤_
 generalize hs (m+1+1) x y=P at z1 z2
 clear z h1 h2 h3 h4 l u eg
 refine⟨VaK (a:=G) ?_ gp,VaK (a:=G) ?_ gp⟩ <;> grind
theorem zyu {U g:Int}{q:Nat}{s:Nat→Int}{a c v:Int×Int}{r:Nat→Int×Int}{n:Int}(hg:1≤g)(n2:2≤n)(h1:Dif U q s a c r)(pa:1≤a.2)(pc:1≤c.2)
  (va:v.1*a.2≤a.1*g∧a.1*g≤v.2*a.2)(vc:v.1*c.2≤c.1*g∧c.1*g≤v.2*c.2):
  Dif U q s (a.1^n.toNat,a.2^n.toNat) (c.1^n.toNat,c.2^n.toNat) (λk=>zaQ (zbt v n g) (r k) g):=by
 obtain⟨d1,n1,p1,b1,e1⟩:=h1
 have hN:(1:Int)≤a.2*c.2:=VaC (by omega) (by omega)
 have w1:=Vae va.1 (show 0≤c.2 by omega)
 have w2:=Vae va.2 (show 0≤c.2 by omega)
 have w3:=Vae vc.1 (show 0≤a.2 by omega)
 have w4:=Vae vc.2 (show 0≤a.2 by omega)
 have fi:=zsf (v:=v) (g:=g) (x:=a.1*c.2) (y:=c.1*a.2) (N:=a.2*c.2) (n:=n) hg hN n2 (by grind) (by grind) (by grind) (by grind)
 have np:(1:Int)≤(a.2*c.2)^(n.toNat-1):=VaL (by omega)
 refine⟨(a.2*c.2)^(n.toNat-1)*d1,λk=>hs n.toNat (a.1*c.2) (c.1*a.2)*n1 k,VaC (by omega) (by omega),λk hk=>?_,?_⟩
 ·obtain⟨x1,x2⟩:=b1 k hk
  exact zof hg np p1 fi.1 fi.2 x1 x2
 ·rw[zpB]
  generalize zaZ q (λk=>n1 k*s k)=S1 at e1
  have hm:=zf6 (a.1*c.2) (c.1*a.2) n.toNat
  rw[VaR,VaR] at hm
  obtain⟨m,hm'⟩:∃m,n.toNat=m+1:=⟨n.toNat-1,by omega⟩
  have eN:a.2^n.toNat*c.2^n.toNat=(a.2*c.2)^(n.toNat-1)*(a.2*c.2):=by
   rw[← VaR,hm',Nat.add_sub_cancel,Var]
  try dsimp only
  rw[eN]
  generalize (a.2*c.2)^(n.toNat-1)=M at *
  generalize hs n.toNat (a.1*c.2) (c.1*a.2)=P at *
  generalize a.1^n.toNat*c.2^n.toNat=u1 at *
  generalize c.1^n.toNat*a.2^n.toNat=u2 at *
  rw[← hm]
  have k1:=congrArg (λz=>z*(P*M)) e1
  try dsimp only at k1
  clear b1 w1 w2 w3 w4 fi va vc eN hm e1
  grind
theorem zqt {U:Int}{q:Nat}{s:Nat→Int}{f l:Int×Int}{r t:Nat→Int×Int}(h:Dif U q s f l r)(e:∀k,k<q→r k=t k):Dif U q s f l t:=by
 obtain⟨d,n,p,b,i⟩:=h
 exact⟨d,n,p,λk hk=>by rw[← e k hk]; exact b k hk,i⟩
theorem zo5 (s:Nat→Int):∀q,zaZ q (λk=>0*s k)=0
 | 0=>rfl
 | q+1=>by
  show zaZ q _+0*s q=0
  rw[zo5 s q]
  omega
theorem znr (a:Int)(s:Nat→Int)(j:Int):∀q:Nat,zaZ q (λ(l:Nat)=>(if (l:Int)=j then a else 0)*s l)=if 0≤j∧j<(q:Int) then a*s j.toNat else 0
 | 0=>by
  rw[if_neg (λz=>by have:=z.1; have:=z.2; omega)]
  rfl
 | q+1=>by
  show zaZ q _+(if (q:Int)=j then a else 0)*s q=_
  rw[znr a s j q]
  by_cases e:(q:Int)=j
  ·subst e
   rw[if_pos rfl,if_neg (λz=>by have:=z.2; omega),if_pos ⟨by omega,by omega⟩,Vam]
   omega
  ·rw[if_neg e,VaU,Int.add_zero]
   by_cases c:0≤j∧j<(q:Int)
   ·rw[if_pos c,if_pos ⟨c.1,by have:=c.2; omega⟩]
   ·rw[if_neg c,if_neg (λz=>c ⟨z.1,by have:=z.2; omega⟩)]
theorem zta {U:Int}{q:Nat}{s:Nat→Int}(f:Int×Int):Dif U q s f f (λ_=>(0,0)):=by
 refine⟨1,λ_=>0,by decide,λk hk=>by dsimp only; omega,?_⟩
 rw[zo5]
 grind
theorem zsM {sl:List (List (Int×Int))}{r:List (Int×Int)}{i:Int}{l:Nat}(h:inR sl.length i):gs (sl++[r]) i l=gs sl i l:=by
 have:=h.1
 have:=h.2
 unfold gs
 rw[Vai (l:=sl++[r]),Vai (l:=sl),Val (by omega)]
theorem zsw {sl:List (List (Int×Int))}{r:List (Int×Int)}{k l:Nat}(h:sl.length=k):gs (sl++[r]) (k:Int) l=r.getD l (0,0):=by
 unfold gs
 rw[Vam,Vai (l:=sl++[r]),← h,VaG (Vaa _),Vbb]
 rfl
theorem zx1 {vs:List (Int×Int)}{sl:List (List (Int×Int))}{g:Int}{q l:Nat}{v:Nd}(h:l<q):(zba vs sl g q v).getD l (0,0)=v.sl vs sl g l:=by
 unfold zba
 rw[Vai,Vaf,show (List.range q)[l]?=some l from Vbd h]
 rfl
theorem zqW {q:Nat}{ns:List Nd}{ws:List Nat}{bs ps rs:List (Int×Int)}{g U:Int}{s:Nat→Int}(h:zaD q ns ws)(hb:q=bs.length)(hp:q=ps.length)(hr:q=rs.length)(hg:1≤g)(ip:InW g bs ps)(ir:InW g bs rs)(zp:Pz 110 ps)(zr:Pz 110 rs)
  (un:∀j:Int,inR q j→Dif U q s (gt ps j) (gt rs j) (λl=>if (l:Int)=j then (g,g) else (0,0))):
  ∀k:Nat,k≤ns.length→∀i:Int,inR k i→Dif U q s (gt (zal ps (ns.take k)) i) (gt (zal rs (ns.take k)) i) (λl=>gs (zaC (zar bs g ns) g q (ns.take k)) i l):=by
 intro k
 induction k with
 | zero=>intro _ i hi; exact absurd hi.2 (by have:=hi.1; omega)
 | succ k ih=>
  intro hk i hi
  have hv:ns[k]?=some ns[k]:=Vac (by omega)
  obtain⟨ok,_⟩:=h.ok k _ hv
  have l1:(zal ps (ns.take k)).length=k:=by rw[zb4,Vaq]; omega
  have l2:(zal rs (ns.take k)).length=k:=by rw[zb4,Vaq]; omega
  have l3:(zaC (zar bs g ns) g q (ns.take k)).length=k:=by rw[zeN,Vaq]; omega
  rw[zbV hv,zdD,zdD,zjK]
  by_cases c:i<k
  ·rw[zmA (by rw[l1]; exact⟨hi.1,c⟩),zmA (by rw[l2]; exact⟨hi.1,c⟩)]
   exact zqt (ih (by omega) i ⟨hi.1,c⟩) λl _=>(zsM (by rw[l3]; exact⟨hi.1,c⟩)).symm
  ·have e:i=k:=by have:=hi.2; omega
   subst e
   rw[zhA l1,zhA l2]
   have w16:∀j:Nat,j<(zal ps (ns.take k)).length→ws.getD j 0≤16:=λj hj=>(h.w1 (i:=j) ⟨by omega,by omega⟩).2
   have w16':∀j:Nat,j<(zal rs (ns.take k)).length→ws.getD j 0≤16:=λj hj=>(h.w1 (i:=j) ⟨by omega,by omega⟩).2
   have p1:Pz 1800 (zal ps (ns.take k)):=Pz.of_w (zef h (by rw[hp]) zp k (by omega)) w16
   have p2:Pz 1800 (zal rs (ns.take k)):=Pz.of_w (zef h (by rw[hr]) zr k (by omega)) w16'
   have i1:=znW h (by rw[hb]) (by rw[hp]) hg ip zp k (by omega)
   have i2:=znW h (by rw[hb]) (by rw[hr]) hg ir zr k (by omega)
   have ev:∀j:Int,inR k j→gt (zar bs g (ns.take k)) j=gt (zar bs g ns) j:=λj hj=>by
    rw[← zxO bs g ns k (by omega)]
    exact zrW hj
   have in1:∀j:Int,inR k j→(gt (zar bs g ns) j).1*(gt (zal ps (ns.take k)) j).2≤(gt (zal ps (ns.take k)) j).1*g∧(gt (zal ps (ns.take k)) j).1*g≤(gt (zar bs g ns) j).2*(gt (zal ps (ns.take k)) j).2:=λj hj=>by
    rw[← ev j hj]
    exact i1 j (by rw[l1]; exact hj)
   have in2:∀j:Int,inR k j→(gt (zar bs g ns) j).1*(gt (zal rs (ns.take k)) j).2≤(gt (zal rs (ns.take k)) j).1*g∧(gt (zal rs (ns.take k)) j).1*g≤(gt (zar bs g ns) j).2*(gt (zal rs (ns.take k)) j).2:=λj hj=>by
    rw[← ev j hj]
    exact i2 j (by rw[l2]; exact hj)
   have q1:∀j:Int,inR k j→1≤(gt (zal ps (ns.take k)) j).2:=λj hj=>(p1.at (by rw[l1]; exact hj)).1
   have q2:∀j:Int,inR k j→1≤(gt (zal rs (ns.take k)) j).2:=λj hj=>(p2.at (by rw[l2]; exact hj)).1
   have ih':=ih (by omega)
   have row:∀l,l<q→(ns[k]).sl (zar bs g ns) (zaC (zar bs g ns) g q (ns.take k)) g l=gs (zaC (zar bs g ns) g q (ns.take k)++[zba (zar bs g ns) (zaC (zar bs g ns) g q (ns.take k)) g q ns[k]]) (k:Int) l:=λl hl=>by
    rw[zsw l3,zx1 hl]
   refine zqt (r:=λl=>(ns[k]).sl (zar bs g ns) (zaC (zar bs g ns) g q (ns.take k)) g l) ?_ row
   clear row hv
   generalize ns[k]=v at ok
   cases v with
   | number t b=>exact zta (t,b)
   | unknown j=>exact un j ok
   | plus a b=>exact zuK (ih' a ok.1) (ih' b ok.2)
   | minus a b=>exact zru (ih' a ok.1) (ih' b ok.2)
   | times a b=>exact zxf hg (ih' a ok.1) (ih' b ok.2) (q1 a ok.1) (q2 b ok.2) (in1 a ok.1) (in2 b ok.2)
   | power a n=>exact zyu hg ok.2.1 (ih' a ok.1) (q1 a ok.1) (q2 a ok.1) (in1 a ok.1) (in2 a ok.1)
def In (p:Int×Int)(x:Rat):Prop:=(p.1:Rat)≤x∧x≤(p.2:Rat)
theorem zkE {a b g:Rat}(hg:0<g)(h:g*a≤g*b):a≤b:=by
 by_cases c:a≤b
 ·exact c
 ·have d:b<a:=Rat.not_le.mp c
  have z:=Rat.mul_pos hg (show 0<a-b by grind)
  grind
theorem zcQ {a b:Int}(h:a≤b):(a:Rat)≤(b:Rat):=Rat.intCast_le_intCast.mpr h
theorem In.add {p q:Int×Int}{x y:Rat}(h1:In p x)(h2:In q y):In (zdt p q) (x+y):=by
 obtain⟨a,b⟩:=h1
 obtain⟨c,d⟩:=h2
 refine⟨?_,?_⟩
 ·show ((p.1+q.1:Int):Rat)≤_
  rw[Rat.intCast_add]; grind
 ·show _≤((p.2+q.2:Int):Rat)
  rw[Rat.intCast_add]; grind
theorem In.take {p q:Int×Int}{x y:Rat}(h1:In p x)(h2:In q y):In (zbp p q) (x-y):=by
 obtain⟨a,b⟩:=h1
 obtain⟨c,d⟩:=h2
 refine⟨?_,?_⟩
 ·show ((p.1-q.2:Int):Rat)≤_
  rw[Rat.intCast_sub]; grind
 ·show _≤((p.2-q.1:Int):Rat)
  rw[Rat.intCast_sub]; grind
theorem zuo {A B C D x y:Rat}(h1:A≤x)(h2:x≤B)(h3:C≤y)(h4:y≤D):(A*C≤x*y∨A*D≤x*y∨B*C≤x*y∨B*D≤x*y)∧(x*y≤A*C∨x*y≤A*D∨x*y≤B*C∨x*y≤B*D):=by
 have m:∀ {u v:Rat},0≤u→0≤v→0≤u*v:=λa b=>Rat.mul_nonneg a b
 rcases Rat.le_total (a:=0) (b:=y) with hy | hy
 ·have a1:=m (show 0≤x-A by grind) hy
  have a2:=m (show 0≤B-x by grind) hy
  refine⟨?_,?_⟩
  ·rcases Rat.le_total (a:=0) (b:=A) with hA | hA
   ·have:=m hA (show 0≤y-C by grind)
    exact .inl (by grind)
   ·have:=m (show 0≤-A by grind) (show 0≤D-y by grind)
    exact .inr (.inl (by grind))
  ·rcases Rat.le_total (a:=0) (b:=B) with hB | hB
   ·have:=m hB (show 0≤D-y by grind)
    exact .inr (.inr (.inr (by grind)))
   ·have:=m (show 0≤-B by grind) (show 0≤y-C by grind)
    exact .inr (.inr (.inl (by grind)))
 ·have a1:=m (show 0≤x-A by grind) (show 0≤-y by grind)
  have a2:=m (show 0≤B-x by grind) (show 0≤-y by grind)
  refine⟨?_,?_⟩
  ·rcases Rat.le_total (a:=0) (b:=B) with hB | hB
   ·have:=m hB (show 0≤y-C by grind)
    exact .inr (.inr (.inl (by grind)))
   ·have:=m (show 0≤-B by grind) (show 0≤D-y by grind)
    exact .inr (.inr (.inr (by grind)))
  ·rcases Rat.le_total (a:=0) (b:=A) with hA | hA
   ·have:=m hA (show 0≤D-y by grind)
    exact .inr (.inl (by grind))
   ·have:=m (show 0≤-A by grind) (show 0≤y-C by grind)
    exact .inl (by grind)
theorem In.mul {p q:Int×Int}{x y:Rat}{g:Int}(hg:1≤g)(h1:In p x)(h2:In q y):In (zaQ p q g) (x*y/(g:Rat)):=by
 have gp:(0:Rat)<(g:Rat):=Rat.intCast_pos.mpr (by omega)
 have ge:(g:Rat)*(x*y/(g:Rat))=x*y:=by grind
 have c:=zuo h1.1 h1.2 h2.1 h2.2
 have lo:((mn4 p.1 p.2 q.1 q.2:Int):Rat)≤x*y:=by
  have t:∀u:Int,mn4 p.1 p.2 q.1 q.2≤u→((mn4 p.1 p.2 q.1 q.2:Int):Rat)≤(u:Rat):=λu h=>zcQ h
  have e1:=t (p.1*q.1) (by unfold mn4; omega)
  have e2:=t (p.1*q.2) (by unfold mn4; omega)
  have e3:=t (p.2*q.1) (by unfold mn4; omega)
  have e4:=t (p.2*q.2) (by unfold mn4; omega)
  rw[Rat.intCast_mul] at e1 e2 e3 e4
  rcases c.1 with z | z | z | z <;> grind
 have hi:x*y≤((mx4 p.1 p.2 q.1 q.2:Int):Rat):=by
  have t:∀u:Int,u≤mx4 p.1 p.2 q.1 q.2→(u:Rat)≤((mx4 p.1 p.2 q.1 q.2:Int):Rat):=λu h=>zcQ h
  have e1:=t (p.1*q.1) (by unfold mx4; omega)
  have e2:=t (p.1*q.2) (by unfold mx4; omega)
  have e3:=t (p.2*q.1) (by unfold mx4; omega)
  have e4:=t (p.2*q.2) (by unfold mx4; omega)
  rw[Rat.intCast_mul] at e1 e2 e3 e4
  rcases c.2 with z | z | z | z <;> grind
 refine⟨zkE gp ?_,zkE gp ?_⟩
 ·have z:=zcQ (zfD (mn4 p.1 p.2 q.1 q.2) (show 0<g by omega)).1
  rw[Rat.intCast_mul] at z
  rw[ge]
  show (g:Rat)*((mn4 p.1 p.2 q.1 q.2/g:Int):Rat)≤_
  grind
 ·have z:=zcQ (zj2 (mx4 p.1 p.2 q.1 q.2) (show 0<g by omega)).1
  rw[Rat.intCast_mul] at z
  rw[ge]
  show _≤(g:Rat)*((-(-mx4 p.1 p.2 q.1 q.2/g):Int):Rat)
  grind
def zap:Nat→(Nat→Rat)→Rat
 | 0,_=>0
 | k+1,f=>zap k f+f k
theorem In.sum {g:Int}(hg:1≤g){us vs:List (Int×Int)}{a b:Nat→Rat}(h1:∀(j:Nat) (p:Int×Int),us[j]?=some p→In p (a j))(h2:∀(j:Nat) (p:Int×Int),vs[j]?=some p→In p (b j)):∀k:Nat,k≤us.length→k≤vs.length→In (sumP g (us.take k) (vs.take k)) (zap k λj=>a j*b j/(g:Rat))
 | 0,_,_=>⟨Rat.le_refl,Rat.le_refl⟩
 | k+1,l1,l2=>by
  have hu:=Vac (show k<us.length by omega)
  have hv:=Vac (show k<vs.length by omega)
  rw[zhe g us vs k hu hv]
  exact(In.sum hg h1 h2 k (by omega) (by omega)).add ((h1 k _ hu).mul hg (h2 k _ hv))
theorem In.sumP {g:Int}(hg:1≤g){us vs:List (Int×Int)}{a b:Nat→Rat}{n:Nat}(l1:us.length=n)(l2:vs.length=n)(h1:∀(j:Nat) (p:Int×Int),us[j]?=some p→In p (a j))(h2:∀(j:Nat) (p:Int×Int),vs[j]?=some p→In p (b j)):In (sumP g us vs) (zap n λj=>a j*b j/(g:Rat)):=by
 have z:=In.sum hg h1 h2 n (by omega) (by omega)
 rw[VaF (by omega),VaF (by omega)] at z
 exact z
theorem zcK {f h:Nat→Rat}:∀n,(∀k,k<n→f k=h k)→zap n f=zap n h
 | 0,_=>rfl
 | n+1,e=>by
  show zap n f+f n=zap n h+h n
  rw[zcK n λk hk=>e k (by omega),e n (by omega)]
theorem zdI (a:Rat)(f:Nat→Rat):∀n,zap n (λk=>a*f k)=a*zap n f
 | 0=>by show (0:Rat)=a*0; grind
 | n+1=>by
  show zap n _+_=a*(zap n f+f n)
  rw[zdI a f n]
  grind
theorem znO (f h:Nat→Rat):∀n,zap n (λk=>f k+h k)=zap n f+zap n h
 | 0=>by show (0:Rat)=0+0; grind
 | n+1=>by
  show zap n _+_=(zap n f+f n)+(zap n h+h n)
  rw[znO f h n]
  grind
theorem zpO (f:Nat→Nat→Rat)(m:Nat):∀n,zap n (λk=>zap m λj=>f k j)=zap m λj=>zap n λk=>f k j
 | 0=>by
  show (0:Rat)=zap m λ_=>0
  have z:∀m,zap m (λ_=>(0:Rat))=0:=λm=>by
   induction m with
   | zero=>rfl
   | succ m ih=>show zap m _+0=0; rw[ih]; grind
  rw[z]
 | n+1=>by
  show zap n _+zap m (λj=>f n j)=zap m λj=>zap n (λk=>f k j)+f n j
  rw[zpO f m n,← znO]
theorem zqD (k:Nat)(w:Nat→Rat):∀n,zap n (λl=>(if k=l then 1 else 0)*w l)=if k<n then w k else 0
 | 0=>rfl
 | n+1=>by
  show zap n _+_=_
  rw[zqD k w n]
  by_cases c:k=n
  ·subst c
   rw[if_neg (by omega),if_pos (by omega)]
   simp
   grind
  ·by_cases d:k<n
   ·rw[if_pos d,if_pos (by omega)]
    simp[c]
    grind
   ·rw[if_neg d,if_neg (by omega)]
    simp[c]
    grind
theorem zrh {g m:Rat}(hg:g≠0){q e:Nat}{k:Nat}(hk:k<q)(T y w:Nat→Rat)(s:Nat→Nat→Rat)(rel:∀j,j<e→y j*g=-(zap q λl=>s j l*w l)):
  m-(zap e λj=>T j*y j/g)+(zap q λl=>((if k=l then g else 0)-zap e λj=>T j*s j l/g)*w l/g)=m+w k:=by
 have h1:(zap e λj=>T j*y j/g)=zap e λj=>-(zap q λl=>T j*s j l*w l/(g*g)):=by
  refine zcK e λj hj=>?_
  have r:=rel j hj
  have c:(zap q λl=>T j*s j l*w l/(g*g))=T j/(g*g)*zap q λl=>s j l*w l:=by
   rw[← zdI]
   exact zcK q λl _=>by grind
  rw[c]
  generalize zap q (λl=>s j l*w l)=A at r
  have e1:y j=-A/g:=by grind
  rw[e1]
  grind
 have h2:(zap q λl=>((if k=l then g else 0)-zap e λj=>T j*s j l/g)*w l/g)=w k+zap q λl=>-(zap e λj=>T j*s j l*w l/(g*g)):=by
  have d:=zqD k w q
  rw[if_pos hk] at d
  rw[← d,← znO]
  refine zcK q λl _=>?_
  have c:(zap e λj=>T j*s j l*w l/(g*g))=w l/(g*g)*g*zap e λj=>T j*s j l/g:=by
   rw[← zdI]
   exact zcK e λj _=>by grind
  rw[c]
  by_cases x:k=l
  ·rw[if_pos x,if_pos x]; grind
  ·rw[if_neg x,if_neg x]; grind
 have n1:∀(n:Nat) (f:Nat→Rat),(zap n λj=>-(f j))=-(zap n f):=λn f=>by
  have z:=zdI (-1) f n
  have z2:(zap n λj=>-(f j))=zap n λj=>-1*f j:=zcK n λj _=>by grind
  rw[z2,z]
  grind
 rw[h1,h2,n1,n1,zpO (λj l=>T j*s j l*w l/(g*g)) q e]
 grind
theorem ziW {a b:Int}{x:Int}(hb:1≤b)(h:x*b≤a):(x:Rat)≤(a:Rat)/(b:Rat):=by
 have bp:(0:Rat)<(b:Rat):=Rat.intCast_pos.mpr (by omega)
 refine zkE bp ?_
 have z:=zcQ h
 rw[Rat.intCast_mul] at z
 have e:(b:Rat)*((a:Rat)/(b:Rat))=(a:Rat):=by grind
 rw[e,Rat.mul_comm]
 exact z
theorem zlP {a b:Int}{x:Int}(hb:1≤b)(h:a≤x*b):(a:Rat)/(b:Rat)≤(x:Rat):=by
 have bp:(0:Rat)<(b:Rat):=Rat.intCast_pos.mpr (by omega)
 refine zkE bp ?_
 have z:=zcQ h
 rw[Rat.intCast_mul] at z
 have e:(b:Rat)*((a:Rat)/(b:Rat))=(a:Rat):=by grind
 rw[e,Rat.mul_comm]
 exact z
theorem zvT {x t W:Int}(hW:1≤W)(h:(x:Rat)≤(t:Rat)/(W:Rat)):x*W≤t:=by
 have Wq:(0:Rat)<(W:Rat):=Rat.intCast_pos.mpr (by omega)
 have e:(W:Rat)*((t:Rat)/(W:Rat))=(t:Rat):=by grind
 have z:=Rat.mul_nonneg (show 0≤(t:Rat)/(W:Rat)-(x:Rat) by grind) (show (0:Rat)≤(W:Rat) by grind)
 refine Rat.intCast_le_intCast.mp ?_
 rw[Rat.intCast_mul]
 generalize (t:Rat)/(W:Rat)=u at *
 grind
theorem zvS {x t W:Int}(hW:1≤W)(h:(t:Rat)/(W:Rat)≤(x:Rat)):t≤x*W:=by
 have Wq:(0:Rat)<(W:Rat):=Rat.intCast_pos.mpr (by omega)
 have e:(W:Rat)*((t:Rat)/(W:Rat))=(t:Rat):=by grind
 have z:=Rat.mul_nonneg (show 0≤(x:Rat)-(t:Rat)/(W:Rat) by grind) (show (0:Rat)≤(W:Rat) by grind)
 refine Rat.intCast_le_intCast.mp ?_
 rw[Rat.intCast_mul]
 generalize (t:Rat)/(W:Rat)=u at *
 grind
theorem zog (f:Nat→Int):∀n,((zaZ n f:Int):Rat)=zap n λk=>(f k:Rat)
 | 0=>rfl
 | n+1=>by
  show ((zaZ n f+f n:Int):Rat)=zap n (λk=>(f k:Rat))+(f n:Rat)
  rw[Rat.intCast_add,zog f n]
theorem zse {t u g W:Int}{q:Nat}{s:Nat→Int}{j:Int}(hj:inR q j)(hs:s j.toNat=t-u*W):Dif (g*g*W) q s (t,g*W) (u*W,g*W) (λl=>if (l:Int)=j then (g,g) else (0,0)):=by
 refine⟨1,λl=>if (l:Int)=j then g else 0,by decide,λk hk=>?_,?_⟩
 ·by_cases e:(k:Int)=j
  ·simp only[if_pos e]
   omega
  ·simp only[if_neg e]
   omega
 ·rw[znr,if_pos (show 0≤j∧j<(q:Int) from hj),hs]
  try dsimp only
  grind
theorem zoz {bs:List (Int×Int)}(f:Int×Int→Int×Int){i:Int}(h:inR bs.length i):gt (bs.map f) i=f (gt bs i):=by
 have h0:=h.1
 have h1:=h.2
 have hk:i.toNat<bs.length:=by omega
 unfold gt
 simp[hk]
theorem zrU {q:Nat}{ns:List Nd}{ws:List Nat}{bs P:List (Int×Int)}{g W:Int}(net:zaD q ns ws)(hb:q=bs.length)(hp:q=P.length)(sb:Spn 51 bs)(hg:1≤g∧g≤1000000)(hW:1≤W∧W≤60)(ip:InW g bs P)(zp:Pz 110 P)(pt:∀j:Int,inR q j→(gt P j).2=g*W)
  {is:List Nat}(his:∀i∈is,i<ns.length)(zero:∀i∈is,(gt (zal P ns) (i:Int)).1=0){k:Nat}(hk:k<q){es:List Int}(hes:es.length=is.length):
  (za9 g bs (is.map λ(i:Nat)=>gt (zar (bs.map zaE) g ns) i) (is.map λ(i:Nat)=>(zaC (zar bs g ns) g bs.length ns).getD i []) k es).1*(gt P k).2≤(gt P k).1*g∧(gt P k).1*g≤(za9 g bs (is.map λ(i:Nat)=>gt (zar (bs.map zaE) g ns) i) (is.map λ(i:Nat)=>(zaC (zar bs g ns) g bs.length ns).getD i []) k es).2*(gt P k).2:=by
 have gW:1≤g*W:=VaC (by omega) (by omega)
 have gq:(0:Rat)<(g:Rat):=Rat.intCast_pos.mpr (by omega)
 have Wq:(0:Rat)<(W:Rat):=Rat.intCast_pos.mpr (by omega)
 have gC:∀j:Int,inR q j→gt (bs.map λp=>(mid p*W,g*W)) j=(mid (gt bs j)*W,g*W):=λj hj=>zoz _ (by rw[← hb]; exact hj)
 have lC:(bs.map λp=>(mid p*W,g*W)).length=q:=by rw[Vab,hb]
 have mi:∀j:Int,inR q j→(gt bs j).1≤mid (gt bs j)∧mid (gt bs j)≤(gt bs j).2:=λj hj=>zpL (sb.at (by rw[← hb]; exact hj)).1
 have mulle:∀ {x y:Int},x≤y→x*(g*W)≤y*W*g:=λ{x y} h=>by
  have z:=Vae h (show 0≤g*W by omega)
  have e:y*W*g=y*(g*W):=by grind
  omega
 have mulge:∀ {x y:Int},x≤y→x*W*g≤y*(g*W):=λ{x y} h=>by
  have z:=Vae h (show 0≤g*W by omega)
  have e:x*W*g=x*(g*W):=by grind
  omega
 have iC:InW g bs (bs.map λp=>(mid p*W,g*W)):=λj hj=>by
  rw[lC] at hj
  rw[gC j hj]
  exact⟨mulle (mi j hj).1,mulge (mi j hj).2⟩
 have iM:InW g (bs.map zaE) (bs.map λp=>(mid p*W,g*W)):=λj hj=>by
  rw[lC] at hj
  rw[gC j hj,zoz zaE (by rw[← hb]; exact hj)]
  exact⟨mulle (Vat _),mulge (Vat _)⟩
 have zC:Pz 110 (bs.map λp=>(mid p*W,g*W)):=λp hp'=>by
  obtain⟨x,hx,rfl⟩:=Vah.mp hp'
  have b:=sb x hx
  have sm:Sz 52 (mid x):=zoy b.2.1 b.2.2
  have sw:Sz 7 W:=Sz.of 60 (by omega)
  have sg:Sz 21 g:=Sz.of 1000000 (by omega)
  exact⟨gW,(sm.mul sw).mono (by decide),(sg.mul sw).mono (by decide)⟩
 have un:∀j:Int,inR q j→Dif (g*g*W) q (λl=>(gt P (l:Int)).1-mid (gt bs (l:Int))*W) (gt P j) (gt (bs.map λp=>(mid p*W,g*W)) j) (λl=>if (l:Int)=j then (g,g) else (0,0)):=λj hj=>by
  rw[gC j hj]
  have e:gt P j=((gt P j).1,g*W):=by rw[← pt j hj]
  rw[e]
  have ej:((j.toNat:Nat):Int)=j:=by have:=hj.1; omega
  refine zse hj ?_
  show (gt P ((j.toNat:Nat):Int)).1-mid (gt bs ((j.toNat:Nat):Int))*W=_
  rw[ej]
 have dif:=zqW (s:=λl=>(gt P (l:Int)).1-mid (gt bs (l:Int))*W) (U:=g*g*W) net hb hp (by rw[lC]) hg.1 ip iC zp zC un ns.length (Vaa _)
 rw[Vay] at dif
 have thin:=znW net (bs:=bs.map zaE) (by rw[Vab,hb]) (by rw[lC]) hg.1 iM zC ns.length (Vaa _)
 rw[Vay] at thin
 have w16:∀j:Nat,j<ns.length→ws.getD j 0≤16:=λj hj=>(net.w1 (i:=j) ⟨by omega,by omega⟩).2
 have pzC:Pz 1800 (zal (bs.map λp=>(mid p*W,g*W)) ns):=by
  have z:=zef net (by rw[lC]) zC ns.length (Vaa _)
  rw[Vay] at z
  exact Pz.of_w z λj hj=>w16 j (by rw[zb4] at hj; exact hj)
 have pzP:Pz 1800 (zal P ns):=by
  have z:=zef net (by rw[hp]) zp ns.length (Vaa _)
  rw[Vay] at z
  exact Pz.of_w z λj hj=>w16 j (by rw[zb4] at hj; exact hj)
 have ex:∀j:Nat,∃dn:Int×(Nat→Int),∀i,is[j]?=some i→1≤dn.1∧(∀l,l<q→(gs (zaC (zar bs g ns) g q ns) (i:Int) l).1*dn.1≤dn.2 l∧dn.2 l≤(gs (zaC (zar bs g ns) g q ns) (i:Int) l).2*dn.1)∧((gt (zal P ns) (i:Int)).1*(gt (zal (bs.map λp=>(mid p*W,g*W)) ns) (i:Int)).2-(gt (zal (bs.map λp=>(mid p*W,g*W)) ns) (i:Int)).1*(gt (zal P ns) (i:Int)).2)*(g*g*W)*dn.1=(gt (zal P ns) (i:Int)).2*(gt (zal (bs.map λp=>(mid p*W,g*W)) ns) (i:Int)).2*zaZ q (λl=>dn.2 l*((gt P (l:Int)).1-mid (gt bs (l:Int))*W)):=λj=>by
  cases e:is[j]? with
  | none=>exact⟨(1,λ_=>0),λi h=>by cases h⟩
  | some i=>
   have hi:=his i (Vag e)
   obtain⟨d,n,h1,h2,h3⟩:=dif (i:Int) ⟨by omega,by omega⟩
   exact⟨(d,n),λi' h=>by cases h; exact⟨h1,h2,h3⟩⟩
 obtain⟨dn,hdn⟩:=Classical.skolem.mp ex
 have yIn:∀(j:Nat) (p:Int×Int),(is.map λ(i:Nat)=>gt (zar (bs.map zaE) g ns) i)[j]?=some p→In p (((gt (zal (bs.map λp=>(mid p*W,g*W)) ns) ((is.getD j 0:Nat):Int)).1*g:Int)/((gt (zal (bs.map λp=>(mid p*W,g*W)) ns) ((is.getD j 0:Nat):Int)).2:Rat)):=λj p hj=>by
  rw[Vaf] at hj
  obtain⟨i,hi,rfl⟩:=Vaj.mp hj
  have e:is.getD j 0=i:=by rw[Vai,hi]; rfl
  rw[e]
  have him:=his i (Vag hi)
  have r:inR ((zal (bs.map λp=>(mid p*W,g*W)) ns).length:Nat) (i:Int):=⟨by omega,by rw[zb4]; omega⟩
  have t:=thin (i:Int) r
  have z:=(pzC.at r).1
  exact⟨ziW z t.1,zlP z t.2⟩
 have sIn:∀c:Nat,c<q→∀(j:Nat) (p:Int×Int),((is.map λ(i:Nat)=>(zaC (zar bs g ns) g bs.length ns).getD i []).map λr=>r.getD c (0,0))[j]?=some p→In p (((dn j).2 c:Rat)/((dn j).1:Rat)):=λc hc j p hj=>by
  rw[Vaf,Vaf] at hj
  cases e:is[j]? with
  | none=>rw[e] at hj; cases hj
  | some i=>
   rw[e] at hj
   cases hj
   obtain⟨h1,h2,_⟩:=hdn j i e
   obtain⟨h3,h4⟩:=h2 c hc
   rw[← hb]
   have z1:(gs (zaC (zar bs g ns) g q ns) (i:Int) c)=((zaC (zar bs g ns) g q ns).getD i []).getD c (0,0):=by
    unfold gs
    rw[Vam]
   rw[z1] at h3 h4
   exact⟨ziW h1 h3,zlP h1 h4⟩
 have tIn:∀(j:Nat) (p:Int×Int),(es.map λe=>(e,e))[j]?=some p→In p ((es.getD j 0:Int):Rat):=λj p hj=>by
  rw[Vaf] at hj
  obtain⟨x,hx,rfl⟩:=Vaj.mp hj
  have e:es.getD j 0=x:=by rw[Vai,hx]; rfl
  rw[e]
  exact⟨Rat.le_refl,Rat.le_refl⟩
 have lIn:∀(c:Nat) (p:Int×Int),((List.range bs.length).map λc=>zbA g k c (es.map λe=>(e,e)) (is.map λ(i:Nat)=>(zaC (zar bs g ns) g bs.length ns).getD i []))[c]?=some p→In p ((if k=c then (g:Rat) else 0)-zap is.length λj=>((es.getD j 0:Int):Rat)*(((dn j).2 c:Rat)/((dn j).1:Rat))/(g:Rat)):=λc p hc=>by
  have hl:=(Vad.mp hc).1
  rw[Vab,Vbc] at hl
  rw[Vaf,show (List.range bs.length)[c]?=some c from Vbd hl] at hc
  cases hc
  unfold zbA
  refine In.take ?_ (In.sumP hg.1 (n:=is.length) (by rw[Vab,hes]) (by rw[Vab,Vab]) tIn (sIn c (by omega)))
  by_cases x:k=c
  ·rw[if_pos x,if_pos x]
   exact⟨Rat.le_refl,Rat.le_refl⟩
  ·rw[if_neg x,if_neg x]
   exact⟨Rat.le_refl,Rat.le_refl⟩
 have xIn:∀l:Int,inR q l→In (gt bs l) (((gt P l).1:Rat)/(W:Rat)):=λl hl=>by
  have z:=ip l (by rw[← hp]; exact hl)
  rw[pt l hl] at z
  have c1:(gt bs l).1*W*g≤(gt P l).1*g:=by
   have e:(gt bs l).1*W*g=(gt bs l).1*(g*W):=by grind
   omega
  have c2:(gt P l).1*g≤(gt bs l).2*W*g:=by
   have e:(gt bs l).2*W*g=(gt bs l).2*(g*W):=by grind
   omega
  exact⟨ziW hW.1 (VaK c1 (by omega)),zlP hW.1 (VaK c2 (by omega))⟩
 have wIn:∀(l:Nat) (p:Int×Int),(bs.map λp=>zbp p (zaE p))[l]?=some p→In p (((gt P (l:Int)).1:Rat)/(W:Rat)-((mid (gt bs (l:Int)):Int):Rat)):=λl p hl=>by
  rw[Vaf] at hl
  obtain⟨x,hx,rfl⟩:=Vaj.mp hl
  have hlt:=(Vad.mp hx).1
  have e:gt bs (l:Int)=x:=zbv hx
  have z:=xIn (l:Int) ⟨by omega,by omega⟩
  rw[e] at z ⊢
  exact z.take ⟨Rat.le_refl,Rat.le_refl⟩
 have moved:In (zbp (zaE (gt bs (k:Int))) (sumP g (es.map λe=>(e,e)) (is.map λ(i:Nat)=>gt (zar (bs.map zaE) g ns) i))) (((mid (gt bs (k:Int)):Int):Rat)-zap is.length λj=>((es.getD j 0:Int):Rat)*(((gt (zal (bs.map λp=>(mid p*W,g*W)) ns) ((is.getD j 0:Nat):Int)).1*g:Int)/((gt (zal (bs.map λp=>(mid p*W,g*W)) ns) ((is.getD j 0:Nat):Int)).2:Rat))/(g:Rat)):=
  In.take ⟨Rat.le_refl,Rat.le_refl⟩ (In.sumP hg.1 (n:=is.length) (by rw[Vab,hes]) (by rw[Vab]) tIn yIn)
 have all:In (za9 g bs (is.map λ(i:Nat)=>gt (zar (bs.map zaE) g ns) i) (is.map λ(i:Nat)=>(zaC (zar bs g ns) g bs.length ns).getD i []) k es) _:=
  moved.add (In.sumP hg.1 (n:=q) (by rw[Vab,Vbc,hb]) (by rw[Vab,hb]) lIn wIn)
 have rel:∀j,j<is.length→(((gt (zal (bs.map λp=>(mid p*W,g*W)) ns) ((is.getD j 0:Nat):Int)).1*g:Int)/((gt (zal (bs.map λp=>(mid p*W,g*W)) ns) ((is.getD j 0:Nat):Int)).2:Rat))*(g:Rat)=-(zap q λl=>((dn j).2 l:Rat)/((dn j).1:Rat)*(((gt P (l:Int)).1:Rat)/(W:Rat)-((mid (gt bs (l:Int)):Int):Rat))):=λj hj=>by
  have e:=Vac hj
  have e0:is.getD j 0=is[j]:=by simp[hj]
  rw[e0]
  have him:=his _ (VaB hj)
  obtain⟨d1,_,eq⟩:=hdn j _ e
  have z0:=zero _ (VaB hj)
  have rP:inR ((zal P ns).length:Nat) ((is[j]:Nat):Int):=⟨by omega,by rw[zb4]; omega⟩
  have rC:inR ((zal (bs.map λp=>(mid p*W,g*W)) ns).length:Nat) ((is[j]:Nat):Int):=⟨by omega,by rw[zb4]; omega⟩
  have p1:=(pzP.at rP).1
  have p2:=(pzC.at rC).1
  rw[z0] at eq
  generalize (gt (zal P ns) ((is[j]:Nat):Int)).2=f2 at eq p1
  generalize gt (zal (bs.map λp=>(mid p*W,g*W)) ns) ((is[j]:Nat):Int)=L at eq p2
  have c0:=congrArg (λ(z:Int)=>(z:Rat)) eq
  have c2:((f2*L.2*zaZ q (λl=>(dn j).2 l*((gt P (l:Int)).1-mid (gt bs (l:Int))*W)):Int):Rat)=(f2:Rat)*(L.2:Rat)*zap q λl=>(((dn j).2 l*((gt P (l:Int)).1-mid (gt bs (l:Int))*W):Int):Rat):=by rw[Rat.intCast_mul,Rat.intCast_mul,zog]
  have c3:(((0*L.2-L.1*f2)*(g*g*W)*(dn j).1:Int):Rat)=-((L.1:Rat)*(f2:Rat))*((g:Rat)*(g:Rat)*(W:Rat))*((dn j).1:Rat):=by
   rw[VaU,Int.zero_sub]
   simp only[Rat.intCast_mul,Rat.intCast_neg]
  have c:=c3.symm.trans (c0.trans c2)
  clear c0 c2 c3
  have sm:(zap q λl=>(((dn j).2 l*((gt P (l:Int)).1-mid (gt bs (l:Int))*W):Int):Rat))=(W:Rat)*((dn j).1:Rat)*zap q λl=>((dn j).2 l:Rat)/((dn j).1:Rat)*(((gt P (l:Int)).1:Rat)/(W:Rat)-((mid (gt bs (l:Int)):Int):Rat)):=by
   rw[← zdI]
   refine zcK q λl _=>?_
   have dq:(0:Rat)<((dn j).1:Rat):=Rat.intCast_pos.mpr (by omega)
   rw[Rat.intCast_mul,Rat.intCast_sub,Rat.intCast_mul]
   grind
  rw[sm] at c
  have f2q:(0:Rat)<(f2:Rat):=Rat.intCast_pos.mpr (by omega)
  have Lq:(0:Rat)<(L.2:Rat):=Rat.intCast_pos.mpr (by omega)
  have dq:(0:Rat)<((dn j).1:Rat):=Rat.intCast_pos.mpr (by omega)
  generalize zap q (λl=>((dn j).2 l:Rat)/((dn j).1:Rat)*(((gt P (l:Int)).1:Rat)/(W:Rat)-((mid (gt bs (l:Int)):Int):Rat)))=A at c
  rw[Rat.intCast_mul]
  generalize (f2:Rat)=F2 at *
  generalize (L.1:Rat)=L1 at *
  generalize (L.2:Rat)=L2 at *
  generalize ((dn j).1:Rat)=d at *
  generalize (g:Rat)=G at *
  generalize (W:Rat)=w at *
  clear eq sm
  have k1:F2*(d*w)*(L2*A+L1*G*G)=0:=by grind
  have k2:F2*(d*w)≠0:=by
   have:=Rat.mul_pos f2q (Rat.mul_pos dq Wq)
   grind
  have k3:L2*A+L1*G*G=0:=by
   rcases Rat.mul_eq_zero.mp k1 with z | z
   ·exact absurd z k2
   ·exact z
  grind
 rw[zrh (by grind) hk (λj=>((es.getD j 0:Int):Rat)) (λj=>((gt (zal (bs.map λp=>(mid p*W,g*W)) ns) ((is.getD j 0:Nat):Int)).1*g:Int)/((gt (zal (bs.map λp=>(mid p*W,g*W)) ns) ((is.getD j 0:Nat):Int)).2:Rat)) (λl=>((gt P (l:Int)).1:Rat)/(W:Rat)-((mid (gt bs (l:Int)):Int):Rat)) (λj l=>((dn j).2 l:Rat)/((dn j).1:Rat)) rel] at all
 have e1:((mid (gt bs (k:Int)):Int):Rat)+(((gt P (k:Int)).1:Rat)/(W:Rat)-((mid (gt bs (k:Int)):Int):Rat))=((gt P (k:Int)).1:Rat)/(W:Rat):=by grind
 rw[e1] at all
 obtain⟨a1,a2⟩:=all
 rw[pt (k:Int) ⟨by omega,by omega⟩]
 have b1:=Vae (zvT hW.1 a1) (show 0≤g by omega)
 have b2:=Vae (zvS hW.1 a2) (show 0≤g by omega)
 generalize (za9 g bs (is.map λ(i:Nat)=>gt (zar (bs.map zaE) g ns) i) (is.map λ(i:Nat)=>(zaC (zar bs g ns) g bs.length ns).getD i []) k es)=Z at b1 b2
 constructor <;> grind
theorem ztg {ns:List Nd}{ws:List Nat}{bs:List (Int×Int)}{g:Int}{is:List Nat}(net:zaD bs.length ns ws)(sb:Spn 51 bs)(hg:1≤g∧g≤1000000)(hi:∀i∈is,i<ns.length):Bd 2000 (is.map λ(i:Nat)=>gt (zar (bs.map zaE) g ns) i):=λp hp=>by
 obtain⟨i,him,rfl⟩:=Vah.mp hp
 have net2:zaD ((bs.map zaE).length:Nat) ns ws:=by rw[Vab]; exact net
 have sp:=zoP net2 rfl (zmR sb) hg ns.length (Vaa _)
 rw[Vay] at sp
 have z:=sp.at (i:=(i:Int)) ⟨by omega,by rw[zcf]; have:=hi i him; omega⟩
 exact⟨z.2.1.mono (by decide),z.2.2.mono (by decide)⟩
theorem zo4 {ns:List Nd}{ws:List Nat}{bs:List (Int×Int)}{g:Int}{is:List Nat}(net:zaD bs.length ns ws)(sb:Spn 51 bs)(hg:1≤g∧g≤1000000)(hi:∀i∈is,i<ns.length):∀r∈(is.map λ(i:Nat)=>(zaC (zar bs g ns) g bs.length ns).getD i []),r.length=bs.length∧Bd 1023 r:=λr hr=>by
 have szw:=zqk net rfl sb hg
 have slw:SlW bs.length ws (zaC (zar bs g ns) g bs.length ns):=by
  have z:=zpG net szw (zcf _ _ _) hg ns.length (Vaa _)
  rwa [Vay] at z
 obtain⟨i,him,rfl⟩:=Vah.mp hr
 have hin:=hi i him
 have hl:i<(zaC (zar bs g ns) g bs.length ns).length:=by rw[zeN]; exact hin
 have e:(zaC (zar bs g ns) g bs.length ns).getD i []=(zaC (zar bs g ns) g bs.length ns)[i]:=by simp[hl]
 obtain⟨z1,z2⟩:=slw i _ (Vac hl)
 rw[e]
 have w:=(net.w1 (i:=(i:Int)) ⟨by omega,by omega⟩).2
 rw[Vam] at w
 exact⟨z1,λp hp=>⟨(z2 p hp).2.1.mono (by omega),(z2 p hp).2.2.mono (by omega)⟩⟩
theorem zor {ns:List Nd}{ws:List Nat}{bs:List (Int×Int)}{g:Int}{is:List Nat}(net:zaD bs.length ns ws)(sb:Spn 51 bs)(hg:1≤g∧g≤1000000)(hi:∀i∈is,i<ns.length):∀r∈(is.map λ(i:Nat)=>(zaC (zar bs g ns) g bs.length ns).getD i []),r.length=bs.length∧Bd 2000 r:=λr hr=>by
 obtain⟨z1,z2⟩:=zo4 net sb hg hi r hr
 exact⟨z1,λp hp=>⟨(z2 p hp).1.mono (by decide),(z2 p hp).2.mono (by decide)⟩⟩
def rab (x:Rat):Rat:=if 0≤x then x else -x
theorem zkJ (x:Rat):0≤rab x:=by unfold rab; split <;> grind
theorem zgZ (x:Rat):x≤rab x∧-x≤rab x:=by unfold rab; split <;> grind
theorem zqI {x y:Rat}(h1:x≤y)(h2:-x≤y):rab x≤y:=by unfold rab; split <;> grind
theorem zwR (x y:Rat):rab (x*y)≤rab x*rab y:=by
 have a:=zgZ x
 have b:=zgZ y
 have m1:=Rat.mul_nonneg (show 0≤rab x-x by grind) (show 0≤rab y-y by grind)
 have m2:=Rat.mul_nonneg (show 0≤rab x+x by grind) (show 0≤rab y+y by grind)
 have m3:=Rat.mul_nonneg (show 0≤rab x-x by grind) (show 0≤rab y+y by grind)
 have m4:=Rat.mul_nonneg (show 0≤rab x+x by grind) (show 0≤rab y-y by grind)
 exact zqI (by grind) (by grind)
theorem zma {f h:Nat→Rat}:∀n,(∀k,k<n→f k≤h k)→zap n f≤zap n h
 | 0,_=>Rat.le_refl
 | n+1,e=>by
  show zap n f+f n≤zap n h+h n
  have a:=zma n λk hk=>e k (by omega)
  have b:=e n (by omega)
  grind
theorem zpe (f:Nat→Rat):∀n,rab (zap n f)≤zap n λk=>rab (f k)
 | 0=>by show rab 0≤0; unfold rab; grind
 | n+1=>by
  show rab (zap n f+f n)≤zap n (λk=>rab (f k))+rab (f n)
  have a:=zpe f n
  have b:=zgZ (zap n f)
  have c:=zgZ (f n)
  exact zqI (by grind) (by grind)
theorem rmax (r w:Nat→Rat):∀q,(∀k,k<q→0<r k)→0<q→∃k,k<q∧∃c,0≤c∧rab (w k)=c*r k∧∀l,l<q→rab (w l)≤c*r l
 | 0,_,h=>by omega
 | q+1,hr,_=>by
  have own:rab (w q)=rab (w q)/r q*r q:=by have:=hr q (by omega); grind
  have nn:0≤rab (w q)/r q:=by
   have:=hr q (by omega)
   have e:rab (w q)/r q=rab (w q)*(r q)⁻¹:=by grind
   rw[e]
   exact Rat.mul_nonneg (zkJ _) (Rat.le_of_lt (Rat.inv_pos.mpr this))
  by_cases c0:q=0
  ·subst c0
   exact⟨0,by omega,_,nn,own,λl hl=>by
    obtain rfl:l=0:=by omega
    rw[← own]
    exact Rat.le_refl⟩
  ·obtain⟨k,hk,c,hc,e,all⟩:=rmax r w q (λk hk=>hr k (by omega)) (by omega)
   by_cases d:rab (w q)≤c*r q
   ·exact⟨k,by omega,c,hc,e,λl hl=>by
     by_cases x:l=q
     ·rw[x]; exact d
     ·exact all l (by omega)⟩
   ·have rq:=hr q (by omega)
    have cl:c≤rab (w q)/r q:=by
     by_cases z:c≤rab (w q)/r q
     ·exact z
     ·have m:=Rat.mul_nonneg (show 0≤c-rab (w q)/r q by grind) (show 0≤r q by grind)
      generalize rab (w q)/r q=u at *
      grind
    refine⟨q,by omega,_,nn,own,λl hl=>?_⟩
    by_cases x:l=q
    ·rw[x,← own]; exact Rat.le_refl
    ·have a:=all l (by omega)
     have m:=Rat.mul_nonneg (show 0≤rab (w q)/r q-c by grind) (show 0≤r l by have:=hr l (by omega); grind)
     generalize rab (w q)/r q=u at *
     grind
theorem zsu {q:Nat}{g:Rat}(hg:0<g)(r w:Nat→Rat)(A:Nat→Nat→Rat)(hr:∀k,k<q→0<r k)(hA:∀k,k<q→zap q (λl=>rab (A k l)*r l/g)<r k)(hw:∀k,k<q→g*w k=zap q λl=>A k l*w l):∀k,k<q→w k=0:=by
 intro k0 hk0
 obtain⟨k,hk,c,hc,e,all⟩:=rmax r w q hr (by omega)
 have main:c=0:=by
  by_cases cz:c=0
  ·exact cz
  ·have cp:0<c:=by grind
   have h1:=hw k hk
   have h2:=zpe (λl=>A k l*w l) q
   rw[← h1] at h2
   have h3:zap q (λl=>rab (A k l*w l))≤zap q λl=>c*g*(rab (A k l)*r l/g):=zma q λl hl=>by
    have a:=zwR (A k l) (w l)
    have b:=Rat.mul_nonneg (zkJ (A k l)) (show 0≤c*r l-rab (w l) by have:=all l hl; grind)
    have d:c*g*(rab (A k l)*r l/g)=rab (A k l)*(c*r l):=by grind
    rw[d]
    grind
   rw[zdI] at h3
   have h4:=Rat.mul_pos (Rat.mul_pos cp hg) (show 0<r k-zap q (λl=>rab (A k l)*r l/g) by have:=hA k hk; grind)
   have h5:rab (g*w k)=g*rab (w k):=by
    have:=Rat.mul_nonneg (Rat.le_of_lt hg) (zkJ (w k))
    unfold rab at *
    split <;> split <;> grind
   rw[h5,e] at h2
   generalize zap q (λl=>rab (A k l)*r l/g)=u at *
   grind
 have a:=all k0 hk0
 have b:=zgZ (w k0)
 rw[main] at a
 grind
theorem radd {a b c d:Rat}(h1:a≤c)(h2:b≤d):a+b≤c+d:=by grind
theorem rlt {a b c:Rat}(h1:a≤b)(h2:b<c):a<c:=by grind
theorem rback {g x:Rat}(hg:0<g):x=g*(x/g):=by grind
theorem zrk {p q:Int×Int}{x:Rat}{g:Int}(hg:1≤g)(h1:In p x)(hq:q.1≤q.2):rab x*((q.2:Rat)-(q.1:Rat))/(g:Rat)≤((zaQ p q g).2:Rat)-((zaQ p q g).1:Rat):=by
 have gp:(0:Rat)<(g:Rat):=Rat.intCast_pos.mpr (by omega)
 have a:=In.mul hg h1 (show In q (q.1:Rat) from ⟨Rat.le_refl,zcQ hq⟩)
 have b:=In.mul hg h1 (show In q (q.2:Rat) from ⟨zcQ hq,Rat.le_refl⟩)
 have e:x*(q.2:Rat)/(g:Rat)-x*(q.1:Rat)/(g:Rat)=x*((q.2:Rat)-(q.1:Rat))/(g:Rat):=by grind
 obtain⟨a1,a2⟩:=a
 obtain⟨b1,b2⟩:=b
 unfold rab
 split
 ·grind
 ·have e2:-x*((q.2:Rat)-(q.1:Rat))/(g:Rat)=-(x*((q.2:Rat)-(q.1:Rat))/(g:Rat)):=by grind
  rw[e2]
  grind
theorem zo2 (p q:Int×Int):((zdt p q).2:Rat)-((zdt p q).1:Rat)=((p.2:Rat)-(p.1:Rat))+((q.2:Rat)-(q.1:Rat)):=by
 show ((p.2+q.2:Int):Rat)-((p.1+q.1:Int):Rat)=_
 rw[Rat.intCast_add,Rat.intCast_add]
 grind
theorem zpR (p q:Int×Int):((zbp p q).2:Rat)-((zbp p q).1:Rat)=((p.2:Rat)-(p.1:Rat))+((q.2:Rat)-(q.1:Rat)):=by
 show ((p.2-q.1:Int):Rat)-((p.1-q.2:Int):Rat)=_
 rw[Rat.intCast_sub,Rat.intCast_sub]
 grind
theorem zoD {g:Int}(hg:1≤g){us vs:List (Int×Int)}{a:Nat→Rat}(h1:∀(j:Nat) (p:Int×Int),us[j]?=some p→In p (a j))(h2:∀p∈vs,p.1≤p.2):∀k:Nat,k≤us.length→k≤vs.length→zap k (λj=>rab (a j)*(((gt vs (j:Int)).2:Rat)-((gt vs (j:Int)).1:Rat))/(g:Rat))≤((sumP g (us.take k) (vs.take k)).2:Rat)-((sumP g (us.take k) (vs.take k)).1:Rat)
 | 0,_,_=>by
  show (0:Rat)≤((0:Int):Rat)-((0:Int):Rat)
  grind
 | k+1,l1,l2=>by
  have hu:=Vac (show k<us.length by omega)
  have hv:=Vac (show k<vs.length by omega)
  rw[zhe g us vs k hu hv,zo2]
  have ih:=zoD hg h1 h2 k (by omega) (by omega)
  have m:=zrk hg (h1 k _ hu) (h2 _ (Vag hv))
  have e:gt vs (k:Int)=vs[k]:=zbv hv
  show zap k _+rab (a k)*(((gt vs (k:Int)).2:Rat)-((gt vs (k:Int)).1:Rat))/(g:Rat)≤_
  rw[e]
  exact radd ih m
theorem zjj:∀n,zap n (λ_=>(0:Rat))=0
 | 0=>rfl
 | n+1=>by
  show zap n _+0=0
  rw[zjj n]
  grind
theorem zxk {q e:Nat}{g:Int}(hg:1≤g){bs thin:List (Int×Int)}{R:List (List (Int×Int))}{M:List (List Int)}(lb:bs.length=q)(lt:thin.length=e)(lR:R.length=e)(lM:M.length=q)(lE:∀es∈M,es.length=e)(ob:∀p∈bs,p.1≤p.2)(ot:∀p∈thin,p.1≤p.2)
  (dp:∀(k:Nat) (es:List Int),M[k]?=some es→(gt bs (k:Int)).1<(za9 g bs thin R k es).1∧(za9 g bs thin R k es).2<(gt bs (k:Int)).2)(s:Nat→Nat→Rat)(sIn:∀c:Nat,c<q→∀(j:Nat) (p:Int×Int),(R.map λr=>r.getD c (0,0))[j]?=some p→In p (s j c))(w:Nat→Rat)(zero:∀j,j<e→zap q (λl=>s j l*w l)=0):∀k,k<q→w k=0:=by
 have gp:(0:Rat)<(g:Rat):=Rat.intCast_pos.mpr (by omega)
 have rn:∀l,l<q→(0:Rat)≤((gt bs (l:Int)).2:Rat)-((gt bs (l:Int)).1:Rat):=λl hl=>by
  have hb:=Vac (show l<bs.length by omega)
  have z:=zcQ (ob _ (Vag hb))
  rw[zbv hb]
  grind
 have gi:(0:Rat)≤(g:Rat)⁻¹:=Rat.le_of_lt (Rat.inv_pos.mpr gp)
 have nn:∀ {x y:Rat},0≤y→0≤rab x*y/(g:Rat):=λ{x y} hy=>by
  have z:=Rat.mul_nonneg (Rat.mul_nonneg (zkJ x) hy) gi
  have e:rab x*y/(g:Rat)=rab x*y*(g:Rat)⁻¹:=by grind
  rw[e]
  exact z
 have fact:∀(k:Nat) (es:List Int),M[k]?=some es→zap q (λl=>rab ((if k=l then (g:Rat) else 0)-zap e λj=>((es.getD j 0:Int):Rat)*s j l/(g:Rat))*(((gt bs (l:Int)).2:Rat)-((gt bs (l:Int)).1:Rat))/(g:Rat))≤((za9 g bs thin R k es).2:Rat)-((za9 g bs thin R k es).1:Rat):=λk es hm=>by
  have le:=lE _ (Vag hm)
  have tIn:∀(j:Nat) (p:Int×Int),(es.map λe=>(e,e))[j]?=some p→In p ((es.getD j 0:Int):Rat):=λj p hj=>by
   rw[Vaf] at hj
   obtain⟨x,hx,rfl⟩:=Vaj.mp hj
   have e:es.getD j 0=x:=by rw[Vai,hx]; rfl
   rw[e]
   exact⟨Rat.le_refl,Rat.le_refl⟩
  have lIn:∀(c:Nat) (p:Int×Int),((List.range bs.length).map λc=>zbA g k c (es.map λe=>(e,e)) R)[c]?=some p→In p ((if k=c then (g:Rat) else 0)-zap e λj=>((es.getD j 0:Int):Rat)*s j c/(g:Rat)):=λc p hc=>by
   have hl:=(Vad.mp hc).1
   rw[Vab,Vbc] at hl
   rw[Vaf,show (List.range bs.length)[c]?=some c from Vbd hl] at hc
   cases hc
   unfold zbA
   refine In.take ?_ (In.sumP hg (n:=e) (by rw[Vab,le]) (by rw[Vab,lR]) tIn (sIn c (by omega)))
   by_cases x:k=c
   ·rw[if_pos x,if_pos x]
    exact⟨Rat.le_refl,Rat.le_refl⟩
   ·rw[if_neg x,if_neg x]
    exact⟨Rat.le_refl,Rat.le_refl⟩
  have ow:∀p∈bs.map (λp=>zbp p (zaE p)),p.1≤p.2:=λp hp=>by
   obtain⟨x,hx,rfl⟩:=Vah.mp hp
   have z:=ob x hx
   show x.1-mid x≤x.2-mid x
   omega
  have w1:=zoD hg tIn ot e (by rw[Vab,le]; exact Vaa _) (by rw[lt]; exact Vaa _)
  rw[VaF (by rw[Vab,le]; exact Vaa _),VaF (by rw[lt]; exact Vaa _)] at w1
  have w2:=zoD hg lIn ow q (by rw[Vab,Vbc,lb]; exact Vaa _) (by rw[Vab,lb]; exact Vaa _)
  rw[VaF (by rw[Vab,Vbc,lb]; exact Vaa _),VaF (by rw[Vab,lb]; exact Vaa _)] at w2
  have n1:(0:Rat)≤zap e (λj=>rab ((es.getD j 0:Int):Rat)*(((gt thin (j:Int)).2:Rat)-((gt thin (j:Int)).1:Rat))/(g:Rat)):=by
   have z:=zma (f:=λ_=>(0:Rat)) (h:=λj=>rab ((es.getD j 0:Int):Rat)*(((gt thin (j:Int)).2:Rat)-((gt thin (j:Int)).1:Rat))/(g:Rat)) e (λj hj=>by
    have hb:=Vac (show j<thin.length by omega)
    have z:=zcQ (ot _ (Vag hb))
    refine nn ?_
    rw[zbv hb]
    grind)
   rw[zjj] at z
   exact z
  have ew:zap q (λl=>rab ((if k=l then (g:Rat) else 0)-zap e λj=>((es.getD j 0:Int):Rat)*s j l/(g:Rat))*(((gt bs (l:Int)).2:Rat)-((gt bs (l:Int)).1:Rat))/(g:Rat))=zap q (λl=>rab ((if k=l then (g:Rat) else 0)-zap e λj=>((es.getD j 0:Int):Rat)*s j l/(g:Rat))*(((gt (bs.map λp=>zbp p (zaE p)) (l:Int)).2:Rat)-((gt (bs.map λp=>zbp p (zaE p)) (l:Int)).1:Rat))/(g:Rat)):=zcK q λl hl=>by
   have hb:=Vac (show l<bs.length by omega)
   have e1:gt (bs.map λp=>zbp p (zaE p)) (l:Int)=zbp bs[l] (zaE bs[l]):=zbv (by rw[Vaf,hb]; rfl)
   rw[e1,zpR,zbv hb]
   have e2:(((zaE bs[l]).2:Int):Rat)-(((zaE bs[l]).1:Int):Rat)=0:=by
    show ((mid bs[l]:Int):Rat)-((mid bs[l]:Int):Rat)=0
    grind
   rw[e2]
   grind
  rw[ew]
  unfold za9
  rw[zo2,zpR]
  have e3:(((zaE (gt bs (k:Int))).2:Int):Rat)-(((zaE (gt bs (k:Int))).1:Int):Rat)=0:=by
   show ((mid (gt bs (k:Int)):Int):Rat)-((mid (gt bs (k:Int)):Int):Rat)=0
   grind
  rw[e3]
  have n2:=Rat.le_trans n1 w1
  generalize zap q _=x at w2 ⊢
  generalize ((sumP g (es.map λe=>(e,e)) thin).2:Rat)-((sumP g (es.map λe=>(e,e)) thin).1:Rat)=y at n2 ⊢
  generalize ((sumP g ((List.range bs.length).map λc=>zbA g k c (es.map λe=>(e,e)) R) (bs.map λp=>zbp p (zaE p))).2:Rat)-((sumP g ((List.range bs.length).map λc=>zbA g k c (es.map λe=>(e,e)) R) (bs.map λp=>zbp p (zaE p))).1:Rat)=z at w2 ⊢
  grind
 have less:∀(k:Nat) (es:List Int),M[k]?=some es→((za9 g bs thin R k es).2:Rat)-((za9 g bs thin R k es).1:Rat)<((gt bs (k:Int)).2:Rat)-((gt bs (k:Int)).1:Rat):=λk es hm=>by
  obtain⟨d1,d2⟩:=dp k es hm
  have c1:=Rat.intCast_lt_intCast.mpr d1
  have c2:=Rat.intCast_lt_intCast.mpr d2
  grind
 refine zsu gp (λl=>((gt bs (l:Int)).2:Rat)-((gt bs (l:Int)).1:Rat)) w (λk l=>(if k=l then (g:Rat) else 0)-zap e λj=>(((M.getD k []).getD j 0:Int):Rat)*s j l/(g:Rat)) (λk hk=>?_) (λk hk=>?_) (λk hk=>?_)
 ·have hm:=Vac (show k<M.length by omega)
  have a:=fact k _ hm
  have b:=less k _ hm
  have n3:=zma (f:=λ_=>(0:Rat)) (h:=λl=>rab ((if k=l then (g:Rat) else 0)-zap e λj=>((M[k].getD j 0:Int):Rat)*s j l/(g:Rat))*(((gt bs (l:Int)).2:Rat)-((gt bs (l:Int)).1:Rat))/(g:Rat)) q (λl hl=>nn (rn l hl))
  rw[zjj] at n3
  have c:=Rat.le_trans n3 a
  show (0:Rat)<((gt bs (k:Int)).2:Rat)-((gt bs (k:Int)).1:Rat)
  generalize ((za9 g bs thin R k M[k]).2:Rat)-((za9 g bs thin R k M[k]).1:Rat)=y at b c
  generalize ((gt bs (k:Int)).2:Rat)-((gt bs (k:Int)).1:Rat)=x at b ⊢
  grind
 ·have hm:=Vac (show k<M.length by omega)
  have em:M.getD k []=M[k]:=by rw[Vai,hm]; rfl
  have a:=fact k _ hm
  have b:=less k _ hm
  simp only[em]
  exact rlt a b
 ·have z:=zrh (g:=(g:Rat)) (m:=0) (by grind) hk (λj=>(((M.getD k []).getD j 0:Int):Rat)) (λ_=>0) w s (e:=e) (λj hj=>by rw[zero j hj]; grind)
  have e0:(zap e λj=>(((M.getD k []).getD j 0:Int):Rat)*0/(g:Rat))=0:=by
   have z2:(zap e λj=>(((M.getD k []).getD j 0:Int):Rat)*0/(g:Rat))=zap e λ_=>(0:Rat):=zcK e λj _=>by grind
   rw[z2,zjj]
  rw[e0] at z
  have e1:(zap q λl=>((if k=l then (g:Rat) else 0)-zap e λj=>(((M.getD k []).getD j 0:Int):Rat)*s j l/(g:Rat))*w l)=(g:Rat)*zap q λl=>((if k=l then (g:Rat) else 0)-zap e λj=>(((M.getD k []).getD j 0:Int):Rat)*s j l/(g:Rat))*w l/(g:Rat):=by
   rw[← zdI]
   exact zcK q λl _=>rback gp
  show _=zap q λl=>((if k=l then (g:Rat) else 0)-zap e λj=>(((M.getD k []).getD j 0:Int):Rat)*s j l/(g:Rat))*w l
  rw[e1]
  generalize (zap q λl=>((if k=l then (g:Rat) else 0)-zap e λj=>(((M.getD k []).getD j 0:Int):Rat)*s j l/(g:Rat))*w l/(g:Rat))=x at z ⊢
  have z2:x=w k:=by
   clear fact less e0 e1
   grind
  rw[z2]
theorem zyy {t u g W:Int}{q:Nat}{s:Nat→Int}{j:Int}(hj:inR q j)(hs:s j.toNat=t-u):Dif (g*g*W) q s (t,g*W) (u,g*W) (λl=>if (l:Int)=j then (g,g) else (0,0)):=by
 refine⟨1,λl=>if (l:Int)=j then g else 0,by decide,λk hk=>?_,?_⟩
 ·by_cases e:(k:Int)=j
  ·simp only[if_pos e]
   omega
  ·simp only[if_neg e]
   omega
 ·rw[znr,if_pos (show 0≤j∧j<(q:Int) from hj),hs]
  try dsimp only
  grind
theorem zrD {q:Nat}{ns:List Nd}{ws:List Nat}{bs P P2:List (Int×Int)}{g W:Int}(net:zaD q ns ws)(hb:q=bs.length)(hp:q=P.length)(hp2:q=P2.length)(sb:Spn 51 bs)(hg:1≤g∧g≤1000000)(hW:1≤W)(ip:InW g bs P)(ip2:InW g bs P2)(zp:Pz 110 P)(zp2:Pz 110 P2)(pt:∀j:Int,inR q j→(gt P j).2=g*W)(pt2:∀j:Int,inR q j→(gt P2 j).2=g*W)
  {is:List Nat}(his:∀i∈is,i<ns.length)(same:∀i∈is,(gt (zal P ns) (i:Int)).1*(gt (zal P2 ns) (i:Int)).2=(gt (zal P2 ns) (i:Int)).1*(gt (zal P ns) (i:Int)).2){M:List (List Int)}(lM:M.length=q)(lE:∀es∈M,es.length=is.length)
  (dp:∀(k:Nat) (es:List Int),M[k]?=some es→(gt bs (k:Int)).1<(za9 g bs (is.map λ(i:Nat)=>gt (zar (bs.map zaE) g ns) i) (is.map λ(i:Nat)=>(zaC (zar bs g ns) g bs.length ns).getD i []) k es).1∧(za9 g bs (is.map λ(i:Nat)=>gt (zar (bs.map zaE) g ns) i) (is.map λ(i:Nat)=>(zaC (zar bs g ns) g bs.length ns).getD i []) k es).2<(gt bs (k:Int)).2):∀k:Nat,k<q→(gt P (k:Int)).1=(gt P2 (k:Int)).1:=by
 have gW:1≤g*W:=VaC (by omega) (by omega)
 have un:∀j:Int,inR q j→Dif (g*g*W) q (λl=>(gt P (l:Int)).1-(gt P2 (l:Int)).1) (gt P j) (gt P2 j) (λl=>if (l:Int)=j then (g,g) else (0,0)):=λj hj=>by
  have e:gt P j=((gt P j).1,g*W):=by rw[← pt j hj]
  have e2:gt P2 j=((gt P2 j).1,g*W):=by rw[← pt2 j hj]
  rw[e,e2]
  have ej:((j.toNat:Nat):Int)=j:=by have:=hj.1; omega
  refine zyy hj ?_
  show (gt P ((j.toNat:Nat):Int)).1-(gt P2 ((j.toNat:Nat):Int)).1=_
  rw[ej]
 have dif:=zqW (s:=λl=>(gt P (l:Int)).1-(gt P2 (l:Int)).1) (U:=g*g*W) net hb hp hp2 hg.1 ip ip2 zp zp2 un ns.length (Vaa _)
 rw[Vay] at dif
 have w16:∀j:Nat,j<ns.length→ws.getD j 0≤16:=λj hj=>(net.w1 (i:=j) ⟨by omega,by omega⟩).2
 have pzP2:Pz 1800 (zal P2 ns):=by
  have z:=zef net (by rw[hp2]) zp2 ns.length (Vaa _)
  rw[Vay] at z
  exact Pz.of_w z λj hj=>w16 j (by rw[zb4] at hj; exact hj)
 have pzP:Pz 1800 (zal P ns):=by
  have z:=zef net (by rw[hp]) zp ns.length (Vaa _)
  rw[Vay] at z
  exact Pz.of_w z λj hj=>w16 j (by rw[zb4] at hj; exact hj)
 have ex:∀j:Nat,∃dn:Int×(Nat→Int),∀i,is[j]?=some i→1≤dn.1∧(∀l,l<q→(gs (zaC (zar bs g ns) g q ns) (i:Int) l).1*dn.1≤dn.2 l∧dn.2 l≤(gs (zaC (zar bs g ns) g q ns) (i:Int) l).2*dn.1)∧zaZ q (λl=>dn.2 l*((gt P (l:Int)).1-(gt P2 (l:Int)).1))=0:=λj=>by
  cases e:is[j]? with
  | none=>exact⟨(1,λ_=>0),λi h=>by cases h⟩
  | some i=>
   have hi:=his i (Vag e)
   obtain⟨d,n,h1,h2,h3⟩:=dif (i:Int) ⟨by omega,by omega⟩
   refine⟨(d,n),λi' h=>by
    cases h
    refine⟨h1,h2,?_⟩
    have sm:=same i (Vag e)
    have rP:inR ((zal P ns).length:Nat) (i:Int):=⟨by omega,by rw[zb4]; omega⟩
    have rC:inR ((zal P2 ns).length:Nat) (i:Int):=⟨by omega,by rw[zb4]; omega⟩
    have p1:=(pzP.at rP).1
    have p2:=(pzP2.at rC).1
    have e0:(gt (zal P ns) (i:Int)).1*(gt (zal P2 ns) (i:Int)).2-(gt (zal P2 ns) (i:Int)).1*(gt (zal P ns) (i:Int)).2=0:=by omega
    rw[e0,VaU,VaU] at h3
    have pos:0<(gt (zal P ns) (i:Int)).2*(gt (zal P2 ns) (i:Int)).2:=VaC (by omega) (by omega)
    rcases Int.mul_eq_zero.mp h3.symm with z | z
    ·omega
    ·exact z⟩
 obtain⟨dn,hdn⟩:=Classical.skolem.mp ex
 have sIn:∀c:Nat,c<q→∀(j:Nat) (p:Int×Int),((is.map λ(i:Nat)=>(zaC (zar bs g ns) g bs.length ns).getD i []).map λr=>r.getD c (0,0))[j]?=some p→In p (((dn j).2 c:Rat)/((dn j).1:Rat)):=λc hc j p hj=>by
  rw[Vaf,Vaf] at hj
  cases e:is[j]? with
  | none=>rw[e] at hj; cases hj
  | some i=>
   rw[e] at hj
   cases hj
   obtain⟨h1,h2,_⟩:=hdn j i e
   obtain⟨h3,h4⟩:=h2 c hc
   rw[← hb]
   have z1:(gs (zaC (zar bs g ns) g q ns) (i:Int) c)=((zaC (zar bs g ns) g q ns).getD i []).getD c (0,0):=by
    unfold gs
    rw[Vam]
   rw[z1] at h3 h4
   exact⟨ziW h1 h3,zlP h1 h4⟩
 have net2:zaD ((bs.map zaE).length:Nat) ns ws:=by rw[Vab,← hb]; exact net
 have ot:∀p∈(is.map λ(i:Nat)=>gt (zar (bs.map zaE) g ns) i),p.1≤p.2:=λp hp=>by
  obtain⟨i,him,rfl⟩:=Vah.mp hp
  have sp:=zoP net2 rfl (zmR sb) hg ns.length (Vaa _)
  rw[Vay] at sp
  exact(sp.at (i:=(i:Int)) ⟨by omega,by rw[zcf]; have:=his i him; omega⟩).1
 intro k hk
 have z:=zxk (e:=is.length) hg.1 hb.symm (by rw[Vab]) (by rw[Vab]) lM lE (λp hp=>(sb p hp).1) ot dp (λj c=>((dn j).2 c:Rat)/((dn j).1:Rat)) sIn (λl=>(((gt P (l:Int)).1-(gt P2 (l:Int)).1:Int):Rat)) (λj hj=>?_) k hk
 ·have z2:(((gt P (k:Int)).1-(gt P2 (k:Int)).1:Int):Rat)=((0:Int):Rat):=z
  have z3:=Rat.intCast_inj.mp z2
  omega
 ·obtain⟨h1,_,h3⟩:=hdn j _ (Vac hj)
  have c:=zog (λl=>(dn j).2 l*((gt P (l:Int)).1-(gt P2 (l:Int)).1)) q
  rw[h3] at c
  have e:(zap q λl=>((dn j).2 l:Rat)/((dn j).1:Rat)*(((gt P (l:Int)).1-(gt P2 (l:Int)).1:Int):Rat))=(1/((dn j).1:Rat))*zap q λl=>(((dn j).2 l*((gt P (l:Int)).1-(gt P2 (l:Int)).1):Int):Rat):=by
   rw[← zdI]
   refine zcK q λl _=>?_
   rw[Rat.intCast_mul]
   generalize ((dn j).2 l:Rat)=x
   generalize (((gt P (l:Int)).1-(gt P2 (l:Int)).1:Int):Rat)=y
   generalize ((dn j).1:Rat)=u
   grind
  rw[e,← c]
  show 1/((dn j).1:Rat)*((0:Int):Rat)=0
  grind
theorem zw9 {v:Nd}{ns:List Nd}{n:Nat}{S:Sto}{Q:DK}{o:Option Nat}(h:S[n]?=some (.lst (ns.map Nd.d)))(e:zbB (eqN 1) (ns.map Nd.d) v.d=some o.isSome)(hq:Q (.bl (!o.isSome)) S):zcd (wIn 1 true) v.d (.ref n) S Q:=by
 rw[zcJ]
 unfold wIn
 simp only[zaO h rfl,zah,e]
 exact hq
theorem any_some {v:Nd}:∀ {ns:List Nd} {k:Nat},ns[k]?=some v→zbB (eqN 1) (ns.map Nd.d) v.d≠some (none:Option Nat).isSome
 | [],k,h=>by simp at h
 | u::us,0,h=>by
  have e:u=v:=by simpa using h
  subst e
  show (match eqN 1 u.d u.d,zbB (eqN 1) (us.map Nd.d) u.d with | some b,some c=>some (b||c) | _,_=>none)≠_
  obtain⟨c,hc⟩:=zoR u us
  rw[zuy,hc]
  simp
 | u::us,k+1,h=>by
  have ih:=any_some (ns:=us) (k:=k) (by simpa using h)
  show (match eqN 1 u.d v.d,zbB (eqN 1) (us.map Nd.d) v.d with | some b,some c=>some (b||c) | _,_=>none)≠_
  obtain⟨b,hb⟩:=zoT u v
  obtain⟨c,hc⟩:=zoR v us
  rw[hc] at ih
  rw[hb,hc]
  cases c
  ·exact absurd rfl ih
  ·simp
theorem zqq {vs us ps:List (Int×Int)}{k:Nat}{q:Int}(h:∀i:Int,inR k i→gt vs i=gt us i):∀v:Nd,v.ok k q→v.due vs ps=v.due us ps
 | .number _ _,_=>rfl
 | .unknown _,_=>rfl
 | .plus i j,ok=>by simp only[Nd.due,h i ok.1,h j ok.2]
 | .minus i j,ok=>by simp only[Nd.due,h i ok.1,h j ok.2]
 | .times i j,ok=>by simp only[Nd.due,h i ok.1,h j ok.2]
 | .power i n,ok=>by simp only[Nd.due,h i ok.1]
theorem zqN (P:List (Int×Int))(ns:List Nd):∀ms:List Nd,∃r,zal P (ns++ms)=zal P ns++r
 | []=>⟨[],by rw[Vbe,Vbe]⟩
 | v::ms=>by
  obtain⟨r,e⟩:=zqN P (ns++[v]) ms
  rw[List.append_assoc] at e
  refine⟨v.due (zal P ns) P::r,?_⟩
  rw[show ns++v::ms=ns++([v]++ms) from rfl,e,zdD,List.append_assoc]
  rfl
theorem zoh {P:List (Int×Int)}{ns ms:List Nd}{i:Int}(h:inR ns.length i):gt (zal P (ns++ms)) i=gt (zal P ns) i:=by
 obtain⟨r,e⟩:=zqN P ns ms
 rw[e]
 exact zvn (k:=ns.length) h (by rw[zb4]; exact Vaa _)
theorem zoK {P:List (Int×Int)}{ns:List Nd}{ws:List Nat}{q:Int}{j:Nat}{v:Nd}(net:zaD q ns ws)(h:ns[j]?=some v):gt (zal P ns) (j:Int)=v.due (zal P ns) P:=by
 have hj:=(Vad.mp h).1
 have e:ns=ns.take (j+1)++ns.drop (j+1):=(List.take_append_drop _ _).symm
 have e2:ns=ns.take j++ns.drop j:=(List.take_append_drop _ _).symm
 have l:(ns.take (j+1)).length=j+1:=by rw[Vaq]; omega
 have lj:(ns.take j).length=j:=by rw[Vaq]; omega
 have g1:gt (zal P ns) (j:Int)=gt (zal P (ns.take (j+1))) (j:Int):=by
  have z:=zoh (P:=P) (ns:=ns.take (j+1)) (ms:=ns.drop (j+1)) (i:=(j:Int)) ⟨by omega,by rw[l]; omega⟩
  rw[← e] at z
  exact z
 rw[g1,zbV h,zdD,zhA (by rw[zb4,lj])]
 refine zqq (k:=j) (q:=q) (λi hi=>?_) v (net.ok j v h).1
 have z:=zoh (P:=P) (ns:=ns.take j) (ms:=ns.drop j) (i:=i) (by rw[lj]; exact hi)
 rw[← e2] at z
 exact z.symm
theorem zty {ws us:List Nat}{i:Nat}(h:i<ws.length):(ws++us).getD i 0=ws.getD i 0:=by rw[Vai,Vai,Val h]
def Nd.hv:Nd→Nat
 | .minus _ _=>2
 | _=>1
theorem zpY:∀rs:List Nat,eqs (rs.map λi=>((true,i):Bool×Nat))=rs
 | []=>rfl
 | r::rs=>(congrArg (r::·) (zpY rs):r::eqs (rs.map λi=>((true,i):Bool×Nat))=r::rs)
def za4 (M:List (List Int))(r c:Nat):List (List Int):=(M.take r++M.drop (r+1)).map λe=>e.take c++e.drop (c+1)
def sgn (i:Int)(k:Nat):Int:=if k%2=1 then -i else i
def zaG:Nat→List (List Int)→Int
 | 0,_=>1
 | n+1,M=>((List.range (M.headD []).length).map λc=>(M.headD []).getD c 0*sgn (zaG n (za4 M 0 c)) c).sum
def Sq (n:Nat)(M:List (List Int)):Prop:=M.length=n∧∀r∈M,r.length=n
theorem zdK {n:Nat}{M:List (List Int)}(h:Sq (n+1) M){r c:Nat}(hr:r≤n)(hc:c≤n):Sq n (za4 M r c):=by
 obtain⟨h1,h2⟩:=h
 refine⟨by simp[za4]; omega,λq hq=>?_⟩
 simp only[za4,Vah,VaQ] at hq
 obtain⟨e,he,rfl⟩:=hq
 have hm:e∈M:=he.elim List.mem_of_mem_take List.mem_of_mem_drop
 have:=h2 e hm
 simp; omega
inductive Rows (S:Sto)(b:Nat):List D→List (List Int)→Prop
 | nil:Rows S b [] []
 | cons {a:Nat} {r:List Int} {ds:List D} {M:List (List Int)}:b≤a→S[a]?=some (.lst (r.map D.int))→Rows S b ds M→Rows S b (.ref a::ds) (r::M)
theorem Rows.keep {S T:Sto}{b:Nat}{ds:List D}{M:List (List Int)}(h:Rows S b ds M)(k:∀a o,b≤a→S[a]?=some o→T[a]?=some o):Rows T b ds M:=by
 induction h with
 | nil=>exact .nil
 | cons h1 h2 _ ih=>exact .cons h1 (k _ _ h1 h2) ih
theorem Rows.pre {S T:Sto}{b:Nat}{ds:List D}{M:List (List Int)}(h:Rows S b ds M)(p:Pre S T):Rows T b ds M:=h.keep λa o _ e=>p a o e
theorem Rows.low {S:Sto}{b c:Nat}{ds:List D}{M:List (List Int)}(h:Rows S b ds M)(k:c≤b):Rows S c ds M:=by
 induction h with
 | nil=>exact .nil
 | cons h1 h2 _ ih=>exact .cons (VaD k h1) h2 ih
theorem Rows.len {S:Sto}{b:Nat}{ds:List D}{M:List (List Int)}(h:Rows S b ds M):ds.length=M.length:=by
 induction h with
 | nil=>rfl
 | cons _ _ _ ih=>simp[ih]
theorem Rows.get {S:Sto}{b:Nat}{ds:List D}{M:List (List Int)}(h:Rows S b ds M):∀ {k:Nat} {d:D},ds[k]?=some d→∃a r,d=.ref a∧b≤a∧M[k]?=some r∧S[a]?=some (.lst (r.map D.int)):=by
 induction h with
 | nil=>intro k d e; simp at e
 | cons h1 h2 _ ih=>
  intro k d e
  cases k with
  | zero=>simp at e; exact⟨_,_,e.symm,h1,rfl,h2⟩
  | succ k=>exact ih (by simpa using e)
theorem Rows.get' {S:Sto}{b:Nat}{ds:List D}{M:List (List Int)}(h:Rows S b ds M){k:Nat}{r:List Int}(e:M[k]?=some r):∃a,ds[k]?=some (.ref a)∧b≤a∧S[a]?=some (.lst (r.map D.int)):=by
 have hk:k<ds.length:=by rw[h.len]; exact(Vad.mp e).1
 obtain⟨a,r',e1,e2,e3,e4⟩:=h.get (Vac hk)
 rw[e3] at e; cases e
 exact⟨a,by rw[Vac hk,e1],e2,e4⟩
theorem Rows.app {S:Sto}{b:Nat}{ds es:List D}{M M':List (List Int)}(h:Rows S b ds M)(g:Rows S b es M'):Rows S b (ds++es) (M++M'):=by
 induction h with
 | nil=>exact g
 | cons h1 h2 _ ih=>exact .cons h1 h2 ih
theorem Rows.snoc {S:Sto}{b a:Nat}{r:List Int}{ds:List D}{M:List (List Int)}(h:Rows S b ds M)(h1:b≤a)(h2:S[a]?=some (.lst (r.map D.int))):Rows S b (ds++[.ref a]) (M++[r]):=h.app (.cons h1 h2 .nil)
theorem Rows.drop {S:Sto}{b:Nat}{ds:List D}{M:List (List Int)}(h:Rows S b ds M):∀k:Nat,Rows S b (ds.drop k) (M.drop k):=by
 induction h with
 | nil=>intro k; simpa using Rows.nil
 | cons h1 h2 t ih=>
  intro k
  cases k with
  | zero=>exact .cons h1 h2 t
  | succ k=>simpa using ih k
theorem Rows.take {S:Sto}{b:Nat}{ds:List D}{M:List (List Int)}(h:Rows S b ds M):∀k:Nat,Rows S b (ds.take k) (M.take k):=by
 induction h with
 | nil=>intro k; simpa using Rows.nil
 | cons h1 h2 t ih=>
  intro k
  cases k with
  | zero=>simpa using Rows.nil
  | succ k=>simpa using Rows.cons h1 h2 (ih k)
def zbl (S:Sto)(n:Nat)(M:List (List Int)):Prop:=∃ds,S[n]?=some (.lst ds)∧Rows S 0 ds M
theorem zbl.pre {S T:Sto}{n:Nat}{M:List (List Int)}(h:zbl S n M)(p:Pre S T):zbl T n M:=by
 obtain⟨ds,h1,h2⟩:=h
 exact⟨ds,p _ _ h1,h2.pre p⟩
def Big (M:List (List Int)):Prop:=∀r∈M,∀x∈r,Sz 1030 x
theorem Big.minor {M:List (List Int)}(h:Big M)(r c:Nat):Big (za4 M r c):=λq hq x hx=>by
 simp only[za4,Vah,VaQ] at hq
 obtain⟨e,he,rfl⟩:=hq
 have hm:e∈M:=he.elim List.mem_of_mem_take List.mem_of_mem_drop
 rcases VaQ.mp hx with z | z
 ·exact h e hm x (List.mem_of_mem_take z)
 ·exact h e hm x (List.mem_of_mem_drop z)
theorem zo6 {B:Nat}:∀ {l:List Int},(∀x∈l,x.natAbs≤B)→l.sum.natAbs≤l.length*B
 | [],_=>by simp
 | x::l,h=>by
  have h1:=h x (by simp)
  have h2:=zo6 (l:=l) λy hy=>h y (by simp[hy])
  rw[List.sum_cons,VaE,Nat.succ_mul]
  omega
theorem zrG {k:Nat}{l:List Int}(h:∀x∈l,Sz k x)(hl:l.length≤4):Sz (k+2) l.sum:=by
 have hp:0<2^k:=Nat.two_pow_pos k
 have h1:=zo6 (B:=2^k-1) (l:=l) λx hx=>by have:=h x hx; unfold Sz at this; omega
 have h2:l.length*(2^k-1)≤4*(2^k-1):=Nat.mul_le_mul_right _ hl
 unfold Sz
 rw[Nat.pow_add]
 omega
theorem zk6 {k n:Nat}{i:Int}(h:Sz k i):Sz k (sgn i n):=by
 unfold sgn
 split
 ·exact h.neg
 ·exact h
theorem znL:∀ {n:Nat} {M:List (List Int)},Sq n M→Big M→n≤4→Sz (n*1034+1) (zaG n M)
 | 0,_,_,_,_=>by unfold Sz zaG; decide
 | n+1,M,h,b,hn=>by
  unfold zaG
  obtain⟨r,M',rfl⟩:∃r M',M=r::M':=by
   match M,h.1 with
   | r::M',_=>exact⟨r,M',rfl⟩
  have hr:r.length=n+1:=h.2 r (by simp)
  have q:Sz ((n*1034+1031)+2) (((List.range ((r::M').headD []).length).map λc=>((r::M').headD []).getD c 0*sgn (zaG n (za4 (r::M') 0 c)) c).sum):=by
   refine zrG (λx hx=>?_) (by simp[hr]; omega)
   obtain⟨c,hc,rfl⟩:=Vah.mp hx
   have hc':c<n+1:=by simpa [hr] using hc
   have e1:Sz 1030 ((r::M').headD [] |>.getD c 0):=by
    show Sz 1030 (r.getD c 0)
    rw[Vai,Vac (by omega)]
    exact b r (by simp) _ (VaB ..)
   have e2:=zk6 (n:=c) (znL (zdK h (Vak n) (show c≤n by omega)) (b.minor 0 c) (by omega))
   exact(e1.mul e2).mono (by omega)
  exact q.mono (by omega)
theorem zm7 {n:Nat}{M:List (List Int)}(h:Sq n M)(b:Big M)(hn:n≤4):Sz 4140 (zaG n M):=(znL h b hn).mono (by omega)
theorem zw2 {caps:List Nat}{tl te:TDE}{dl:Ev}{S T0:Sto}{Q:DK}{n:Nat}{ds:List D}{R:List (List Int)}(g:List Int→List Int)(htl:∀K:DK,K (.ref n) T0→tl dl S K)(hn:T0[n]?=some (.lst ds))(rows:Rows T0 0 ds R)(hl:ds.length≤1000)
  (ht:∀(a:Nat) (r:List Int) (S2:Sto) (K:DK),r∈R→S2[a]?=some (.lst (r.map D.int))→(∀(S3:Sto) (b:Nat),Pre S2 S3→S2.length≤b→S3[b]?=some (.lst ((g r).map D.int))→K (.ref b) S3)→te (some (.ref a)::zbx caps dl) S2 K)
  (hq:∀(S2:Sto) (ys:List D),Pre T0 S2→S2[T0.length]?=some (.lst ys)→Rows S2 0 ys (R.map g)→Q (.ref T0.length) S2):zco caps tl zcm te dl S Q:=by
 refine znz (S1:=T0) (n:=n) (o:=.lst ds) (λk ys S2=>Pre T0 S2∧S2[T0.length]?=some (.lst ys)∧ys.length=k∧Rows S2 (T0.length+1) ys ((R.take k).map g)) htl hn (λk ys S2 w=>⟨w.1 _ _ hn,w.2.1,w.2.2.1⟩) hl
  ⟨Pre.refl.push,zax _ _,rfl,by simpa using Rows.nil⟩ (λk x ys S2 K hx w hK=>?_) (λys S2 w=>?_)
 ·obtain⟨w1,w2,w3,w4⟩:=w
  obtain⟨a,r,rfl,_,hr,ha⟩:=rows.get hx
  refine ht a r S2 K (Vag hr) (w1 _ _ ha) λS3 b p3 hb e3=>?_
  have hlt:=zbX w2
  refine hK _ S3 (p3 _ _ w2) ⟨zpw (w1.trans p3) (Vaa _),zcI (p3 _ _ w2),by simp[w3],?_⟩
  have e:(R.take (k+1)).map g=(R.take k).map g++[g r]:=by rw[Va2,hr]; simp
  rw[e]
  refine Rows.snoc (w4.keep λa o l q=>?_) (by omega) ?_
  ·rw[VaM (by omega)]; exact p3 _ _ q
  ·rw[VaM (by omega)]; exact e3
 ·obtain⟨w1,w2,w3,w4⟩:=w
  have e:R.take (zah (.lst ds)).length=R:=VaF (by show R.length≤ds.length; rw[rows.len]; exact Vaa _)
  rw[e] at w4
  exact hq S2 ys w1 w2 (w4.low (Vak _))
theorem zwI {caps:List Nat}{ta:TDA}{te:TDE}{dl:Ev}{S T0:Sto}{Q:DK}{j:Nat}(g:Nat→List Int)(hta:∀K:List D→Sto→Prop,K [.int (j:Int)] T0→ta dl S K)(hj:j≤1000)
  (ht:∀(k:Nat) (S2:Sto) (K:DK),k<j→Pre T0 S2→(∀(S3:Sto) (b:Nat),Pre S2 S3→S2.length≤b→S3[b]?=some (.lst ((g k).map D.int))→K (.ref b) S3)→te (some (.int (k:Int))::zbx caps dl) S2 K)
  (hq:∀(S2:Sto) (ys:List D),Pre T0 S2→S2[T0.length]?=some (.lst ys)→Rows S2 0 ys ((List.range j).map g)→Q (.ref T0.length) S2):zc4 caps ta zcm te dl S Q:=by
 refine zuZ (S1:=T0) (j:=(j:Int)) (λk ys S2=>Pre T0 S2∧S2[T0.length]?=some (.lst ys)∧ys.length=k∧Rows S2 (T0.length+1) ys ((List.range k).map g)) hta (by omega) (λk ys S2 w=>⟨w.2.1,w.2.2.1⟩)
  ⟨Pre.refl.push,zax _ _,rfl,by simpa using Rows.nil⟩ (λk ys S2 K hk w hK=>?_) (λys S2 w=>?_)
 ·obtain⟨w1,w2,w3,w4⟩:=w
  refine ht k S2 K (by omega) w1 λS3 b p3 hb e3=>?_
  have hlt:=zbX w2
  refine hK _ S3 (p3 _ _ w2) ⟨zpw (w1.trans p3) (Vaa _),zcI (p3 _ _ w2),by simp[w3],?_⟩
  rw[List.range_succ,VaW]
  refine Rows.snoc (w4.keep λa o l q=>?_) (by omega) ?_
  ·rw[VaM (by omega)]; exact p3 _ _ q
  ·rw[VaM (by omega)]; exact e3
 ·obtain⟨w1,w2,w3,w4⟩:=w
  exact hq S2 ys w1 w2 (w4.low (Vak _))
theorem zk5 {n:Nat}{S:Sto}{o:Ob}{ns:List Int}{Q:DK}(h:S[n]?=some o)(hb:zcl (zah o)=some ns)(hq:Q (.int ns.sum) S):irr zmB [.ref n] S Q:=by
 rw[zed]
 unfold zmB
 simp only[zaO h (zqz hb),hb]
 exact hq
theorem zvx (l:List Int):zcl (l.map D.int)=some l:=by
 induction l with
 | nil=>rfl
 | cons x l ih=>simp only[Vaz,zcl,ih,Option.map_some]
def zhN (M:List (List Int))(n:Nat)(w g:Int)(i j:Nat):Int:=(sgn (zaG n (za4 M j i)) (j+i)*g*g).fdiv w
def zen (M:List (List Int))(n:Nat)(w g:Int)(i:Nat):List Int:=(List.range (n+1)).map (zhN M n w g i)
def zbL (M:List (List Int))(n:Nat)(w g:Int):List (List Int):=(List.range (n+1)).map (zen M n w g)
inductive zbO (S:Sto)(b:Nat):List D→List (List Int×Int)→Prop
 | nil:zbO S b [] []
 | cons {a:Nat} {o:List Int×Int} {ds:List D} {os:List (List Int×Int)}:b≤a→S[a]?=some (.lst (o.1.map D.int))→zbO S b ds os→zbO S b (.tup [.ref a,.int o.2]::ds) (o::os)
def zm9 (S:Sto)(n:Nat)(os:List (List Int×Int)):Prop:=∃ds,S[n]?=some (.lst ds)∧zbO S 0 ds os
theorem zbO.keep {S T:Sto}{b:Nat}{ds:List D}{os:List (List Int×Int)}(h:zbO S b ds os)(k:∀a o,b≤a→S[a]?=some o→T[a]?=some o):zbO T b ds os:=by
 induction h with
 | nil=>exact .nil
 | cons h1 h2 _ ih=>exact .cons h1 (k _ _ h1 h2) ih
theorem zbO.low {S:Sto}{b c:Nat}{ds:List D}{os:List (List Int×Int)}(h:zbO S b ds os)(k:c≤b):zbO S c ds os:=by
 induction h with
 | nil=>exact .nil
 | cons h1 h2 _ ih=>exact .cons (VaD k h1) h2 ih
theorem zbO.len {S:Sto}{b:Nat}{ds:List D}{os:List (List Int×Int)}(h:zbO S b ds os):ds.length=os.length:=by
 induction h with
 | nil=>rfl
 | cons _ _ _ ih=>simp[ih]
theorem zbO.get {S:Sto}{b:Nat}{ds:List D}{os:List (List Int×Int)}(h:zbO S b ds os):∀ {k:Nat} {d:D},ds[k]?=some d→∃a o,d=.tup [.ref a,.int o.2]∧b≤a∧os[k]?=some o∧S[a]?=some (.lst (o.1.map D.int)):=by
 induction h with
 | nil=>intro k d e; simp at e
 | cons h1 h2 _ ih=>
  intro k d e
  cases k with
  | zero=>simp at e; exact⟨_,_,e.symm,h1,rfl,h2⟩
  | succ k=>exact ih (by simpa using e)
theorem zbO.snoc {S:Sto}{b a:Nat}{o:List Int×Int}{ds:List D}{os:List (List Int×Int)}(h:zbO S b ds os)(h1:b≤a)(h2:S[a]?=some (.lst (o.1.map D.int))):zbO S b (ds++[.tup [.ref a,.int o.2]]) (os++[o]):=by
 induction h with
 | nil=>exact .cons h1 h2 .nil
 | cons g1 g2 _ ih=>exact .cons g1 g2 ih
theorem zm9.pre {S T:Sto}{n:Nat}{os:List (List Int×Int)}(h:zm9 S n os)(p:Pre S T):zm9 T n os:=by
 obtain⟨ds,h1,h2⟩:=h
 exact⟨ds,p _ _ h1,h2.keep λa o _ e=>p a o e⟩
def Fit (n:Nat)(o:List Int×Int):Prop:=o.1.length=n∧(∀x∈o.1,0≤x∧x<n)∧(o.2=1∨o.2=-1)
instance (n:Nat) (o:List Int×Int):Decidable (Fit n o):=by unfold Fit; infer_instance
theorem zpa {xs:List D}{i:Nat}:zdu xs none (some (i:Int))=xs.take i:=by
 unfold L3.zdu
 rw[HT.sIx_none,HT.sIx_nat,List.drop_zero,Nat.sub_zero]
 rw[List.take_eq_take_iff]
 omega
theorem zqQ {xs:List D}{i:Nat}:zdu xs (some (i:Int)) none=xs.drop i:=by
 unfold L3.zdu
 rw[HT.sIx_none,HT.sIx_nat]
 rcases Nat.le_total i xs.length with h | h
 ·rw[Nat.min_eq_left h]
  exact VaF (by rw[List.length_drop]; exact Vaa _)
 ·rw[Nat.min_eq_right h,List.drop_of_length_le (Vaa _),List.drop_of_length_le h]
  simp
theorem zl7 {r0:List Int}{k:Nat}{x:D}(hx:(r0.map D.int)[k]?=some x):x=.int (r0.getD k 0):=by
 have hk:k<r0.length:=by
  have:=(Vad.mp hx).1
  rwa [Vab] at this
 rw[Vaf,Vac hk] at hx
 rw[Vai,Vac hk]
 exact(Option.some.inj hx).symm
theorem zmr {r0:List Int}{M':List (List Int)}{n k:Nat}(sq:Sq (n+1) (r0::M'))(big:Big (r0::M'))(hn:n≤3)(hk:k<n+1):IntMulOk (r0.getD k 0) (sgn (zaG n (za4 (r0::M') 0 k)) (0+k)):=by
 have lr:r0.length=n+1:=sq.2 r0 (by simp)
 have e1:Sz 1030 (r0.getD k 0):=by
  rw[Vai,Vac (by omega)]
  exact big r0 (by simp) _ (VaB ..)
 exact zaM e1 (zk6 (zm7 (zdK sq (Vak _) (by omega)) (big.minor 0 k) (by omega)))
theorem zkG (n:Nat)(r0:List Int)(M':List (List Int)):zcl ((r0.map D.int).mapIdx λk d=>D.int (r0.getD k 0*sgn (zaG n (za4 (r0::M') 0 k)) k))=some ((List.range r0.length).map λk=>r0.getD k 0*sgn (zaG n (za4 (r0::M') 0 k)) k):=by
 have e:(r0.map D.int).mapIdx (λk d=>D.int (r0.getD k 0*sgn (zaG n (za4 (r0::M') 0 k)) k))=((List.range r0.length).map λk=>r0.getD k 0*sgn (zaG n (za4 (r0::M') 0 k)) k).map D.int:=by
  refine List.ext_getElem (by simp) λk h1 h2=>?_
  simp
 rw[e,zvx]
theorem zkW {m a:Nat}{S:Sto}{ds:List D}{K:List D→Sto→Prop}(hm:S[m]?=some (.lst ds))(hd:ds[0]?=some (.ref a))(hK:K [.ref a] S):wIx (.ref m) (.int 0) S (λx S1=>K [x] S1):=by
 have z:=zaI (n:=m) (S:=S) (o:=.lst ds) (i:=0) (d:=.ref a) (Q:=λx S1=>K [x] S1) hm (zix (j:=0) hd) hK
 rw[zcJ] at z
 exact z
theorem Rows.toI {S:Sto}{b:Nat}{ds:List D}{M:List (List Int)}(h:Rows S b ds M):zfN S ds M:=⟨h.len,λk d r hd hr=>by
 obtain⟨a,r',e,_,e3,e4⟩:=h.get hd
 rw[e3] at hr
 cases hr
 exact⟨a,e,e4⟩⟩
theorem ztZ {rows:List (Bool×Nat)}{i:Nat}(h:i∈eqs rows):(true,i)∈rows:=by
 obtain⟨⟨b,n⟩,hr,e⟩:=List.mem_filterMap.mp h
 cases b
 ·cases e
 ·cases e
  exact hr
def zkX (rows:List (Bool×Nat))(vs:List (Int×Int)):Bool:=rows.all λr=>r.1||decide (0≤(gt vs (r.2:Int)).1)
theorem zoA (vs:List (Int×Int)):∀rows:List (Bool×Nat),zca (((rows.map rwD)).filterMap (λd=>match d with | .tup [.str w,.int at']=>if w="least" then some (.bl (decide (0≤(gt vs at').1))) else none | _=>none))=some (rows.filterMap λr=>if r.1 then none else some (decide (0≤(gt vs (r.2:Int)).1)))
 | []=>rfl
 | (false,n)::rs=>by
  show (zca ((rs.map rwD).filterMap _)).map _=_
  rw[zoA vs rs]
  rfl
 | (true,n)::rs=>zoA vs rs
theorem zoX (vs:List (Int×Int)):∀rows:List (Bool×Nat),((rows.filterMap λr=>if r.1 then none else some (decide (0≤(gt vs (r.2:Int)).1))).all id)=zkX rows vs
 | []=>rfl
 | (false,n)::rs=>by
  show (decide _&&(rs.filterMap _).all id)=_
  rw[zoX vs rs]
  rfl
 | (true,n)::rs=>zoX vs rs
def zex (p q:Int×Int):Bool:=decide (q.1<p.1)&&decide (p.2<q.2)
def zhG (us vs:List (Int×Int)):Bool:=(List.zipWith zex us vs).all id
theorem ztp {us vs:List (Int×Int)}:zhG us vs=true↔∀(k:Nat) (p q:Int×Int),us[k]?=some p→vs[k]?=some q→q.1<p.1∧p.2<q.2:=by
 unfold zhG
 rw[List.all_eq_true]
 refine⟨λh k p q hp hq=>?_,λh b hb=>?_⟩
 ·have z:=h (zex p q) (Vag (i:=k) (by rw[List.getElem?_zipWith,hp,hq]))
  simpa [zex] using z
 ·obtain⟨k,hk⟩:=List.mem_iff_getElem?.mp hb
  rw[List.getElem?_zipWith] at hk
  cases e1:us[k]? with
  | none=>rw[e1] at hk; cases hk
  | some p=>
   cases e2:vs[k]? with
   | none=>rw[e1,e2] at hk; cases hk
   | some q=>
    rw[e1,e2] at hk
    obtain⟨a,b⟩:=h k p q e1 e2
    have z:=Option.some.inj hk
    subst z
    simp[zex,a,b]
theorem ztR (us vs:List (Int×Int)):zca (List.zipWith (λx y=>match x,y with | .tup [.int a,.int b],.tup [.int c,.int d]=>.bl (decide (c<a)&&decide (b<d)) | _,_=>.non) (us.map frD) (vs.map frD))=some (List.zipWith zex us vs):=by
 induction us generalizing vs with
 | nil=>rfl
 | cons u us ih=>
  cases vs with
  | nil=>rfl
  | cons v vs=>
   show (zca (List.zipWith _ (us.map frD) (vs.map frD))).map _=_
   rw[ih]
   rfl
def zd9 (g:Int)(bs:List (Int×Int))(ns:List Nd)(rows:List (Bool×Nat)):List (Int×Int):=(eqs rows).map λ(i:Nat)=>gt (zar (bs.map zaE) g ns) i
def zb2 (g:Int)(bs:List (Int×Int))(ns:List Nd)(rows:List (Bool×Nat)):List (List (Int×Int)):=(eqs rows).map λ(i:Nat)=>(zaC (zar bs g ns) g bs.length ns).getD i []
def za3 (g:Int)(bs:List (Int×Int))(ns:List Nd)(rows:List (Bool×Nat)):List (List Int):=(zb2 g bs ns rows).map λr=>r.map mid
def zcY (g:Int)(bs:List (Int×Int))(ns:List Nd)(rows:List (Bool×Nat))(M:List (List Int)):List (Int×Int):=M.mapIdx λk es=>za9 g bs (zd9 g bs ns rows) (zb2 g bs ns rows) k es
def alS (g:Int)(bs:List (Int×Int))(ns:List Nd)(rows:List (Bool×Nat)):Option (List (List Int)×List (Int×Int)):=
 if (eqs rows).length=bs.length∧zkX rows (zar bs g ns)=true then
  if zaG bs.length (za3 g bs ns rows)=0 then none
  else if zhG (zcY g bs ns rows (zbL (za3 g bs ns rows) (bs.length-1) (zaG bs.length (za3 g bs ns rows)) g)) bs=true then some (zbL (za3 g bs ns rows) (bs.length-1) (zaG bs.length (za3 g bs ns rows)) g,zcY g bs ns rows (zbL (za3 g bs ns rows) (bs.length-1) (zaG bs.length (za3 g bs ns rows)) g))
  else none
 else none
theorem zqF (M:List (List Int))(n:Nat)(w g:Int):(zbL M n w g).length=n+1:=by simp[zbL]
theorem zqj {M:List (List Int)}{n:Nat}{w g:Int}:∀r∈zbL M n w g,r.length=n+1:=λr hr=>by
 unfold zbL at hr
 obtain⟨i,_,rfl⟩:=Vah.mp hr
 simp[zen]
theorem zm3 {g:Int}{bs:List (Int×Int)}{ns:List Nd}{rows:List (Bool×Nat)}{M:List (List Int)}{near:List (Int×Int)}(h:alS g bs ns rows=some (M,near))(b1:1≤bs.length):(eqs rows).length=bs.length∧M.length=bs.length∧(∀es∈M,es.length=bs.length)∧near=zcY g bs ns rows M∧near.length=bs.length∧(∀(k:Nat) (es:List Int),M[k]?=some es→near[k]?=some (za9 g bs (zd9 g bs ns rows) (zb2 g bs ns rows) k es)∧(gt bs (k:Int)).1<(za9 g bs (zd9 g bs ns rows) (zb2 g bs ns rows) k es).1∧(za9 g bs (zd9 g bs ns rows) (zb2 g bs ns rows) k es).2<(gt bs (k:Int)).2):=by
 unfold alS at h
 split at h
 ·rename_i c
  split at h
  ·cases h
  ·split at h
   ·rename_i dp
    cases h
    have lM:=zqF (za3 g bs ns rows) (bs.length-1) (zaG bs.length (za3 g bs ns rows)) g
    have lM':(zbL (za3 g bs ns rows) (bs.length-1) (zaG bs.length (za3 g bs ns rows)) g).length=bs.length:=by omega
    refine⟨c.1,lM',λes he=>by have:=zqj es he; omega,rfl,by unfold zcY; rw[List.length_mapIdx,lM'],λk es hk=>?_⟩
    have e:(zcY g bs ns rows (zbL (za3 g bs ns rows) (bs.length-1) (zaG bs.length (za3 g bs ns rows)) g))[k]?=some (za9 g bs (zd9 g bs ns rows) (zb2 g bs ns rows) k es):=by
     unfold zcY
     rw[List.getElem?_mapIdx,hk]
     rfl
    have hl:=(Vad.mp hk).1
    have eb:=Vac (show k<bs.length by omega)
    refine⟨e,?_⟩
    rw[zbv eb]
    exact ztp.mp dp k _ _ e eb
   ·cases h
 ·cases h
theorem zr0 (t w:Int)(hw:w≠0):(t.fdiv w).natAbs≤t.natAbs+1:=by
 rcases Int.lt_or_lt_of_ne hw with h | h
 ·have e:t.fdiv w=(-t).fdiv (-w):=by rw[Int.neg_fdiv_neg]
  rw[e,Int.fdiv_eq_ediv_of_nonneg _ (by omega)]
  have:=Int.natAbs_ediv_le_natAbs (-t) (-w)
  omega
 ·rw[Int.fdiv_eq_ediv_of_nonneg _ (by omega)]
  have:=Int.natAbs_ediv_le_natAbs t w
  omega
theorem zuX {M:List (List Int)}{n:Nat}{w g:Int}(sq:Sq (n+1) M)(big:Big M)(hn:n≤3)(hw:w≠0)(hg:1≤g∧g≤1000000):∀r∈zbL M n w g,∀x∈r,Sz 4000 x:=λr hr x hx=>by
 unfold zbL at hr
 obtain⟨i,hi,rfl⟩:=Vah.mp hr
 unfold zen at hx
 obtain⟨j,hj,rfl⟩:=Vah.mp hx
 have hi9:=Va6.mp hi
 have hj9:=Va6.mp hj
 unfold zhN
 have e2:=zk6 (n:=j+i) (znL (zdK sq (show j≤n by omega) (show i≤n by omega)) (big.minor j i) (by omega))
 have eg:Sz 20 g:=Sz.of 1000000 (by omega)
 have e3:=(e2.mul eg).mul eg
 have e4:Sz 3999 (sgn (zaG n (za4 M j i)) (j+i)*g*g):=e3.mono (by omega)
 have:=zr0 (sgn (zaG n (za4 M j i)) (j+i)*g*g) w hw
 unfold Sz at *
 have e5:2^4000=2*2^3999:=by rw[Nat.pow_succ]; omega
 have e6:1<2^3999:=Nat.one_lt_two_pow (by decide)
 omega
theorem zqd {p q:Int×Int}(h1:p.1≤p.2)(h2:q.1≤q.2):(zdt p q).1≤(zdt p q).2:=by
 show p.1+q.1≤p.2+q.2
 omega
theorem ztH {p q:Int×Int}(h1:p.1≤p.2)(h2:q.1≤q.2):(zbp p q).1≤(zbp p q).2:=by
 show p.1-q.2≤p.2-q.1
 omega
theorem zqg {g:Int}(hg:1≤g)(us vs:List (Int×Int)):(sumP g us vs).1≤(sumP g us vs).2:=by
 rw[← zow]
 have main:∀k:Nat,k≤us.length→k≤vs.length→(sumP g (us.take k) (vs.take k)).1≤(sumP g (us.take k) (vs.take k)).2:=λk=>by
  induction k with
  | zero=>exact λ_ _=>Vat 0
  | succ k ih=>
   intro l1 l2
   have hu:=Vac (show k<us.length by omega)
   have hv:=Vac (show k<vs.length by omega)
   rw[zhe g us vs k hu hv]
   exact zqd (ih (by omega) (by omega)) (zmn _ _ hg)
 exact main _ (by omega) (by omega)
theorem zxL {g:Int}(hg:1≤g){box thin:List (Int×Int)}{R:List (List (Int×Int))}{k:Nat}{es:List Int}:(za9 g box thin R k es).1≤(za9 g box thin R k es).2:=by
 unfold za9
 exact zqd (ztH (Vat _) (zqg hg _ _)) (zqg hg _ _)
theorem zph {g:Int}{bs:List (Int×Int)}{ns:List Nd}{ws:List Nat}{rows:List (Bool×Nat)}{M:List (List Int)}{near:List (Int×Int)}(h:alS g bs ns rows=some (M,near))(b1:1≤bs.length)(net:zaD bs.length ns ws)(sb:Spn 51 bs)(hg:1≤g∧g≤1000000)(hi:∀i∈eqs rows,i<ns.length):near.length=bs.length∧(∀k:Nat,k<bs.length→(gt bs (k:Int)).1<(gt near (k:Int)).1∧(gt near (k:Int)).1≤(gt near (k:Int)).2∧(gt near (k:Int)).2<(gt bs (k:Int)).2)∧Spn 51 near:=by
 obtain⟨_,lM,_,_,ln,hk⟩:=zm3 h b1
 have main:∀k:Nat,k<bs.length→(gt bs (k:Int)).1<(gt near (k:Int)).1∧(gt near (k:Int)).1≤(gt near (k:Int)).2∧(gt near (k:Int)).2<(gt bs (k:Int)).2:=λk hb=>by
  obtain⟨e,d1,d2⟩:=hk k _ (Vac (show k<M.length by omega))
  rw[zbv e]
  exact⟨d1,zxL hg.1,d2⟩
 refine⟨ln,main,λp hp=>?_⟩
 obtain⟨k,hk⟩:=List.mem_iff_getElem?.mp hp
 have hl:=(Vad.mp hk).1
 obtain⟨m1,m2,m3⟩:=main k (by omega)
 rw[zbv hk] at m1 m2 m3
 have b:=sb _ (zd0 (vs:=bs) (i:=(k:Int)) ⟨by omega,by omega⟩)
 obtain⟨b1,b2,b3⟩:=b
 unfold Sz at *
 exact⟨m2,by omega,by omega⟩
structure Gr (q a c:Nat)(S:Sto)(ns:List Nd)(ws:List Nat)(T:Sto)(ns':List Nd)(ws':List Nat):Prop where
 net:zaD q ns' ws'
 pn:∃ms,ns'=ns++ms∧ms.length≤c
 pw:∃us,ws'=ws++us
 nd:T[a]?=some (.lst (ns'.map Nd.d))
 len:S.length≤T.length
 kp:∀(x:Nat) (o:Ob),x≠a→S[x]?=some o→T[x]?=some o
theorem Gr.refl {q a:Nat}{S:Sto}{ns:List Nd}{ws:List Nat}(net:zaD q ns ws)(h:S[a]?=some (.lst (ns.map Nd.d))):Gr q a 0 S ns ws S ns ws:=⟨net,⟨[],by simp,by simp⟩,⟨[],by simp⟩,h,Vaa _,λ_ _ _ e=>e⟩
theorem Gr.trans {q a c d:Nat}{S T U:Sto}{ns ns' ns2:List Nd}{ws ws' ws2:List Nat}(h:Gr q a c S ns ws T ns' ws')(k:Gr q a d T ns' ws' U ns2 ws2):Gr q a (c+d) S ns ws U ns2 ws2:=by
 obtain⟨n1,⟨ms,rfl,l1⟩,⟨us,rfl⟩,a1,e1,k1⟩:=h
 obtain⟨n2,⟨ms2,rfl,l2⟩,⟨us2,rfl⟩,a2,e2,k2⟩:=k
 exact⟨n2,⟨ms++ms2,by rw[List.append_assoc],by rw[Vav]; omega⟩,⟨us++us2,by rw[List.append_assoc]⟩,a2,by omega,λx o hx e=>k2 x o hx (k1 x o hx e)⟩
theorem Gr.mono {q a c d:Nat}{S T:Sto}{ns ns':List Nd}{ws ws':List Nat}(h:Gr q a c S ns ws T ns' ws')(l:c≤d):Gr q a d S ns ws T ns' ws':=by
 obtain⟨n1,⟨ms,e,l1⟩,u,a1,e1,k1⟩:=h
 exact⟨n1,⟨ms,e,by omega⟩,u,a1,e1,k1⟩
theorem Gr.ln {q a c:Nat}{S T:Sto}{ns ns':List Nd}{ws ws':List Nat}(h:Gr q a c S ns ws T ns' ws'):ns.length≤ns'.length∧ns'.length≤ns.length+c:=by
 obtain⟨n1,⟨ms,rfl,l1⟩,_⟩:=h
 rw[Vav]
 omega
theorem Gr.wt {q a c:Nat}{S T:Sto}{ns ns':List Nd}{ws ws':List Nat}(h:Gr q a c S ns ws T ns' ws')(net:zaD q ns ws){i:Nat}(hi:i<ns.length):ws'.getD i 0=ws.getD i 0:=by
 obtain⟨us,rfl⟩:=h.pw
 exact zty (by rw[net.len]; exact hi)
theorem Gr.due {q a c:Nat}{S T:Sto}{ns ns':List Nd}{ws ws':List Nat}(h:Gr q a c S ns ws T ns' ws')(P:List (Int×Int)){i:Nat}(hi:i<ns.length):gt (zal P ns') (i:Int)=gt (zal P ns) (i:Int):=by
 obtain⟨ms,rfl,_⟩:=h.pn
 exact zoh ⟨by omega,by omega⟩
theorem Gr.get {q a c:Nat}{S T:Sto}{ns ns':List Nd}{ws ws':List Nat}(h:Gr q a c S ns ws T ns' ws'){i:Nat}{v:Nd}(hi:ns[i]?=some v):ns'[i]?=some v:=by
 obtain⟨ms,rfl,_⟩:=h.pn
 rw[Val (Vad.mp hi).1]
 exact hi
theorem Gr.push {q a:Nat}{S:Sto}{ns:List Nd}{ws:List Nat}(net:zaD q ns ws)(h:S[a]?=some (.lst (ns.map Nd.d)))(U:Sto):Gr q a 0 S ns ws (S++U) ns ws:=⟨net,⟨[],by simp,by simp⟩,⟨[],by simp⟩,zaz h,by simp,λ_ _ _ e=>zaz e⟩
structure Zr (P:List (Int×Int))(ns:List Nd)(ws:List Nat)(w i:Nat):Prop where
 lt:i<ns.length
 wt:ws.getD i 0≤w
 due:(gt (zal P ns) (i:Int)).1=0
theorem Zr.up {P:List (Int×Int)}{q a c w i:Nat}{S T:Sto}{ns ns':List Nd}{ws ws':List Nat}(z:Zr P ns ws w i)(h:Gr q a c S ns ws T ns' ws')(net:zaD q ns ws):Zr P ns' ws' w i:=⟨by have:=h.ln; have:=z.lt; omega,by rw[h.wt net z.lt]; exact z.wt,by rw[h.due P z.lt]; exact z.due⟩
theorem zw7 {q a c:Nat}{S T:Sto}{ns ns':List Nd}{ws ws':List Nat}(h:Gr q a c S ns ws T ns' ws')(net:zaD q ns ws){v:Nd}(ok:v.ok ns.length q):v.wt ws'=v.wt ws:=by
 have z:∀i:Int,inR (ns.length:Nat) i→ws'.getD i.toNat 0=ws.getD i.toNat 0:=λi hi=>by
  have h0:=hi.1
  have h1:=hi.2
  exact h.wt net (by omega)
 cases v with
 | number _ _=>rfl
 | unknown _=>rfl
 | plus i j=>show ws'.getD i.toNat 0+ws'.getD j.toNat 0=ws.getD i.toNat 0+ws.getD j.toNat 0; rw[z i ok.1,z j ok.2]
 | minus i j=>show ws'.getD i.toNat 0+ws'.getD j.toNat 0=ws.getD i.toNat 0+ws.getD j.toNat 0; rw[z i ok.1,z j ok.2]
 | times i j=>show ws'.getD i.toNat 0+ws'.getD j.toNat 0=ws.getD i.toNat 0+ws.getD j.toNat 0; rw[z i ok.1,z j ok.2]
 | power i n=>show n.toNat*ws'.getD i.toNat 0=n.toNat*ws.getD i.toNat 0; rw[z i ok.1]
theorem zrz {q a c j:Nat}{S T:Sto}{ns ns':List Nd}{ws ws':List Nat}(h:Gr q a c S ns ws T ns' ws'){v:Nd}(ok:v.ok ns.length q)(hj:ns'[j]?=some v)(P:List (Int×Int)):gt (zal P ns') (j:Int)=v.due (zal P ns) P:=by
 rw[zoK (P:=P) h.net hj]
 refine zqq (k:=ns.length) (q:=q) (λi hi=>?_) v ok
 have h0:=hi.1
 have h1:=hi.2
 have z:=h.due P (i:=i.toNat) (by omega)
 rw[show ((i.toNat:Nat):Int)=i by omega] at z
 exact z
section
variable {X:Cx}{Z:Zx}
def zlI:W2:=λx y S Q=>match x,y with
 | .ref m,.ref n=>match lAt S n with
  | some o=>match zbB (zcp 1 S) (zah o) (.ref m) with
   | some b=>Q (.bl (!b)) S
   | none=>False
  | none=>False
 | _,_=>False
theorem znR {k m:Nat}{S:Sto}{d:D}{b:Bool}(e:zcp k S d (.ref m)=some b):∃n o o',d=.ref n∧lAt S n=some o∧lAt S m=some o'∧eqL (eqN k) (zah o) (zah o')=some b:=by
 cases d with
 | ref n=>
  unfold zcp at e
  dsimp only at e
  split at e
  ·rename_i o o' h1 h2
   exact⟨n,o,o',rfl,h1,h2,e⟩
  ·cases e
 | _=>simp[zcp,eqN,L3.eqT,eqF] at e
theorem zuj {k m:Nat}{pins:List (Addr×Obj)}{σ:L3.St}{H:Hp}{s:Shared}{r:List Addr}{S:Sto}(I:Inv X pins σ H s)(rel:Rel X.K Z r S H){d d':D}{v:V}{b b':Bool}(p:Rp r H d v)(p':Rp r H d' v)(e:zcp k S d (.ref m)=some b)(e':zcp k S d' (.ref m)=some b'):b=b':=by
 obtain⟨n,o,o1,rfl,h1,h2,h3⟩:=znR e
 obtain⟨n',o',o2,rfl,h1',h2',h3'⟩:=znR e'
 rw[h2] at h2'; cases h2'
 obtain⟨h1,eL⟩:=zbk h1
 obtain⟨h1',eL'⟩:=zbk h1'
 cases p with
 | ref hn=>
  cases p' with
  | ref hn'=>
   obtain⟨z,hz,ob⟩:=rel.at h1
   rw[hn] at hz; cases hz
   obtain⟨z,hz,ob'⟩:=rel.at h1'
   rw[hn'] at hz; cases hz
   obtain⟨xs,sq,pr⟩:=ob.list eL
   obtain⟨ys,sq',pr'⟩:=ob'.list eL'
   have ez:=I.list_inj sq sq'
   subst ez
   exact zmX (λd d' x v b b'=>zjw k d d' x v b b') pr pr' h3 h3'
theorem zqS {j:Nat}(hr:zaK j X.A):OpR X (compareOp .NotIn) (upO X.K Z (zcd zlI)):=by
 rw[zcJ]
 have hu:=hr.un
 intro pins s σ H x y v u Qv I rx ry h
 obtain⟨r,S,dx,dy,Q,rel,px,py,q,ret⟩:=h
 cases px with
 | @ref m am hm=>
  cases py with
  | @ref n a hn=>
   unfold zlI at q
   dsimp only at q
   split at q
   ·rename_i o eo
    split at q
    ·rename_i b eb
     cases rx
     cases ry
     obtain⟨eo,eL⟩:=zbk eo
     obtain⟨a',ha,ob⟩:=rel.at eo
     rw[hn] at ha; cases ha
     obtain⟨ys,sq,pr⟩:=ob.list eL
     obtain⟨us,ru,pl,_⟩:=I.list sq
     obtain⟨h1,h2⟩:=zm1 eb
     have at_:∀y∈us,∃d v,d∈zah o∧Rp r H d v∧zav v y:=λy hy=>by
      obtain⟨j,hj,ej⟩:=VaJ.mp hy
      have hv:j<ys.length:=by rw[ru.length]; exact hj
      have gv:ys[j]?=some ys[j]:=by simp[hv]
      obtain⟨w,gw,rw'⟩:=ru.get gv
      obtain⟨d,gd,pd⟩:=pr.get' gv
      have ew:w=y:=by
       rw[Vac hj,ej] at gw
       exact(Option.some.inj gw).symm
      subst ew
      exact⟨d,_,Vag gd,pd,rw'⟩
     classical
     refine SeqAt.notIn_listAt (λy=>decide (∃d v,d∈zah o∧Rp r H d v∧zav v y∧zcp 1 S d (.ref m)=some true)) pl.isList (λy hy=>?_) ?_
     ·obtain⟨d,v,hd,pd,rd⟩:=at_ y (by simpa using hy)
      obtain⟨c,hc⟩:=h1 d hd
      have same:decide (∃d v,d∈zah o∧Rp r H d v∧zav v y∧zcp 1 S d (.ref m)=some true)=c:=by
       cases c with
       | true=>exact decide_eq_true ⟨d,v,hd,pd,rd,hc⟩
       | false=>
        refine decide_eq_false λ⟨d',v',_,pd',rd',hc'⟩=>?_
        have ev:=zm2 rd rd'
        subst ev
        exact absurd (zuj I rel pd pd' hc hc') (by decide)
      show SeqAt.EqAt _ s y _ (decide _)
      rw[same]
      obtain⟨n',o1,o2,rfl,g1,g2,g3⟩:=znR hc
      cases pd with
      | @ref _ a2 hp=>
       cases rd
       by_cases hne:a2=am
       ·subst hne
        have ct:c=true:=by
         obtain⟨g1,eL1⟩:=zbk g1
         obtain⟨g2,eL2⟩:=zbk g2
         obtain⟨z,hz,ob1⟩:=rel.at g1
         rw[hp] at hz; cases hz
         obtain⟨z,hz,ob2⟩:=rel.at g2
         rw[hm] at hz; cases hz
         obtain⟨xs1,sq1,pr1⟩:=ob1.list eL1
         obtain⟨xs2,sq2,pr2⟩:=ob2.list eL2
         have ez:=I.list_inj sq1 sq2
         subst ez
         exact zna (znF 1) pr1 pr2 g3
        subst ct
        exact SeqAt.EqAt.same _
       ·exact SeqAt.EqAt.of_refs hne (zxx (A:=X.A.in1) I rel hp hm g1 g2 g3 (by show X.A.units+1+1+1<_; omega))
     ·have eqb:us.toArray.any (λy=>decide (∃d v,d∈zah o∧Rp r H d v∧zav v y∧zcp 1 S d (.ref m)=some true))=b:=by
       rw[Va9,h2,List.any_toArray,List.any_eq_true]
       refine⟨λ⟨y,hy,q⟩=>?_,λ⟨d,hd,q⟩=>?_⟩
       ·obtain⟨d,v,hd,_,_,q'⟩:=of_decide_eq_true q
        exact⟨d,hd,q'⟩
       ·obtain⟨j,hj,ej⟩:=VaJ.mp hd
        have gd:(zah o)[j]?=some d:=by simp[hj,ej]
        obtain⟨v,gv,pv⟩:=pr.get gd
        obtain⟨w,gw,rw'⟩:=ru.get gv
        exact⟨w,Vag gw,decide_eq_true ⟨d,v,hd,pv,rw',q⟩⟩
      rw[eqb]
      exact⟨.bl (!b),H,I,rfl,ret _ _ _ _ _ Ext.refl rel (.bl (!b)) q⟩
    ·exact q.elim
   ·exact q.elim
  | _=>exact(show False from q).elim
 | _=>exact(show False from q).elim
def znE (t:TDE):TDT:=λdl S Q=>t dl S λd S'=>match d with
 | .ref n=>match lAt S' n with
  | some o=>Q (!(zah o).isEmpty) S'
  | none=>False
 | _=>False
theorem zsj {e:Expr}{t:TDE}(h:PD X Z e t)(he:∀whole,isTrue e X.env whole=(do let v ← whole; standAt e.pos; holding [v] (truthy v)):=by intro _; rfl):PDT X Z e (znE t):=
 ziv (zrT h he) λσ H Qb ⟨r,dl,S,Q,rs,rel,h,ret⟩=>⟨r,dl,S,_,rs,rel,h,λv H' r' d S' e rel' p q=>by
  cases p with
  | ref hn=>
   dsimp only at q
   split at q
   ·rename_i o eo
    obtain⟨eo,eL⟩:=zbk eo
    obtain⟨z,hz,ob⟩:=rel'.at eo
    rw[hn] at hz; cases hz
    obtain⟨xs,sq,pr⟩:=ob.list eL
    refine⟨!xs.isEmpty,.inl ⟨xs,sq,rfl⟩,?_⟩
    have ex:xs.isEmpty=(zah o).isEmpty:=by
     have l:=pr.1
     cases xs <;> cases h2:zah o <;> rw[h2] at l <;> simp at l <;> rfl
    rw[ex]
    exact ret _ _ _ _ e rel' q
   ·exact q.elim
  | _=>exact(show False from q).elim⟩
end
theorem zrB (p q:Int×Int):eqN 1 (frD p) (frD q)=some (decide (p=q)):=by
 obtain⟨a,b⟩:=p
 obtain⟨c,d⟩:=q
 show some (decide (a=c)&&(decide (b=d)&&true))=_
 rw[Bool.and_true,← Bool.decide_and]
 congr 1
 exact decide_eq_decide.mpr (by rw[Prod.mk.injEq])
theorem zmW:∀us vs:List (Int×Int),eqL (eqN 1) (us.map frD) (vs.map frD)=some (decide (us=vs))
 | [],[]=>rfl
 | [],v::vs=>rfl
 | u::us,[]=>rfl
 | u::us,v::vs=>by
  show (match eqN 1 (frD u) (frD v),eqL (eqN 1) (us.map frD) (vs.map frD) with | some b,some c=>some (b&&c) | _,_=>none)=_
  rw[zrB,zmW us vs]
  show some (decide (u=v)&&decide (us=vs))=_
  rw[← Bool.decide_and]
  congr 1
  exact decide_eq_decide.mpr (by rw[List.cons.injEq])
theorem zp6 {S:Sto}{m:Nat}{r:List (Int×Int)}(hm:S[m]?=some (.lst (r.map frD))):∀ {ds:List D} {R:List (List (Int×Int))} {lo:Nat},zaF S lo ds R→zbB (zcp 1 S) ds (.ref m)=some (decide (r∈R))
 | [],R,lo,h=>by
  cases R with
  | nil=>rfl
  | cons x xs=>exact absurd h.1 (by simp)
 | d::ds,R,lo,h=>by
  cases R with
  | nil=>exact absurd h.1 (by simp)
  | cons x xs=>
   obtain⟨a,ea,_,ha⟩:=h.2 0 d x rfl rfl
   have ih:=zp6 hm (ds:=ds) (R:=xs) (lo:=lo) ⟨by have:=h.1; simpa using this,λk d' r' hd hr=>h.2 (k+1) d' r' hd hr⟩
   subst ea
   have e1:zcp 1 S (.ref a) (.ref m)=some (decide (x=r)):=by
    simp only[zcp,zaO ha rfl,zaO hm rfl,zah,zmW]
   unfold zbB
   rw[e1,ih]
   show some (decide (x=r)||decide (r∈xs))=_
   rw[← Bool.decide_or]
   congr 1
   refine decide_eq_decide.mpr ?_
   rw[Vas]
   exact⟨λq=>q.elim (λe=>.inl e.symm) .inr,λq=>q.elim (λe=>.inl e.symm) .inr⟩
theorem zq2 {n m lo:Nat}{S:Sto}{Q:DK}{ds:List D}{R:List (List (Int×Int))}{r:List (Int×Int)}(hn:S[n]?=some (.lst ds))(rows:zaF S lo ds R)(hm:S[m]?=some (.lst (r.map frD)))(h1:r∈R→Q (.bl false) S)(h2:r ∉ R→Q (.bl true) S):zcd zlI (.ref m) (.ref n) S Q:=by
 rw[zcJ]
 unfold zlI
 simp only[zaO hn rfl,zah,zp6 hm rows]
 by_cases c:r∈R
 ·rw[decide_eq_true c]; exact h1 c
 ·rw[decide_eq_false c]; exact h2 c
theorem zw0 {P:List (Int×Int)}(h:P≠[]):∃p∈P,atI (P.map frD) (-1)=some (frD p):=by
 have l:0<P.length:=List.length_pos_iff.mpr h
 refine⟨P[P.length-1],VaB _,?_⟩
 unfold atI
 have e:ixN (P.map frD).length (-1)=some (P.length-1):=by
  rw[Vab]
  unfold ixN
  rw[if_neg (by decide),if_pos (by omega)]
  congr 1
  omega
 rw[e]
 show (P.map frD)[P.length-1]?=_
 rw[Vaf,Vac (by omega)]
 rfl
theorem zpM {α:Type}{xs:List α}{x:α}(h:xs.Nodup)(hx:x ∉ xs):(xs++[x]).Nodup:=by
 rw[List.nodup_append]
 exact⟨h,by simp,λa ha b hb=>by rw[VaS.mp hb]; intro e; exact hx (e ▸ ha)⟩
theorem zs1 {R:List (List (Int×Int))}(h:R.Nodup):(R.map List.reverse).Nodup:=by
 unfold List.Nodup at h ⊢
 rw[List.pairwise_map]
 exact h.imp λhne e=>hne (List.reverse_inj.mp e)
theorem zx3 {A B:List (Int×Int)}(h:A.map frD=B.map frD):A=B:=by
 have e:=zmW A B
 rw[← h,zpT] at e
 exact of_decide_eq_true (Option.some.inj e).symm
noncomputable def zdo (T:Sto)(g:Int)(B:List (Int×Int))(d:D):Option D:=@ite _ (∃a A,d=.ref a∧T[a]?=some (.lst (A.map frD))∧InW g B A) (Classical.propDecidable _) (some d) none
theorem zp3 {T:Sto}{g:Int}{A B:List (Int×Int)}{a:Nat}(ha:T[a]?=some (.lst (A.map frD)))(h:InW g B A):zdo T g B (.ref a)=some (.ref a):=if_pos ⟨a,A,rfl,ha,h⟩
theorem zpF {T:Sto}{g:Int}{A B:List (Int×Int)}{a:Nat}(ha:T[a]?=some (.lst (A.map frD)))(h:¬ InW g B A):zdo T g B (.ref a)=none:=if_neg λ⟨b,C,e,hb,q⟩=>by
 cases e
 rw[ha] at hb
 have z:=zx3 (Ob.lst.inj (Option.some.inj hb))
 exact h (z ▸ q)
noncomputable def inP (g:Int)(B A:List (Int×Int)):Bool:=@decide (InW g B A) (Classical.propDecidable _)
theorem zqH {T:Sto}{g:Int}{B:List (Int×Int)}{lo:Nat}:∀ {ds:List D} {R:List (List (Int×Int))},zaF T lo ds R→zaF T lo (ds.filterMap (zdo T g B)) (R.filter (inP g B))
 | [],R,h=>by
  cases R with
  | nil=>exact zaF.nil
  | cons x xs=>exact absurd h.1 (by simp)
 | d::ds,R,h=>by
  cases R with
  | nil=>exact absurd h.1 (by simp)
  | cons x xs=>
   obtain⟨a,ea,la,ha⟩:=h.2 0 d x rfl rfl
   have ih:=zqH (g:=g) (B:=B) (ds:=ds) (R:=xs) ⟨by have:=h.1; simpa using this,λk d' r' hd hr=>h.2 (k+1) d' r' hd hr⟩
   subst ea
   by_cases c:InW g B x
   ·have e1:inP g B x=true:=by unfold inP; exact @decide_eq_true _ (Classical.propDecidable _) c
    rw[List.filterMap_cons,zp3 ha c,List.filter_cons_of_pos e1]
    refine⟨by show _+1=_+1; rw[ih.1],λk d' r' hd hr=>?_⟩
    cases k with
    | zero=>
     cases hd
     cases hr
     exact⟨a,rfl,la,ha⟩
    | succ k=>exact ih.2 k d' r' hd hr
   ·have e1:¬ inP g B x=true:=by unfold inP; intro q; exact c (@of_decide_eq_true _ (Classical.propDecidable _) q)
    rw[List.filterMap_cons,zpF ha c,List.filter_cons_of_neg e1]
    exact ih
theorem zwM {α:Type}{R:List α}{P:α→Bool}{x:α}(nd:R.Nodup)(hx:x∈R)(px:P x=true)(uni:∀y∈R,P y=true→y=x):R.filter P=[x]:=by
 have n2:(R.filter P).Nodup:=nd.filter P
 have m:x∈R.filter P:=List.mem_filter.mpr ⟨hx,px⟩
 have al:∀y∈R.filter P,y=x:=λy hy=>uni y (List.mem_filter.mp hy).1 (List.mem_filter.mp hy).2
 cases e:R.filter P with
 | nil=>rw[e] at m; cases m
 | cons a l=>
  rw[e] at n2 al
  have ea:=al a (by simp)
  cases l with
  | nil=>rw[ea]
  | cons b l=>
   have eb:=al b (by simp)
   rw[List.nodup_cons] at n2
   exact absurd (by rw[ea,eb]; simp) n2.1
theorem zuA {T:Sto}{g:Int}{B:List (Int×Int)}{d y:D}(h:zdo T g B d=some y):y=d:=by
 unfold zdo at h
 by_cases c:∃a A,d=.ref a∧T[a]?=some (.lst (A.map frD))∧InW g B A
 ·rw[if_pos c] at h
  exact(Option.some.inj h).symm
 ·rw[if_neg c] at h
  cases h
theorem zt4 {A B:List (Int×Int)}{G:Int}(l:A.length=B.length)(h1:∀p∈A,p.2=G)(h2:∀p∈B,p.2=G)(h:∀k:Nat,k<A.length→(gt A (k:Int)).1=(gt B (k:Int)).1):A=B:=by
 refine List.ext_getElem l λk ha hb=>?_
 have e:=h k ha
 rw[zbv (Vac ha),zbv (Vac hb)] at e
 exact Prod.ext e ((h1 _ (VaB ha)).trans (h2 _ (VaB hb)).symm)
theorem zwQ {g W:Int}{ns:List Nd}{ws:List Nat}{rows:List (Bool×Nat)}{P bs near:List (Int×Int)}{M:List (List Int)}(e:alS g bs ns rows=some (M,near))(hg:1≤g∧g≤1000000)(hW:1≤W∧W≤60)(hi:∀i∈eqs rows,i<ns.length)(zero:∀i∈eqs rows,(gt (zal P ns) (i:Int)).1=0)(zp:Pz 110 P)(pt:∀j:Int,inR P.length j→(gt P j).2=g*W)(net:zaD bs.length ns ws)(b1:1≤bs.length)(lb:bs.length=P.length)(sb:Spn 51 bs)(ip:InW g bs P):InW g near P:=λj hj=>by
 obtain⟨ln,dp,sn⟩:=zph e b1 net sb hg hi
 obtain⟨le,lM,lE,_,_,hk⟩:=zm3 e b1
 have h0:=hj.1
 have h1:=hj.2
 have hm:=Vac (show j.toNat<M.length by omega)
 obtain⟨en,_⟩:=hk _ _ hm
 have st:=zrU (is:=eqs rows) (k:=j.toNat) (es:=M[j.toNat]) net rfl lb sb hg hW ip zp (by rw[lb]; exact pt) hi zero (by omega) (by rw[lE _ (Vag hm),le])
 have eg:=zbv en
 rw[show ((j.toNat:Nat):Int)=j by omega] at eg st
 rw[eg]
 exact st
theorem zuh {g W x lo hi G:Int}(hg:1≤g)(hW:1≤W)(eG:G=g*W)(h1:lo<x/W)(h2:x/W<hi):lo*G≤x*g∧x*g≤hi*G:=by
 subst eG
 have d:=Int.mul_ediv_add_emod x W
 have r:=zew (a:=x) (b:=W) (by omega)
 have a1:lo*W≤x:=by
  have z:=Vae (show lo≤x/W by omega) (show 0≤W by omega)
  have e:x/W*W=W*(x/W):=Va0 _ _
  omega
 have a2:x≤hi*W:=by
  have z:=Vae (show x/W+1≤hi by omega) (show 0≤W by omega)
  have e:(x/W+1)*W=W*(x/W)+W:=by grind
  omega
 have b1:=Vae a1 (show 0≤g by omega)
 have b2:=Vae a2 (show 0≤g by omega)
 have e1:lo*(g*W)=lo*W*g:=by grind
 have e2:hi*(g*W)=hi*W*g:=by grind
 omega
theorem cross {v u p1 p2 t b:Int}(h:1≤p2)(e:v*p2=p1*u)(te:t*p2=p1*b):v*b-t*u=0:=by
 have z:p2*(v*b-t*u)=0:=by grind
 rcases Int.mul_eq_zero.mp z with q | q
 ·omega
 ·exact q
theorem zwK {t:TDE}{dl:Ev}{S S1:Sto}{Q:Bool→Sto→Prop}{n:Nat}{xs:List D}(ht:∀K:DK,K (.ref n) S1→t dl S K)(h:S1[n]?=some (.lst xs))(h1:xs=[]→Q false S1)(h2:xs≠[]→Q true S1):znE t dl S Q:=by
 unfold znE
 refine ht _ ?_
 simp only[zaO h rfl,zah]
 cases xs with
 | nil=>exact h1 rfl
 | cons x xs=>exact h2 (by simp)
structure zbJ (K:PySem.W.Frag)(mg:Str→Option Value) where
 C:Addr
 m:mg "Number"=some (.ref C)
 cl:Cls K C
 n_bottom:zbu K C "bottom"
 n_top:zbu K C "top"
 makes:PySem.W.makesIn K C=true
 kp:PySem.W.keepIn K (.ref C)=true
structure zbN (K:PySem.W.Frag)(mg:Str→Option Value) where
 C:Addr
 m:mg "Unknown"=some (.ref C)
 cl:Cls K C
 n_place:zbu K C "place"
 makes:PySem.W.makesIn K C=true
 kp:PySem.W.keepIn K (.ref C)=true
structure zbH (K:PySem.W.Frag)(mg:Str→Option Value) where
 C:Addr
 m:mg "Plus"=some (.ref C)
 cl:Cls K C
 n_other:zbu K C "other"
 n_one:zbu K C "one"
 makes:PySem.W.makesIn K C=true
 kp:PySem.W.keepIn K (.ref C)=true
structure zbG (K:PySem.W.Frag)(mg:Str→Option Value) where
 C:Addr
 m:mg "Minus"=some (.ref C)
 cl:Cls K C
 n_other:zbu K C "other"
 n_one:zbu K C "one"
 makes:PySem.W.makesIn K C=true
 kp:PySem.W.keepIn K (.ref C)=true
structure zbE (K:PySem.W.Frag)(mg:Str→Option Value) where
 C:Addr
 m:mg "Times"=some (.ref C)
 cl:Cls K C
 n_other:zbu K C "other"
 n_one:zbu K C "one"
 makes:PySem.W.makesIn K C=true
 kp:PySem.W.keepIn K (.ref C)=true
structure zbK (K:PySem.W.Frag)(mg:Str→Option Value) where
 C:Addr
 m:mg "Power"=some (.ref C)
 cl:Cls K C
 n_many:zbu K C "many"
 n_one:zbu K C "one"
 makes:PySem.W.makesIn K C=true
 kp:PySem.W.keepIn K (.ref C)=true
def zhk:Sd:=λds S Q ex=>match ds with
 | [.int _]=>∀g:Int,1≤g→g≤1000000→Q (.int g) S
 | _=>False
theorem zsD:Ln (zhk) 1:=λds S Q ex h=>by unfold zhk at h; split at h <;> first | rfl | exact h.elim
def zc6:Sd:=λds S Q ex=>match ds with
 | [.ref n,.int k]=>∃ns:List Int,S[n]?=some (.frz (ns.map D.int))∧0≤k∧Q (.int (ns.getD k.toNat 0)) S
 | _=>False
theorem zuB:Ln (zc6) 2:=λds S Q ex h=>by unfold zc6 at h; split at h <;> first | rfl | exact h.elim
def zhs:Sd:=λds S Q ex=>match ds with
 | [.ref a,.ref sc]=>∃(cs:List Int) (A:List (Int×Int)),S[sc]?=some (.frz (cs.map D.int))∧S[a]?=some (.lst (A.map frD))∧A.length≤4∧(∀p∈A,p.1.natAbs≤1000000)∧∀(T:Sto) (m:Nat) (B:List (Int×Int)),Pre S T→S.length≤m→T[m]?=some (.lst (B.map frD))→B.length=A.length→(∀k:Nat,k<A.length→(gt B (k:Int)).1<(gt A (k:Int)).1∧(gt A (k:Int)).1<(gt B (k:Int)).2)→(∀p∈B,p.1≤p.2∧p.1.natAbs≤2000000∧p.2.natAbs≤2000000)→Q (.ref m) T
 | _=>False
theorem zvb:Ln (zhs) 2:=λds S Q ex h=>by unfold zhs at h; split at h <;> first | rfl | exact h.elim
def zio:Sd:=λds S Q ex=>match ds with
 | [.ref r]=>∃rows:List (Bool×Nat),S[r]?=some (.lst (rows.map rwD))∧rows.length≤900∧Q (.ref S.length) (S++[.lst ((eqs rows).map wtD)])
 | _=>False
theorem zwz:Ln (zio) 1:=λds S Q ex h=>by unfold zio at h; split at h <;> first | rfl | exact h.elim
def zeC:Sd:=λds S Q ex=>match ds with
 | [.ref e,.ref p]=>∃(xs:List D) (is:List Nat),S[e]?=some (.lst xs)∧S[p]?=some (.lst (is.map wtD))∧is.length≤900∧(∀i∈is,i<xs.length)∧Q (.ref S.length) (S++[.lst (is.map λi=>xs.getD i .non)])
 | _=>False
theorem zxG:Ln (zeC) 2:=λds S Q ex h=>by unfold zeC at h; split at h <;> first | rfl | exact h.elim
def zgk:Sd:=λds S Q ex=>match ds with
 | [.tup [.int a,.int b],.tup [.int c,.int d]]=>(IntMulOk a d∧IntMulOk c b)∧Q (.bl (decide (a*d<c*b))) S
 | _=>False
theorem zxC:Ln (zgk) 2:=λds S Q ex h=>by unfold zgk at h; split at h <;> first | rfl | exact h.elim
def zd3:Sd:=λds S Q ex=>match ds with
 | [.int t,.int b]=>CFd 0 b∧Q (.int (-(-t/b))) S
 | _=>False
theorem ztA:Ln (zd3) 2:=λds S Q ex h=>by unfold zd3 at h; split at h <;> first | rfl | exact h.elim
def zh9:Sd:=λds S Q ex=>match ds with
 | [.tup [.int a,.int b],.tup [.int c,.int d],.int g]=>((IntMulOk c b∧IntMulOk a d)∧¬ c*b<a*d∧IntMulOk a g∧IntMulOk c g∧CFd 0 b∧CFd 0 d)∧Q (.tup [.int (a*g/b),.int (-(-(c*g)/d))]) S
 | _=>False
theorem zv1:Ln (zh9) 3:=λds S Q ex h=>by unfold zh9 at h; split at h <;> first | rfl | exact h.elim
def zfE (cNumber:Addr)(cUnknown:Addr)(cPlus:Addr)(cMinus:Addr)(cTimes:Addr)(cPower:Addr):Sd:=λds S Q ex=>match ds with
 | [.ref n,.ref w,.ref p,.int g]=>∃(x y:Int) (vs bs:List (Int×Int)),S[n]?=some (Nd.ob cNumber cUnknown cPlus cMinus cTimes cPower (Nd.number x y))∧S[w]?=some (.lst (vs.map frD))∧S[p]?=some (.lst (bs.map frD))∧Nd.ok vs.length bs.length (Nd.number x y)∧Spn 1400 vs∧(1≤g∧g≤1000000)∧Q (frD (Nd.fw vs bs g (Nd.number x y))) S
 | _=>False
theorem zv0 (cNumber:Addr)(cUnknown:Addr)(cPlus:Addr)(cMinus:Addr)(cTimes:Addr)(cPower:Addr):Ln (zfE cNumber cUnknown cPlus cMinus cTimes cPower) 4:=λds S Q ex h=>by unfold zfE at h; split at h <;> first | rfl | exact h.elim
def zeR (cNumber:Addr)(cUnknown:Addr)(cPlus:Addr)(cMinus:Addr)(cTimes:Addr)(cPower:Addr):Sd:=λds S Q ex=>match ds with
 | [.ref n,.ref w,.ref p,.int g]=>∃(k:Int) (vs bs:List (Int×Int)),S[n]?=some (Nd.ob cNumber cUnknown cPlus cMinus cTimes cPower (Nd.unknown k))∧S[w]?=some (.lst (vs.map frD))∧S[p]?=some (.lst (bs.map frD))∧Nd.ok vs.length bs.length (Nd.unknown k)∧Spn 1400 vs∧(1≤g∧g≤1000000)∧Q (frD (Nd.fw vs bs g (Nd.unknown k))) S
 | _=>False
theorem ztF (cNumber:Addr)(cUnknown:Addr)(cPlus:Addr)(cMinus:Addr)(cTimes:Addr)(cPower:Addr):Ln (zeR cNumber cUnknown cPlus cMinus cTimes cPower) 4:=λds S Q ex h=>by unfold zeR at h; split at h <;> first | rfl | exact h.elim
def zdm:Sd:=λds S Q ex=>match ds with
 | [.tup [.int a,.int b],.tup [.int c,.int d]]=>Q (.tup [.int (a+c),.int (b+d)]) S
 | _=>False
theorem ztG:Ln (zdm) 2:=λds S Q ex h=>by unfold zdm at h; split at h <;> first | rfl | exact h.elim
def ze6 (cNumber:Addr)(cUnknown:Addr)(cPlus:Addr)(cMinus:Addr)(cTimes:Addr)(cPower:Addr):Sd:=λds S Q ex=>match ds with
 | [.ref n,.ref w,.ref p,.int g]=>∃(i j:Int) (vs bs:List (Int×Int)),S[n]?=some (Nd.ob cNumber cUnknown cPlus cMinus cTimes cPower (Nd.plus i j))∧S[w]?=some (.lst (vs.map frD))∧S[p]?=some (.lst (bs.map frD))∧Nd.ok vs.length bs.length (Nd.plus i j)∧Spn 1400 vs∧(1≤g∧g≤1000000)∧Q (frD (Nd.fw vs bs g (Nd.plus i j))) S
 | _=>False
theorem zyi (cNumber:Addr)(cUnknown:Addr)(cPlus:Addr)(cMinus:Addr)(cTimes:Addr)(cPower:Addr):Ln (ze6 cNumber cUnknown cPlus cMinus cTimes cPower) 4:=λds S Q ex h=>by unfold ze6 at h; split at h <;> first | rfl | exact h.elim
def zdX:Sd:=λds S Q ex=>match ds with
 | [.tup [.int a,.int b],.tup [.int c,.int d]]=>Q (.tup [.int (a-d),.int (b-c)]) S
 | _=>False
theorem zxW:Ln (zdX) 2:=λds S Q ex h=>by unfold zdX at h; split at h <;> first | rfl | exact h.elim
def zfV (cNumber:Addr)(cUnknown:Addr)(cPlus:Addr)(cMinus:Addr)(cTimes:Addr)(cPower:Addr):Sd:=λds S Q ex=>match ds with
 | [.ref n,.ref w,.ref p,.int g]=>∃(i j:Int) (vs bs:List (Int×Int)),S[n]?=some (Nd.ob cNumber cUnknown cPlus cMinus cTimes cPower (Nd.minus i j))∧S[w]?=some (.lst (vs.map frD))∧S[p]?=some (.lst (bs.map frD))∧Nd.ok vs.length bs.length (Nd.minus i j)∧Spn 1400 vs∧(1≤g∧g≤1000000)∧Q (frD (Nd.fw vs bs g (Nd.minus i j))) S
 | _=>False
theorem zwN (cNumber:Addr)(cUnknown:Addr)(cPlus:Addr)(cMinus:Addr)(cTimes:Addr)(cPower:Addr):Ln (zfV cNumber cUnknown cPlus cMinus cTimes cPower) 4:=λds S Q ex h=>by unfold zfV at h; split at h <;> first | rfl | exact h.elim
def zdA:Sd:=λds S Q ex=>match ds with
 | [.tup [.int a,.int b],.tup [.int c,.int d],.int g]=>((IntMulOk a c∧IntMulOk a d∧IntMulOk b c∧IntMulOk b d)∧CFd 0 g)∧∀mn mx:Int,ze5 a b c d mn mx→Q (.tup [.int (mn/g),.int (-(-mx/g))]) S
 | _=>False
theorem zu9:Ln (zdA) 3:=λds S Q ex h=>by unfold zdA at h; split at h <;> first | rfl | exact h.elim
def ze0 (cNumber:Addr)(cUnknown:Addr)(cPlus:Addr)(cMinus:Addr)(cTimes:Addr)(cPower:Addr):Sd:=λds S Q ex=>match ds with
 | [.ref n,.ref w,.ref p,.int g]=>∃(i j:Int) (vs bs:List (Int×Int)),S[n]?=some (Nd.ob cNumber cUnknown cPlus cMinus cTimes cPower (Nd.times i j))∧S[w]?=some (.lst (vs.map frD))∧S[p]?=some (.lst (bs.map frD))∧Nd.ok vs.length bs.length (Nd.times i j)∧Spn 1400 vs∧(1≤g∧g≤1000000)∧Q (frD (Nd.fw vs bs g (Nd.times i j))) S
 | _=>False
theorem zue (cNumber:Addr)(cUnknown:Addr)(cPlus:Addr)(cMinus:Addr)(cTimes:Addr)(cPower:Addr):Ln (ze0 cNumber cUnknown cPlus cMinus cTimes cPower) 4:=λds S Q ex h=>by unfold ze0 at h; split at h <;> first | rfl | exact h.elim
def zha:Sd:=λds S Q ex=>match ds with
 | [.int x,.int n]=>(0≤n∧n≤6∧Sz 2000 x)∧Q (.int (x^n.toNat)) S
 | _=>False
theorem zws:Ln (zha) 2:=λds S Q ex h=>by unfold zha at h; split at h <;> first | rfl | exact h.elim
def zfx:Sd:=λds S Q ex=>match ds with
 | [.tup [.int a,.int b],.int n,.int g]=>(1≤n∧n≤6∧Sz 1400 a∧Sz 1400 b∧1≤g∧Sz 1400 g)∧∀m M:Int,zdY a b n.toNat m M→Q (.tup [.int (m/g^(n.toNat-1)),.int (-(-M/g^(n.toNat-1)))]) S
 | _=>False
theorem zrM:Ln (zfx) 3:=λds S Q ex h=>by unfold zfx at h; split at h <;> first | rfl | exact h.elim
def zeA (cNumber:Addr)(cUnknown:Addr)(cPlus:Addr)(cMinus:Addr)(cTimes:Addr)(cPower:Addr):Sd:=λds S Q ex=>match ds with
 | [.ref n,.ref w,.ref p,.int g]=>∃(i m:Int) (vs bs:List (Int×Int)),S[n]?=some (Nd.ob cNumber cUnknown cPlus cMinus cTimes cPower (Nd.power i m))∧S[w]?=some (.lst (vs.map frD))∧S[p]?=some (.lst (bs.map frD))∧Nd.ok vs.length bs.length (Nd.power i m)∧Spn 1400 vs∧(1≤g∧g≤1000000)∧Q (frD (Nd.fw vs bs g (Nd.power i m))) S
 | _=>False
theorem zyr (cNumber:Addr)(cUnknown:Addr)(cPlus:Addr)(cMinus:Addr)(cTimes:Addr)(cPower:Addr):Ln (zeA cNumber cUnknown cPlus cMinus cTimes cPower) 4:=λds S Q ex h=>by unfold zeA at h; split at h <;> first | rfl | exact h.elim
def zhR (cPower:Addr):Sd:=λds S Q ex=>match ds with
 | [.ref n,x,y]=>∃T:Sto,S=T++[.ins cPower []]∧n=T.length∧Q .non (T++[.ins cPower [("one",x),("many",y)]])
 | _=>False
theorem zsn (cPower:Addr):Ln (zhR cPower) 3:=λds S Q ex h=>by unfold zhR at h; split at h <;> first | rfl | exact h.elim
def zgC (cNumber:Addr):Sd:=λds S Q ex=>match ds with
 | [.ref n,x,y]=>∃T:Sto,S=T++[.ins cNumber []]∧n=T.length∧Q .non (T++[.ins cNumber [("top",x),("bottom",y)]])
 | _=>False
theorem zxa (cNumber:Addr):Ln (zgC cNumber) 3:=λds S Q ex h=>by unfold zgC at h; split at h <;> first | rfl | exact h.elim
def zis (cUnknown:Addr):Sd:=λds S Q ex=>match ds with
 | [.ref n,x]=>∃T:Sto,S=T++[.ins cUnknown []]∧n=T.length∧Q .non (T++[.ins cUnknown [("place",x)]])
 | _=>False
theorem zyA (cUnknown:Addr):Ln (zis cUnknown) 2:=λds S Q ex h=>by unfold zis at h; split at h <;> first | rfl | exact h.elim
def zit (cPlus:Addr):Sd:=λds S Q ex=>match ds with
 | [.ref n,x,y]=>∃T:Sto,S=T++[.ins cPlus []]∧n=T.length∧Q .non (T++[.ins cPlus [("one",x),("other",y)]])
 | _=>False
theorem zvP (cPlus:Addr):Ln (zit cPlus) 3:=λds S Q ex h=>by unfold zit at h; split at h <;> first | rfl | exact h.elim
def zhB (cMinus:Addr):Sd:=λds S Q ex=>match ds with
 | [.ref n,x,y]=>∃T:Sto,S=T++[.ins cMinus []]∧n=T.length∧Q .non (T++[.ins cMinus [("one",x),("other",y)]])
 | _=>False
theorem zva (cMinus:Addr):Ln (zhB cMinus) 3:=λds S Q ex h=>by unfold zhB at h; split at h <;> first | rfl | exact h.elim
def zgQ (cTimes:Addr):Sd:=λds S Q ex=>match ds with
 | [.ref n,x,y]=>∃T:Sto,S=T++[.ins cTimes []]∧n=T.length∧Q .non (T++[.ins cTimes [("one",x),("other",y)]])
 | _=>False
theorem zsH (cTimes:Addr):Ln (zgQ cTimes) 3:=λds S Q ex h=>by unfold zgQ at h; split at h <;> first | rfl | exact h.elim
def zeQ (cNumber:Addr)(cUnknown:Addr)(cPlus:Addr)(cMinus:Addr)(cTimes:Addr)(cPower:Addr):Sd:=λds S Q ex=>match ds with
 | [d]=>∃v:Nd,d=v.d∧Q (.ref S.length) (S++[v.ob cNumber cUnknown cPlus cMinus cTimes cPower])
 | _=>False
theorem zxy (cNumber:Addr)(cUnknown:Addr)(cPlus:Addr)(cMinus:Addr)(cTimes:Addr)(cPower:Addr):Ln (zeQ cNumber cUnknown cPlus cMinus cTimes cPower) 1:=λds S Q ex h=>by unfold zeQ at h; split at h <;> first | rfl | exact h.elim
def zd1:Sd:=λds S Q ex=>match ds with
 | [.ref a,.ref b,.int g]=>∃(ns:List Nd) (ws:List Nat) (bs:List (Int×Int)),S[a]?=some (.lst (ns.map Nd.d))∧S[b]?=some (.lst (bs.map frD))∧zaD bs.length ns ws∧Spn 51 bs∧(1≤g∧g≤1000000)∧ns.length≤70∧∀(T:Sto) (m:Nat),Pre S T→S.length≤m→T[m]?=some (.lst ((zar bs g ns).map frD))→Q (.ref m) T
 | _=>False
theorem zxF:Ln (zd1) 3:=λds S Q ex h=>by unfold zd1 at h; split at h <;> first | rfl | exact h.elim
def zfj (cNumber:Addr)(cUnknown:Addr)(cPlus:Addr)(cMinus:Addr)(cTimes:Addr)(cPower:Addr):Sd:=λds S Q ex=>match ds with
 | [.ref n,.ref w,.ref s,.int qi,.int g]=>∃(x y:Int) (q:Nat) (vs:List (Int×Int)) (sl:List (List (Int×Int))) (ds:List D),S[n]?=some (Nd.ob cNumber cUnknown cPlus cMinus cTimes cPower (Nd.number x y))∧S[w]?=some (.lst (vs.map frD))∧S[s]?=some (.lst ds)∧zaF S 0 ds sl∧(∀i:Int,inR sl.length i→(sl.getD i.toNat []).length=q∧∀l,l<q→(gs sl i l).1≤(gs sl i l).2∧Sz 1100 (gs sl i l).1∧Sz 1100 (gs sl i l).2)∧(qi=(q:Nat)∧q≤900)∧Nd.ok sl.length q (Nd.number x y)∧sl.length≤vs.length∧Spn 1000 vs∧(1≤g∧g≤1000000)∧∀(T:Sto) (mm:Nat),Pre S T→S.length≤mm→T[mm]?=some (.lst ((zba vs sl g q (Nd.number x y)).map frD))→Q (.ref mm) T
 | _=>False
theorem zul (cNumber:Addr)(cUnknown:Addr)(cPlus:Addr)(cMinus:Addr)(cTimes:Addr)(cPower:Addr):Ln (zfj cNumber cUnknown cPlus cMinus cTimes cPower) 5:=λds S Q ex h=>by unfold zfj at h; split at h <;> first | rfl | exact h.elim
def zeV (cNumber:Addr)(cUnknown:Addr)(cPlus:Addr)(cMinus:Addr)(cTimes:Addr)(cPower:Addr):Sd:=λds S Q ex=>match ds with
 | [.ref n,.ref w,.ref s,.int qi,.int g]=>∃(k:Int) (q:Nat) (vs:List (Int×Int)) (sl:List (List (Int×Int))) (ds:List D),S[n]?=some (Nd.ob cNumber cUnknown cPlus cMinus cTimes cPower (Nd.unknown k))∧S[w]?=some (.lst (vs.map frD))∧S[s]?=some (.lst ds)∧zaF S 0 ds sl∧(∀i:Int,inR sl.length i→(sl.getD i.toNat []).length=q∧∀l,l<q→(gs sl i l).1≤(gs sl i l).2∧Sz 1100 (gs sl i l).1∧Sz 1100 (gs sl i l).2)∧(qi=(q:Nat)∧q≤900)∧Nd.ok sl.length q (Nd.unknown k)∧sl.length≤vs.length∧Spn 1000 vs∧(1≤g∧g≤1000000)∧∀(T:Sto) (mm:Nat),Pre S T→S.length≤mm→T[mm]?=some (.lst ((zba vs sl g q (Nd.unknown k)).map frD))→Q (.ref mm) T
 | _=>False
theorem zt5 (cNumber:Addr)(cUnknown:Addr)(cPlus:Addr)(cMinus:Addr)(cTimes:Addr)(cPower:Addr):Ln (zeV cNumber cUnknown cPlus cMinus cTimes cPower) 5:=λds S Q ex h=>by unfold zeV at h; split at h <;> first | rfl | exact h.elim
def zhW (cPlus:Addr):Sd:=λds S Q ex=>match ds with
 | [.ref _,_,_,.tup [.int a,.int b],.tup [.int c,.int d],.int _]=>Q (.tup [.int (a+c),.int (b+d)]) S
 | _=>False
theorem zsL (cPlus:Addr):Ln (zhW cPlus) 6:=λds S Q ex h=>by unfold zhW at h; split at h <;> first | rfl | exact h.elim
def zfA (cNumber:Addr)(cUnknown:Addr)(cPlus:Addr)(cMinus:Addr)(cTimes:Addr)(cPower:Addr):Sd:=λds S Q ex=>match ds with
 | [.ref n,.ref w,.ref s,.int qi,.int g]=>∃(i j:Int) (q:Nat) (vs:List (Int×Int)) (sl:List (List (Int×Int))) (ds:List D),S[n]?=some (Nd.ob cNumber cUnknown cPlus cMinus cTimes cPower (Nd.plus i j))∧S[w]?=some (.lst (vs.map frD))∧S[s]?=some (.lst ds)∧zaF S 0 ds sl∧(∀i:Int,inR sl.length i→(sl.getD i.toNat []).length=q∧∀l,l<q→(gs sl i l).1≤(gs sl i l).2∧Sz 1100 (gs sl i l).1∧Sz 1100 (gs sl i l).2)∧(qi=(q:Nat)∧q≤900)∧Nd.ok sl.length q (Nd.plus i j)∧sl.length≤vs.length∧Spn 1000 vs∧(1≤g∧g≤1000000)∧∀(T:Sto) (mm:Nat),Pre S T→S.length≤mm→T[mm]?=some (.lst ((zba vs sl g q (Nd.plus i j)).map frD))→Q (.ref mm) T
 | _=>False
theorem zwL (cNumber:Addr)(cUnknown:Addr)(cPlus:Addr)(cMinus:Addr)(cTimes:Addr)(cPower:Addr):Ln (zfA cNumber cUnknown cPlus cMinus cTimes cPower) 5:=λds S Q ex h=>by unfold zfA at h; split at h <;> first | rfl | exact h.elim
def zhf (cMinus:Addr):Sd:=λds S Q ex=>match ds with
 | [.ref _,_,_,.tup [.int a,.int b],.tup [.int c,.int d],.int _]=>Q (.tup [.int (a-d),.int (b-c)]) S
 | _=>False
theorem zu2 (cMinus:Addr):Ln (zhf cMinus) 6:=λds S Q ex h=>by unfold zhf at h; split at h <;> first | rfl | exact h.elim
def zfh (cNumber:Addr)(cUnknown:Addr)(cPlus:Addr)(cMinus:Addr)(cTimes:Addr)(cPower:Addr):Sd:=λds S Q ex=>match ds with
 | [.ref n,.ref w,.ref s,.int qi,.int g]=>∃(i j:Int) (q:Nat) (vs:List (Int×Int)) (sl:List (List (Int×Int))) (ds:List D),S[n]?=some (Nd.ob cNumber cUnknown cPlus cMinus cTimes cPower (Nd.minus i j))∧S[w]?=some (.lst (vs.map frD))∧S[s]?=some (.lst ds)∧zaF S 0 ds sl∧(∀i:Int,inR sl.length i→(sl.getD i.toNat []).length=q∧∀l,l<q→(gs sl i l).1≤(gs sl i l).2∧Sz 1100 (gs sl i l).1∧Sz 1100 (gs sl i l).2)∧(qi=(q:Nat)∧q≤900)∧Nd.ok sl.length q (Nd.minus i j)∧sl.length≤vs.length∧Spn 1000 vs∧(1≤g∧g≤1000000)∧∀(T:Sto) (mm:Nat),Pre S T→S.length≤mm→T[mm]?=some (.lst ((zba vs sl g q (Nd.minus i j)).map frD))→Q (.ref mm) T
 | _=>False
theorem zum (cNumber:Addr)(cUnknown:Addr)(cPlus:Addr)(cMinus:Addr)(cTimes:Addr)(cPower:Addr):Ln (zfh cNumber cUnknown cPlus cMinus cTimes cPower) 5:=λds S Q ex h=>by unfold zfh at h; split at h <;> first | rfl | exact h.elim
def zh7 (cTimes:Addr):Sd:=λds S Q ex=>match ds with
 | [.ref _,.tup [.int x1,.int x2],.tup [.int y1,.int y2],.tup [.int a,.int b],.tup [.int c,.int d],.int g]=>(Sz 1400 x1∧Sz 1400 x2∧Sz 1400 y1∧Sz 1400 y2∧Sz 1400 a∧Sz 1400 b∧Sz 1400 c∧Sz 1400 d∧1≤g∧g≤1000000)∧Q (.tup [.int ((zaQ (x1,x2) (c,d) g).1+(zaQ (y1,y2) (a,b) g).1),.int ((zaQ (x1,x2) (c,d) g).2+(zaQ (y1,y2) (a,b) g).2)]) S
 | _=>False
theorem zsS (cTimes:Addr):Ln (zh7 cTimes) 6:=λds S Q ex h=>by unfold zh7 at h; split at h <;> first | rfl | exact h.elim
def zeO (cNumber:Addr)(cUnknown:Addr)(cPlus:Addr)(cMinus:Addr)(cTimes:Addr)(cPower:Addr):Sd:=λds S Q ex=>match ds with
 | [.ref n,.ref w,.ref s,.int qi,.int g]=>∃(i j:Int) (q:Nat) (vs:List (Int×Int)) (sl:List (List (Int×Int))) (ds:List D),S[n]?=some (Nd.ob cNumber cUnknown cPlus cMinus cTimes cPower (Nd.times i j))∧S[w]?=some (.lst (vs.map frD))∧S[s]?=some (.lst ds)∧zaF S 0 ds sl∧(∀i:Int,inR sl.length i→(sl.getD i.toNat []).length=q∧∀l,l<q→(gs sl i l).1≤(gs sl i l).2∧Sz 1100 (gs sl i l).1∧Sz 1100 (gs sl i l).2)∧(qi=(q:Nat)∧q≤900)∧Nd.ok sl.length q (Nd.times i j)∧sl.length≤vs.length∧Spn 1000 vs∧(1≤g∧g≤1000000)∧∀(T:Sto) (mm:Nat),Pre S T→S.length≤mm→T[mm]?=some (.lst ((zba vs sl g q (Nd.times i j)).map frD))→Q (.ref mm) T
 | _=>False
theorem zyj (cNumber:Addr)(cUnknown:Addr)(cPlus:Addr)(cMinus:Addr)(cTimes:Addr)(cPower:Addr):Ln (zeO cNumber cUnknown cPlus cMinus cTimes cPower) 5:=λds S Q ex h=>by unfold zeO at h; split at h <;> first | rfl | exact h.elim
def zhT:Sd:=λds S Q ex=>match ds with
 | [.tup [.int a,.int b],.int m]=>(IntMulOk a m∧IntMulOk b m)∧Q (.tup [.int (if b*m<a*m then b*m else a*m),.int (if b*m > a*m then b*m else a*m)]) S
 | _=>False
theorem zyq:Ln (zhT) 2:=λds S Q ex h=>by unfold zhT at h; split at h <;> first | rfl | exact h.elim
def zfd (cNumber:Addr)(cUnknown:Addr)(cPlus:Addr)(cMinus:Addr)(cTimes:Addr)(cPower:Addr):Sd:=λds S Q ex=>match ds with
 | [.ref n,.ref w,.ref s,.int qi,.int g]=>∃(i m:Int) (q:Nat) (vs:List (Int×Int)) (sl:List (List (Int×Int))) (ds:List D),S[n]?=some (Nd.ob cNumber cUnknown cPlus cMinus cTimes cPower (Nd.power i m))∧S[w]?=some (.lst (vs.map frD))∧S[s]?=some (.lst ds)∧zaF S 0 ds sl∧(∀i:Int,inR sl.length i→(sl.getD i.toNat []).length=q∧∀l,l<q→(gs sl i l).1≤(gs sl i l).2∧Sz 1100 (gs sl i l).1∧Sz 1100 (gs sl i l).2)∧(qi=(q:Nat)∧q≤900)∧Nd.ok sl.length q (Nd.power i m)∧sl.length≤vs.length∧Spn 1000 vs∧(1≤g∧g≤1000000)∧∀(T:Sto) (mm:Nat),Pre S T→S.length≤mm→T[mm]?=some (.lst ((zba vs sl g q (Nd.power i m)).map frD))→Q (.ref mm) T
 | _=>False
theorem zwr (cNumber:Addr)(cUnknown:Addr)(cPlus:Addr)(cMinus:Addr)(cTimes:Addr)(cPower:Addr):Ln (zfd cNumber cUnknown cPlus cMinus cTimes cPower) 5:=λds S Q ex h=>by unfold zfd at h; split at h <;> first | rfl | exact h.elim
def zgG:Sd:=λds S Q ex=>match ds with
 | [.ref a,.ref b,.int g]=>∃(ns:List Nd) (ws:List Nat) (bs:List (Int×Int)),S[a]?=some (.lst (ns.map Nd.d))∧S[b]?=some (.lst (bs.map frD))∧zaD bs.length ns ws∧Spn 51 bs∧bs.length≤900∧(1≤g∧g≤1000000)∧ns.length≤70∧∀(T:Sto) (m:Nat) (ds:List D),Pre S T→S.length≤m→T[m]?=some (.lst ds)→zaF T (m+1) ds (zaC (zar bs g ns) g bs.length ns)→Q (.ref m) T
 | _=>False
theorem ztT:Ln (zgG) 3:=λds S Q ex h=>by unfold zgG at h; split at h <;> first | rfl | exact h.elim
def zgF:Sd:=λds S Q ex=>match ds with
 | [.ref a,.ref p,.ref b,.int g]=>∃(ns:List Nd) (ws:List Nat) (bs:List (Int×Int)) (is:List Nat),S[a]?=some (.lst (ns.map Nd.d))∧S[b]?=some (.lst (bs.map frD))∧zaD bs.length ns ws∧Spn 51 bs∧(1≤g∧g≤1000000)∧ns.length≤70∧bs.length≤900∧S[p]?=some (.lst (is.map wtD))∧is.length≤900∧(∀i∈is,i<ns.length)∧∀(T:Sto) (m:Nat) (ds:List D),Pre S T→S.length≤m→T[m]?=some (.lst ds)→zaF T 0 ds (is.map λ(i:Nat)=>(zaC (zar bs g ns) g bs.length ns).getD i [])→Q (.ref m) T
 | _=>False
theorem zwA:Ln (zgF) 4:=λds S Q ex h=>by unfold zgF at h; split at h <;> first | rfl | exact h.elim
def zdB:Sd:=λds S Q ex=>match ds with
 | [.int i,.int k]=>∃n:Nat,k=n∧Q (.int (sgn i n)) S
 | _=>False
theorem zvZ:Ln (zdB) 2:=λds S Q ex h=>by unfold zdB at h; split at h <;> first | rfl | exact h.elim
def zdH:Sd:=λds S Q ex=>match ds with
 | [.ref m,.int r,.int c]=>∃(M:List (List Int)) (i j n:Nat),r=i∧c=j∧zbl S m M∧Sq (n+1) M∧n≤3∧i≤n∧j≤n∧∀(T:Sto) (k:Nat),Pre S T→zbl T k (za4 M i j)→Q (.ref k) T
 | _=>False
theorem zvz:Ln (zdH) 3:=λds S Q ex h=>by unfold zdH at h; split at h <;> first | rfl | exact h.elim
def zeG:Sd:=λds S Q ex=>match ds with
 | [.ref m,.int r,.int c]=>∃(M:List (List Int)) (i j n:Nat),n≤0∧r=i∧c=j∧i≤n∧j≤n∧zbl S m M∧Sq (n+1) M∧Big M∧Q (.int (sgn (zaG n (za4 M i j)) (i+j))) S
 | _=>False
theorem zt3:Ln (zeG) 3:=λds S Q ex h=>by unfold zeG at h; split at h <;> first | rfl | exact h.elim
def zfF:Sd:=λds S Q ex=>match ds with
 | [.ref m,.int r,.int c]=>∃(M:List (List Int)) (i j n:Nat),n≤1∧r=i∧c=j∧i≤n∧j≤n∧zbl S m M∧Sq (n+1) M∧Big M∧Q (.int (sgn (zaG n (za4 M i j)) (i+j))) S
 | _=>False
theorem zw1:Ln (zfF) 3:=λds S Q ex h=>by unfold zfF at h; split at h <;> first | rfl | exact h.elim
def zfi:Sd:=λds S Q ex=>match ds with
 | [.ref m,.int r,.int c]=>∃(M:List (List Int)) (i j n:Nat),n≤2∧r=i∧c=j∧i≤n∧j≤n∧zbl S m M∧Sq (n+1) M∧Big M∧Q (.int (sgn (zaG n (za4 M i j)) (i+j))) S
 | _=>False
theorem zvL:Ln (zfi) 3:=λds S Q ex h=>by unfold zfi at h; split at h <;> first | rfl | exact h.elim
def zd4:Sd:=λds S Q ex=>match ds with
 | [.ref m,.int r,.int c]=>∃(M:List (List Int)) (i j n:Nat),n≤3∧r=i∧c=j∧i≤n∧j≤n∧zbl S m M∧Sq (n+1) M∧Big M∧Q (.int (sgn (zaG n (za4 M i j)) (i+j))) S
 | _=>False
theorem zxU:Ln (zd4) 3:=λds S Q ex h=>by unfold zd4 at h; split at h <;> first | rfl | exact h.elim
def zii:Sd:=λds S Q ex=>match ds with
 | [.ref m]=>∃(M:List (List Int)) (n:Nat),n≤0∧zbl S m M∧Sq n M∧Big M∧Q (.int (zaG n M)) S
 | _=>False
theorem ztr:Ln (zii) 1:=λds S Q ex h=>by unfold zii at h; split at h <;> first | rfl | exact h.elim
def zhS:Sd:=λds S Q ex=>match ds with
 | [.ref m]=>∃(M:List (List Int)) (n:Nat),n≤1∧zbl S m M∧Sq n M∧Big M∧Q (.int (zaG n M)) S
 | _=>False
theorem ztl:Ln (zhS) 1:=λds S Q ex h=>by unfold zhS at h; split at h <;> first | rfl | exact h.elim
def zic:Sd:=λds S Q ex=>match ds with
 | [.ref m]=>∃(M:List (List Int)) (n:Nat),n≤2∧zbl S m M∧Sq n M∧Big M∧Q (.int (zaG n M)) S
 | _=>False
theorem zui:Ln (zic) 1:=λds S Q ex h=>by unfold zic at h; split at h <;> first | rfl | exact h.elim
def zhI:Sd:=λds S Q ex=>match ds with
 | [.ref m]=>∃(M:List (List Int)) (n:Nat),n≤3∧zbl S m M∧Sq n M∧Big M∧Q (.int (zaG n M)) S
 | _=>False
theorem zsT:Ln (zhI) 1:=λds S Q ex h=>by unfold zhI at h; split at h <;> first | rfl | exact h.elim
def zgX:Sd:=λds S Q ex=>match ds with
 | [.ref m]=>∃(M:List (List Int)) (n:Nat),n≤4∧zbl S m M∧Sq n M∧Big M∧Q (.int (zaG n M)) S
 | _=>False
theorem zu8:Ln (zgX) 1:=λds S Q ex h=>by unfold zgX at h; split at h <;> first | rfl | exact h.elim
def zgY:Sd:=λds S Q ex=>match ds with
 | [.ref m,.int w,.int r,.int c,.int g]=>∃(M:List (List Int)) (i j n:Nat),n≤3∧r=i∧c=j∧i≤n∧j≤n∧zbl S m M∧Sq (n+1) M∧Big M∧(w≠0∧Sz 4140 w)∧(1≤g∧g≤1000000)∧Q (.int (zhN M n w g i j)) S
 | _=>False
theorem zt0:Ln (zgY) 5:=λds S Q ex h=>by unfold zgY at h; split at h <;> first | rfl | exact h.elim
def zgU:Sd:=λds S Q ex=>match ds with
 | [.ref m,.int w,.int r,.int g]=>∃(M:List (List Int)) (i n:Nat),n≤3∧r=i∧i≤n∧zbl S m M∧Sq (n+1) M∧Big M∧(w≠0∧Sz 4140 w)∧(1≤g∧g≤1000000)∧Q (.ref S.length) (S++[.lst ((zen M n w g i).map D.int)])
 | _=>False
theorem zw4:Ln (zgU) 4:=λds S Q ex h=>by unfold zgU at h; split at h <;> first | rfl | exact h.elim
def ziy:Sd:=λds S Q ex=>match ds with
 | [.ref m,.int g]=>∃(M:List (List Int)) (n:Nat),n≤3∧zbl S m M∧Sq (n+1) M∧Big M∧(1≤g∧g≤1000000)∧(zaG (n+1) M=0→Q .non S)∧(zaG (n+1) M≠0→∀(T:Sto) (k:Nat),Pre S T→zbl T k (zbL M n (zaG (n+1) M) g)→Q (.ref k) T)
 | _=>False
theorem zxT:Ln (ziy) 2:=λds S Q ex h=>by unfold ziy at h; split at h <;> first | rfl | exact h.elim
def zf2:Sd:=λds S Q ex=>match ds with
 | [.tup [.int a,.int b]]=>Q (.int ((a+b)/2)) S
 | _=>False
theorem zxd:Ln (zf2) 1:=λds S Q ex h=>by unfold zf2 at h; split at h <;> first | rfl | exact h.elim
def ze1:Sd:=λds S Q ex=>match ds with
 | [.ref s]=>∃vs:List (Int×Int),S[s]?=some (.lst (vs.map frD))∧vs.length≤900∧Q (.ref S.length) (S++[.lst (vs.map λp=>.int (mid p))])
 | _=>False
theorem zw6:Ln (ze1) 1:=λds S Q ex h=>by unfold ze1 at h; split at h <;> first | rfl | exact h.elim
def zfG:Sd:=λds S Q ex=>match ds with
 | [.ref b]=>∃vs:List (Int×Int),S[b]?=some (.lst (vs.map frD))∧vs.length≤900∧∀(T:Sto) (m:Nat),Pre S T→S.length≤m→T[m]?=some (.lst ((vs.map zaE).map frD))→Q (.ref m) T
 | _=>False
theorem zvM:Ln (zfG) 1:=λds S Q ex h=>by unfold zfG at h; split at h <;> first | rfl | exact h.elim
def zfc:Sd:=λds S Q ex=>match ds with
 | [.ref a,.ref b,.int g]=>∃(us vs:List (Int×Int)),S[a]?=some (.lst (us.map frD))∧S[b]?=some (.lst (vs.map frD))∧us.length≤60∧Bd 20000 us∧Bd 20000 vs∧(1≤g∧g≤1000000)∧Q (frD (sumP g us vs)) S
 | _=>False
theorem zrH:Ln (zfc) 3:=λds S Q ex h=>by unfold zfc at h; split at h <;> first | rfl | exact h.elim
def zhc:Sd:=λds S Q ex=>match ds with
 | [.int k,.int c,.ref t,.ref s,.int g]=>∃(q kn cn:Nat) (ts:List (Int×Int)) (R:List (List (Int×Int))) (ds:List D),k=(kn:Nat)∧c=(cn:Nat)∧S[t]?=some (.lst (ts.map frD))∧S[s]?=some (.lst ds)∧zaF S 0 ds R∧(∀r∈R,r.length=q∧Bd 2000 r)∧cn<q∧ts.length≤60∧R.length≤60∧Bd 20000 ts∧(1≤g∧g≤1000000)∧Q (frD (zbA g kn cn ts R)) S
 | _=>False
theorem zrl:Ln (zhc) 5:=λds S Q ex h=>by unfold zhc at h; split at h <;> first | rfl | exact h.elim
def zgn:Sd:=λds S Q ex=>match ds with
 | [.int ki,.ref b,.int g,.ref e,.ref t,.ref s]=>∃(k:Nat) (box thin:List (Int×Int)) (es:List Int) (R:List (List (Int×Int))) (ds:List D),ki=(k:Nat)∧k<box.length∧S[e]?=some (.lst (es.map D.int))∧es.length≤4∧(∀x∈es,Sz 4000 x)∧S[b]?=some (.lst (box.map frD))∧S[t]?=some (.lst (thin.map frD))∧S[s]?=some (.lst ds)∧zaF S 0 ds R∧(∀r∈R,r.length=box.length∧Bd 2000 r)∧(1≤box.length∧box.length≤4)∧R.length≤4∧thin.length≤4∧Bd 60 box∧Bd 2000 thin∧(1≤g∧g≤1000000)∧Q (frD (za9 g box thin R k es)) S
 | _=>False
theorem ztJ:Ln (zgn) 6:=λds S Q ex h=>by unfold zgn at h; split at h <;> first | rfl | exact h.elim
def zf0:Sd:=λds S Q ex=>match ds with
 | [.ref b,.int g,.ref u,.ref t,.ref s]=>∃(box thin:List (Int×Int)) (M:List (List Int)) (ms:List D) (R:List (List (Int×Int))) (ds:List D),S[u]?=some (.lst ms)∧zfN S ms M∧M.length=box.length∧(∀r∈M,r.length≤4∧∀x∈r,Sz 4000 x)∧S[b]?=some (.lst (box.map frD))∧S[t]?=some (.lst (thin.map frD))∧S[s]?=some (.lst ds)∧zaF S 0 ds R∧(∀r∈R,r.length=box.length∧Bd 2000 r)∧(1≤box.length∧box.length≤4)∧R.length≤4∧thin.length≤4∧Bd 60 box∧Bd 2000 thin∧(1≤g∧g≤1000000)∧Q (.ref S.length) (S++[.lst ((M.mapIdx λk es=>za9 g box thin R k es).map frD)])
 | _=>False
theorem zyz:Ln (zf0) 5:=λds S Q ex h=>by unfold zf0 at h; split at h <;> first | rfl | exact h.elim
def zhM:Sd:=λds S Q ex=>match ds with
 | [.ref a,.ref p,.ref b,.int g]=>∃(ns:List Nd) (ws:List Nat) (bs:List (Int×Int)) (is:List Nat),S[a]?=some (.lst (ns.map Nd.d))∧S[b]?=some (.lst (bs.map frD))∧zaD bs.length ns ws∧Spn 51 bs∧(1≤g∧g≤1000000)∧ns.length≤70∧bs.length≤900∧S[p]?=some (.lst (is.map wtD))∧is.length≤900∧(∀i∈is,i<ns.length)∧∀(T:Sto) (m:Nat),Pre S T→S.length≤m→T[m]?=some (.lst ((is.map λ(i:Nat)=>gt (zar (bs.map zaE) g ns) i).map frD))→Q (.ref m) T
 | _=>False
theorem ztP:Ln (zhM) 4:=λds S Q ex h=>by unfold zhM at h; split at h <;> first | rfl | exact h.elim
def zgW:Sd:=λds S Q ex=>match ds with
 | [.tup [.int a,.int b],.tup [.int c,.int d]]=>Q (.bl (decide (c<a)&&decide (b<d))) S
 | _=>False
theorem zxv:Ln (zgW) 2:=λds S Q ex h=>by unfold zgW at h; split at h <;> first | rfl | exact h.elim
def zg7:Sd:=λds S Q ex=>match ds with
 | [.ref m,.ref n]=>∃us vs:List (Int×Int),S[m]?=some (.lst (us.map frD))∧S[n]?=some (.lst (vs.map frD))∧us.length≤1000∧Q (.bl (zhG us vs)) S
 | _=>False
theorem zrS:Ln (zg7) 2:=λds S Q ex h=>by unfold zg7 at h; split at h <;> first | rfl | exact h.elim
def zig:Sd:=λds S Q ex=>match ds with
 | [.str w,.tup [.int a,.int b]]=>(w="zero"∧Q (.bl (decide (a=0)&&decide (b=0))) S)∨(w="least"∧Q (.bl (decide (0≤a))) S)
 | _=>False
theorem zwn:Ln (zig) 2:=λds S Q ex h=>by unfold zig at h; split at h <;> first | rfl | exact h.elim
def zhL:Sd:=λds S Q ex=>match ds with
 | [.ref r,.ref s]=>∃(rows:List (Bool×Nat)) (vs:List (Int×Int)),S[r]?=some (.lst (rows.map rwD))∧S[s]?=some (.lst (vs.map frD))∧rows.length≤900∧(∀r∈rows,r.2<vs.length)∧Q (.bl (zkX rows vs)) S
 | _=>False
theorem zsG:Ln (zhL) 2:=λds S Q ex h=>by unfold zhL at h; split at h <;> first | rfl | exact h.elim
def zhm:Sd:=λds S Q ex=>match ds with
 | [.ref a,.ref r,.ref b,.int g]=>∃(ns:List Nd) (ws:List Nat) (bs:List (Int×Int)) (rows:List (Bool×Nat)),S[a]?=some (.lst (ns.map Nd.d))∧S[b]?=some (.lst (bs.map frD))∧zaD bs.length ns ws∧Spn 51 bs∧(1≤g∧g≤1000000)∧ns.length≤70∧bs.length≤900∧S[r]?=some (.lst (rows.map rwD))∧rows.length≤900∧(∀r∈rows,r.2<ns.length)∧(1≤bs.length∧bs.length≤4)∧(alS g bs ns rows=none→∀T:Sto,Pre S T→Q .non T)∧(∀(M:List (List Int)) (near:List (Int×Int)),alS g bs ns rows=some (M,near)→∀(T:Sto) (m n:Nat) (ms:List D),Pre S T→T[m]?=some (.lst ms)→zfN T ms M→T[n]?=some (.lst (near.map frD))→S.length≤n→Q (.tup [.ref m,.ref n]) T)
 | _=>False
theorem zrR:Ln (zhm) 4:=λds S Q ex h=>by unfold zhm at h; split at h <;> first | rfl | exact h.elim
def zfr:Sd:=λds S Q ex=>match ds with
 | [.ref sc,.int f,.int mi,.int g,.int parts]=>∃(cs:List Int) (q:Nat),S[sc]?=some (.frz (cs.map D.int))∧0≤f∧(mi=(q:Nat)∧q≤4)∧(1≤g∧g≤1000000)∧(1≤parts∧parts≤8)∧∀(T:Sto) (m:Nat) (P:List (Int×Int)),Pre S T→S.length≤m→T[m]?=some (.lst (P.map frD))→P.length=q→(∀p∈P,p.2=g*parts∧p.1.natAbs≤30000)→Q (.ref m) T
 | _=>False
theorem zsQ:Ln (zfr) 5:=λds S Q ex h=>by unfold zfr at h; split at h <;> first | rfl | exact h.elim
def zeK:Sd:=λds S Q ex=>match ds with
 | [.ref a,d]=>∃(q:Nat) (v:Nd) (ns:List Nd) (ws:List Nat),d=v.d∧S[a]?=some (.lst (ns.map Nd.d))∧ns.length<900∧zaD q ns ws∧v.ok ns.length q∧v.wt ws≤16∧∀(T:Sto) (j:Nat) (ns':List Nd) (ws':List Nat),Gr q a 1 S ns ws T ns' ws'→j<ns'.length→ns'[j]?=some v→ws'.getD j 0=v.wt ws→(∀P,gt (zal P ns') (j:Int)=v.due (zal P ns) P)→Q (.int (j:Int)) T
 | _=>False
theorem zs0:Ln (zeK) 2:=λds S Q ex h=>by unfold zeK at h; split at h <;> first | rfl | exact h.elim
def zf4:Sd:=λds S Q ex=>match ds with
 | [.ref o,.ref t,.int sh]=>∃(O T':List (Int×Int)),S[o]?=some (.lst (O.map frD))∧S[t]?=some (.lst (T'.map frD))∧(1≤O.length∧O.length≤4)∧(1≤T'.length∧T'.length≤4)∧sh.natAbs≤10∧(∀p∈O,p.1.natAbs≤30000)∧(∀p∈T',p.1.natAbs≤30000)∧∀(T:Sto) (m:Nat) (ds:List D) (R:List (List (Int×Int))),Pre S T→S.length≤m→T[m]?=some (.lst ds)→zaF T (S.length+1) ds R→R.Nodup→(1≤R.length∧R.length≤16)→(∀A∈R,∃x∈O,∃y∈T',A=[(x.1-sh*y.1,x.2),y])→Q (.ref m) T
 | _=>False
theorem zsl:Ln (zf4) 3:=λds S Q ex h=>by unfold zf4 at h; split at h <;> first | rfl | exact h.elim
def zhF:Sd:=λds S Q ex=>match ds with
 | [.int T,.int B]=>(0<B∧Sz 4000 B)∧∀t b:Int,1≤b→Int.gcd t b=1→t*B=T*b→t.natAbs≤T.natAbs→b≤B→Q (.tup [.int t,.int b]) S
 | _=>False
theorem zx5:Ln (zhF) 2:=λds S Q ex h=>by unfold zhF at h; split at h <;> first | rfl | exact h.elim
def zeM:Sd:=λds S Q ex=>match ds with
 | [.ref a,.int st,.ref p]=>∃(q s B:Nat) (P:List (Int×Int)) (ns:List Nd) (ws:List Nat),st=(s:Nat)∧S[a]?=some (.lst (ns.map Nd.d))∧S[p]?=some (.lst (P.map frD))∧a≠p∧zaD q ns ws∧s<ns.length∧ws.getD s 0≤B∧(1≤P.length∧P.length≤4)∧P.length*(B+1)≤16∧ns.length<300∧(∀p∈P,1≤p.2∧p.2≤10^9∧p.1.natAbs≤10^9)∧∀(T:Sto) (j:Nat) (ns':List Nd) (ws':List Nat),Gr q a 12 S ns ws T ns' ws'→j<ns'.length→(∀A,(∃p∈P,(gt (zal A ns) (s:Int)).1*p.2=p.1*(gt (zal A ns) (s:Int)).2)→(gt (zal A ns') (j:Int)).1=0)→Q (.int (j:Int)) T
 | _=>False
theorem ztI:Ln (zeM) 3:=λds S Q ex h=>by unfold zeM at h; split at h <;> first | rfl | exact h.elim
def zf7:Sd:=λds S Q ex=>match ds with
 | [.ref sc,.int g,.int parts]=>∃cs:List Int,S[sc]?=some (.frz (cs.map D.int))∧(1≤g∧g≤1000000)∧(1≤parts∧parts≤8)∧∀(T:Sto) (a r m q:Nat) (ns:List Nd) (ws is:List Nat) (ds:List D) (R:List (List (Int×Int))),Pre S T→T[a]?=some (.lst (ns.map Nd.d))→zaD q ns ws→(1≤q∧q≤2)→ns.length≤60→T[r]?=some (.lst (is.map λi=>rwD (true,i)))→is.length=q→(∀i∈is,i<ns.length)→T[m]?=some (.lst ds)→zaF T 0 ds R→R.Nodup→(1≤R.length∧R.length≤16)→(∀A∈R,A.length=q∧(∀p∈A,p.2=g*parts∧p.1.natAbs≤400000)∧∀i∈is,(gt (zal A ns) (i:Int)).1=0)→Q (.tup [.ref a,.ref r,.ref m]) T
 | _=>False
theorem zuw:Ln (zf7) 3:=λds S Q ex h=>by unfold zf7 at h; split at h <;> first | rfl | exact h.elim
def zhg:Sd:=λds S Q ex=>match ds with
 | [.ref sc,.int g,.int parts]=>∃cs:List Int,S[sc]?=some (.frz (cs.map D.int))∧(1≤g∧g≤1000000)∧(1≤parts∧parts≤8)∧∀(T:Sto) (a r m q:Nat) (ns:List Nd) (ws is:List Nat) (ds:List D) (R:List (List (Int×Int))),Pre S T→T[a]?=some (.lst (ns.map Nd.d))→zaD q ns ws→(1≤q∧q≤2)→ns.length≤60→T[r]?=some (.lst (is.map λi=>rwD (true,i)))→is.length=q→(∀i∈is,i<ns.length)→T[m]?=some (.lst ds)→zaF T 0 ds R→R.Nodup→(1≤R.length∧R.length≤16)→(∀A∈R,A.length=q∧(∀p∈A,p.2=g*parts∧p.1.natAbs≤400000)∧∀i∈is,(gt (zal A ns) (i:Int)).1=0)→Q (.tup [.ref a,.ref r,.ref m]) T
 | _=>False
theorem zwj:Ln (zhg) 3:=λds S Q ex h=>by unfold zhg at h; split at h <;> first | rfl | exact h.elim
def zhh:Sd:=λds S Q ex=>match ds with
 | [.tup [.int l,.int u],.tup [.int a,.int b],.int g]=>(Sz 30000 l∧Sz 30000 u∧Sz 200 a∧Sz 200 b∧Sz 30 g)∧Q (.bl (decide (l*b≤a*g)&&decide (a*g≤u*b))) S
 | _=>False
theorem zsm:Ln (zhh) 3:=λds S Q ex h=>by unfold zhh at h; split at h <;> first | rfl | exact h.elim
def zhX:Sd:=λds S Q ex=>match ds with
 | [.ref a,.ref b,.int g]=>∃A B:List (Int×Int),S[a]?=some (.lst (A.map frD))∧S[b]?=some (.lst (B.map frD))∧A.length=B.length∧B.length≤900∧Bd 60 A∧Bd 60 B∧(1≤g∧g≤1000000)∧(InW g B A→Q (.bl true) S)∧(¬ InW g B A→Q (.bl false) S)
 | _=>False
theorem zvU:Ln (zhX) 3:=λds S Q ex h=>by unfold zhX at h; split at h <;> first | rfl | exact h.elim
def zgA:Sd:=λds S Q ex=>match ds with
 | [.ref f,.ref b]=>∃us vs:List (Int×Int),S[f]?=some (.lst (us.map frD))∧S[b]?=some (.lst (vs.map frD))∧us.length=vs.length∧vs.length≤900∧(∀k:Nat,k<vs.length→(gt vs (k:Int)).1<(gt us (k:Int)).1∧(gt us (k:Int)).2<(gt vs (k:Int)).2)∧Q (.bl true) S
 | _=>False
theorem ztv:Ln (zgA) 2:=λds S Q ex h=>by unfold zgA at h; split at h <;> first | rfl | exact h.elim
def zhb:Sd:=λds S Q ex=>match ds with
 | [.int _]=>Q (.bl true) S
 | _=>False
theorem zr9:Ln (zhb) 1:=λds S Q ex h=>by unfold zhb at h; split at h <;> first | rfl | exact h.elim
def zh4:Sd:=λds S Q ex=>match ds with
 | [.tup [.int a,.int b]]=>a≤b∧Q (.bl true) S
 | _=>False
theorem zx2:Ln (zh4) 1:=λds S Q ex h=>by unfold zh4 at h; split at h <;> first | rfl | exact h.elim
def zhl:Sd:=λds S Q ex=>match ds with
 | [.ref a,.int m]=>∃vs:List (Int×Int),S[a]?=some (.lst (vs.map frD))∧m=vs.length∧(∀p∈vs,p.1≤p.2)∧Q (.bl true) S
 | _=>False
theorem zrL:Ln (zhl) 2:=λds S Q ex h=>by unfold zhl at h; split at h <;> first | rfl | exact h.elim
section
variable {P:Program}{w:World}{K:PySem.W.Frag}{mg:Str→Option Value}{base:Heap}
def zuE  (zjz:Df K mg "_law_grid" zmj zid):Fk P w K mg base 1 "_law_grid" zid zhk:=
 zjz.mk' (zaw (k:=0) zjz.F zt8 (zsD) λcdv A outer s H E hr=>⟨_,(zao (zaR (zaP (zbb hr) (zaq zbF (dv 0) zac) zac (zaJ _)) (zai (zas (zaq zbm zac (zaq zbF (zaq zdM (dv 0) zac) zac)))) zaW) (zao (zaR (zaP (zbb hr) (zaq zbF (dv 0) zac) zac (zaJ _)) (zai (zas (zaq zbm zac (zaq zbF (zaq zdM (dv 0) zac) zac)))) zaW) (zai (zas zac)))),λds S Q ex h=>by
  unfold zhk at h
  split at h
  ·rename_i c
   refine ifD (λe=>?_) (λe=>?_)
   ·exact h _ (by omega) (by omega)
   ·refine ifD (λe=>?_) (λe=>?_)
    ·exact h _ (by omega) (by omega)
    ·exact h _ (by decide) (by decide)
  ·exact h.elim⟩)
def zwh  (zme:Df K mg "_law_cell" ziR zdl)(zaB:mg "len"=none):Fk P w K mg base 1 "_law_cell" zdl zc6:=
 zme.mk' (zaw (k:=0) zme.F zto (zuB) λcdv A outer s H E hr=>⟨_,(zao (zaR (zaP zdF (dv 1) (zaT zbo rfl zaB Boot.«len» (zaa (dv 0) zab)) (zaJ _)) (zai (zas (zat (dv 0) (dv 1) (λ_ _=>rfl)))) zaW) (zai (zas zac))),λds S Q ex h=>by
  unfold zc6 at h
  split at h
  ·rename_i n k
   obtain⟨ns,h1,h2,h3⟩:=h
   simp only[zfT,zfK,zqG,dRet,dRetN,dIf,zgS,zct,dC,dOp,dUn,wI,wI0,wIf,zj8,dNot,dAnd,dOr,zp9,dOrV,zqR,dIfE,zkz,zmy,zpd,dTup,dLst,wIx,zl3,zlG,zqo,wAbs,zd5,zeS,wEq,wNe,wIsN,wNotN,wNeg,zeJ,Vaz,List.map_nil,VaE,Va3,List.cons_append,List.nil_append,Nat.reduceAdd,Nat.reduceSub,List.replicate,List.getElem?_cons_zero,List.getElem?_cons_succ,List.set_cons_zero,List.set_cons_succ,ite_true,ite_false,if_true,if_false,Nat.reduceLeDiff,eq_self,p40,p41,p20,zhn,powB,Int.reduceLT,Int.reduceLE,Int.reduceNeg,decide_true,Bool.and_self,Bool.and_true,Bool.true_and,L3.eq1,L3.eq2,L3.eqT,L3.eqF,L3.eqL]
   have hA:lAt S n=some (.frz (ns.map D.int)):=zaO h1 rfl
   simp only[hA,zah,Vab]
   refine zdL (λc=>?_) (λc=>?_)
   ·have c':k<(ns.length:Int):=of_decide_eq_true c
    have hk:k.toNat<ns.length:=(by omega)
    have e:atI (ns.map D.int) k=some (.int ns[k.toNat]):=by
     have z:=zix (xs:=ns.map D.int) (j:=k.toNat) (v:=.int ns[k.toNat]) (by simp[hk])
     rw[show ((k.toNat:Nat):Int)=k by omega] at z
     exact z
    simp only[e]
    rw[Vai,Vac hk] at h3
    exact h3
   ·have c':¬ k<(ns.length:Int):=λz=>c (decide_eq_true z)
    rw[Vai,VaP (by omega)] at h3
    exact h3
  ·exact h.elim⟩)
def zxX  (zle:Df K mg "_law_about" zi6 zih)(zbi:Fk P w K mg base 1 "_law_cell" zdl zc6)(zaX:mg "range"=none)(zaB:mg "len"=none):Fk P w K mg base 2 "_law_about" zih zhs:=
 zle.mk' (zaw (k:=1) zle.F zft (zvb) λcdv A outer s H E hr=>⟨_,(zao (zaA (i:=2) zft.nd rfl (Or.inl rfl) (zbI zab)) (zao (zgP (i:=3) PassesOwn.never rfl zft.nd rfl (Or.inl rfl) rfl zaX (zaa (zaT (zaV zbo) rfl zaB Boot.«len» (zaa (dv 0) zab)) zab) (zao (zaA (i:=4) zft.nd rfl (Or.inl rfl) (zat (zaL (dv 0) (dv 3) (λ_ _=>rfl)) zac (λ_ _=>rfl))) (zao (zaA (i:=5) zft.nd rfl (Or.inl rfl) (zan zbi hr (zaa (dv 1) (zaa (zaq zbm zac (zaq za2 zac (dv 3))) zab)))) (zao (zaA (i:=6) zft.nd rfl (Or.inl rfl) (zan zbi hr (zaa (dv 1) (zaa (zaq zbm zac (zaq za2 zac (dv 3))) zab)))) (zai (zds (zdO (dv 2) (zaS (zaa (zaq zcB (zaq zcB (dv 4) (zaq zbF (dv 5) zac)) zac) (zaa (zaq zbm (zaq zbm (dv 4) (zaq zbF (dv 6) zac)) zac) zab)))))))))) (zai (zas (dv 2))))),λds S Q ex h=>by
  unfold zhs at h
  split at h
  ·rename_i a sc
   obtain⟨cs,A,hsc,ha,l4,zA,h⟩:=h
   refine zbC (zaz ha) ?_
   rw[Vab]
   refine⟨⟨by omega,by omega⟩,λk dl' S'=>k≤A.length∧Pre S S'∧(∃B:List (Int×Int),S'[S.length]?=some (.lst (B.map frD))∧B.length=k∧(∀j:Nat,j<k→(gt B (j:Int)).1<(gt A (j:Int)).1∧(gt A (j:Int)).1<(gt B (j:Int)).2)∧∀p∈B,p.1≤p.2∧p.1.natAbs≤2000000∧p.2.natAbs≤2000000)∧∃u1 u2 u3 u4:Option D,dl'=[some (.ref a),some (.ref sc),some (.ref S.length),u1,u2,u3,u4],⟨Vak _,Pre.refl.push,⟨[],zax _ _,rfl,λj hj=>by omega,λp hp=>by simp at hp⟩,_,_,_,_,rfl⟩,?_⟩
   rintro k dl' S' ⟨hk,pr,⟨B,hB,lB,dB,zB⟩,u1,u2,u3,u4,rfl⟩
   rw[Vam]
   refine zdL (λc=>?_) (λc=>?_)
   ·have kr:inR ((A.length:Nat):Int) (k:Int):=⟨by omega,by omega⟩
    have zk:=zA _ (zd0 kr)
    refine zaI (o:=.lst (A.map frD)) (pr _ _ ha) (zbd kr) ?_
    refine⟨IntMulOk.of_left (by decide),cs,pr _ _ hsc,show (0:Int)≤16+2*(k:Int) by omega,?_⟩
    generalize cs.getD (16+2*(k:Int)).toNat 0=x
    refine⟨IntMulOk.of_left (by decide),cs,pr _ _ hsc,show (0:Int)≤17+2*(k:Int) by omega,?_⟩
    generalize cs.getD (17+2*(k:Int)).toNat 0=y
    refine zhq (n:=S.length) (S1:=S') (xs:=B.map frD) (y:=frD ((gt A (k:Int)).1-x%1000-1,(gt A (k:Int)).1+y%1000+1)) (λK hK=>by exact hK) hB (λK hK=>by exact hK) (by rw[Vab]; omega) ?_
    refine⟨by omega,zdy pr (Vaa _),⟨B++[((gt A (k:Int)).1-x%1000-1,(gt A (k:Int)).1+y%1000+1)],by rw[VaW]; exact zcI hB,by rw[Vav,lB]; rfl,λj hj=>?_,λp hp=>?_⟩,_,_,_,_,rfl⟩
    ·by_cases e:j=k
     ·subst e
      have eg:gt (B++[((gt A (j:Int)).1-x%1000-1,(gt A (j:Int)).1+y%1000+1)]) (j:Int)=((gt A (j:Int)).1-x%1000-1,(gt A (j:Int)).1+y%1000+1):=zbv (by rw[← lB,VaG (Vaa _),Vbb]; rfl)
      rw[eg]
      exact⟨by show _<_; omega,by show _<_; omega⟩
     ·have eg:gt (B++[((gt A (k:Int)).1-x%1000-1,(gt A (k:Int)).1+y%1000+1)]) (j:Int)=gt B (j:Int):=by
       have hj':=Vac (show j<B.length by omega)
       rw[zbv hj']
       exact zbv (by rw[Val (by omega)]; exact hj')
      rw[eg]
      exact dB j (by omega)
    ·rcases VaQ.mp hp with w | w
     ·exact zB p w
     ·rw[VaS.mp w]
      exact⟨by show _≤_; omega,by show Int.natAbs _≤_; omega,by show Int.natAbs _≤_; omega⟩
   ·have e:k=A.length:=by omega
    subst e
    exact h _ _ B pr (Vaa _) hB lB dB zB
  ·exact h.elim⟩)
def zvG  (ziC:Df K mg "equation_places" zhy zik):Fk P w K mg base 1 "equation_places" zik zio:=
 ziC.mk' (zaw (k:=0) ziC.F zyx (zwz) λcdv A outer s H E hr=>⟨_,(zai (zas (zcS (x:="row") (N:=[]) (caps:=[]) (ar:=zam zhy) rfl rfl csc rfl (by decide) (dv 0) (λ_ _ _ _ _ _=>zns (zaP (zbb hr) (zat (dv 0) zac (λ_ _=>rfl)) zbr (zaJ _))) (λ_ _ _ _ _ _=>(zat (dv 0) zac (λ_ _=>rfl)))))),λds S Q ex h=>by
  unfold zio at h
  split at h
  ·rename_i r
   obtain⟨rows,hr,l9,h⟩:=h
   refine zoU (n:=r) (S1:=S) (o:=.lst (rows.map rwD)) (λd=>match d with | .tup [.str w,.int at']=>if w="zero" then some (.int at') else none | _=>none) (λK hK=>by exact hK) hr (by show (rows.map rwD).length≤1000; rw[Vab]; omega) (λx hx S2 K pr hK=>?_) (λx hx y hy S2 K pr hK=>?_) ?_
   ·have hx':x∈rows.map rwD:=hx
    obtain⟨⟨b,n⟩,_,rfl⟩:=Vah.mp hx'
    cases b
    ·exact hK
    ·exact hK
   ·have hx':x∈rows.map rwD:=hx
    obtain⟨⟨b,n⟩,_,rfl⟩:=Vah.mp hx'
    cases b
    ·exact absurd hy (by
      simp[rwD]
      intro z
      exact absurd z (by decide))
    ·cases hy
     exact hK
   ·have e:(zah (.lst (rows.map rwD))).filterMap (λd=>match d with | .tup [.str w,.int at']=>if w="zero" then some (.int at') else none | _=>none)=(eqs rows).map wtD:=by
     show (rows.map rwD).filterMap _=_
     unfold eqs
     rw[List.filterMap_map,List.map_filterMap]
     congr 1
     funext ⟨b,n⟩
     cases b <;> rfl
    rw[e]
    exact h
  ·exact h.elim⟩)
def zsi  (ziD:Df K mg "picked" zgd zeD):Fk P w K mg base 1 "picked" zeD zeC:=
 ziD.mk' (zaw (k:=0) ziD.F zry (zxG) λcdv A outer s H E hr=>⟨_,(zai (zas (zcS (x:="place") (N:=["each"]) (caps:=[0]) (ar:=zam zgd) rfl rfl csc rfl (by decide) (dv 1) (λ_ _ _ _ _ _=>zbW) (λ_ _ _ _ _ _=>(zaL (dv 1) (dv 0) (λ_ _=>rfl)))))),λds S Q ex h=>by
  unfold zeC at h
  split at h
  ·rename_i e p
   obtain⟨xs,is,he,hp,l9,hi,h⟩:=h
   refine zc5 (n:=p) (S1:=S) (o:=.lst (is.map wtD)) (λd=>match d with | .int i=>xs.getD i.toNat .non | _=>.non) (λK hK=>by exact hK) hp (by show (is.map wtD).length≤1000; rw[Vab]; omega) (λx hx S2 K pr hK=>?_) ?_
   ·have hx':x∈is.map wtD:=hx
    obtain⟨i,him,rfl⟩:=Vah.mp hx'
    have hl:=hi i him
    refine zaI (o:=.lst xs) (pr _ _ he) (zix (j:=i) (v:=xs.getD i .non) (by show xs[i]?=_; rw[Vac hl]; simp[hl])) ?_
    exact hK
   ·have e2:(zah (.lst (is.map wtD))).map (λd=>match d with | .int i=>xs.getD i.toNat .non | _=>.non)=is.map λi=>xs.getD i .non:=by
     show (is.map wtD).map _=_
     rw[Vau]
     rfl
    rw[e2]
    exact h
  ·exact h.elim⟩)
def zwH  (zlq:Df K mg "less" zl6 zim):Fk P w K mg base 1 "less" zim zgk:=
 zlq.mk' (zaw (k:=0) zlq.F zvc (zxC) λcdv A outer s H E hr=>⟨_,(zai (zas (zdS zdF (zaq za2 (zat (dv 0) zac (λ_ _=>rfl)) (zat (dv 1) zac (λ_ _=>rfl))) (zaq za2 (zat (dv 1) zac (λ_ _=>rfl)) (zat (dv 0) zac (λ_ _=>rfl))) (zaJ _)))),λds S Q ex h=>by
  unfold zgk at h
  split at h
  ·obtain⟨⟨h1,h2⟩,h⟩:=h
   exact⟨h1,h2,h⟩
  ·exact h.elim⟩)
def zwo  (zkU:Df K mg "rounded_up" zli zd6):Fk P w K mg base 1 "rounded_up" zd6 zd3:=
 zkU.mk' (zaw (k:=0) zkU.F zs3 (ztA) λcdv A outer s H E hr=>⟨_,(zai (zas (zl4 zjp (zaq zdh (zl4 zjp (dv 0)) (dv 1))))),λds S Q ex h=>by
  unfold zd3 at h
  split at h
  ·exact h
  ·exact h.elim⟩)
def zuN  (zkw:Df K mg "span_of" zlM zgq)(zde:Fk P w K mg base 1 "rounded_up" zd6 zd3)(zn3:Fk P w K mg base 1 "less" zim zgk):Fk P w K mg base 2 "span_of" zgq zh9:=
 zkw.mk' (zaw (k:=1) zkw.F ztY (zv1) λcdv A outer s H E hr=>⟨_,(zao (zaR (zcO (zan zn3 hr (zaa (dv 1) (zaa (dv 0) zab)))) (zai zyd) zaW) (zai (zas (zaS (zaa (zaq zdh (zaq za2 (zat (dv 0) zac (λ_ _=>rfl)) (dv 2)) (zat (dv 0) zac (λ_ _=>rfl))) (zaa (zan zde hr (zaa (zaq za2 (zat (dv 1) zac (λ_ _=>rfl)) (dv 2)) (zaa (zat (dv 1) zac (λ_ _=>rfl)) zab))) zab)))))),λds S Q ex h=>by
  unfold zh9 at h
  split at h
  ·obtain⟨⟨⟨m1,m2⟩,nl,m3,m4,f1,f2⟩,h⟩:=h
   refine⟨⟨m1,m2⟩,ifF (decide_eq_false nl) ?_⟩
   exact⟨m3,f1,m4,f2,h⟩
  ·exact h.elim⟩)
def zs8  (zaj:zbJ K mg)(zak:zbN K mg)(zaf:zbH K mg)(zad:zbG K mg)(zae:zbE K mg)(zag:zbK K mg)(zjf:Dm K zaj.C "forth" "Number.forth" zmI zgN)(znw:Fk P w K mg base 2 "span_of" zgq zh9):Fm P w K mg base 3 zaj.C "forth" zgN (zfE zaj.C zak.C zaf.C zad.C zae.C zag.C):=
 zjf.mk' (zaw (k:=2) zjf.F zp0 (zv0 zaj.C zak.C zaf.C zad.C zae.C zag.C) λcdv A outer s H E hr=>⟨_,(zao (zaA (i:=4) zp0.nd rfl (Or.inl rfl) (zaS (zaa (za8 zaj.cl zaj.n_top (dv 0)) (zaa (za8 zaj.cl zaj.n_bottom (dv 0)) zab)))) (zai (zas (zan znw hr (zaa (dv 4) (zaa (dv 4) (zaa (dv 3) zab))))))),λds S Q ex h=>by
  unfold zfE at h
  split at h
  ·rename_i n w p g
   obtain⟨x,y,vs,bs,hn,hw,hp,ok,s1,hg,h⟩:=h
   have sg:Sz 21 g:=Sz.of 1000000 (by omega)
   have sx:Sz 31 x:=Sz.of (10^9) ok.2.2
   have sy:Sz 31 y:=Sz.of (10^9) (by have:=ok.1; omega)
   refine za7 (n:=n) (λK hK=>by exact hK) hn rfl ?_
   refine za7 (n:=n) (λK hK=>by exact hK) hn rfl ?_
   exact⟨⟨⟨zaM sx sy,zaM sx sy⟩,by omega,zaM sx sg,zaM sx sg,sy.fd (by have:=ok.1; omega),sy.fd (by have:=ok.1; omega)⟩,h⟩
  ·exact h.elim⟩)
def ztz  (zak:zbN K mg)(zaj:zbJ K mg)(zaf:zbH K mg)(zad:zbG K mg)(zae:zbE K mg)(zag:zbK K mg)(zj9:Dm K zak.C "forth" "Unknown.forth" zkF zhE):Fm P w K mg base 1 zak.C "forth" zhE (zeR zaj.C zak.C zaf.C zad.C zae.C zag.C):=
 zj9.mk' (zaw (k:=0) zj9.F zwb (ztF zaj.C zak.C zaf.C zad.C zae.C zag.C) λcdv A outer s H E hr=>⟨_,(zai (zas (zaL (dv 2) (za8 zak.cl zak.n_place (dv 0)) (λ_ _=>rfl)))),λds S Q ex h=>by
  unfold zeR at h
  split at h
  ·rename_i n w p g
   obtain⟨k,vs,bs,hn,hw,hp,ok,s1,hg,h⟩:=h
   refine za7 (n:=n) (λK hK=>by exact hK) hn rfl ?_
   exact zaI (o:=.lst (bs.map frD)) hp (zbd ok) h
  ·exact h.elim⟩)
def zyn  (ziN:Df K mg "add_spans" zk1 zdb):Fk P w K mg base 1 "add_spans" zdb zdm:=
 ziN.mk' (zaw (k:=0) ziN.F zvN (ztG) λcdv A outer s H E hr=>⟨_,(zai (zas (zaS (zaa (zaq zbm (zat (dv 0) zac (λ_ _=>rfl)) (zat (dv 1) zac (λ_ _=>rfl))) (zaa (zaq zbm (zat (dv 0) zac (λ_ _=>rfl)) (zat (dv 1) zac (λ_ _=>rfl))) zab))))),λds S Q ex h=>by
  unfold zdm at h
  split at h
  ·exact h
  ·exact h.elim⟩)
def ztk  (zaf:zbH K mg)(zaj:zbJ K mg)(zak:zbN K mg)(zad:zbG K mg)(zae:zbE K mg)(zag:zbK K mg)(zke:Dm K zaf.C "forth" "Plus.forth" zl0 zhY)(zb3:Fk P w K mg base 1 "add_spans" zdb zdm):Fm P w K mg base 2 zaf.C "forth" zhY (ze6 zaj.C zak.C zaf.C zad.C zae.C zag.C):=
 zke.mk' (zaw (k:=1) zke.F zud (zyi zaj.C zak.C zaf.C zad.C zae.C zag.C) λcdv A outer s H E hr=>⟨_,(zai (zas (zan zb3 hr (zaa (zaL (dv 1) (za8 zaf.cl zaf.n_one (dv 0)) (λ_ _=>rfl)) (zaa (zaL (dv 1) (za8 zaf.cl zaf.n_other (dv 0)) (λ_ _=>rfl)) zab))))),λds S Q ex h=>by
  unfold ze6 at h
  split at h
  ·rename_i n w p g
   obtain⟨i,j,vs,bs,hn,hw,hp,ok,s1,hg,h⟩:=h
   refine za7 (n:=n) (λK hK=>by exact hK) hn rfl ?_
   refine zaI (o:=.lst (vs.map frD)) hw (zbd ok.1) ?_
   refine za7 (n:=n) (λK hK=>by exact hK) hn rfl ?_
   refine zaI (o:=.lst (vs.map frD)) hw (zbd ok.2) ?_
   exact h
  ·exact h.elim⟩)
def zwp  (zmb:Df K mg "take_spans" ziI zdZ):Fk P w K mg base 1 "take_spans" zdZ zdX:=
 zmb.mk' (zaw (k:=0) zmb.F ztj (zxW) λcdv A outer s H E hr=>⟨_,(zai (zas (zaS (zaa (zaq zcB (zat (dv 0) zac (λ_ _=>rfl)) (zat (dv 1) zac (λ_ _=>rfl))) (zaa (zaq zcB (zat (dv 0) zac (λ_ _=>rfl)) (zat (dv 1) zac (λ_ _=>rfl))) zab))))),λds S Q ex h=>by
  unfold zdX at h
  split at h
  ·exact h
  ·exact h.elim⟩)
def zv8  (zad:zbG K mg)(zaj:zbJ K mg)(zak:zbN K mg)(zaf:zbH K mg)(zae:zbE K mg)(zag:zbK K mg)(zml:Dm K zad.C "forth" "Minus.forth" zkc zho)(zcj:Fk P w K mg base 1 "take_spans" zdZ zdX):Fm P w K mg base 2 zad.C "forth" zho (zfV zaj.C zak.C zaf.C zad.C zae.C zag.C):=
 zml.mk' (zaw (k:=1) zml.F zyf (zwN zaj.C zak.C zaf.C zad.C zae.C zag.C) λcdv A outer s H E hr=>⟨_,(zai (zas (zan zcj hr (zaa (zaL (dv 1) (za8 zad.cl zad.n_one (dv 0)) (λ_ _=>rfl)) (zaa (zaL (dv 1) (za8 zad.cl zad.n_other (dv 0)) (λ_ _=>rfl)) zab))))),λds S Q ex h=>by
  unfold zfV at h
  split at h
  ·rename_i n w p g
   obtain⟨i,j,vs,bs,hn,hw,hp,ok,s1,hg,h⟩:=h
   refine za7 (n:=n) (λK hK=>by exact hK) hn rfl ?_
   refine zaI (o:=.lst (vs.map frD)) hw (zbd ok.1) ?_
   refine za7 (n:=n) (λK hK=>by exact hK) hn rfl ?_
   refine zaI (o:=.lst (vs.map frD)) hw (zbd ok.2) ?_
   exact h
  ·exact h.elim⟩)
def zvd  (zjF:Df K mg "mul_spans" ziX zdq)(zde:Fk P w K mg base 1 "rounded_up" zd6 zd3)(zb7:mg "max"=none)(zb6:mg "min"=none):Fk P w K mg base 2 "mul_spans" zdq zdA:=
 zjF.mk' (zb0 (zaw (k:=1) zjF.F zpU (zbY (zu9)) λcdv A outer s H E hr=>⟨_,(zao (zaA (i:=3) zpU.nd rfl (Or.inl rfl) (zbI (zaa (zaq za2 (zat (dv 0) zac (λ_ _=>rfl)) (zat (dv 1) zac (λ_ _=>rfl))) (zaa (zaq za2 (zat (dv 0) zac (λ_ _=>rfl)) (zat (dv 1) zac (λ_ _=>rfl))) (zaa (zaq za2 (zat (dv 0) zac (λ_ _=>rfl)) (zat (dv 1) zac (λ_ _=>rfl))) (zaa (zaq za2 (zat (dv 0) zac (λ_ _=>rfl)) (zat (dv 1) zac (λ_ _=>rfl))) zab)))))) (zai (zas (zaS (zaa (zaq zdh (zaT (zaV (zoI rfl)) rfl zb6 Boot.«min» (zaa (dv 3) zab)) (dv 2)) (zaa (zan zde hr (zaa (zaT (zaV (znM rfl)) rfl zb7 Boot.«max» (zaa (dv 3) zab)) (zaa (dv 2) zab))) zab)))))),λds S Q ex h=>by
  obtain⟨Q0,ex0,rfl,rfl,h⟩:=h
  unfold zdA at h
  split at h
  ·rename_i a b c d g
   obtain⟨⟨⟨m1,m2,m3,m4⟩,hg⟩,h⟩:=h
   refine⟨m1,m2,m3,m4,?_⟩
   apply zdx
   ·exact zax _ _
   ·rfl
   ·simp
   intro mn n1 n2
   refine⟨hg,?_⟩
   apply zdx
   ·exact zax _ _
   ·rfl
   ·simp
   intro mx x1 x2
   refine⟨hg,?_⟩
   exact⟨Pre.refl.push,zfe,h mn mx (ze5.of n1 n2 x1 x2)⟩
  ·exact h.elim⟩))
def zvF  (zae:zbE K mg)(zaj:zbJ K mg)(zak:zbN K mg)(zaf:zbH K mg)(zad:zbG K mg)(zag:zbK K mg)(zmg:Dm K zae.C "forth" "Times.forth" zi2 zhC)(zcg:Fk P w K mg base 2 "mul_spans" zdq zdA):Fm P w K mg base 3 zae.C "forth" zhC (ze0 zaj.C zak.C zaf.C zad.C zae.C zag.C):=
 zmg.mk' (zaw (k:=2) zmg.F zsh (zue zaj.C zak.C zaf.C zad.C zae.C zag.C) λcdv A outer s H E hr=>⟨_,(zai (zas (zan zcg hr (zaa (zaL (dv 1) (za8 zae.cl zae.n_one (dv 0)) (λ_ _=>rfl)) (zaa (zaL (dv 1) (za8 zae.cl zae.n_other (dv 0)) (λ_ _=>rfl)) (zaa (dv 3) zab)))))),λds S Q ex h=>by
  unfold ze0 at h
  split at h
  ·rename_i n w p g
   obtain⟨i,j,vs,bs,hn,hw,hp,ok,s1,hg,h⟩:=h
   refine za7 (n:=n) (λK hK=>by exact hK) hn rfl ?_
   refine zaI (o:=.lst (vs.map frD)) hw (zbd ok.1) ?_
   refine za7 (n:=n) (λK hK=>by exact hK) hn rfl ?_
   refine zaI (o:=.lst (vs.map frD)) hw (zbd ok.2) ?_
   have a:=s1.at ok.1
   have b:=s1.at ok.2
   have sg:Sz 21 g:=Sz.of 1000000 (by omega)
   refine⟨⟨⟨zaM a.2.1 b.2.1,zaM a.2.1 b.2.2,zaM a.2.2 b.2.1,zaM a.2.2 b.2.2⟩,sg.fd (by omega)⟩,λmn mx hc=>?_⟩
   obtain⟨rfl,rfl⟩:=hc.eq
   exact h
  ·exact h.elim⟩)
def zvg  (zjl:Df K mg "raised" zmP zhd)(zaX:mg "range"=none):Fk P w K mg base 1 "raised" zhd zha:=
 zjl.mk' (zaw (k:=0) zjl.F zmx (zws) λcdv A outer s H E hr=>⟨_,(zao (zaA (i:=2) zmx.nd rfl (Or.inl rfl) zac) (zao (zgP (i:=3) PassesOwn.never rfl zmx.nd rfl (Or.inl rfl) rfl zaX (zaa (dv 1) zab) (zai (zaA (i:=2) zmx.nd rfl (Or.inl rfl) (zaq za2 (dv 2) (dv 0))))) (zai (zas (dv 2))))),λds S Q ex h=>by
  unfold zha at h
  split at h
  ·rename_i x n
   obtain⟨⟨h0,h6,sx⟩,h⟩:=h
   refine⟨⟨by omega,by omega⟩,λk dl' S'=>S'=S∧k≤n.toNat∧∃(z:Int) (o:Option D),z=x^k∧dl'=[some (.int x),some (.int n),some (.int z),o],⟨rfl,Vak _,1,none,(Vbh x).symm,rfl⟩,?_⟩
   rintro k dl' S' ⟨rfl,hk,z,o,rfl,rfl⟩
   refine zdL (λc=>?_) (λc=>?_)
   ·exact⟨zaM (m:=12001) (n:=2000) ((sx.pow k).mono (by omega)) sx,rfl,by omega,_,_,(Var x k).symm,rfl⟩
   ·have e:k=n.toNat:=by omega
    subst e
    exact h
  ·exact h.elim⟩)
def zxA  (zkb:Df K mg "raise_span" ziw zfM)(zde:Fk P w K mg base 1 "rounded_up" zd6 zd3)(zmE:Fk P w K mg base 1 "raised" zhd zha)(zb7:mg "max"=none)(zb6:mg "min"=none):Fk P w K mg base 2 "raise_span" zfM zfx:=
 zkb.mk' (zb0 (zaw (k:=1) zkb.F zmi (zbY (zrM)) λcdv A outer s H E hr=>⟨_,(zao (zaA (i:=3) zmi.nd rfl (Or.inl rfl) (zbI (zaa (zat (dv 0) zac (λ_ _=>rfl)) (zaa (zat (dv 0) zac (λ_ _=>rfl)) zab)))) (zao (zaR (zuJ zdF zdF (zat (dv 0) zac (λ_ _=>rfl)) zac (zat (dv 0) zac (λ_ _=>rfl))) (zai (zds (zdO (dv 3) zac))) zaW) (zao (zlf (x:="place") (N:=["grid","many"]) (caps:=[2,1]) (ar:=zam ziw) rfl rfl csc rfl (by decide) (i:=4) zmi.nd rfl rfl (dv 3) (λ_ _ _ _ _ _=>zbW) (λ_ _ _ _ _ _=>(zaq za2 (zan zmE hr (zaa (dv 0) (zaa (dv 2) zab))) (dv 1)))) (zao (zaA (i:=5) zmi.nd rfl (Or.inl rfl) (zan zmE hr (zaa (dv 2) (zaa (dv 1) zab)))) (zai (zas (zaS (zaa (zaq zdh (zaT (zaV (zoI rfl)) rfl zb6 Boot.«min» (zaa (dv 4) zab)) (dv 5)) (zaa (zan zde hr (zaa (zaT (zaV (znM rfl)) rfl zb7 Boot.«max» (zaa (dv 4) zab)) (zaa (dv 5) zab))) zab))))))))),λds S Q ex h=>by
  obtain⟨Q0,ex0,rfl,rfl,h⟩:=h
  unfold zfx at h
  split at h
  ·rename_i a b n g
   obtain⟨⟨n2,n6,za,zb,hg,zg⟩,h⟩:=h
   refine ifD (λc1=>?_) (λc1=>?_)
   ·refine ifD (λc2=>?_) (λc2=>?_)
    ·refine zhq (n:=S.length) (λK hK=>hK) (zax _ _) (λK hK=>hK) (by simp) ?_
     refine zc5 (n:=S.length) (o:=.lst [.int a,.int b,.int 0]) (λd=>match d with | .int v=>.int (v^n.toNat*g) | _=>.non) (λK hK=>hK) (by simp) (by simp[zah]) (λx hx S2 K _ hK=>?_) ?_
     ·have hx':x=.int a∨x=.int b∨x=.int 0:=by simpa [zah] using hx
      rcases hx' with rfl | rfl | rfl
      all_goals exact⟨⟨by omega,n6,by first | exact za.mono (by decide) | exact zb.mono (by decide) | exact Sz.of (n:=2000) 0 (by decide)⟩,zaM (m:=12001) (n:=1400) (((Sz.mono (n:=2000) (by first | exact za | exact zb | exact Sz.of (n:=1400) 0 (by decide)) (by decide)).pow _).mono (by omega)) zg,hK⟩
     refine⟨⟨by omega,n6,zg.mono (by decide)⟩,?_⟩
     have gp:(0:Int)<g^n.toNat:=VaL (by omega)
     have zgp:Sz 8401 (g^n.toNat):=(zg.pow _).mono (by omega)
     apply zdx
     ·exact zax _ _
     ·rfl
     ·simp
     intro mn q1 q2
     refine⟨zgp.fd gp,?_⟩
     apply zdx
     ·exact zax _ _
     ·rfl
     ·simp
     intro mx x1 x2
     refine⟨zgp.fd gp,?_⟩
     obtain⟨m,M,hP,rfl,rfl⟩:=zdY.of (n:=n.toNat) hg (.inr ⟨rfl,c1,c2⟩) (by omega) q1 q2 x1 x2
     have r:=h m M hP
     rw[← zeX hg (by omega),← zeX hg (by omega),Va1] at r
     exact⟨(λi o e=>zcD (by rw[List.set_append_right _ _ (Vaa _),Val (Vad.mp e).1]; exact e)),zfe,r⟩
    ·skip
     refine zc5 (n:=S.length) (o:=.lst [.int a,.int b]) (λd=>match d with | .int v=>.int (v^n.toNat*g) | _=>.non) (λK hK=>hK) (zax _ _) (by simp[zah]) (λx hx S2 K _ hK=>?_) ?_
     ·have hx':x=.int a∨x=.int b:=by simpa [zah] using hx
      rcases hx' with rfl | rfl
      all_goals exact⟨⟨by omega,n6,by first | exact za.mono (by decide) | exact zb.mono (by decide) | exact Sz.of (n:=2000) 0 (by decide)⟩,zaM (m:=12001) (n:=1400) (((Sz.mono (n:=2000) (by first | exact za | exact zb | exact Sz.of (n:=1400) 0 (by decide)) (by decide)).pow _).mono (by omega)) zg,hK⟩
     refine⟨⟨by omega,n6,zg.mono (by decide)⟩,?_⟩
     have gp:(0:Int)<g^n.toNat:=VaL (by omega)
     have zgp:Sz 8401 (g^n.toNat):=(zg.pow _).mono (by omega)
     apply zdx
     ·exact zax _ _
     ·rfl
     ·simp
     intro mn q1 q2
     refine⟨zgp.fd gp,?_⟩
     apply zdx
     ·exact zax _ _
     ·rfl
     ·simp
     intro mx x1 x2
     refine⟨zgp.fd gp,?_⟩
     obtain⟨m,M,hP,rfl,rfl⟩:=zdY.of (n:=n.toNat) hg (.inl ⟨rfl,λc=>c2 c.2⟩) (by omega) q1 q2 x1 x2
     have r:=h m M hP
     rw[← zeX hg (by omega),← zeX hg (by omega),Va1] at r
     exact⟨Pre.refl.push.push,zfe,r⟩
   ·skip
    refine zc5 (n:=S.length) (o:=.lst [.int a,.int b]) (λd=>match d with | .int v=>.int (v^n.toNat*g) | _=>.non) (λK hK=>hK) (zax _ _) (by simp[zah]) (λx hx S2 K _ hK=>?_) ?_
    ·have hx':x=.int a∨x=.int b:=by simpa [zah] using hx
     rcases hx' with rfl | rfl
     all_goals exact⟨⟨by omega,n6,by first | exact za.mono (by decide) | exact zb.mono (by decide) | exact Sz.of (n:=2000) 0 (by decide)⟩,zaM (m:=12001) (n:=1400) (((Sz.mono (n:=2000) (by first | exact za | exact zb | exact Sz.of (n:=1400) 0 (by decide)) (by decide)).pow _).mono (by omega)) zg,hK⟩
    refine⟨⟨by omega,n6,zg.mono (by decide)⟩,?_⟩
    have gp:(0:Int)<g^n.toNat:=VaL (by omega)
    have zgp:Sz 8401 (g^n.toNat):=(zg.pow _).mono (by omega)
    apply zdx
    ·exact zax _ _
    ·rfl
    ·simp
    intro mn q1 q2
    refine⟨zgp.fd gp,?_⟩
    apply zdx
    ·exact zax _ _
    ·rfl
    ·simp
    intro mx x1 x2
    refine⟨zgp.fd gp,?_⟩
    obtain⟨m,M,hP,rfl,rfl⟩:=zdY.of (n:=n.toNat) hg (.inl ⟨rfl,λc=>c1 c.1⟩) (by omega) q1 q2 x1 x2
    have r:=h m M hP
    rw[← zeX hg (by omega),← zeX hg (by omega),Va1] at r
    exact⟨Pre.refl.push.push,zfe,r⟩
  ·exact h.elim⟩))
def zsV  (zag:zbK K mg)(zaj:zbJ K mg)(zak:zbN K mg)(zaf:zbH K mg)(zad:zbG K mg)(zae:zbE K mg)(zlD:Dm K zag.C "forth" "Power.forth" zjC zia)(zeF:Fk P w K mg base 2 "raise_span" zfM zfx):Fm P w K mg base 3 zag.C "forth" zia (zeA zaj.C zak.C zaf.C zad.C zae.C zag.C):=
 zlD.mk' (zaw (k:=2) zlD.F zyh (zyr zaj.C zak.C zaf.C zad.C zae.C zag.C) λcdv A outer s H E hr=>⟨_,(zai (zas (zan zeF hr (zaa (zaL (dv 1) (za8 zag.cl zag.n_one (dv 0)) (λ_ _=>rfl)) (zaa (za8 zag.cl zag.n_many (dv 0)) (zaa (dv 3) zab)))))),λds S Q ex h=>by
  unfold zeA at h
  split at h
  ·rename_i n w p g
   obtain⟨i,m,vs,bs,hn,hw,hp,ok,s1,hg,h⟩:=h
   refine za7 (n:=n) (λK hK=>by exact hK) hn rfl ?_
   refine zaI (o:=.lst (vs.map frD)) hw (zbd ok.1) ?_
   refine za7 (n:=n) (λK hK=>by exact hK) hn rfl ?_
   have a:=s1.at ok.1
   have sg:Sz 21 g:=Sz.of 1000000 (by omega)
   refine⟨⟨by have:=ok.2.1; omega,ok.2.2,a.2.1,a.2.2,hg.1,sg.mono (by decide)⟩,λm' M' hP=>?_⟩
   obtain⟨rfl,rfl⟩:=hP.eq (by have:=ok.2.1; omega)
   exact h
  ·exact h.elim⟩)
def zv6  (zag:zbK K mg)(zkx:Dm K zag.C "__init__" "Power.__init__" zlA zg5):Fm P w K mg base 1 zag.C "__init__" zg5 (zhR zag.C):=
 zkx.mk' (zaw (k:=0) zkx.F zuY (zsn zag.C) λcdv A outer s H E hr=>⟨_,(zao (zcA zag.cl zag.n_one (dv 0) (dv 1)) (zai (zcA zag.cl zag.n_many (dv 0) (dv 2)))),λds S Q ex h=>by
  unfold zhR at h
  split at h
  ·rename_i n x y
   obtain⟨T,rfl,rfl,h⟩:=h
   refine zcN (v:=x) (S1:=T++[Ob.ins zag.C []]) (S2:=T++[Ob.ins zag.C []]) (n:=T.length) (fs:=[]) (λK hK=>by exact hK) (λK hK=>by exact hK) (zcG ..) (by simp) ?_
   rw[zcE]
   refine zcN (v:=y) (S1:=T++[Ob.ins zag.C [("one",x)]]) (S2:=T++[Ob.ins zag.C [("one",x)]]) (n:=T.length) (fs:=[("one",x)]) (λK hK=>by exact hK) (λK hK=>by exact hK) (zcG ..) (by simp) ?_
   rw[zcE]
   exact h
  ·exact h.elim⟩)
def zwT  (zaj:zbJ K mg)(zlN:Dm K zaj.C "__init__" "Number.__init__" zi3 zhH):Fm P w K mg base 1 zaj.C "__init__" zhH (zgC zaj.C):=
 zlN.mk' (zaw (k:=0) zlN.F zuf (zxa zaj.C) λcdv A outer s H E hr=>⟨_,(zao (zcA zaj.cl zaj.n_top (dv 0) (dv 1)) (zai (zcA zaj.cl zaj.n_bottom (dv 0) (dv 2)))),λds S Q ex h=>by
  unfold zgC at h
  split at h
  ·rename_i n x y
   obtain⟨T,rfl,rfl,h⟩:=h
   refine zcN (v:=x) (S1:=T++[Ob.ins zaj.C []]) (S2:=T++[Ob.ins zaj.C []]) (n:=T.length) (fs:=[]) (λK hK=>by exact hK) (λK hK=>by exact hK) (zcG ..) (by simp) ?_
   rw[zcE]
   refine zcN (v:=y) (S1:=T++[Ob.ins zaj.C [("top",x)]]) (S2:=T++[Ob.ins zaj.C [("top",x)]]) (n:=T.length) (fs:=[("top",x)]) (λK hK=>by exact hK) (λK hK=>by exact hK) (zcG ..) (by simp) ?_
   rw[zcE]
   exact h
  ·exact h.elim⟩)
def zvR  (zak:zbN K mg)(zjt:Dm K zak.C "__init__" "Unknown.__init__" zmv zgh):Fm P w K mg base 1 zak.C "__init__" zgh (zis zak.C):=
 zjt.mk' (zaw (k:=0) zjt.F zv9 (zyA zak.C) λcdv A outer s H E hr=>⟨_,(zai (zcA zak.cl zak.n_place (dv 0) (dv 1))),λds S Q ex h=>by
  unfold zis at h
  split at h
  ·rename_i n x
   obtain⟨T,rfl,rfl,h⟩:=h
   refine zcN (v:=x) (S1:=T++[Ob.ins zak.C []]) (S2:=T++[Ob.ins zak.C []]) (n:=T.length) (fs:=[]) (λK hK=>by exact hK) (λK hK=>by exact hK) (zcG ..) (by simp) ?_
   rw[zcE]
   exact h
  ·exact h.elim⟩)
def zvQ  (zaf:zbH K mg)(ziH:Dm K zaf.C "__init__" "Pair.__init__" zj3 zhD):Fm P w K mg base 1 zaf.C "__init__" zhD (zit zaf.C):=
 ziH.mk' (zaw (k:=0) ziH.F zv7 (zvP zaf.C) λcdv A outer s H E hr=>⟨_,(zao (zcA zaf.cl zaf.n_one (dv 0) (dv 1)) (zai (zcA zaf.cl zaf.n_other (dv 0) (dv 2)))),λds S Q ex h=>by
  unfold zit at h
  split at h
  ·rename_i n x y
   obtain⟨T,rfl,rfl,h⟩:=h
   refine zcN (v:=x) (S1:=T++[Ob.ins zaf.C []]) (S2:=T++[Ob.ins zaf.C []]) (n:=T.length) (fs:=[]) (λK hK=>by exact hK) (λK hK=>by exact hK) (zcG ..) (by simp) ?_
   rw[zcE]
   refine zcN (v:=y) (S1:=T++[Ob.ins zaf.C [("one",x)]]) (S2:=T++[Ob.ins zaf.C [("one",x)]]) (n:=T.length) (fs:=[("one",x)]) (λK hK=>by exact hK) (λK hK=>by exact hK) (zcG ..) (by simp) ?_
   rw[zcE]
   exact h
  ·exact h.elim⟩)
def zs2  (zad:zbG K mg)(zmk:Dm K zad.C "__init__" "Pair.__init__" zki zgi):Fm P w K mg base 1 zad.C "__init__" zgi (zhB zad.C):=
 zmk.mk' (zaw (k:=0) zmk.F zua (zva zad.C) λcdv A outer s H E hr=>⟨_,(zao (zcA zad.cl zad.n_one (dv 0) (dv 1)) (zai (zcA zad.cl zad.n_other (dv 0) (dv 2)))),λds S Q ex h=>by
  unfold zhB at h
  split at h
  ·rename_i n x y
   obtain⟨T,rfl,rfl,h⟩:=h
   refine zcN (v:=x) (S1:=T++[Ob.ins zad.C []]) (S2:=T++[Ob.ins zad.C []]) (n:=T.length) (fs:=[]) (λK hK=>by exact hK) (λK hK=>by exact hK) (zcG ..) (by simp) ?_
   rw[zcE]
   refine zcN (v:=y) (S1:=T++[Ob.ins zad.C [("one",x)]]) (S2:=T++[Ob.ins zad.C [("one",x)]]) (n:=T.length) (fs:=[("one",x)]) (λK hK=>by exact hK) (λK hK=>by exact hK) (zcG ..) (by simp) ?_
   rw[zcE]
   exact h
  ·exact h.elim⟩)
def zxu  (zae:zbE K mg)(zjN:Dm K zae.C "__init__" "Pair.__init__" zjV zhQ):Fm P w K mg base 1 zae.C "__init__" zhQ (zgQ zae.C):=
 zjN.mk' (zaw (k:=0) zjN.F zwG (zsH zae.C) λcdv A outer s H E hr=>⟨_,(zao (zcA zae.cl zae.n_one (dv 0) (dv 1)) (zai (zcA zae.cl zae.n_other (dv 0) (dv 2)))),λds S Q ex h=>by
  unfold zgQ at h
  split at h
  ·rename_i n x y
   obtain⟨T,rfl,rfl,h⟩:=h
   refine zcN (v:=x) (S1:=T++[Ob.ins zae.C []]) (S2:=T++[Ob.ins zae.C []]) (n:=T.length) (fs:=[]) (λK hK=>by exact hK) (λK hK=>by exact hK) (zcG ..) (by simp) ?_
   rw[zcE]
   refine zcN (v:=y) (S1:=T++[Ob.ins zae.C [("one",x)]]) (S2:=T++[Ob.ins zae.C [("one",x)]]) (n:=T.length) (fs:=[("one",x)]) (λK hK=>by exact hK) (λK hK=>by exact hK) (zcG ..) (by simp) ?_
   rw[zcE]
   exact h
  ·exact h.elim⟩)
def zwX  (zag:zbK K mg)(zae:zbE K mg)(zad:zbG K mg)(zaf:zbH K mg)(zak:zbN K mg)(zaj:zbJ K mg)(zmC:Df K mg "kind_of" ziP zez)(zfk:Fm P w K mg base 1 zag.C "__init__" zg5 (zhR zag.C))(zfS:Fm P w K mg base 1 zae.C "__init__" zhQ (zgQ zae.C))(zfn:Fm P w K mg base 1 zad.C "__init__" zgi (zhB zad.C))(zfm:Fm P w K mg base 1 zaf.C "__init__" zhD (zit zaf.C))(zeB:Fm P w K mg base 1 zak.C "__init__" zgh (zis zak.C))(zeH:Fm P w K mg base 1 zaj.C "__init__" zhH (zgC zaj.C)):Fk P w K mg base 3 "kind_of" zez (zeQ zaj.C zak.C zaf.C zad.C zae.C zag.C):=
 zmC.mk' (zaw (k:=2) zmC.F zvw (zxy zaj.C zak.C zaf.C zad.C zae.C zag.C) λcdv A outer s H E hr=>⟨_,(zao (zaR (zaP (zbb hr) (zat (dv 0) zac (λ_ _=>rfl)) zbr (zaJ _)) (zai (zas (zfp ⟨zaj.makes,zeH.m.at_,zeH.m.fn,zaj.kp⟩ zeH.ok (hr.mono (by decide)) rfl zaj.m zeH.b zeE (zaa (zat (dv 0) zac (λ_ _=>rfl)) (zaa (zat (dv 0) zac (λ_ _=>rfl)) zab))))) zaW) (zao (zaR (zaP (zbb hr) (zat (dv 0) zac (λ_ _=>rfl)) zbr (zaJ _)) (zai (zas (zfp ⟨zak.makes,zeB.m.at_,zeB.m.fn,zak.kp⟩ zeB.ok (hr.mono (by decide)) rfl zak.m zeB.b zeE (zaa (zat (dv 0) zac (λ_ _=>rfl)) zab)))) zaW) (zao (zaR (zaP (zbb hr) (zat (dv 0) zac (λ_ _=>rfl)) zbr (zaJ _)) (zai (zas (zfp ⟨zaf.makes,zfm.m.at_,zfm.m.fn,zaf.kp⟩ zfm.ok (hr.mono (by decide)) rfl zaf.m zfm.b zeE (zaa (zat (dv 0) zac (λ_ _=>rfl)) (zaa (zat (dv 0) zac (λ_ _=>rfl)) zab))))) zaW) (zao (zaR (zaP (zbb hr) (zat (dv 0) zac (λ_ _=>rfl)) zbr (zaJ _)) (zai (zas (zfp ⟨zad.makes,zfn.m.at_,zfn.m.fn,zad.kp⟩ zfn.ok (hr.mono (by decide)) rfl zad.m zfn.b zeE (zaa (zat (dv 0) zac (λ_ _=>rfl)) (zaa (zat (dv 0) zac (λ_ _=>rfl)) zab))))) zaW) (zao (zaR (zaP (zbb hr) (zat (dv 0) zac (λ_ _=>rfl)) zbr (zaJ _)) (zai (zas (zfp ⟨zae.makes,zfS.m.at_,zfS.m.fn,zae.kp⟩ zfS.ok (hr.mono (by decide)) rfl zae.m zfS.b zeE (zaa (zat (dv 0) zac (λ_ _=>rfl)) (zaa (zat (dv 0) zac (λ_ _=>rfl)) zab))))) zaW) (zai (zas (zfp ⟨zag.makes,zfk.m.at_,zfk.m.fn,zag.kp⟩ zfk.ok (hr.mono (by decide)) rfl zag.m zfk.b zeE (zaa (zat (dv 0) zac (λ_ _=>rfl)) (zaa (zat (dv 0) zac (λ_ _=>rfl)) zab)))))))))),λds S Q ex h=>by
  unfold zeQ at h
  split at h
  ·obtain⟨v,rfl,h⟩:=h
   cases v <;> exact⟨S,rfl,rfl,rfl,h⟩
  ·exact h.elim⟩)
def zwE  (zag:zbK K mg)(zae:zbE K mg)(zad:zbG K mg)(zaf:zbH K mg)(zak:zbN K mg)(zaj:zbJ K mg)(zln:Df K mg "worths" zmw zd7)(zo1:Fm P w K mg base 3 zag.C "forth" zia (zeA zaj.C zak.C zaf.C zad.C zae.C zag.C))(znJ:Fm P w K mg base 3 zae.C "forth" zhC (ze0 zaj.C zak.C zaf.C zad.C zae.C zag.C))(zmU:Fm P w K mg base 2 zad.C "forth" zho (zfV zaj.C zak.C zaf.C zad.C zae.C zag.C))(zoO:Fm P w K mg base 2 zaf.C "forth" zhY (ze6 zaj.C zak.C zaf.C zad.C zae.C zag.C))(zm8:Fm P w K mg base 1 zak.C "forth" zhE (zeR zaj.C zak.C zaf.C zad.C zae.C zag.C))(zoV:Fm P w K mg base 3 zaj.C "forth" zgN (zfE zaj.C zak.C zaf.C zad.C zae.C zag.C))(zfl:Fk P w K mg base 3 "kind_of" zez (zeQ zaj.C zak.C zaf.C zad.C zae.C zag.C)):Fk P w K mg base 4 "worths" zd7 zd1:=
 zln.mk' (zaw (k:=3) zln.F zny (zxF) λcdv A outer s H E hr=>⟨_,(zao (zaA (i:=3) zny.nd rfl (Or.inl rfl) (zbI zab)) (zao (zem (i:=4) PassesOwn.never rfl zny.nd rfl (Or.inl rfl) (dv 0) (zai (zds (zdO (dv 3) (zrd (zan zfl hr (zaa (dv 4) zab)) (zcs zaj.cl zoV (hr.mono (by decide)) (zcs zak.cl zm8 (hr.mono (by decide)) (zcs zaf.cl zoO (hr.mono (by decide)) (zcs zad.cl zmU (hr.mono (by decide)) (zcs zae.cl znJ (hr.mono (by decide)) (zcs zag.cl zo1 (hr.mono (by decide)) zpr)))))) zeZ (zaa (dv 3) (zaa (dv 1) (zaa (dv 2) zab)))))))) (zai (zas (dv 3))))),λds S Q ex h=>by
  unfold zd1 at h
  split at h
  ·rename_i a b g
   obtain⟨ns,ws,bs,ha,hb,net,sb,hg,hl,h⟩:=h
   have disp:∀v:Nd,∃C fs sd,v.ob zaj.C zak.C zaf.C zad.C zae.C zag.C=.ins C fs∧(C,sd)∈[(zaj.C,zfE zaj.C zak.C zaf.C zad.C zae.C zag.C),(zak.C,zeR zaj.C zak.C zaf.C zad.C zae.C zag.C),(zaf.C,ze6 zaj.C zak.C zaf.C zad.C zae.C zag.C),(zad.C,zfV zaj.C zak.C zaf.C zad.C zae.C zag.C),(zae.C,ze0 zaj.C zak.C zaf.C zad.C zae.C zag.C),(zag.C,zeA zaj.C zak.C zaf.C zad.C zae.C zag.C)]∧fs.lookup ("forth":Str)=none∧∀(n w p:Nat) (g:Int) (S:Sto) (Q:DK) (ex:Addr→Sto→Prop) (vs bs:List (Int×Int)),S[n]?=some (v.ob zaj.C zak.C zaf.C zad.C zae.C zag.C)→S[w]?=some (.lst (vs.map frD))→S[p]?=some (.lst (bs.map frD))→v.ok vs.length bs.length→Spn 1400 vs→(1≤g∧g≤1000000)→Q (frD (v.fw vs bs g)) S→sd [.ref n,.ref w,.ref p,.int g] S Q ex:=by
    intro v
    cases v with
    | number x y=>exact⟨_,_,_,rfl,(.head _),rfl,λn w p g S Q ex vs bs a1 a2 a3 a4 a5 a6 q=>⟨x,y,vs,bs,a1,a2,a3,a4,a5,a6,q⟩⟩
    | unknown k=>exact⟨_,_,_,rfl,(.tail _ (.head _)),rfl,λn w p g S Q ex vs bs a1 a2 a3 a4 a5 a6 q=>⟨k,vs,bs,a1,a2,a3,a4,a5,a6,q⟩⟩
    | plus i j=>exact⟨_,_,_,rfl,(.tail _ (.tail _ (.head _))),rfl,λn w p g S Q ex vs bs a1 a2 a3 a4 a5 a6 q=>⟨i,j,vs,bs,a1,a2,a3,a4,a5,a6,q⟩⟩
    | minus i j=>exact⟨_,_,_,rfl,(.tail _ (.tail _ (.tail _ (.head _)))),rfl,λn w p g S Q ex vs bs a1 a2 a3 a4 a5 a6 q=>⟨i,j,vs,bs,a1,a2,a3,a4,a5,a6,q⟩⟩
    | times i j=>exact⟨_,_,_,rfl,(.tail _ (.tail _ (.tail _ (.tail _ (.head _))))),rfl,λn w p g S Q ex vs bs a1 a2 a3 a4 a5 a6 q=>⟨i,j,vs,bs,a1,a2,a3,a4,a5,a6,q⟩⟩
    | power i m=>exact⟨_,_,_,rfl,(.tail _ (.tail _ (.tail _ (.tail _ (.tail _ (.head _)))))),rfl,λn w p g S Q ex vs bs a1 a2 a3 a4 a5 a6 q=>⟨i,m,vs,bs,a1,a2,a3,a4,a5,a6,q⟩⟩
   have la:=zbX ha
   have lb:=zbX hb
   refine zep (n:=a) (o:=.lst (ns.map Nd.d)) (λk dl' S'=>k≤ns.length∧Pre S S'∧S'[S.length]?=some (.lst ((zar bs g (ns.take k)).map frD))∧∃u:Option D,dl'=[some (.ref a),some (.ref b),some (.int g),some (.ref S.length),u]) ⟨Vak _,Pre.refl.push,zax _ _,_,rfl⟩ (λk dl' S' w=>w.2.1 _ _ ha) ?_ ?_
   ·rintro k x dl' S' nx ct ex' ⟨hk,pr,hf,u,rfl⟩ hn
    have ex2:(ns.map Nd.d)[k]?=some x:=ex'
    rw[Vaf] at ex2
    obtain⟨v,hv,rfl⟩:=Vaj.mp ex2
    have hk':=(Vad.mp hv).1
    have ln:(zar bs g (ns.take k)).length=k:=by rw[zcf,Vaq]; omega
    have okv:v.ok (zar bs g (ns.take k)).length bs.length:=by rw[ln]; exact(net.ok k v hv).1
    obtain⟨C,fs,sd,eo,hm,hf2,go⟩:=disp v
    have N1:=zax S' (v.ob zaj.C zak.C zaf.C zad.C zae.C zag.C)
    refine zsX (n:=S.length) (S1:=S') (S2:=S'++[v.ob zaj.C zak.C zaf.C zad.C zae.C zag.C]) (xs:=(zar bs g (ns.take k)).map frD) (y:=frD (v.fw (zar bs g (ns.take k)) bs g)) (λK hK=>by exact hK) hf (λK hK=>?_) (zaz hf) (by rw[Vab,ln]; omega) ?_
    ·refine zrc (n:=S'.length) (C:=C) (sd:=sd) (fs:=fs) (S1:=S'++[v.ob zaj.C zak.C zaf.C zad.C zae.C zag.C]) (λK hK=>⟨v,rfl,by exact hK⟩) (by rw[← eo]; exact N1) hm hf2 ?_
     exact go _ _ _ _ _ _ _ (zar bs g (ns.take k)) bs N1 (zaz hf) (zaz (pr _ _ hb)) okv ((zoP net rfl sb hg k hk).mono (by decide)) hg hK
    ·refine hn _ _ ⟨by omega,zdy (zbf pr _) (Vaa _),?_,_,rfl⟩
     rw[zbV hv,zge,VaW]
     exact zcI (zaz hf)
   ·rintro dl' S' ⟨hk,pr,hf,u,rfl⟩
    refine h _ _ pr (Vaa _) ?_
    have e:ns.take (zah (.lst (ns.map Nd.d))).length=ns:=by
     show ns.take (ns.map Nd.d).length=ns
     rw[Vab,Vay]
    rw[e] at hf
    exact hf
  ·exact h.elim⟩)
def zyw  (zaj:zbJ K mg)(zak:zbN K mg)(zaf:zbH K mg)(zad:zbG K mg)(zae:zbE K mg)(zag:zbK K mg)(zj0:Dm K zaj.C "slope" "Number.slope" ziE zf5):Fm P w K mg base 1 zaj.C "slope" zf5 (zfj zaj.C zak.C zaf.C zad.C zae.C zag.C):=
 zj0.mk' (zaw (k:=0) zj0.F zuT (zul zaj.C zak.C zaf.C zad.C zae.C zag.C) λcdv A outer s H E hr=>⟨_,(zai (zas (zaq zun (zbI (zaa (zaS (zaa zac (zaa zac zab))) zab)) (dv 3)))),λds S Q ex h=>by
  unfold zfj at h
  split at h
  ·rename_i n w s qi g
   obtain⟨x,y,q,vs,sl,ds,hn,hw,hs,rows,sz,⟨rfl,hq⟩,ok,lv,s1,hg,h⟩:=h
   have sg:Sz 21 g:=Sz.of 1000000 (by omega)
   have fin:∀ys:List D,ys=(zba vs sl g q (Nd.number x y)).map frD→Q (.ref (S++[Ob.lst [frD (0,0)]]).length) ((S++[.lst [frD (0,0)]])++[.lst ys]):=λys e=>by
    subst e
    exact h _ _ Pre.refl.push.push (by simp) (zax _ _)
   refine zxR (n:=S.length) (k:=((q:Nat):Int)) (xs:=[frD (0,0)]) (zax _ _) ⟨by omega,by omega⟩ (by simp; omega) ?_
   refine fin _ ?_
   rw[Vam,zw8]
   unfold zba
   rw[Vau]
   rfl
  ·exact h.elim⟩)
def zvj  (zak:zbN K mg)(zaj:zbJ K mg)(zaf:zbH K mg)(zad:zbG K mg)(zae:zbE K mg)(zag:zbK K mg)(zlY:Dm K zak.C "slope" "Unknown.slope" zg2 zhp)(zaX:mg "range"=none):Fm P w K mg base 1 zak.C "slope" zhp (zeV zaj.C zak.C zaf.C zad.C zae.C zag.C):=
 zlY.mk' (zaw (k:=0) zlY.F zsc (zt5 zaj.C zak.C zaf.C zad.C zae.C zag.C) λcdv A outer s H E hr=>⟨_,(zai (zas (zoi (x:="k") (N:=["grid","self"]) (caps:=[4,0]) (ar:=zam zg2) rfl rfl csc rfl (by decide) rfl zaX (zaa (dv 3) zab) (λ_ _ _ _ _ _=>zbW) (λ_ _ _ _ _ _=>(znm (zaP (zbb hr) (dv 0) (za8 zak.cl zak.n_place (dv 2)) (zaJ _)) (zaS (zaa (dv 1) (zaa (dv 1) zab))) (zaS (zaa zac (zaa zac zab)))))))),λds S Q ex h=>by
  unfold zeV at h
  split at h
  ·rename_i n w s qi g
   obtain⟨k,q,vs,sl,ds,hn,hw,hs,rows,sz,⟨rfl,hq⟩,ok,lv,s1,hg,h⟩:=h
   have sg:Sz 21 g:=Sz.of 1000000 (by omega)
   have fin:∀ys:List D,ys=(zba vs sl g q (Nd.unknown k)).map frD→Q (.ref S.length) (S++[.lst ys]):=λys e=>by
    subst e
    exact h _ _ Pre.refl.push (by simp) (zax _ _)
   refine zmV (j:=((q:Nat):Int)) (S1:=S) (λl=>frD (if (l:Int)=k then (g,g) else (0,0))) (λK hK=>by exact hK) ⟨by omega,by omega⟩ (λl hl S2 K pr hK=>?_) ?_
   ·refine za7 (n:=n) (λK hK=>by exact hK) (pr _ _ hn) rfl ?_
    refine ifD (λe=>?_) (λe=>?_)
    ·rw[if_pos e] at hK
     exact hK
    ·rw[if_neg e] at hK
     exact hK
   ·refine fin _ ?_
    rw[Vam]
    unfold zba
    rw[Vau]
    rfl
  ·exact h.elim⟩)
def zsC  (zaf:zbH K mg)(zi0:Dm K zaf.C "slope_of_both" "Plus.slope_of_both" zkD zhi)(zb3:Fk P w K mg base 1 "add_spans" zdb zdm):Fm P w K mg base 2 zaf.C "slope_of_both" zhi (zhW zaf.C):=
 zi0.mk' (zaw (k:=1) zi0.F zxM (zsL zaf.C) λcdv A outer s H E hr=>⟨_,(zai (zas (zan zb3 hr (zaa (dv 3) (zaa (dv 4) zab))))),λds S Q ex h=>by
  unfold zhW at h
  split at h
  ·exact h
  ·exact h.elim⟩)
def zxQ  (zaf:zbH K mg)(zaj:zbJ K mg)(zak:zbN K mg)(zad:zbG K mg)(zae:zbE K mg)(zag:zbK K mg)(zmm:Dm K zaf.C "slope" "Pair.slope" ziu zgO)(zgL:Fm P w K mg base 2 zaf.C "slope_of_both" zhi (zhW zaf.C))(zbh:mg "zip"=none):Fm P w K mg base 3 zaf.C "slope" zgO (zfA zaj.C zak.C zaf.C zad.C zae.C zag.C):=
 zmm.mk' (zaw (k:=2) zmm.F zo0 (zwL zaj.C zak.C zaf.C zad.C zae.C zag.C) λcdv A outer s H E hr=>⟨_,(zao (zaA (i:=5) zo0.nd rfl (Or.inr rfl) (zaL (dv 1) (za8 zaf.cl zaf.n_one (dv 0)) (λ_ _=>rfl))) (zao (zaA (i:=6) zo0.nd rfl (Or.inr rfl) (zaL (dv 1) (za8 zaf.cl zaf.n_other (dv 0)) (λ_ _=>rfl))) (zai (zas (zk0 (x1:="a") (x2:="b") (N:=["x","y","grid","self"]) (caps:=[5,6,4,0]) (ar:=zam ziu) rfl rfl zcM rfl rfl rfl (by decide) rfl zbh Boot.«zip» (zaa (zaL (dv 2) (za8 zaf.cl zaf.n_one (dv 0)) (λ_ _=>rfl)) (zaa (zaL (dv 2) (za8 zaf.cl zaf.n_other (dv 0)) (λ_ _=>rfl)) zab)) (λ_ _ _ _ _ _=>(znq (C:=zaf.C) (dv 5) zaf.cl zgL.m zgL.ok (hr.mono (by decide)) zgL.b zeZ (zaa (dv 2) (zaa (dv 3) (zaa (dv 0) (zaa (dv 1) (zaa (dv 4) zab)))))))))))),λds S Q ex h=>by
  unfold zfA at h
  split at h
  ·rename_i n w s qi g
   obtain⟨i,j,q,vs,sl,ds,hn,hw,hs,rows,sz,⟨rfl,hq⟩,ok,lv,s1,hg,h⟩:=h
   have sg:Sz 21 g:=Sz.of 1000000 (by omega)
   have fin:∀ys:List D,ys=(zba vs sl g q (Nd.plus i j)).map frD→Q (.ref S.length) (S++[.lst ys]):=λys e=>by
    subst e
    exact h _ _ Pre.refl.push (by simp) (zax _ _)
   refine za7 (n:=n) (λK hK=>by exact hK) hn rfl ?_
   refine zaI (o:=.lst (vs.map frD)) hw (zbd (i:=i) ⟨ok.1.1,by have:=ok.1.2; omega⟩) ?_
   refine za7 (n:=n) (λK hK=>by exact hK) hn rfl ?_
   refine zaI (o:=.lst (vs.map frD)) hw (zbd (i:=j) ⟨ok.2.1,by have:=ok.2.2; omega⟩) ?_
   obtain⟨a1,ea,_,ha⟩:=rows.at ok.1
   obtain⟨a2,eb,_,hb⟩:=rows.at ok.2
   obtain⟨la,za⟩:=sz i ok.1
   obtain⟨lb,zb⟩:=sz j ok.2
   have ci:=s1.at (i:=i) ⟨ok.1.1,by have:=ok.1.2; omega⟩
   have cj:=s1.at (i:=j) ⟨ok.2.1,by have:=ok.2.2; omega⟩
   refine zgy (n:=a1) (n':=a2) (S1:=S) (xs:=(sl.getD i.toNat []).map frD) (ys:=(sl.getD j.toNat []).map frD) (λx y=>match x,y with | .tup [.int a,.int b],.tup [.int c,.int d]=>.tup [.int (a+c),.int (b+d)] | _,_=>.non) (λK hK=>by
    refine za7 (n:=n) (λK hK=>by exact hK) hn rfl ?_
    refine zaI (o:=.lst ds) hs ea ?_
    refine za7 (n:=n) (λK hK=>by exact hK) hn rfl ?_
    exact zaI (o:=.lst ds) hs eb hK) ha hb (by rw[Vab,la]; omega) (λk x y hx hy S2 K pr hK=>?_) ?_
   ·rw[Vaf] at hx hy
    obtain⟨p,hp,rfl⟩:=Vaj.mp hx
    obtain⟨r,hr,rfl⟩:=Vaj.mp hy
    have kq:k<q:=by
     have:=(Vad.mp hp).1
     omega
    have e1:gs sl i k=p:=by
     unfold gs
     rw[Vai,hp]
     rfl
    have e2:gs sl j k=r:=by
     unfold gs
     rw[Vai,hr]
     rfl
    have z1:=za k kq
    have z2:=zb k kq
    rw[e1] at z1
    rw[e2] at z2
    refine znD (n:=n) (fs:=[("one",.int i),("other",.int j)]) (λK hK=>by exact hK) (pr _ _ hn) rfl ?_
    exact hK
   ·refine fin _ ?_
    rw[List.zipWith_map]
    unfold zba
    rw[Vau]
    rw[znl _ _ _ la lb]
    rfl
  ·exact h.elim⟩)
def ztX  (zad:zbG K mg)(zjn:Dm K zad.C "slope_of_both" "Minus.slope_of_both" zkv zgm)(zcj:Fk P w K mg base 1 "take_spans" zdZ zdX):Fm P w K mg base 2 zad.C "slope_of_both" zgm (zhf zad.C):=
 zjn.mk' (zaw (k:=1) zjn.F zx7 (zu2 zad.C) λcdv A outer s H E hr=>⟨_,(zai (zas (zan zcj hr (zaa (dv 3) (zaa (dv 4) zab))))),λds S Q ex h=>by
  unfold zhf at h
  split at h
  ·exact h
  ·exact h.elim⟩)
def zvt  (zad:zbG K mg)(zaj:zbJ K mg)(zak:zbN K mg)(zaf:zbH K mg)(zae:zbE K mg)(zag:zbK K mg)(zjs:Dm K zad.C "slope" "Pair.slope" zhu zh1)(zf9:Fm P w K mg base 2 zad.C "slope_of_both" zgm (zhf zad.C))(zbh:mg "zip"=none):Fm P w K mg base 3 zad.C "slope" zh1 (zfh zaj.C zak.C zaf.C zad.C zae.C zag.C):=
 zjs.mk' (zaw (k:=2) zjs.F zom (zum zaj.C zak.C zaf.C zad.C zae.C zag.C) λcdv A outer s H E hr=>⟨_,(zao (zaA (i:=5) zom.nd rfl (Or.inr rfl) (zaL (dv 1) (za8 zad.cl zad.n_one (dv 0)) (λ_ _=>rfl))) (zao (zaA (i:=6) zom.nd rfl (Or.inr rfl) (zaL (dv 1) (za8 zad.cl zad.n_other (dv 0)) (λ_ _=>rfl))) (zai (zas (zk0 (x1:="a") (x2:="b") (N:=["x","y","grid","self"]) (caps:=[5,6,4,0]) (ar:=zam zhu) rfl rfl zcM rfl rfl rfl (by decide) rfl zbh Boot.«zip» (zaa (zaL (dv 2) (za8 zad.cl zad.n_one (dv 0)) (λ_ _=>rfl)) (zaa (zaL (dv 2) (za8 zad.cl zad.n_other (dv 0)) (λ_ _=>rfl)) zab)) (λ_ _ _ _ _ _=>(znq (C:=zad.C) (dv 5) zad.cl zf9.m zf9.ok (hr.mono (by decide)) zf9.b zeZ (zaa (dv 2) (zaa (dv 3) (zaa (dv 0) (zaa (dv 1) (zaa (dv 4) zab)))))))))))),λds S Q ex h=>by
  unfold zfh at h
  split at h
  ·rename_i n w s qi g
   obtain⟨i,j,q,vs,sl,ds,hn,hw,hs,rows,sz,⟨rfl,hq⟩,ok,lv,s1,hg,h⟩:=h
   have sg:Sz 21 g:=Sz.of 1000000 (by omega)
   have fin:∀ys:List D,ys=(zba vs sl g q (Nd.minus i j)).map frD→Q (.ref S.length) (S++[.lst ys]):=λys e=>by
    subst e
    exact h _ _ Pre.refl.push (by simp) (zax _ _)
   refine za7 (n:=n) (λK hK=>by exact hK) hn rfl ?_
   refine zaI (o:=.lst (vs.map frD)) hw (zbd (i:=i) ⟨ok.1.1,by have:=ok.1.2; omega⟩) ?_
   refine za7 (n:=n) (λK hK=>by exact hK) hn rfl ?_
   refine zaI (o:=.lst (vs.map frD)) hw (zbd (i:=j) ⟨ok.2.1,by have:=ok.2.2; omega⟩) ?_
   obtain⟨a1,ea,_,ha⟩:=rows.at ok.1
   obtain⟨a2,eb,_,hb⟩:=rows.at ok.2
   obtain⟨la,za⟩:=sz i ok.1
   obtain⟨lb,zb⟩:=sz j ok.2
   have ci:=s1.at (i:=i) ⟨ok.1.1,by have:=ok.1.2; omega⟩
   have cj:=s1.at (i:=j) ⟨ok.2.1,by have:=ok.2.2; omega⟩
   refine zgy (n:=a1) (n':=a2) (S1:=S) (xs:=(sl.getD i.toNat []).map frD) (ys:=(sl.getD j.toNat []).map frD) (λx y=>match x,y with | .tup [.int a,.int b],.tup [.int c,.int d]=>.tup [.int (a-d),.int (b-c)] | _,_=>.non) (λK hK=>by
    refine za7 (n:=n) (λK hK=>by exact hK) hn rfl ?_
    refine zaI (o:=.lst ds) hs ea ?_
    refine za7 (n:=n) (λK hK=>by exact hK) hn rfl ?_
    exact zaI (o:=.lst ds) hs eb hK) ha hb (by rw[Vab,la]; omega) (λk x y hx hy S2 K pr hK=>?_) ?_
   ·rw[Vaf] at hx hy
    obtain⟨p,hp,rfl⟩:=Vaj.mp hx
    obtain⟨r,hr,rfl⟩:=Vaj.mp hy
    have kq:k<q:=by
     have:=(Vad.mp hp).1
     omega
    have e1:gs sl i k=p:=by
     unfold gs
     rw[Vai,hp]
     rfl
    have e2:gs sl j k=r:=by
     unfold gs
     rw[Vai,hr]
     rfl
    have z1:=za k kq
    have z2:=zb k kq
    rw[e1] at z1
    rw[e2] at z2
    refine znD (n:=n) (fs:=[("one",.int i),("other",.int j)]) (λK hK=>by exact hK) (pr _ _ hn) rfl ?_
    exact hK
   ·refine fin _ ?_
    rw[List.zipWith_map]
    unfold zba
    rw[Vau]
    rw[znl _ _ _ la lb]
    rfl
  ·exact h.elim⟩)
def zvv  (zae:zbE K mg)(ziz:Dm K zae.C "slope_of_both" "Times.slope_of_both" zmu zgr)(zb3:Fk P w K mg base 1 "add_spans" zdb zdm)(zcg:Fk P w K mg base 2 "mul_spans" zdq zdA):Fm P w K mg base 3 zae.C "slope_of_both" zgr (zh7 zae.C):=
 ziz.mk' (zaw (k:=2) ziz.F zxS (zsS zae.C) λcdv A outer s H E hr=>⟨_,(zai (zas (zan zb3 hr (zaa (zan zcg hr (zaa (dv 1) (zaa (dv 4) (zaa (dv 5) zab)))) (zaa (zan zcg hr (zaa (dv 2) (zaa (dv 3) (zaa (dv 5) zab)))) zab))))),λds S Q ex h=>by
  unfold zh7 at h
  split at h
  ·rename_i x1 x2 y1 y2 a b c d g
   obtain⟨⟨h1,h2,h3,h4,h5,h6,h7,h8,g1,g2⟩,h⟩:=h
   have sg:Sz 21 g:=Sz.of 1000000 (by omega)
   refine⟨⟨⟨zaM h1 h7,zaM h1 h8,zaM h2 h7,zaM h2 h8⟩,sg.fd (by omega)⟩,λmn mx hc=>?_⟩
   obtain⟨rfl,rfl⟩:=hc.eq
   refine⟨⟨⟨zaM h3 h5,zaM h3 h6,zaM h4 h5,zaM h4 h6⟩,sg.fd (by omega)⟩,λmn mx hc=>?_⟩
   obtain⟨rfl,rfl⟩:=hc.eq
   exact h
  ·exact h.elim⟩)
def zug  (zae:zbE K mg)(zaj:zbJ K mg)(zak:zbN K mg)(zaf:zbH K mg)(zad:zbG K mg)(zag:zbK K mg)(zj6:Dm K zae.C "slope" "Pair.slope" zhv zif)(zhO:Fm P w K mg base 3 zae.C "slope_of_both" zgr (zh7 zae.C))(zbh:mg "zip"=none):Fm P w K mg base 4 zae.C "slope" zif (zeO zaj.C zak.C zaf.C zad.C zae.C zag.C):=
 zj6.mk' (zaw (k:=3) zj6.F zoZ (zyj zaj.C zak.C zaf.C zad.C zae.C zag.C) λcdv A outer s H E hr=>⟨_,(zao (zaA (i:=5) zoZ.nd rfl (Or.inr rfl) (zaL (dv 1) (za8 zae.cl zae.n_one (dv 0)) (λ_ _=>rfl))) (zao (zaA (i:=6) zoZ.nd rfl (Or.inr rfl) (zaL (dv 1) (za8 zae.cl zae.n_other (dv 0)) (λ_ _=>rfl))) (zai (zas (zk0 (x1:="a") (x2:="b") (N:=["x","y","grid","self"]) (caps:=[5,6,4,0]) (ar:=zam zhv) rfl rfl zcM rfl rfl rfl (by decide) rfl zbh Boot.«zip» (zaa (zaL (dv 2) (za8 zae.cl zae.n_one (dv 0)) (λ_ _=>rfl)) (zaa (zaL (dv 2) (za8 zae.cl zae.n_other (dv 0)) (λ_ _=>rfl)) zab)) (λ_ _ _ _ _ _=>(znq (C:=zae.C) (dv 5) zae.cl zhO.m zhO.ok (hr.mono (by decide)) zhO.b zeZ (zaa (dv 2) (zaa (dv 3) (zaa (dv 0) (zaa (dv 1) (zaa (dv 4) zab)))))))))))),λds S Q ex h=>by
  unfold zeO at h
  split at h
  ·rename_i n w s qi g
   obtain⟨i,j,q,vs,sl,ds,hn,hw,hs,rows,sz,⟨rfl,hq⟩,ok,lv,s1,hg,h⟩:=h
   have sg:Sz 21 g:=Sz.of 1000000 (by omega)
   have fin:∀ys:List D,ys=(zba vs sl g q (Nd.times i j)).map frD→Q (.ref S.length) (S++[.lst ys]):=λys e=>by
    subst e
    exact h _ _ Pre.refl.push (by simp) (zax _ _)
   refine za7 (n:=n) (λK hK=>by exact hK) hn rfl ?_
   refine zaI (o:=.lst (vs.map frD)) hw (zbd (i:=i) ⟨ok.1.1,by have:=ok.1.2; omega⟩) ?_
   refine za7 (n:=n) (λK hK=>by exact hK) hn rfl ?_
   refine zaI (o:=.lst (vs.map frD)) hw (zbd (i:=j) ⟨ok.2.1,by have:=ok.2.2; omega⟩) ?_
   obtain⟨a1,ea,_,ha⟩:=rows.at ok.1
   obtain⟨a2,eb,_,hb⟩:=rows.at ok.2
   obtain⟨la,za⟩:=sz i ok.1
   obtain⟨lb,zb⟩:=sz j ok.2
   have ci:=s1.at (i:=i) ⟨ok.1.1,by have:=ok.1.2; omega⟩
   have cj:=s1.at (i:=j) ⟨ok.2.1,by have:=ok.2.2; omega⟩
   refine zgy (n:=a1) (n':=a2) (S1:=S) (xs:=(sl.getD i.toNat []).map frD) (ys:=(sl.getD j.toNat []).map frD) (λx y=>match x,y with | .tup [.int a,.int b],.tup [.int c,.int d]=>.tup [.int ((zaQ (gt vs i) (c,d) g).1+(zaQ (gt vs j) (a,b) g).1),.int ((zaQ (gt vs i) (c,d) g).2+(zaQ (gt vs j) (a,b) g).2)] | _,_=>.non) (λK hK=>by
    refine za7 (n:=n) (λK hK=>by exact hK) hn rfl ?_
    refine zaI (o:=.lst ds) hs ea ?_
    refine za7 (n:=n) (λK hK=>by exact hK) hn rfl ?_
    exact zaI (o:=.lst ds) hs eb hK) ha hb (by rw[Vab,la]; omega) (λk x y hx hy S2 K pr hK=>?_) ?_
   ·rw[Vaf] at hx hy
    obtain⟨p,hp,rfl⟩:=Vaj.mp hx
    obtain⟨r,hr,rfl⟩:=Vaj.mp hy
    have kq:k<q:=by
     have:=(Vad.mp hp).1
     omega
    have e1:gs sl i k=p:=by
     unfold gs
     rw[Vai,hp]
     rfl
    have e2:gs sl j k=r:=by
     unfold gs
     rw[Vai,hr]
     rfl
    have z1:=za k kq
    have z2:=zb k kq
    rw[e1] at z1
    rw[e2] at z2
    refine znD (n:=n) (fs:=[("one",.int i),("other",.int j)]) (λK hK=>by exact hK) (pr _ _ hn) rfl ?_
    exact⟨⟨ci.2.1.mono (by decide),ci.2.2.mono (by decide),cj.2.1.mono (by decide),cj.2.2.mono (by decide),z1.2.1.mono (by decide),z1.2.2.mono (by decide),z2.2.1.mono (by decide),z2.2.2.mono (by decide),hg.1,hg.2⟩,hK⟩
   ·refine fin _ ?_
    rw[List.zipWith_map]
    unfold zba
    rw[Vau]
    rw[znl _ _ _ la lb]
    rfl
  ·exact h.elim⟩)
def zvE  (zkf:Df K mg "scale_span" zkY zg8)(zb7:mg "max"=none)(zb6:mg "min"=none):Fk P w K mg base 1 "scale_span" zg8 zhT:=
 zkf.mk' (zaw (k:=0) zkf.F zsz (zyq) λcdv A outer s H E hr=>⟨_,(zai (zas (zaS (zaa (zaT (zoI rfl) rfl zb6 Boot.«min» (zaa (zaq za2 (zat (dv 0) zac (λ_ _=>rfl)) (dv 1)) (zaa (zaq za2 (zat (dv 0) zac (λ_ _=>rfl)) (dv 1)) zab))) (zaa (zaT (znM rfl) rfl zb7 Boot.«max» (zaa (zaq za2 (zat (dv 0) zac (λ_ _=>rfl)) (dv 1)) (zaa (zaq za2 (zat (dv 0) zac (λ_ _=>rfl)) (dv 1)) zab))) zab))))),λds S Q ex h=>by
  unfold zhT at h
  split at h
  ·obtain⟨⟨h1,h2⟩,h⟩:=h
   exact⟨h1,h2,h1,h2,h⟩
  ·exact h.elim⟩)
def zt2  (zag:zbK K mg)(zaj:zbJ K mg)(zak:zbN K mg)(zaf:zbH K mg)(zad:zbG K mg)(zae:zbE K mg)(zmK:Dm K zag.C "slope" "Power.slope" zgE zhz)(zcg:Fk P w K mg base 2 "mul_spans" zdq zdA)(znS:Fk P w K mg base 1 "scale_span" zg8 zhT)(zeF:Fk P w K mg base 2 "raise_span" zfM zfx):Fm P w K mg base 3 zag.C "slope" zhz (zfd zaj.C zak.C zaf.C zad.C zae.C zag.C):=
 zmK.mk' (zaw (k:=2) zmK.F znN (zwr zaj.C zak.C zaf.C zad.C zae.C zag.C) λcdv A outer s H E hr=>⟨_,(zao (zaA (i:=5) znN.nd rfl (Or.inl rfl) (zan zeF hr (zaa (zaL (dv 1) (za8 zag.cl zag.n_one (dv 0)) (λ_ _=>rfl)) (zaa (zaq zcB (za8 zag.cl zag.n_many (dv 0)) zac) (zaa (dv 4) zab))))) (zao (zaA (i:=6) znN.nd rfl (Or.inr rfl) (zan znS hr (zaa (dv 5) (zaa (za8 zag.cl zag.n_many (dv 0)) zab)))) (zai (zas (zcS (x:="a") (N:=["steep","grid"]) (caps:=[6,4]) (ar:=zam zgE) rfl rfl csc rfl (by decide) (zaL (dv 2) (za8 zag.cl zag.n_one (dv 0)) (λ_ _=>rfl)) (λ_ _ _ _ _ _=>zbW) (λ_ _ _ _ _ _=>(zan zcg hr (zaa (dv 1) (zaa (dv 0) (zaa (dv 2) zab)))))))))),λds S Q ex h=>by
  unfold zfd at h
  split at h
  ·rename_i n w s qi g
   obtain⟨i,m,q,vs,sl,ds,hn,hw,hs,rows,sz,⟨rfl,hq⟩,ok,lv,s1,hg,h⟩:=h
   have sg:Sz 21 g:=Sz.of 1000000 (by omega)
   have fin:∀ys:List D,ys=(zba vs sl g q (Nd.power i m)).map frD→Q (.ref S.length) (S++[.lst ys]):=λys e=>by
    subst e
    exact h _ _ Pre.refl.push (by simp) (zax _ _)
   obtain⟨a1,ea,_,ha⟩:=rows.at ok.1
   obtain⟨la,za⟩:=sz i ok.1
   have ci:=s1.at (i:=i) ⟨ok.1.1,by have:=ok.1.2; omega⟩
   obtain⟨ok1,m2,m6⟩:=ok
   refine za7 (n:=n) (λK hK=>by exact hK) hn rfl ?_
   refine zaI (o:=.lst (vs.map frD)) hw (zbd (i:=i) ⟨ok1.1,by have:=ok1.2; omega⟩) ?_
   refine za7 (n:=n) (λK hK=>by exact hK) hn rfl ?_
   refine⟨⟨by omega,by omega,ci.2.1.mono (by decide),ci.2.2.mono (by decide),hg.1,sg.mono (by decide)⟩,λm' M' hP=>?_⟩
   obtain⟨rfl,rfl⟩:=hP.eq (by omega)
   have gp:(1:Int)≤g^((m-1).toNat-1):=VaL (by omega)
   have lo:=zfs gp (zoY (gt vs i).1 (gt vs i).2 (m-1).toNat)
   have fl:=zx0 (gt vs i) (n:=m) (by omega) hg.1
   have p1:Sz 6000 ((gt vs i).1^(m-1).toNat):=(ci.2.1.pow _).mono (by omega)
   have p2:Sz 6000 ((gt vs i).2^(m-1).toNat):=(ci.2.2.pow _).mono (by omega)
   have pl:Sz 6000 (zaH (gt vs i).1 (gt vs i).2 (m-1).toNat):=by
    unfold zaH
    split
    ·exact VaN (by decide)
    ·exact zdg p1 p2
   have sm:Sz 10 m:=Sz.of 6 (by omega)
   refine za7 (n:=n) (λK hK=>by exact hK) hn rfl ?_
   refine⟨⟨zaM (pl.div gp) sm,zaM (zel (zcT p1 p2) gp) sm⟩,?_⟩
   have e1:(if -(-za0 (gt vs i).1 (gt vs i).2 (m-1).toNat/g^((m-1).toNat-1))*m<zaH (gt vs i).1 (gt vs i).2 (m-1).toNat/g^((m-1).toNat-1)*m then -(-za0 (gt vs i).1 (gt vs i).2 (m-1).toNat/g^((m-1).toNat-1))*m else zaH (gt vs i).1 (gt vs i).2 (m-1).toNat/g^((m-1).toNat-1)*m)=(zbt (gt vs i) m g).1:=by
    rw[if_neg (by have z:(zbt (gt vs i) m g).1≤(zbt (gt vs i) m g).2:=fl; exact Int.not_lt.mpr z)]
    rfl
   have e2:(if -(-za0 (gt vs i).1 (gt vs i).2 (m-1).toNat/g^((m-1).toNat-1))*m > zaH (gt vs i).1 (gt vs i).2 (m-1).toNat/g^((m-1).toNat-1)*m then -(-za0 (gt vs i).1 (gt vs i).2 (m-1).toNat/g^((m-1).toNat-1))*m else zaH (gt vs i).1 (gt vs i).2 (m-1).toNat/g^((m-1).toNat-1)*m)=(zbt (gt vs i) m g).2:=by
    split
    ·rfl
    ·rename_i c
     have z:¬ (zbt (gt vs i) m g).1<(zbt (gt vs i) m g).2:=c
     have z2:(zbt (gt vs i) m g).1=(zbt (gt vs i) m g).2:=by omega
     exact z2
   rw[e1,e2]
   have f1:Sz 6010 (zbt (gt vs i) m g).1:=zlJ (e:=10) (pl.div gp) (by omega) (by omega)
   have f2:Sz 6010 (zbt (gt vs i) m g).2:=zlJ (e:=10) (zel (zcT p1 p2) gp) (by omega) (by omega)
   generalize hfc:zbt (gt vs i) m g=fc at f1 f2
   refine zc5 (n:=a1) (S1:=S) (o:=.lst ((sl.getD i.toNat []).map frD)) (λx=>match x with | .tup [.int a,.int b]=>frD (zaQ fc (a,b) g) | _=>.non) (λK hK=>by
    refine za7 (n:=n) (λK hK=>by exact hK) hn rfl ?_
    exact zaI (o:=.lst ds) hs ea hK) ha (by show ((sl.getD i.toNat []).map frD).length≤1000; rw[Vab,la]; omega) (λx hx S2 K pr hK=>?_) ?_
   ·have hx':x∈(sl.getD i.toNat []).map frD:=hx
    obtain⟨p,hp,rfl⟩:=Vah.mp hx'
    obtain⟨k,hk,ek⟩:=VaJ.mp hp
    have z1:=za k (by omega)
    have e1:gs sl i k=p:=by
     unfold gs
     rw[Vai,Vac hk,ek]
     rfl
    rw[e1] at z1
    refine⟨⟨⟨zaM f1 z1.2.1,zaM f1 z1.2.2,zaM f2 z1.2.1,zaM f2 z1.2.2⟩,sg.fd (by omega)⟩,λmn mx hc=>?_⟩
    obtain⟨rfl,rfl⟩:=hc.eq
    exact hK
   ·refine fin _ ?_
    show ((sl.getD i.toNat []).map frD).map _=_
    rw[Vau,zs4 _ _ la]
    unfold zba
    rw[Vau]
    subst hfc
    rfl
  ·exact h.elim⟩)
def zth  (zag:zbK K mg)(zae:zbE K mg)(zad:zbG K mg)(zaf:zbH K mg)(zak:zbN K mg)(zaj:zbJ K mg)(zmG:Df K mg "slopes" zkm zil)(zn5:Fm P w K mg base 3 zag.C "slope" zhz (zfd zaj.C zak.C zaf.C zad.C zae.C zag.C))(zod:Fm P w K mg base 4 zae.C "slope" zif (zeO zaj.C zak.C zaf.C zad.C zae.C zag.C))(zm0:Fm P w K mg base 3 zad.C "slope" zh1 (zfh zaj.C zak.C zaf.C zad.C zae.C zag.C))(zoS:Fm P w K mg base 3 zaf.C "slope" zgO (zfA zaj.C zak.C zaf.C zad.C zae.C zag.C))(znX:Fm P w K mg base 1 zak.C "slope" zhp (zeV zaj.C zak.C zaf.C zad.C zae.C zag.C))(zng:Fm P w K mg base 1 zaj.C "slope" zf5 (zfj zaj.C zak.C zaf.C zad.C zae.C zag.C))(zfl:Fk P w K mg base 3 "kind_of" zez (zeQ zaj.C zak.C zaf.C zad.C zae.C zag.C))(zda:Fk P w K mg base 4 "worths" zd7 zd1)(zaB:mg "len"=none):Fk P w K mg base 5 "slopes" zil zgG:=
 zmG.mk' (zaw (k:=4) zmG.F zjq (ztT) λcdv A outer s H E hr=>⟨_,(zao (zaA (i:=3) zjq.nd rfl (Or.inl rfl) (zan zda hr (zaa (dv 0) (zaa (dv 1) (zaa (dv 2) zab))))) (zao (zaA (i:=4) zjq.nd rfl (Or.inl rfl) (zbI zab)) (zao (zem (i:=5) PassesOwn.never rfl zjq.nd rfl (Or.inl rfl) (dv 0) (zai (zds (zdO (dv 4) (zrd (zan zfl hr (zaa (dv 5) zab)) (zcs zaj.cl zng (hr.mono (by decide)) (zcs zak.cl znX (hr.mono (by decide)) (zcs zaf.cl zoS (hr.mono (by decide)) (zcs zad.cl zm0 (hr.mono (by decide)) (zcs zae.cl zod (hr.mono (by decide)) (zcs zag.cl zn5 (hr.mono (by decide)) zpr)))))) zeZ (zaa (dv 3) (zaa (dv 4) (zaa (zaT (zaV zbo) rfl zaB Boot.«len» (zaa (dv 1) zab)) (zaa (dv 2) zab))))))))) (zai (zas (dv 4)))))),λds S Q ex h=>by
  unfold zgG at h
  split at h
  ·rename_i a b g
   obtain⟨ns,ws,bs,ha,hb,net,sb,hq9,hg,hl,h⟩:=h
   have disp:∀v:Nd,∃C fs sd,v.ob zaj.C zak.C zaf.C zad.C zae.C zag.C=.ins C fs∧(C,sd)∈[(zaj.C,zfj zaj.C zak.C zaf.C zad.C zae.C zag.C),(zak.C,zeV zaj.C zak.C zaf.C zad.C zae.C zag.C),(zaf.C,zfA zaj.C zak.C zaf.C zad.C zae.C zag.C),(zad.C,zfh zaj.C zak.C zaf.C zad.C zae.C zag.C),(zae.C,zeO zaj.C zak.C zaf.C zad.C zae.C zag.C),(zag.C,zfd zaj.C zak.C zaf.C zad.C zae.C zag.C)]∧fs.lookup ("slope":Str)=none∧∀(n w s:Nat) (q:Nat) (g:Int) (S:Sto) (Q:DK) (ex:Addr→Sto→Prop) (vs:List (Int×Int)) (sl:List (List (Int×Int))) (ds:List D),S[n]?=some (v.ob zaj.C zak.C zaf.C zad.C zae.C zag.C)→S[w]?=some (.lst (vs.map frD))→S[s]?=some (.lst ds)→zaF S 0 ds sl→(∀i:Int,inR sl.length i→(sl.getD i.toNat []).length=q∧∀l,l<q→(gs sl i l).1≤(gs sl i l).2∧Sz 1100 (gs sl i l).1∧Sz 1100 (gs sl i l).2)→q≤900→v.ok sl.length q→sl.length≤vs.length→Spn 1000 vs→(1≤g∧g≤1000000)→(∀(T:Sto) (m:Nat),Pre S T→S.length≤m→T[m]?=some (.lst ((zba vs sl g q v).map frD))→Q (.ref m) T)→sd [.ref n,.ref w,.ref s,.int (q:Nat),.int g] S Q ex:=by
    intro v
    cases v with
    | number x y=>exact⟨_,_,_,rfl,(.head _),rfl,λn w s q g S Q ex vs sl ds a1 a2 a3 a4 a5 a6 a7 a8 a9 b1 b2=>⟨x,y,q,vs,sl,ds,a1,a2,a3,a4,a5,⟨rfl,a6⟩,a7,a8,a9,b1,b2⟩⟩
    | unknown k=>exact⟨_,_,_,rfl,(.tail _ (.head _)),rfl,λn w s q g S Q ex vs sl ds a1 a2 a3 a4 a5 a6 a7 a8 a9 b1 b2=>⟨k,q,vs,sl,ds,a1,a2,a3,a4,a5,⟨rfl,a6⟩,a7,a8,a9,b1,b2⟩⟩
    | plus i j=>exact⟨_,_,_,rfl,(.tail _ (.tail _ (.head _))),rfl,λn w s q g S Q ex vs sl ds a1 a2 a3 a4 a5 a6 a7 a8 a9 b1 b2=>⟨i,j,q,vs,sl,ds,a1,a2,a3,a4,a5,⟨rfl,a6⟩,a7,a8,a9,b1,b2⟩⟩
    | minus i j=>exact⟨_,_,_,rfl,(.tail _ (.tail _ (.tail _ (.head _)))),rfl,λn w s q g S Q ex vs sl ds a1 a2 a3 a4 a5 a6 a7 a8 a9 b1 b2=>⟨i,j,q,vs,sl,ds,a1,a2,a3,a4,a5,⟨rfl,a6⟩,a7,a8,a9,b1,b2⟩⟩
    | times i j=>exact⟨_,_,_,rfl,(.tail _ (.tail _ (.tail _ (.tail _ (.head _))))),rfl,λn w s q g S Q ex vs sl ds a1 a2 a3 a4 a5 a6 a7 a8 a9 b1 b2=>⟨i,j,q,vs,sl,ds,a1,a2,a3,a4,a5,⟨rfl,a6⟩,a7,a8,a9,b1,b2⟩⟩
    | power i m=>exact⟨_,_,_,rfl,(.tail _ (.tail _ (.tail _ (.tail _ (.tail _ (.head _)))))),rfl,λn w s q g S Q ex vs sl ds a1 a2 a3 a4 a5 a6 a7 a8 a9 b1 b2=>⟨i,m,q,vs,sl,ds,a1,a2,a3,a4,a5,⟨rfl,a6⟩,a7,a8,a9,b1,b2⟩⟩
   refine⟨ns,ws,bs,ha,hb,net,sb,hg,hl,λT1 w pr1 lw hw=>?_⟩
   have szw:=zqk net rfl sb hg
   have lf:(zar bs g ns).length=ns.length:=zcf _ _ _
   have spn:Spn 1000 (zar bs g ns):=szw.spn λk hk=>by
    have z:=(net.w1 (i:=(k:Int)) ⟨by omega,by omega⟩).2
    rwa [Vam] at z
   refine zep (n:=a) (o:=.lst (ns.map Nd.d)) (λk dl' S'=>k≤ns.length∧Pre T1 S'∧(∃ds:List D,S'[T1.length]?=some (.lst ds)∧zaF S' (T1.length+1) ds (zaC (zar bs g ns) g bs.length (ns.take k)))∧∃u:Option D,dl'=[some (.ref a),some (.ref b),some (.int g),some (.ref w),some (.ref T1.length),u]) ⟨Vak _,Pre.refl.push,⟨[],zax _ _,zaF.nil⟩,_,rfl⟩ (λk dl' S' z=>z.2.1 _ _ (pr1 _ _ ha)) ?_ ?_
   ·rintro k x dl' S' nx ct ex' ⟨hk,pr,⟨ds,hf,rows⟩,u,rfl⟩ hn
    have ex2:(ns.map Nd.d)[k]?=some x:=ex'
    rw[Vaf] at ex2
    obtain⟨v,hv,rfl⟩:=Vaj.mp ex2
    have hk':=(Vad.mp hv).1
    have ln:(zaC (zar bs g ns) g bs.length (ns.take k)).length=k:=by rw[zeN,Vaq]; omega
    have okv:v.ok (zaC (zar bs g ns) g bs.length (ns.take k)).length bs.length:=by rw[ln]; exact(net.ok k v hv).1
    have slw:=zpG net szw lf hg k hk
    have ss:=slw.spn λi hi=>by
     have z:=(net.w1 (i:=(i:Int)) ⟨by omega,by omega⟩).2
     rwa [Vam] at z
    obtain⟨C,fs,sd,eo,hm,hf2,go⟩:=disp v
    have N1:=zax S' (v.ob zaj.C zak.C zaf.C zad.C zae.C zag.C)
    have ld:ds.length=k:=by rw[rows.1,ln]
    have lt:=zbX hf
    refine zqs (n:=T1.length) (xs:=ds) (λK hK=>by exact hK) hf (λK hK=>?_) (by omega)
    refine zrc (n:=S'.length) (C:=C) (sd:=sd) (fs:=fs) (S1:=S'++[v.ob zaj.C zak.C zaf.C zad.C zae.C zag.C]) (λK hK=>⟨v,rfl,by exact hK⟩) (by rw[← eo]; exact N1) hm hf2 ?_
    refine zbC (zaz (pr _ _ (pr1 _ _ hb))) ?_
    rw[Vab]
    refine go _ _ _ bs.length _ _ _ _ (zar bs g ns) (zaC (zar bs g ns) g bs.length (ns.take k)) ds N1 (zaz (pr _ _ hw)) (zaz hf) ((rows.low (Vak _)).pre (zbf Pre.refl _)) ss hq9 okv (by omega) spn hg λT m prT lm hT=>?_
    have hf3:=prT _ _ (zaz hf)
    refine hK _ _ hf3 ?_
    have lS:(S'++[v.ob zaj.C zak.C zaf.C zad.C zae.C zag.C]).length=S'.length+1:=by simp
    have rows3:zaF T (T1.length+1) ds (zaC (zar bs g ns) g bs.length (ns.take k)):=rows.pre λi o e=>prT _ _ (zaz e)
    refine hn _ _ ⟨by omega,zdy (pr.trans λi o e=>prT _ _ (zaz e)) (Vaa _),⟨ds++[.ref m],zcI hf3,?_⟩,_,rfl⟩
    rw[zbV hv,zjK]
    have r4:=rows3.snoc (a:=m) (r:=zba (zar bs g ns) (zaC (zar bs g ns) g bs.length (ns.take k)) g bs.length v) (by omega) hT
    exact r4.keep λx o hx e=>zc1 e (by omega)
   ·rintro dl' S' ⟨hk,pr,⟨ds,hf,rows⟩,u,rfl⟩
    have e:ns.take (zah (.lst (ns.map Nd.d))).length=ns:=by
     show ns.take (ns.map Nd.d).length=ns
     rw[Vab,Vay]
    rw[e] at rows
    refine h _ _ ds (pr1.trans pr) ?_ hf rows
    exact zfI pr1
  ·exact h.elim⟩)
def zw5  (zmf:Df K mg "slopes_at" zj5 zg3)(zfg:Fk P w K mg base 1 "picked" zeD zeC)(zni:Fk P w K mg base 5 "slopes" zil zgG):Fk P w K mg base 6 "slopes_at" zg3 zgF:=
 zmf.mk' (zaw (k:=5) zmf.F zrp (zwA) λcdv A outer s H E hr=>⟨_,(zai (zas (zan zfg hr (zaa (zan zni hr (zaa (dv 0) (zaa (dv 2) (zaa (dv 3) zab)))) (zaa (dv 1) zab))))),λds S Q ex h=>by
  unfold zgF at h
  split at h
  ·rename_i a p b g
   obtain⟨ns,ws,bs,is,ha,hb,net,sb,hg,l7,b9,hp,i9,hi,h⟩:=h
   refine⟨ns,ws,bs,ha,hb,net,sb,b9,hg,l7,λT m ds pr lm hm rows=>?_⟩
   have ld:ds.length=ns.length:=by rw[rows.1,zeN]
   refine⟨ds,is,hm,pr _ _ hp,i9,λi him=>by rw[ld]; exact hi i him,?_⟩
   refine h _ _ (is.map λi=>ds.getD i .non) (λx o z=>zaz (pr _ _ z)) (zfI pr) (zax _ _) ⟨by rw[Vab,Vab],λk d r hd hr=>?_⟩
   rw[Vaf] at hd hr
   obtain⟨i,hik,rfl⟩:=Vaj.mp hd
   rw[hik] at hr
   cases hr
   have him:=hi i (Vag hik)
   have h1:ds[i]?=some (ds.getD i .non):=by rw[Vac (show i<ds.length by omega)]; simp[show i<ds.length by omega]
   have ls:=zeN (zar bs g ns) g bs.length ns
   have h2:(zaC (zar bs g ns) g bs.length ns)[i]?=some ((zaC (zar bs g ns) g bs.length ns).getD i []):=by rw[Vac (show i<(zaC (zar bs g ns) g bs.length ns).length by omega)]; simp[show i<(zaC (zar bs g ns) g bs.length ns).length by omega]
   obtain⟨q,eq,_,sq⟩:=rows.2 i _ _ h1 h2
   exact⟨q,eq,Vak _,zaz sq⟩
  ·exact h.elim⟩)
def zxN  (zkT:Df K mg "signed" zl1 zdW):Fk P w K mg base 1 "signed" zdW zdB:=
 zkT.mk' (zaw (k:=0) zkT.F zuq (zvZ) λcdv A outer s H E hr=>⟨_,(zai (zas (znm (zaP (zbb hr) (zaq zbF (dv 1) zac) zac (zaJ _)) (zl4 zjp (dv 0)) (dv 0)))),λds S Q ex h=>by
  unfold zdB at h
  split at h
  ·rename_i i k
   obtain⟨n,rfl,h⟩:=h
   refine ifD (λe=>?_) (λe=>?_)
   ·have z:sgn i n=-i:=by unfold sgn; rw[if_pos (by omega)]
    rw[z] at h
    exact h
   ·have z:sgn i n=i:=by unfold sgn; rw[if_neg (by omega)]
    rw[z] at h
    exact h
  ·exact h.elim⟩)
def zvX  (ziK:Df K mg "without" zgb zdE):Fk P w K mg base 1 "without" zdE zdH:=
 ziK.mk' (zaw (k:=0) ziK.F zpi (zvz) λcdv A outer s H E hr=>⟨_,(zao (zaA (i:=3) zpi.nd rfl (Or.inl rfl) (zaq zpc (zl5 (dv 0) zjy (zlB (dv 1))) (zl5 (dv 0) (zlB (zaq zbm (dv 1) zac)) zjy))) (zai (zas (zcS (x:="entries") (N:=["column"]) (caps:=[2]) (ar:=zam zgb) rfl rfl csc rfl (by decide) (dv 3) (λ_ _ _ _ _ _=>zbW) (λ_ _ _ _ _ _=>(zaq zpc (zl5 (dv 0) zjy (zlB (dv 1))) (zl5 (dv 0) (zlB (zaq zbm (dv 1) zac)) zjy))))))),λds S Q ex h=>by
  unfold zdH at h
  split at h
  ·rename_i m r c
   obtain⟨M,i,j,n,rfl,rfl,⟨ds,hm,rows⟩,sq,hn,hi,hj,h⟩:=h
   have lm:ds.length=n+1:=by rw[rows.len]; exact sq.1
   refine zkr (n:=m) (o:=.lst ds) (lo:=none) (hi:=some (i:Int)) (λK hK=>by exact hK) (λK hK=>by exact hK) (λK hK=>by exact hK) hm ?_
   refine zkr (n:=m) (o:=.lst ds) (lo:=some ((i+1:Nat):Int)) (hi:=none) (λK hK=>by exact hK) (λK hK=>by exact hK) (λK hK=>by exact hK) (zcD hm) ?_
   dsimp only[zah]
   rw[zpa,zqQ]
   refine zo8 (xs:=ds.take i) (ys:=ds.drop (i+1)) (zcD (zax _ _)) (zax _ _) (by simp; omega) ?_
   have p0:Pre S (S++[.lst (ds.take i)]++[.lst (ds.drop (i+1))]++[.lst (ds.take i++ds.drop (i+1))]):=Pre.refl.push.push.push
   have r0:Rows (S++[.lst (ds.take i)]++[.lst (ds.drop (i+1))]++[.lst (ds.take i++ds.drop (i+1))]) 0 (ds.take i++ds.drop (i+1)) (M.take i++M.drop (i+1)):=((rows.take i).app (rows.drop (i+1))).pre p0
   refine zw2 (n:=(S++[Ob.lst (ds.take i)]++[Ob.lst (ds.drop (i+1))]).length) (λe=>e.take j++e.drop (j+1)) (λK hK=>by exact hK) (zax _ _) r0 (by simp; omega) (λa r S2 K hr ha hK=>?_) (λS2 ys p2 e2 r2=>?_)
   ·have lr:r.length≤n+1:=by
     have z:=sq.2 r ((VaQ.mp hr).elim List.mem_of_mem_take List.mem_of_mem_drop)
     omega
    show dOp (zcd zh2) (zfq (zct 0) znH (znx (zct 1))) (zfq (zct 0) (znx (dOp wAdd (zct 1) (dC (D.int 1)))) znH) [some (.ref a),some (.int (j:Int))] S2 K
    simp only[dOp]
    refine zkr (n:=a) (o:=.lst (r.map D.int)) (lo:=none) (hi:=some (j:Int)) (λK hK=>by exact hK) (λK hK=>by exact hK) (λK hK=>by exact hK) ha ?_
    refine zkr (n:=a) (o:=.lst (r.map D.int)) (lo:=some ((j+1:Nat):Int)) (hi:=none) (λK hK=>by exact hK) (λK hK=>by exact hK) (λK hK=>by exact hK) (zcD ha) ?_
    dsimp only[zah]
    rw[zpa,zqQ]
    refine zo8 (xs:=(r.map D.int).take j) (ys:=(r.map D.int).drop (j+1)) (zcD (zax _ _)) (zax _ _) (by simp; omega) ?_
    refine hK _ _ Pre.refl.push.push.push (by simp) ?_
    rw[VaW,List.map_take,List.map_drop]
    exact zax _ _
   ·exact h S2 _ (p0.trans p2) ⟨ys,e2,r2⟩
  ·exact h.elim⟩)
def zuH (zbq:Df K mg "determinant" zce zbR)(zb8:Fk P w K mg base 0 "cofactor" zbU zpx)(zbs:mg "sum"=none)(zbg:mg "enumerate"=none)(zaB:mg "len"=none):Fk P w K mg base 1 "determinant" zbR zii:=
 zbq.mk' (zb0 (zaw (k:=0) zbq.F zir (zbY ztr) λcdv A outer s H E hr=>⟨_,(zao (zaR (zaP (zbb hr) (zaT (zaV zbo) rfl zaB Boot.«len» (zaa (dv 0) zab)) zac (zaJ _)) (zai (zas zac)) zaW) (zai (zas (zaT (zaV (zgw rfl)) rfl zbs Boot.«sum» (zaa (ze8 (x1:="column") (x2:="entry") (N:=["matrix"]) (caps:=[0]) (ar:=zam zce) rfl rfl zcM rfl rfl rfl (by decide) rfl zbg Boot.«enumerate» (zaa (zat (dv 0) zac (λ_ _=>rfl)) zab) (λ_ _ _ _ _ _=>(zaq za2 (dv 1) (zan zb8 hr (zaa (dv 2) (zaa zac (zaa (dv 0) zab))))))) zab))))),λds S Q ex h=>by
  obtain⟨Q0,ex0,rfl,rfl,h⟩:=h
  unfold zii at h
  split at h
  ·rename_i m
   obtain⟨M,n,hn,⟨ds,hm,rows⟩,sq,big,h⟩:=h
   have lm:ds.length=n:=by rw[rows.len]; exact sq.1
   refine zbC hm ?_
   refine ifD (λe=>?_) (λe=>?_)
   ·have n0:n=0:=by omega
    subst n0
    exact⟨Pre.refl,.int _,h⟩
   ·exact absurd (show ((ds.length:Nat):Int)=0 by omega) e
  ·exact h.elim⟩))
def zuO (zbM:Df K mg "cofactor" zej zbU)(zcv:Fk P w K mg base 1 "signed" zdW zdB)(zcC:Fk P w K mg base 1 "determinant" zbR zii)(zcr:Fk P w K mg base 1 "without" zdE zdH):Fk P w K mg base 2 "cofactor" zbU zeG:=
 zbM.mk' (zb0 (zaw (k:=1) zbM.F zkI (zbY zt3) λcdv A outer s H E hr=>⟨_,(zai (zas (zan zcv hr (zaa (zan zcC hr (zaa (zan zcr hr (zaa (dv 0) (zaa (dv 1) (zaa (dv 2) zab)))) zab)) (zaa (zaq zbm (dv 1) (dv 2)) zab))))),λds S Q ex h=>by
  obtain⟨Q0,ex0,rfl,rfl,h⟩:=h
  unfold zeG at h
  split at h
  ·rename_i m r c
   obtain⟨M,i,j,n,hn,rfl,rfl,hi,hj,hm,sq,big,h⟩:=h
   refine⟨M,i,j,n,rfl,rfl,hm,sq,by omega,hi,hj,λT k pt mt=>?_⟩
   refine⟨za4 M i j,n,hn,mt,zdK sq hi hj,big.minor i j,?_⟩
   exact⟨i+j,by omega,pt,.int _,h⟩
  ·exact h.elim⟩))
def zxj (zbq:Df K mg "determinant" zce zbR)(zb8:Fk P w K mg base 2 "cofactor" zbU zeG)(zbs:mg "sum"=none)(zbg:mg "enumerate"=none)(zaB:mg "len"=none):Fk P w K mg base 3 "determinant" zbR zhS:=
 zbq.mk' (zb0 (zaw (k:=2) zbq.F zir (zbY ztl) λcdv A outer s H E hr=>⟨_,(zao (zaR (zaP (zbb hr) (zaT (zaV zbo) rfl zaB Boot.«len» (zaa (dv 0) zab)) zac (zaJ _)) (zai (zas zac)) zaW) (zai (zas (zaT (zaV (zgw rfl)) rfl zbs Boot.«sum» (zaa (ze8 (x1:="column") (x2:="entry") (N:=["matrix"]) (caps:=[0]) (ar:=zam zce) rfl rfl zcM rfl rfl rfl (by decide) rfl zbg Boot.«enumerate» (zaa (zat (dv 0) zac (λ_ _=>rfl)) zab) (λ_ _ _ _ _ _=>(zaq za2 (dv 1) (zan zb8 hr (zaa (dv 2) (zaa zac (zaa (dv 0) zab))))))) zab))))),λds S Q ex h=>by
  obtain⟨Q0,ex0,rfl,rfl,h⟩:=h
  unfold zhS at h
  split at h
  ·rename_i m
   obtain⟨M,n,hn,⟨ds,hm,rows⟩,sq,big,h⟩:=h
   have lm:ds.length=n:=by rw[rows.len]; exact sq.1
   refine zbC hm ?_
   refine ifD (λe=>?_) (λe=>?_)
   ·have n0:n=0:=by omega
    subst n0
    exact⟨Pre.refl,.int _,h⟩
   ·obtain⟨n,rfl⟩:∃k,n=k+1:=⟨n-1,by omega⟩
    obtain⟨r0,M',rfl⟩:∃r M',M=r::M':=by
     match M,sq.1 with
     | r::M',_=>exact⟨r,M',rfl⟩
    have lr:r0.length=n+1:=sq.2 r0 (by simp)
    obtain⟨a,hd,_,ha⟩:=rows.get' (k:=0) (r:=r0) rfl
    refine zgD (n:=a) (xs:=r0.map D.int) (λk d=>.int (r0.getD k 0*sgn (zaG n (za4 (r0::M') 0 k)) k)) (λK hK=>?_) ha (by simp; omega) (λk x hx S2 K p2 hK=>?_) ?_
    ·show dOp wIx (zct 0) (dC (D.int 0)) [some (.ref m)] S λx S1=>K [x] S1
     exact zkW hm hd hK
    ·have hk:k<n+1:=by
      have:=(Vad.mp hx).1
      simpa [lr] using this
     obtain rfl:=zl7 hx
     show zeG [.ref m,.int 0,.int (k:Int)] S2 (λy S3=>zgB (.int (r0.getD k 0)) y S3 K) (λ_ _=>False)
     refine⟨r0::M',0,k,n,by omega,rfl,rfl,Vak _,by omega,(show zbl S m (r0::M') from ⟨ds,hm,rows⟩).pre p2,sq,big,?_⟩
     refine⟨zmr sq big (by omega) (by omega),?_⟩
     rw[Nat.zero_add]
     exact hK
    ·refine zk5 (zax _ _) (zkG n r0 M') ?_
     exact⟨Pre.refl.push,.int _,h⟩
  ·exact h.elim⟩))
def zu0 (zbM:Df K mg "cofactor" zej zbU)(zcv:Fk P w K mg base 1 "signed" zdW zdB)(zcC:Fk P w K mg base 3 "determinant" zbR zhS)(zcr:Fk P w K mg base 1 "without" zdE zdH):Fk P w K mg base 4 "cofactor" zbU zfF:=
 zbM.mk' (zb0 (zaw (k:=3) zbM.F zkI (zbY zw1) λcdv A outer s H E hr=>⟨_,(zai (zas (zan zcv hr (zaa (zan zcC hr (zaa (zan zcr hr (zaa (dv 0) (zaa (dv 1) (zaa (dv 2) zab)))) zab)) (zaa (zaq zbm (dv 1) (dv 2)) zab))))),λds S Q ex h=>by
  obtain⟨Q0,ex0,rfl,rfl,h⟩:=h
  unfold zfF at h
  split at h
  ·rename_i m r c
   obtain⟨M,i,j,n,hn,rfl,rfl,hi,hj,hm,sq,big,h⟩:=h
   refine⟨M,i,j,n,rfl,rfl,hm,sq,by omega,hi,hj,λT k pt mt=>?_⟩
   refine⟨za4 M i j,n,hn,mt,zdK sq hi hj,big.minor i j,?_⟩
   exact⟨i+j,by omega,pt,.int _,h⟩
  ·exact h.elim⟩))
def zwC (zbq:Df K mg "determinant" zce zbR)(zb8:Fk P w K mg base 4 "cofactor" zbU zfF)(zbs:mg "sum"=none)(zbg:mg "enumerate"=none)(zaB:mg "len"=none):Fk P w K mg base 5 "determinant" zbR zic:=
 zbq.mk' (zb0 (zaw (k:=4) zbq.F zir (zbY zui) λcdv A outer s H E hr=>⟨_,(zao (zaR (zaP (zbb hr) (zaT (zaV zbo) rfl zaB Boot.«len» (zaa (dv 0) zab)) zac (zaJ _)) (zai (zas zac)) zaW) (zai (zas (zaT (zaV (zgw rfl)) rfl zbs Boot.«sum» (zaa (ze8 (x1:="column") (x2:="entry") (N:=["matrix"]) (caps:=[0]) (ar:=zam zce) rfl rfl zcM rfl rfl rfl (by decide) rfl zbg Boot.«enumerate» (zaa (zat (dv 0) zac (λ_ _=>rfl)) zab) (λ_ _ _ _ _ _=>(zaq za2 (dv 1) (zan zb8 hr (zaa (dv 2) (zaa zac (zaa (dv 0) zab))))))) zab))))),λds S Q ex h=>by
  obtain⟨Q0,ex0,rfl,rfl,h⟩:=h
  unfold zic at h
  split at h
  ·rename_i m
   obtain⟨M,n,hn,⟨ds,hm,rows⟩,sq,big,h⟩:=h
   have lm:ds.length=n:=by rw[rows.len]; exact sq.1
   refine zbC hm ?_
   refine ifD (λe=>?_) (λe=>?_)
   ·have n0:n=0:=by omega
    subst n0
    exact⟨Pre.refl,.int _,h⟩
   ·obtain⟨n,rfl⟩:∃k,n=k+1:=⟨n-1,by omega⟩
    obtain⟨r0,M',rfl⟩:∃r M',M=r::M':=by
     match M,sq.1 with
     | r::M',_=>exact⟨r,M',rfl⟩
    have lr:r0.length=n+1:=sq.2 r0 (by simp)
    obtain⟨a,hd,_,ha⟩:=rows.get' (k:=0) (r:=r0) rfl
    refine zgD (n:=a) (xs:=r0.map D.int) (λk d=>.int (r0.getD k 0*sgn (zaG n (za4 (r0::M') 0 k)) k)) (λK hK=>?_) ha (by simp; omega) (λk x hx S2 K p2 hK=>?_) ?_
    ·show dOp wIx (zct 0) (dC (D.int 0)) [some (.ref m)] S λx S1=>K [x] S1
     exact zkW hm hd hK
    ·have hk:k<n+1:=by
      have:=(Vad.mp hx).1
      simpa [lr] using this
     obtain rfl:=zl7 hx
     show zfF [.ref m,.int 0,.int (k:Int)] S2 (λy S3=>zgB (.int (r0.getD k 0)) y S3 K) (λ_ _=>False)
     refine⟨r0::M',0,k,n,by omega,rfl,rfl,Vak _,by omega,(show zbl S m (r0::M') from ⟨ds,hm,rows⟩).pre p2,sq,big,?_⟩
     refine⟨zmr sq big (by omega) (by omega),?_⟩
     rw[Nat.zero_add]
     exact hK
    ·refine zk5 (zax _ _) (zkG n r0 M') ?_
     exact⟨Pre.refl.push,.int _,h⟩
  ·exact h.elim⟩))
def zsN (zbM:Df K mg "cofactor" zej zbU)(zcv:Fk P w K mg base 1 "signed" zdW zdB)(zcC:Fk P w K mg base 5 "determinant" zbR zic)(zcr:Fk P w K mg base 1 "without" zdE zdH):Fk P w K mg base 6 "cofactor" zbU zfi:=
 zbM.mk' (zb0 (zaw (k:=5) zbM.F zkI (zbY zvL) λcdv A outer s H E hr=>⟨_,(zai (zas (zan zcv hr (zaa (zan zcC hr (zaa (zan zcr hr (zaa (dv 0) (zaa (dv 1) (zaa (dv 2) zab)))) zab)) (zaa (zaq zbm (dv 1) (dv 2)) zab))))),λds S Q ex h=>by
  obtain⟨Q0,ex0,rfl,rfl,h⟩:=h
  unfold zfi at h
  split at h
  ·rename_i m r c
   obtain⟨M,i,j,n,hn,rfl,rfl,hi,hj,hm,sq,big,h⟩:=h
   refine⟨M,i,j,n,rfl,rfl,hm,sq,by omega,hi,hj,λT k pt mt=>?_⟩
   refine⟨za4 M i j,n,hn,mt,zdK sq hi hj,big.minor i j,?_⟩
   exact⟨i+j,by omega,pt,.int _,h⟩
  ·exact h.elim⟩))
def zuC (zbq:Df K mg "determinant" zce zbR)(zb8:Fk P w K mg base 6 "cofactor" zbU zfi)(zbs:mg "sum"=none)(zbg:mg "enumerate"=none)(zaB:mg "len"=none):Fk P w K mg base 7 "determinant" zbR zhI:=
 zbq.mk' (zb0 (zaw (k:=6) zbq.F zir (zbY zsT) λcdv A outer s H E hr=>⟨_,(zao (zaR (zaP (zbb hr) (zaT (zaV zbo) rfl zaB Boot.«len» (zaa (dv 0) zab)) zac (zaJ _)) (zai (zas zac)) zaW) (zai (zas (zaT (zaV (zgw rfl)) rfl zbs Boot.«sum» (zaa (ze8 (x1:="column") (x2:="entry") (N:=["matrix"]) (caps:=[0]) (ar:=zam zce) rfl rfl zcM rfl rfl rfl (by decide) rfl zbg Boot.«enumerate» (zaa (zat (dv 0) zac (λ_ _=>rfl)) zab) (λ_ _ _ _ _ _=>(zaq za2 (dv 1) (zan zb8 hr (zaa (dv 2) (zaa zac (zaa (dv 0) zab))))))) zab))))),λds S Q ex h=>by
  obtain⟨Q0,ex0,rfl,rfl,h⟩:=h
  unfold zhI at h
  split at h
  ·rename_i m
   obtain⟨M,n,hn,⟨ds,hm,rows⟩,sq,big,h⟩:=h
   have lm:ds.length=n:=by rw[rows.len]; exact sq.1
   refine zbC hm ?_
   refine ifD (λe=>?_) (λe=>?_)
   ·have n0:n=0:=by omega
    subst n0
    exact⟨Pre.refl,.int _,h⟩
   ·obtain⟨n,rfl⟩:∃k,n=k+1:=⟨n-1,by omega⟩
    obtain⟨r0,M',rfl⟩:∃r M',M=r::M':=by
     match M,sq.1 with
     | r::M',_=>exact⟨r,M',rfl⟩
    have lr:r0.length=n+1:=sq.2 r0 (by simp)
    obtain⟨a,hd,_,ha⟩:=rows.get' (k:=0) (r:=r0) rfl
    refine zgD (n:=a) (xs:=r0.map D.int) (λk d=>.int (r0.getD k 0*sgn (zaG n (za4 (r0::M') 0 k)) k)) (λK hK=>?_) ha (by simp; omega) (λk x hx S2 K p2 hK=>?_) ?_
    ·show dOp wIx (zct 0) (dC (D.int 0)) [some (.ref m)] S λx S1=>K [x] S1
     exact zkW hm hd hK
    ·have hk:k<n+1:=by
      have:=(Vad.mp hx).1
      simpa [lr] using this
     obtain rfl:=zl7 hx
     show zfi [.ref m,.int 0,.int (k:Int)] S2 (λy S3=>zgB (.int (r0.getD k 0)) y S3 K) (λ_ _=>False)
     refine⟨r0::M',0,k,n,by omega,rfl,rfl,Vak _,by omega,(show zbl S m (r0::M') from ⟨ds,hm,rows⟩).pre p2,sq,big,?_⟩
     refine⟨zmr sq big (by omega) (by omega),?_⟩
     rw[Nat.zero_add]
     exact hK
    ·refine zk5 (zax _ _) (zkG n r0 M') ?_
     exact⟨Pre.refl.push,.int _,h⟩
  ·exact h.elim⟩))
def zuV (zbM:Df K mg "cofactor" zej zbU)(zcv:Fk P w K mg base 1 "signed" zdW zdB)(zcC:Fk P w K mg base 7 "determinant" zbR zhI)(zcr:Fk P w K mg base 1 "without" zdE zdH):Fk P w K mg base 8 "cofactor" zbU zd4:=
 zbM.mk' (zb0 (zaw (k:=7) zbM.F zkI (zbY zxU) λcdv A outer s H E hr=>⟨_,(zai (zas (zan zcv hr (zaa (zan zcC hr (zaa (zan zcr hr (zaa (dv 0) (zaa (dv 1) (zaa (dv 2) zab)))) zab)) (zaa (zaq zbm (dv 1) (dv 2)) zab))))),λds S Q ex h=>by
  obtain⟨Q0,ex0,rfl,rfl,h⟩:=h
  unfold zd4 at h
  split at h
  ·rename_i m r c
   obtain⟨M,i,j,n,hn,rfl,rfl,hi,hj,hm,sq,big,h⟩:=h
   refine⟨M,i,j,n,rfl,rfl,hm,sq,by omega,hi,hj,λT k pt mt=>?_⟩
   refine⟨za4 M i j,n,hn,mt,zdK sq hi hj,big.minor i j,?_⟩
   exact⟨i+j,by omega,pt,.int _,h⟩
  ·exact h.elim⟩))
def ztn (zbq:Df K mg "determinant" zce zbR)(zb8:Fk P w K mg base 8 "cofactor" zbU zd4)(zbs:mg "sum"=none)(zbg:mg "enumerate"=none)(zaB:mg "len"=none):Fk P w K mg base 9 "determinant" zbR zgX:=
 zbq.mk' (zb0 (zaw (k:=8) zbq.F zir (zbY zu8) λcdv A outer s H E hr=>⟨_,(zao (zaR (zaP (zbb hr) (zaT (zaV zbo) rfl zaB Boot.«len» (zaa (dv 0) zab)) zac (zaJ _)) (zai (zas zac)) zaW) (zai (zas (zaT (zaV (zgw rfl)) rfl zbs Boot.«sum» (zaa (ze8 (x1:="column") (x2:="entry") (N:=["matrix"]) (caps:=[0]) (ar:=zam zce) rfl rfl zcM rfl rfl rfl (by decide) rfl zbg Boot.«enumerate» (zaa (zat (dv 0) zac (λ_ _=>rfl)) zab) (λ_ _ _ _ _ _=>(zaq za2 (dv 1) (zan zb8 hr (zaa (dv 2) (zaa zac (zaa (dv 0) zab))))))) zab))))),λds S Q ex h=>by
  obtain⟨Q0,ex0,rfl,rfl,h⟩:=h
  unfold zgX at h
  split at h
  ·rename_i m
   obtain⟨M,n,hn,⟨ds,hm,rows⟩,sq,big,h⟩:=h
   have lm:ds.length=n:=by rw[rows.len]; exact sq.1
   refine zbC hm ?_
   refine ifD (λe=>?_) (λe=>?_)
   ·have n0:n=0:=by omega
    subst n0
    exact⟨Pre.refl,.int _,h⟩
   ·obtain⟨n,rfl⟩:∃k,n=k+1:=⟨n-1,by omega⟩
    obtain⟨r0,M',rfl⟩:∃r M',M=r::M':=by
     match M,sq.1 with
     | r::M',_=>exact⟨r,M',rfl⟩
    have lr:r0.length=n+1:=sq.2 r0 (by simp)
    obtain⟨a,hd,_,ha⟩:=rows.get' (k:=0) (r:=r0) rfl
    refine zgD (n:=a) (xs:=r0.map D.int) (λk d=>.int (r0.getD k 0*sgn (zaG n (za4 (r0::M') 0 k)) k)) (λK hK=>?_) ha (by simp; omega) (λk x hx S2 K p2 hK=>?_) ?_
    ·show dOp wIx (zct 0) (dC (D.int 0)) [some (.ref m)] S λx S1=>K [x] S1
     exact zkW hm hd hK
    ·have hk:k<n+1:=by
      have:=(Vad.mp hx).1
      simpa [lr] using this
     obtain rfl:=zl7 hx
     show zd4 [.ref m,.int 0,.int (k:Int)] S2 (λy S3=>zgB (.int (r0.getD k 0)) y S3 K) (λ_ _=>False)
     refine⟨r0::M',0,k,n,by omega,rfl,rfl,Vak _,by omega,(show zbl S m (r0::M') from ⟨ds,hm,rows⟩).pre p2,sq,big,?_⟩
     refine⟨zmr sq big (by omega) (by omega),?_⟩
     rw[Nat.zero_add]
     exact hK
    ·refine zk5 (zax _ _) (zkG n r0 M') ?_
     exact⟨Pre.refl.push,.int _,h⟩
  ·exact h.elim⟩))
def zrq  (zl8:Df K mg "inverse_entry" zmJ zht)(zb8:Fk P w K mg base 8 "cofactor" zbU zd4):Fk P w K mg base 9 "inverse_entry" zht zgY:=
 zl8.mk' (zaw (k:=8) zl8.F zr6 (zt0) λcdv A outer s H E hr=>⟨_,(zai (zas (zaq zrj (zaq za2 (zaq za2 (zan zb8 hr (zaa (dv 0) (zaa (dv 3) (zaa (dv 2) zab)))) (dv 4)) (dv 4)) (dv 1)))),λds S Q ex h=>by
  unfold zgY at h
  split at h
  ·rename_i m w r c g
   obtain⟨M,i,j,n,hn,rfl,rfl,hi,hj,hm,sq,big,hw,hg,h⟩:=h
   refine⟨M,j,i,n,hn,rfl,rfl,hj,hi,hm,sq,big,?_⟩
   have e2:Sz 4140 (sgn (zaG n (za4 M j i)) (j+i)):=zk6 (zm7 (zdK sq hj hi) (big.minor j i) (by omega))
   have eg:Sz 20 g:=Sz.of 1000000 (by omega)
   refine⟨zaM e2 eg,zaM (e2.mul eg) eg,⟨hw.1,hw.2.log hw.1⟩,?_⟩
   exact h
  ·exact h.elim⟩)
def zwJ  (zld:Df K mg "inverse_row" zgl zgM)(zn8:Fk P w K mg base 9 "inverse_entry" zht zgY)(zaX:mg "range"=none)(zaB:mg "len"=none):Fk P w K mg base 10 "inverse_row" zgM zgU:=
 zld.mk' (zaw (k:=9) zld.F zwU (zw4) λcdv A outer s H E hr=>⟨_,(zai (zas (zoi (x:="column") (N:=["matrix","whole","row","grid"]) (caps:=[0,1,2,3]) (ar:=zam zgl) rfl rfl csc rfl (by decide) rfl zaX (zaa (zaT (zaV zbo) rfl zaB Boot.«len» (zaa (dv 0) zab)) zab) (λ_ _ _ _ _ _=>zbW) (λ_ _ _ _ _ _=>(zan zn8 hr (zaa (dv 1) (zaa (dv 2) (zaa (dv 3) (zaa (dv 0) (zaa (dv 4) zab)))))))))),λds S Q ex h=>by
  unfold zgU at h
  split at h
  ·rename_i m w r g
   obtain⟨M,i,n,hn,rfl,hi,hm,sq,big,hw,hg,h⟩:=h
   obtain⟨ds,hds,rows⟩:=id hm
   have lm:ds.length=n+1:=by rw[rows.len]; exact sq.1
   refine zmV (j:=((n+1:Nat):Int)) (S1:=S) (λk=>.int (zhN M n w g i k)) (λK hK=>?_) (by omega) (λk hk S2 K p2 hK=>?_) ?_
   ·refine zbC hds ?_
    rw[lm]
    exact hK
   ·exact⟨M,i,k,n,hn,rfl,rfl,hi,by omega,hm.pre p2,sq,big,hw,hg,hK⟩
   ·have e:(List.range ((n+1:Nat):Int).toNat).map (λk=>D.int (zhN M n w g i k))=(zen M n w g i).map D.int:=by
     unfold zen
     rw[Vau]
     rfl
    rw[e]
    exact h
  ·exact h.elim⟩)
def zrs  (zjZ:Df K mg "inverse" zhK zgt)(znG:Fk P w K mg base 10 "inverse_row" zgM zgU)(zcC:Fk P w K mg base 9 "determinant" zbR zgX)(zaX:mg "range"=none)(zaB:mg "len"=none):Fk P w K mg base 11 "inverse" zgt ziy:=
 zjZ.mk' (zaw (k:=10) zjZ.F zpf (zxT) λcdv A outer s H E hr=>⟨_,(zao (zaA (i:=2) zpf.nd rfl (Or.inr rfl) (zan zcC hr (zaa (dv 0) zab))) (zao (zaR (zaP (zbb hr) (dv 2) zac (zaJ _)) (zai (zas zdV)) zaW) (zai (zas (zoi (x:="row") (N:=["matrix","whole","grid"]) (caps:=[0,2,1]) (ar:=zam zhK) rfl rfl csc rfl (by decide) rfl zaX (zaa (zaT (zaV zbo) rfl zaB Boot.«len» (zaa (dv 0) zab)) zab) (λ_ _ _ _ _ _=>zbW) (λ_ _ _ _ _ _=>(zan znG hr (zaa (dv 1) (zaa (dv 2) (zaa (dv 0) (zaa (dv 3) zab))))))))))),λds S Q ex h=>by
  unfold ziy at h
  split at h
  ·rename_i m g
   obtain⟨M,n,hn,hm,sq,big,hg,h0,h1⟩:=h
   obtain⟨ds,hds,rows⟩:=id hm
   have lm:ds.length=n+1:=by rw[rows.len]; exact sq.1
   refine⟨M,n+1,by omega,hm,sq,big,?_⟩
   refine ifD (c:=zaG (n+1) M=0) (λc=>?_) (λc=>?_)
   ·exact h0 c
   ·refine zwI (j:=n+1) (T0:=S) (zen M n (zaG (n+1) M) g) (λK hK=>?_) (by omega) (λk S2 K hk p2 hK=>?_) (λS2 ys p2 e2 r2=>?_)
    ·refine zbC hds ?_
     rw[lm]
     exact hK
    ·refine⟨M,k,n,hn,rfl,by omega,hm.pre p2,sq,big,⟨c,zm7 sq big (by omega)⟩,hg,?_⟩
     exact hK _ _ Pre.refl.push (Vaa _) (zax _ _)
    ·exact h1 c S2 _ p2 ⟨ys,e2,r2⟩
  ·exact h.elim⟩)
def zwV  (zlT:Df K mg "middle" zjx zhZ):Fk P w K mg base 1 "middle" zhZ zf2:=
 zlT.mk' (zaw (k:=0) zlT.F zuR (zxd) λcdv A outer s H E hr=>⟨_,(zai (zas (zaq zdM (zaq zbm (zat (dv 0) zac (λ_ _=>rfl)) (zat (dv 0) zac (λ_ _=>rfl))) zac))),λds S Q ex h=>by
  unfold zf2 at h
  split at h
  ·exact h
  ·exact h.elim⟩)
def zub  (zjv:Df K mg "middles" zh6 ze4)(zoC:Fk P w K mg base 1 "middle" zhZ zf2):Fk P w K mg base 2 "middles" ze4 ze1:=
 zjv.mk' (zaw (k:=1) zjv.F zwD (zw6) λcdv A outer s H E hr=>⟨_,(zai (zas (zcS (x:="span") (N:=[]) (caps:=[]) (ar:=zam zh6) rfl rfl csc rfl (by decide) (dv 0) (λ_ _ _ _ _ _=>zbW) (λ_ _ _ _ _ _=>(zan zoC hr (zaa (dv 0) zab)))))),λds S Q ex h=>by
  unfold ze1 at h
  split at h
  ·rename_i s
   obtain⟨vs,hs,l9,h⟩:=h
   refine zc5 (n:=s) (S1:=S) (o:=.lst (vs.map frD)) (λd=>match d with | .tup [.int a,.int b]=>.int ((a+b)/2) | _=>.non) (λK hK=>by exact hK) hs (by show (vs.map frD).length≤1000; rw[Vab]; omega) (λx hx S2 K pr hK=>?_) ?_
   ·have hx':x∈vs.map frD:=hx
    obtain⟨p,_,rfl⟩:=Vah.mp hx'
    exact hK
   ·have e2:(zah (.lst (vs.map frD))).map (λd=>match d with | .tup [.int a,.int b]=>.int ((a+b)/2) | _=>.non)=vs.map λp=>D.int (mid p):=by
     show (vs.map frD).map _=_
     rw[Vau]
     rfl
    rw[e2]
    exact h
  ·exact h.elim⟩)
def zrJ  (zls:Df K mg "box_of_middles" zg1 zfL)(zfO:Fk P w K mg base 2 "middles" ze4 ze1):Fk P w K mg base 3 "box_of_middles" zfL zfG:=
 zls.mk' (zaw (k:=2) zls.F ztS (zvM) λcdv A outer s H E hr=>⟨_,(zai (zas (zcS (x:="place") (N:=[]) (caps:=[]) (ar:=zam zg1) rfl rfl csc rfl (by decide) (zan zfO hr (zaa (dv 0) zab)) (λ_ _ _ _ _ _=>zbW) (λ_ _ _ _ _ _=>(zaS (zaa (dv 0) (zaa (dv 0) zab))))))),λds S Q ex h=>by
  unfold zfG at h
  split at h
  ·rename_i b
   obtain⟨vs,hb,l9,h⟩:=h
   refine zc5 (n:=S.length) (S1:=S++[.lst (vs.map λp=>.int (mid p))]) (o:=.lst (vs.map λp=>.int (mid p))) (λd=>.tup [d,d]) (λK hK=>⟨vs,hb,l9,hK⟩) (zax _ _) (by show (vs.map _).length≤1000; rw[Vab]; omega) (λx hx S2 K pr hK=>by exact hK) ?_
   refine h _ _ Pre.refl.push.push (by simp) ?_
   have e:(zah (.lst (vs.map λp=>D.int (mid p)))).map (λd=>D.tup [d,d])=(vs.map zaE).map frD:=by
    show (vs.map λp=>D.int (mid p)).map _=_
    rw[Vau]
    rw[Vau]
    rfl
   rw[e]
   exact zax _ _
  ·exact h.elim⟩)
def zxD  (zjJ:Df K mg "sum_of_products" zkH zey)(zb3:Fk P w K mg base 1 "add_spans" zdb zdm)(zcg:Fk P w K mg base 2 "mul_spans" zdq zdA)(zbh:mg "zip"=none):Fk P w K mg base 3 "sum_of_products" zey zfc:=
 zjJ.mk' (zaw (k:=2) zjJ.F zkq (zrH) λcdv A outer s H E hr=>⟨_,(zao (zaA (i:=3) zkq.nd rfl (Or.inl rfl) (zaS (zaa zac (zaa zac zab)))) (zao (zuS (is:=[4,5]) PassesOwn.never rfl zkq.nd (Nms.cons (i:=4) rfl (Or.inl rfl) (by first | exact .inl rfl | exact .inr rfl) (Nms.cons (i:=5) rfl (Or.inl rfl) (by first | exact .inl rfl | exact .inr rfl) Nms.nil)) rfl rfl zbh Boot.«zip» (zaa (dv 0) (zaa (dv 1) zab)) (zai (zaA (i:=3) zkq.nd rfl (Or.inl rfl) (zan zb3 hr (zaa (dv 3) (zaa (zan zcg hr (zaa (dv 4) (zaa (dv 5) (zaa (dv 2) zab)))) zab)))))) (zai (zas (dv 3))))),λds S Q ex h=>by
  unfold zfc at h
  split at h
  ·rename_i a b g
   obtain⟨us,vs,ha,hb,l6,z1,z2,hg,h⟩:=h
   have sg:Sz 21 g:=Sz.of 1000000 (by omega)
   refine zs9 (n:=a) (n':=b) (xs:=us.map frD) (ys:=vs.map frD) (S:=S) (λk dl'=>∃u1 u2:Option D,dl'=[some (.ref a),some (.ref b),some (.int g),some (frD (sumP g (us.take k) (vs.take k))),u1,u2]) (λK hK=>by exact hK) ha hb ⟨_,_,rfl⟩ ?_ ?_
   ·rintro k x y dl' nx ct hx hy ⟨u1,u2,rfl⟩ hn
    rw[Vaf] at hx hy
    obtain⟨p,hp,rfl⟩:=Vaj.mp hx
    obtain⟨r,hr,rfl⟩:=Vaj.mp hy
    have zp:=z1 _ (Vag hp)
    have zr:=z2 _ (Vag hr)
    refine⟨⟨⟨zaM zp.1 zr.1,zaM zp.1 zr.2,zaM zp.2 zr.1,zaM zp.2 zr.2⟩,sg.fd (by omega)⟩,λmn mx hc=>?_⟩
    obtain⟨rfl,rfl⟩:=hc.eq
    refine hn _ ⟨some (frD p),some (frD r),?_⟩
    rw[zhe g us vs k hp hr]
    rfl
   ·rintro dl' ⟨u1,u2,rfl⟩
    rw[Vab,Vab,zow]
    exact h
  ·exact h.elim⟩)
def ztE  (zmt:Df K mg "lacking" zg0 zhr)(zcj:Fk P w K mg base 1 "take_spans" zdZ zdX)(zes:Fk P w K mg base 3 "sum_of_products" zey zfc):Fk P w K mg base 4 "lacking" zhr zhc:=
 zmt.mk' (zb0 (zaw (k:=3) zmt.F zmT (zbY (zrl)) λcdv A outer s H E hr=>⟨_,(zao (zaA (i:=5) zmT.nd rfl (Or.inl rfl) (znm (zaP (zbb hr) (dv 0) (dv 1) (zaJ _)) (zaS (zaa (dv 4) (zaa (dv 4) zab))) (zaS (zaa zac (zaa zac zab))))) (zao (zlf (x:="slant") (N:=["column"]) (caps:=[1]) (ar:=zam zg0) rfl rfl csc rfl (by decide) (i:=6) zmT.nd rfl rfl (dv 3) (λ_ _ _ _ _ _=>zbW) (λ_ _ _ _ _ _=>(zaL (dv 0) (dv 1) (λ_ _=>rfl)))) (zai (zas (zan zcj hr (zaa (dv 5) (zaa (zan zes hr (zaa (dv 2) (zaa (dv 6) (zaa (dv 4) zab)))) zab))))))),λds S Q ex h=>by
  obtain⟨Q0,ex0,rfl,rfl,h⟩:=h
  unfold zhc at h
  split at h
  ·rename_i k c t s g
   obtain⟨q,kn,cn,ts,R,ds,rfl,rfl,ht,hs,rows,zr,hc,l6,r6,z1,hg,h⟩:=h
   have tail:∀whole:Int×Int,whole=(if kn=cn then (g,g) else (0,0))→∀K:DK,K (frD (zbA g kn cn ts R)) (S++[.lst ((R.map λr=>r.getD cn (0,0)).map frD)])→True:=λ_ _ _ _=>trivial
   have col:∀(k:Nat) (r:List (Int×Int)),R[k]?=some r→atI (r.map frD) ((cn:Nat):Int)=some (frD (r.getD cn (0,0))):=λk r hr=>by
    have hl:=(zr r (Vag hr)).1
    have z:=zbd (vs:=r) (i:=((cn:Nat):Int)) ⟨by omega,by rw[hl]; omega⟩
    rw[z]
    have e:gt r ((cn:Nat):Int)=r.getD cn (0,0):=by
     have ll:cn<r.length:=by rw[hl]; exact hc
     unfold gt
     rw[Vam]
     simp[ll]
    rw[e]
   have bd:Bd 20000 (R.map λr=>r.getD cn (0,0)):=λp hp=>by
    obtain⟨r,hr,er⟩:=Vah.mp hp
    subst er
    obtain⟨hl,b⟩:=zr r hr
    have ll:cn<r.length:=by rw[hl]; exact hc
    have e:r.getD cn (0,0)=r[cn]:=by simp[ll]
    rw[e]
    exact⟨(b _ (VaB ll)).1.mono (by decide),(b _ (VaB ll)).2.mono (by decide)⟩
   have zbj:∀whole:Int×Int,whole=(if kn=cn then (g,g) else (0,0))→Gc S Q0 (.tup [.int (whole.1-(sumP g ts (R.map λr=>r.getD cn (0,0))).2),.int (whole.2-(sumP g ts (R.map λr=>r.getD cn (0,0))).1)]) (S++[.lst ((R.map λr=>r.getD cn (0,0)).map frD)]):=λwhole e=>by
    subst e
    exact⟨Pre.refl.push,zfe,h⟩
   refine ifD (λe=>?_) (λe=>?_)
   ·refine zqC (n:=s) (S1:=S) (o:=.lst ds) (λk d=>∃r,R[k]?=some r∧d=frD (r.getD cn (0,0))) (λK hK=>by exact hK) hs (by show ds.length≤1000; rw[rows.1]; omega) (λk x hx S2 K pr hK=>?_) (λxs lx hx=>?_)
    ·have hx':ds[k]?=some x:=hx
     have hk:k<R.length:=by
      have:=(Vad.mp hx').1
      rw[rows.1] at this
      exact this
     obtain⟨a,rfl,_,ha⟩:=rows.2 k x _ hx' (Vac hk)
     refine zaI (o:=.lst _) (pr _ _ ha) (col k _ (Vac hk)) ?_
     exact hK _ ⟨_,Vac hk,rfl⟩
    ·have e2:xs=(R.map λr=>r.getD cn (0,0)).map frD:=by
      refine Vbj λk=>?_
      by_cases hk:k<xs.length
      ·obtain⟨r,hr,e⟩:=hx k _ (Vac hk)
       rw[Vac hk,Vaf,Vaf,hr,e]
       rfl
      ·have lx':xs.length=R.length:=by rw[lx]; exact rows.1
       rw[VaP (by omega),VaP (by simp; omega)]
     subst e2
     refine⟨ts,_,zaz ht,zax _ _,l6,z1,bd,hg,?_⟩
     exact zbj (g,g) (by rw[if_pos (by omega)])
   ·refine zqC (n:=s) (S1:=S) (o:=.lst ds) (λk d=>∃r,R[k]?=some r∧d=frD (r.getD cn (0,0))) (λK hK=>by exact hK) hs (by show ds.length≤1000; rw[rows.1]; omega) (λk x hx S2 K pr hK=>?_) (λxs lx hx=>?_)
    ·have hx':ds[k]?=some x:=hx
     have hk:k<R.length:=by
      have:=(Vad.mp hx').1
      rw[rows.1] at this
      exact this
     obtain⟨a,rfl,_,ha⟩:=rows.2 k x _ hx' (Vac hk)
     refine zaI (o:=.lst _) (pr _ _ ha) (col k _ (Vac hk)) ?_
     exact hK _ ⟨_,Vac hk,rfl⟩
    ·have e2:xs=(R.map λr=>r.getD cn (0,0)).map frD:=by
      refine Vbj λk=>?_
      by_cases hk:k<xs.length
      ·obtain⟨r,hr,e⟩:=hx k _ (Vac hk)
       rw[Vac hk,Vaf,Vaf,hr,e]
       rfl
      ·have lx':xs.length=R.length:=by rw[lx]; exact rows.1
       rw[VaP (by omega),VaP (by simp; omega)]
     subst e2
     refine⟨ts,_,zaz ht,zax _ _,l6,z1,bd,hg,?_⟩
     exact zbj (0,0) (by rw[if_neg (by omega)])
  ·exact h.elim⟩))
def ztQ  (zjM:Df K mg "span_by" zet zie)(zb3:Fk P w K mg base 1 "add_spans" zdb zdm)(zes:Fk P w K mg base 3 "sum_of_products" zey zfc)(zcj:Fk P w K mg base 1 "take_spans" zdZ zdX)(zoE:Fk P w K mg base 4 "lacking" zhr zhc)(zfB:Fk P w K mg base 3 "box_of_middles" zfL zfG)(zbh:mg "zip"=none)(zaX:mg "range"=none)(zaB:mg "len"=none):Fk P w K mg base 5 "span_by" zie zgn:=
 zjM.mk' (zb0 (zaw (k:=4) zjM.F zeW (zbY (ztJ)) λcdv A outer s H E hr=>⟨_,(zao (zaA (i:=6) zeW.nd rfl (Or.inr rfl) (zcS (x:="entry") (N:=[]) (caps:=[]) (ar:=zam zet) rfl rfl csc rfl (by decide) (dv 3) (λ_ _ _ _ _ _=>zbW) (λ_ _ _ _ _ _=>(zaS (zaa (dv 0) (zaa (dv 0) zab)))))) (zao (zaA (i:=7) zeW.nd rfl (Or.inl rfl) (zan zfB hr (zaa (dv 1) zab))) (zao (zaA (i:=8) zeW.nd rfl (Or.inl rfl) (zan zcj hr (zaa (zaL (dv 7) (dv 0) (λ_ _=>rfl)) (zaa (zan zes hr (zaa (dv 6) (zaa (dv 4) (zaa (dv 2) zab)))) zab)))) (zao (zuc (x:="column") (N:=["k","turns","slants","grid"]) (caps:=[0,6,5,2]) (ar:=zam zet) rfl rfl csc rfl (by decide) (i:=9) zeW.nd rfl rfl rfl zaX (zaa (zaT (zaV zbo) rfl zaB Boot.«len» (zaa (dv 1) zab)) zab) (λ_ _ _ _ _ _=>zbW) (λ_ _ _ _ _ _=>(zan zoE hr (zaa (dv 1) (zaa (dv 0) (zaa (dv 2) (zaa (dv 3) (zaa (dv 4) zab)))))))) (zao (zvo (x1:="span") (x2:="centre") (N:=[]) (caps:=[]) (ar:=zam zet) rfl rfl zcM rfl rfl rfl (by decide) (i:=10) zeW.nd rfl rfl rfl zbh Boot.«zip» (zaa (dv 1) (zaa (dv 7) zab)) (λ_ _ _ _ _ _=>(zan zcj hr (zaa (dv 0) (zaa (dv 1) zab))))) (zai (zas (zan zb3 hr (zaa (dv 8) (zaa (zan zes hr (zaa (dv 9) (zaa (dv 10) (zaa (dv 2) zab)))) zab)))))))))),λds S Q ex h=>by
  obtain⟨Q0,ex0,rfl,rfl,h⟩:=h
  unfold zgn at h
  split at h
  ·rename_i ki b g e t s
   obtain⟨k,box,thin,es,R,ds,rfl,hk,he,e4,ze,hb,ht,hs,rows,zr,bl,r4,t4,zb,zt,hg,h⟩:=h
   have bdE:Bd 20000 (es.map λx=>(x,x)):=λp hp=>by
    obtain⟨x,hx,rfl⟩:=Vah.mp hp
    exact⟨(ze x hx).mono (by decide),(ze x hx).mono (by decide)⟩
   have bdT:Bd 20000 thin:=λp hp=>⟨(zt p hp).1.mono (by decide),(zt p hp).2.mono (by decide)⟩
   have lE:(es.map λx=>(x,x)).length≤60:=by rw[Vab]; omega
   refine zc5 (n:=e) (S1:=S) (o:=.lst (es.map D.int)) (λd=>.tup [d,d]) (λK hK=>by exact hK) he (by show (es.map D.int).length≤1000; rw[Vab]; omega) (λx hx S2 K pr hK=>by exact hK) ?_
   have eE:(zah (.lst (es.map D.int))).map (λd=>D.tup [d,d])=(es.map λx=>(x,x)).map frD:=by
    show (es.map D.int).map _=_
    rw[Vau]
    rw[Vau]
    rfl
   rw[eE]
   have T0:=zax S (.lst ((es.map λx=>(x,x)).map frD))
   refine⟨box,zaz hb,by omega,λT m pr lm hm=>?_⟩
   have P0:Pre S T:=λx o z=>pr _ _ (zaz z)
   have hT:=pr _ _ T0
   have kc:inR (((box.map zaE).length:Nat):Int) (k:Int):=⟨by omega,by rw[Vab]; omega⟩
   have ec:gt (box.map zaE) (k:Int)=zaE (gt box k):=by
    unfold gt
    rw[Vam]
    simp[hk]
   have ac:=zbd kc
   rw[ec] at ac
   refine zaI (o:=.lst ((box.map zaE).map frD)) hm ac ?_
   refine⟨_,thin,hT,P0 _ _ ht,lE,bdE,bdT,hg,?_⟩
   have lk:∀c:Nat,c<box.length→∀(S2:Sto) (K:DK),Pre T S2→K (frD (zbA g k c (es.map λx=>(x,x)) R)) S2→∃(q kn cn:Nat) (ts:List (Int×Int)) (R':List (List (Int×Int))) (ds':List D),((k:Nat):Int)=(kn:Nat)∧((c:Nat):Int)=(cn:Nat)∧S2[S.length]?=some (.lst (ts.map frD))∧S2[s]?=some (.lst ds')∧zaF S2 0 ds' R'∧(∀r∈R',r.length=q∧Bd 2000 r)∧cn<q∧ts.length≤60∧R'.length≤60∧Bd 20000 ts∧(1≤g∧g≤1000000)∧K (frD (zbA g kn cn ts R')) S2:=λc hc S2 K p2 hK=>⟨box.length,k,c,_,R,ds,rfl,rfl,p2 _ _ hT,p2 _ _ (P0 _ _ hs),rows.pre λx o z=>p2 _ _ (P0 _ _ z),zr,hc,lE,by omega,bdE,hg,hK⟩
   refine zmV (j:=((box.length:Nat):Int)) (S1:=T) (λc=>frD (zbA g k c (es.map λx=>(x,x)) R)) (λK hK=>by
    refine zbC (P0 _ _ hb) ?_
    rw[Vab]
    exact hK) ⟨by omega,by omega⟩ (λc hc S2 K p2 hK=>lk c (by omega) S2 K p2 hK) ?_
   rw[Vam]
   have eL:((List.range box.length).map λc=>frD (zbA g k c (es.map λx=>(x,x)) R))=((List.range box.length).map λc=>zbA g k c (es.map λx=>(x,x)) R).map frD:=by
    rw[Vau]
    rfl
   rw[eL]
   have T1:=zax T (.lst (((List.range box.length).map λc=>zbA g k c (es.map λx=>(x,x)) R).map frD))
   refine zgy (n:=b) (n':=m) (S1:=T++[.lst (((List.range box.length).map λc=>zbA g k c (es.map λx=>(x,x)) R).map frD)]) (xs:=box.map frD) (ys:=(box.map zaE).map frD) (λx y=>match x,y with | .tup [.int a,.int b],.tup [.int c,.int d]=>.tup [.int (a-d),.int (b-c)] | _,_=>.non) (λK hK=>by exact hK) (zaz (P0 _ _ hb)) (zaz hm) (by rw[Vab]; omega) (λj x y hx hy S2 K p2 hK=>?_) ?_
   ·rw[Vaf] at hx hy
    obtain⟨p,hp,rfl⟩:=Vaj.mp hx
    obtain⟨r,hr,rfl⟩:=Vaj.mp hy
    exact hK
   have eW:List.zipWith (λx y=>match x,y with | .tup [.int a,.int b],.tup [.int c,.int d]=>.tup [.int (a-d),.int (b-c)] | _,_=>.non) (box.map frD) ((box.map zaE).map frD)=(box.map λp=>zbp p (zaE p)).map frD:=by
    rw[Vau,List.zipWith_map,Vau,List.zipWith_self]
    rfl
   rw[eW]
   have zm:Bd 62 (box.map λp=>zbp p (zaE p)):=λp hp=>by
    obtain⟨x,hx,rfl⟩:=Vah.mp hp
    have z:=zb x hx
    have zmid:=zoy z.1 z.2
    exact(zqm (B:=60) (C:=61) z ⟨zmid,zmid⟩).imp (λz=>z.mono (by decide)) (λz=>z.mono (by decide))
   have zl:Bd 20000 ((List.range box.length).map λc=>zbA g k c (es.map λx=>(x,x)) R):=λp hp=>by
    obtain⟨c,hc,rfl⟩:=Vah.mp hp
    have hc':=Va6.mp hc
    have bR:Bd 2000 (R.map λr=>r.getD c (0,0)):=λp hp=>by
     obtain⟨r,hr,er⟩:=Vah.mp hp
     subst er
     obtain⟨hl,b⟩:=zr r hr
     have ll:c<r.length:=by rw[hl]; exact hc'
     have e:r.getD c (0,0)=r[c]:=by simp[ll]
     rw[e]
     exact b _ (VaB ll)
    have bE:Bd 4000 (es.map λx=>(x,x)):=λp hp=>by
     obtain⟨x,hx,rfl⟩:=Vah.mp hp
     exact⟨ze x hx,ze x hx⟩
    have z:=zrF hg.1 bE bR lE
    have sg:Sz 21 g:=Sz.of 1000000 (by omega)
    unfold zbA
    have w:Sz 21 (if k=c then (g,g) else (0,0)).1∧Sz 21 (if k=c then (g,g) else (0,0)).2:=by
     split
     ·exact⟨sg,sg⟩
     ·exact⟨VaN (by decide),VaN (by decide)⟩
    exact(zqm w z).imp (λz=>z.mono (by decide)) (λz=>z.mono (by decide))
   refine⟨_,_,zaz T1,zax _ _,by rw[Vab,Vbc]; omega,zl,λp hp=>⟨(zm p hp).1.mono (by decide),(zm p hp).2.mono (by decide)⟩,hg,?_⟩
   exact⟨λx o z=>zaz (zaz (P0 _ _ z)),zfe,h⟩
  ·exact h.elim⟩))
def zxY  (zlz:Df K mg "step_by" zgz zh0)(zm6:Fk P w K mg base 5 "span_by" zie zgn)(zbg:mg "enumerate"=none):Fk P w K mg base 6 "step_by" zh0 zf0:=
 zlz.mk' (zaw (k:=5) zlz.F zst (zyz) λcdv A outer s H E hr=>⟨_,(zai (zas (ze8 (x1:="k") (x2:="entries") (N:=["box","grid","thin","slants"]) (caps:=[0,1,3,4]) (ar:=zam zgz) rfl rfl zcM rfl rfl rfl (by decide) rfl zbg Boot.«enumerate» (zaa (dv 2) zab) (λ_ _ _ _ _ _=>(zan zm6 hr (zaa (dv 0) (zaa (dv 2) (zaa (dv 3) (zaa (dv 1) (zaa (dv 4) (zaa (dv 5) zab))))))))))),λds S Q ex h=>by
  unfold zf0 at h
  split at h
  ·rename_i b g u t s
   obtain⟨box,thin,M,ms,R,ds,hu,mi,lM,zM,hb,ht,hs,rows,zr,bl,r4,t4,zb,zt,hg,h⟩:=h
   refine zgD (n:=u) (S1:=S) (xs:=ms) (λk d=>frD (za9 g box thin R k (M.getD k []))) (λK hK=>by exact hK) hu (by rw[mi.1]; omega) (λk x hx S2 K pr hK=>?_) ?_
   ·have hk:k<M.length:=by
     have:=(Vad.mp hx).1
     rw[mi.1] at this
     exact this
    obtain⟨a,rfl,ha⟩:=mi.2 k x _ hx (Vac hk)
    have eM:M.getD k []=M[k]:=by simp[hk]
    rw[eM] at hK
    have z:=zM _ (VaB hk)
    exact⟨k,box,thin,M[k],R,ds,rfl,by omega,pr _ _ ha,z.1,z.2,pr _ _ hb,pr _ _ ht,pr _ _ hs,rows.pre pr,zr,bl,r4,t4,zb,zt,hg,hK⟩
   ·have e:(ms.mapIdx λk d=>frD (za9 g box thin R k (M.getD k [])))=(M.mapIdx λk es=>za9 g box thin R k es).map frD:=by
     refine Vbj λk=>?_
     rw[List.getElem?_mapIdx,Vaf,List.getElem?_mapIdx]
     by_cases hk:k<M.length
     ·rw[Vac (show k<ms.length by rw[mi.1]; exact hk),Vac hk]
      simp[hk]
     ·rw[VaP (by rw[mi.1]; omega),VaP (show M.length≤k by omega)]
      rfl
    rw[e]
    exact h
  ·exact h.elim⟩)
def zvK  (zjH:Df K mg "thin_worths" zms zhx)(zfg:Fk P w K mg base 1 "picked" zeD zeC)(zda:Fk P w K mg base 4 "worths" zd7 zd1)(zfB:Fk P w K mg base 3 "box_of_middles" zfL zfG):Fk P w K mg base 5 "thin_worths" zhx zhM:=
 zjH.mk' (zaw (k:=4) zjH.F zyl (ztP) λcdv A outer s H E hr=>⟨_,(zai (zas (zan zfg hr (zaa (zan zda hr (zaa (dv 0) (zaa (zan zfB hr (zaa (dv 2) zab)) (zaa (dv 3) zab)))) (zaa (dv 1) zab))))),λds S Q ex h=>by
  unfold zhM at h
  split at h
  ·rename_i a p b g
   obtain⟨ns,ws,bs,is,ha,hb,net,sb,hg,l7,b9,hp,i9,hi,h⟩:=h
   refine⟨bs,hb,b9,λT m pr lm hm=>?_⟩
   refine⟨ns,ws,bs.map zaE,pr _ _ ha,hm,by rw[Vab]; exact net,zmR sb,hg,l7,λT1 m1 pr1 lm1 h1=>?_⟩
   refine⟨_,is,h1,pr1 _ _ (pr _ _ hp),i9,λi him=>by rw[Vab,zcf]; exact hi i him,?_⟩
   have e:(is.map λi=>((zar (bs.map zaE) g ns).map frD).getD i .non)=(is.map λ(i:Nat)=>gt (zar (bs.map zaE) g ns) i).map frD:=by
    rw[Vau]
    refine List.map_congr_left λi him=>?_
    have hl:i<(zar (bs.map zaE) g ns).length:=by rw[zcf]; exact hi i him
    show _=frD (gt (zar (bs.map zaE) g ns) (i:Int))
    unfold gt
    rw[Vam]
    simp[hl]
   rw[e]
   refine h _ _ (λx o z=>zaz (pr1 _ _ (pr _ _ z))) ?_ (zax _ _)
   have:=zfI pr
   have:=zfI pr1
   omega
  ·exact h.elim⟩)
def zyp  (zkO:Df K mg "deep" zlx zgs):Fk P w K mg base 1 "deep" zgs zgW:=
 zkO.mk' (zaw (k:=0) zkO.F zvq (zxv) λcdv A outer s H E hr=>⟨_,(zai (zas (zeo (zdS zdF (zat (dv 1) zac (λ_ _=>rfl)) (zat (dv 0) zac (λ_ _=>rfl)) (zaJ _)) (zfZ (zdS zdF (zat (dv 0) zac (λ_ _=>rfl)) (zat (dv 1) zac (λ_ _=>rfl)) (zaJ _)))))),λds S Q ex h=>by
  unfold zgW at h
  split at h
  ·refine ifD (λe=>?_) (λe=>?_)
   ·rw[decide_eq_true e,Bool.true_and] at h
    exact h
   ·rw[decide_eq_false e,Bool.false_and] at h
    exact h
  ·exact h.elim⟩)
def zux  (zlW:Df K mg "all_deep" ziq zhV)(znI:Fk P w K mg base 1 "deep" zgs zgW)(zcF:mg "all"=none)(zbh:mg "zip"=none):Fk P w K mg base 2 "all_deep" zhV zg7:=
 zlW.mk' (zb0 (zaw (k:=1) zlW.F zxq (zbY (zrS)) λcdv A outer s H E hr=>⟨_,(zai (zas (zaT (zaV (zpS rfl)) rfl zcF Boot.«all» (zaa (zk0 (x1:="new") (x2:="old") (N:=[]) (caps:=[]) (ar:=zam ziq) rfl rfl zcM rfl rfl rfl (by decide) rfl zbh Boot.«zip» (zaa (dv 0) (zaa (dv 1) zab)) (λ_ _ _ _ _ _=>(zan znI hr (zaa (dv 0) (zaa (dv 1) zab))))) zab)))),λds S Q ex h=>by
  obtain⟨Q0,ex0,rfl,rfl,h⟩:=h
  unfold zg7 at h
  split at h
  ·rename_i m n
   obtain⟨us,vs,h1,h2,hl,h⟩:=h
   refine zgy (n:=m) (n':=n) (S1:=S) (xs:=us.map frD) (ys:=vs.map frD) (λx y=>match x,y with | .tup [.int a,.int b],.tup [.int c,.int d]=>.bl (decide (c<a)&&decide (b<d)) | _,_=>.non) (λK hK=>by exact hK) h1 h2 (by rw[Vab]; exact hl) (λk x y hx hy S2 K pr hK=>?_) ?_
   ·obtain⟨p,_,rfl⟩:=Vah.mp (Vag hx)
    obtain⟨q,_,rfl⟩:=Vah.mp (Vag hy)
    exact hK
   ·refine zqT (n:=S.length) (o:=.lst _) (bs:=List.zipWith zex us vs) (zax _ _) (ztR us vs) ?_
    exact⟨Pre.refl.push,.bl _,h⟩
  ·exact h.elim⟩))
def zsx  (ziV:Df K mg "sure" zjW zh5):Fk P w K mg base 1 "sure" zh5 zig:=
 ziV.mk' (zaw (k:=0) ziV.F zrX (zwn) λcdv A outer s H E hr=>⟨_,(zao (zaR (zaP (zbb hr) (dv 0) zbr (zaJ _)) (zai (zas (zeo (zdS (zbb hr) (zat (dv 1) zac (λ_ _=>rfl)) zac (zaJ _)) (zfZ (zdS (zbb hr) (zat (dv 1) zac (λ_ _=>rfl)) zac (zaJ _)))))) zaW) (zai (zas (zdS do_ge (zat (dv 1) zac (λ_ _=>rfl)) zac (zaJ _))))),λds S Q ex h=>by
  unfold zig at h
  split at h
  ·rcases h with ⟨rfl,h⟩ | ⟨rfl,h⟩
   ·refine ifD (λc=>?_) (λc=>?_)
    ·rw[decide_eq_true c,Bool.true_and] at h
     exact h
    ·rw[decide_eq_false c,Bool.false_and] at h
     exact h
   ·exact h
  ·exact h.elim⟩)
def zsy  (ziB:Df K mg "leasts_are_sure" zgx zgj)(zoF:Fk P w K mg base 1 "sure" zh5 zig)(zcF:mg "all"=none):Fk P w K mg base 2 "leasts_are_sure" zgj zhL:=
 ziB.mk' (zb0 (zaw (k:=1) ziB.F ztu (zbY (zsG)) λcdv A outer s H E hr=>⟨_,(zai (zas (zaT (zaV (zpS rfl)) rfl zcF Boot.«all» (zaa (zcS (x:="row") (N:=["spans"]) (caps:=[1]) (ar:=zam zgx) rfl rfl csc rfl (by decide) (dv 0) (λ_ _ _ _ _ _=>zns (zaP (zbb hr) (zat (dv 0) zac (λ_ _=>rfl)) zbr (zaJ _))) (λ_ _ _ _ _ _=>(zan zoF hr (zaa (zat (dv 0) zac (λ_ _=>rfl)) (zaa (zaL (dv 1) (zat (dv 0) zac (λ_ _=>rfl)) (λ_ _=>rfl)) zab))))) zab)))),λds S Q ex h=>by
  obtain⟨Q0,ex0,rfl,rfl,h⟩:=h
  unfold zhL at h
  split at h
  ·rename_i r s
   obtain⟨rows,vs,hr,hs,l9,hi,h⟩:=h
   refine zoU (n:=r) (S1:=S) (o:=.lst (rows.map rwD)) (λd=>match d with | .tup [.str w,.int at']=>if w="least" then some (.bl (decide (0≤(gt vs at').1))) else none | _=>none) (λK hK=>by exact hK) hr (by show (rows.map rwD).length≤1000; rw[Vab]; omega) (λx hx S2 K pr hK=>?_) (λx hx y hy S2 K pr hK=>?_) ?_
   ·have hx':x∈rows.map rwD:=hx
    obtain⟨⟨b,n⟩,_,rfl⟩:=Vah.mp hx'
    cases b
    ·exact hK
    ·exact hK
   ·have hx':x∈rows.map rwD:=hx
    obtain⟨⟨b,n⟩,hm,rfl⟩:=Vah.mp hx'
    cases b
    ·cases hy
     refine zaI (o:=.lst (vs.map frD)) (pr _ _ hs) (zbd (vs:=vs) (i:=(n:Int)) ⟨by omega,by have:=hi _ hm; dsimp only at this; omega⟩) ?_
     exact .inr ⟨rfl,hK⟩
    ·exact absurd hy (by
      simp[rwD]
      intro z
      exact absurd z (by decide))
   ·refine zqT (n:=S.length) (o:=.lst _) (zax _ _) (zoA vs rows) ?_
    rw[← zoX vs rows] at h
    exact⟨Pre.refl.push,.bl _,h⟩
  ·exact h.elim⟩))
def zts  (zkk:Df K mg "alone" zhw zgV)(zos:Fk P w K mg base 2 "all_deep" zhV zg7)(znP:Fk P w K mg base 6 "step_by" zh0 zf0)(zno:Fk P w K mg base 5 "thin_worths" zhx zhM)(zoN:Fk P w K mg base 11 "inverse" zgt ziy)(zfO:Fk P w K mg base 2 "middles" ze4 ze1)(zn2:Fk P w K mg base 6 "slopes_at" zg3 zgF)(zn7:Fk P w K mg base 2 "leasts_are_sure" zgj zhL)(zda:Fk P w K mg base 4 "worths" zd7 zd1)(znh:Fk P w K mg base 1 "equation_places" zik zio)(zaB:mg "len"=none):Fk P w K mg base 12 "alone" zgV zhm:=
 zkk.mk' (zaw (k:=11) zkk.F zgH (zrR) λcdv A outer s H E hr=>⟨_,(zao (zaA (i:=4) zgH.nd rfl (Or.inl rfl) (zan znh hr (zaa (dv 1) zab))) (zao (zaR (PDW.pt (ze2 (zaP (zgg hr) (zaT (zaV zbo) rfl zaB Boot.«len» (zaa (dv 4) zab)) (zaT (zaV zbo) rfl zaB Boot.«len» (zaa (dv 2) zab)) (zaJ _)) (zg6 (zcU (zcO (zan zn7 hr (zaa (dv 1) (zaa (zan zda hr (zaa (dv 0) (zaa (dv 2) (zaa (dv 3) zab)))) zab)))))))) (zai (zas zdV)) zaW) (zao (zaA (i:=5) zgH.nd rfl (Or.inl rfl) (zan zn2 hr (zaa (dv 0) (zaa (dv 4) (zaa (dv 2) (zaa (dv 3) zab)))))) (zao (zaA (i:=6) zgH.nd rfl (Or.inl rfl) (zan zoN hr (zaa (zcS (x:="slant") (N:=[]) (caps:=[]) (ar:=zam zhw) rfl rfl csc rfl (by decide) (dv 5) (λ_ _ _ _ _ _=>zbW) (λ_ _ _ _ _ _=>(zan zfO hr (zaa (dv 0) zab)))) (zaa (dv 3) zab)))) (zao (zaR (zaP zot (dv 6) zdV (zaJ _)) (zai (zas zdV)) zaW) (zao (zaA (i:=7) zgH.nd rfl (Or.inl rfl) (zan znP hr (zaa (dv 2) (zaa (dv 3) (zaa (dv 6) (zaa (zan zno hr (zaa (dv 0) (zaa (dv 4) (zaa (dv 2) (zaa (dv 3) zab))))) (zaa (dv 5) zab))))))) (zao (zaR (zcU (zcO (zan zos hr (zaa (dv 7) (zaa (dv 2) zab))))) (zai (zas zdV)) zaW) (zai (zas (zaS (zaa (dv 6) (zaa (dv 7) zab)))))))))))),λds S Q ex h=>by
  unfold zhm at h
  split at h
  ·rename_i a r b g
   obtain⟨ns,ws,bs,rows,ha,hb,net,sb,hg,l7,b9,hr,r9,hi,bl,hN,hY⟩:=h
   have hi':∀i∈eqs rows,i<ns.length:=λi him=>hi _ (ztZ him)
   refine⟨rows,hr,r9,?_⟩
   have P0:Pre S (S++[Ob.lst ((eqs rows).map wtD)]):=Pre.refl.push
   have hp:=zax S (.lst ((eqs rows).map wtD))
   refine zbC hp ?_
   refine zbC (P0 _ _ hb) ?_
   rw[Vab,Vab]
   refine ifN (λc=>?_) (λc=>?_)
   ·refine zbD ?_
    exact hN (by unfold alS; rw[if_neg (λz=>c (by rw[z.1]))]) _ P0
   have lq:(eqs rows).length=bs.length:=by omega
   refine⟨ns,ws,bs,P0 _ _ ha,P0 _ _ hb,net,sb,hg,l7,λT1 m1 p1 lm1 h1=>?_⟩
   have P1:Pre S T1:=λx o z=>p1 _ _ (P0 _ _ z)
   refine⟨rows,zar bs g ns,P1 _ _ hr,h1,r9,λr hr=>by rw[zcf]; exact hi r hr,?_⟩
   cases eL:zkX rows (zar bs g ns)
   ·refine zbD ?_
    exact hN (by unfold alS; rw[if_neg (λz=>by rw[eL] at z; cases z.2)]) _ P1
   refine zbn ?_
   refine⟨ns,ws,bs,eqs rows,P1 _ _ ha,P1 _ _ hb,net,sb,hg,l7,b9,p1 _ _ hp,by omega,hi',λT2 m2 ds p2 lm2 h2 rowsT=>?_⟩
   have P2:Pre S T2:=λx o z=>p2 _ _ (P1 _ _ z)
   have hp2:=p2 _ _ (p1 _ _ hp)
   refine znz (S1:=T2) (n:=m2) (o:=.lst ds) (λk ys S2=>Pre T2 S2∧S2[T2.length]?=some (.lst ys)∧ys.length=k∧Rows S2 (T2.length+1) ys (((zb2 g bs ns rows).take k).map λr=>r.map mid)) (λK hK=>by exact hK) h2 (λk ys S2 w=>⟨w.1 _ _ h2,w.2.1,w.2.2.1⟩) (by show ds.length≤1000; rw[rowsT.1,Vab]; omega) ⟨Pre.refl.push,zax _ _,rfl,by simpa using Rows.nil⟩ (λk x ys S2 K hx w hK=>?_) (λys S2 w=>?_)
   ·obtain⟨y1,y2,y3,y4⟩:=w
    have hx':ds[k]?=some x:=hx
    have hk:k<(zb2 g bs ns rows).length:=by
     have:=(Vad.mp hx').1
     rw[rowsT.1] at this
     exact this
    have hr:=Vac hk
    generalize (zb2 g bs ns rows)[k]=r at hr
    obtain⟨ar,rfl,_,har⟩:=rowsT.2 k x r hx' hr
    have zr':=zor net sb hg hi' r (Vag hr)
    refine⟨r,y1 _ _ har,by rw[zr'.1]; omega,?_⟩
    have lt:=zbX y2
    refine hK _ _ (zaz y2) ⟨zdy (zbf y1 _) (Vaa _),zcI (zaz y2),by simp[y3],?_⟩
    rw[zbV hr,VaW]
    refine Rows.snoc (y4.keep λa o l q=>?_) (by omega) ?_
    ·exact zc1 (zaz q) (by omega)
    ·refine zc1 ?_ (by omega)
     have e:(r.map mid).map D.int=r.map λp=>D.int (mid p):=by rw[Vau]; rfl
     rw[e]
     exact zax _ _
   obtain⟨y1,y2,y3,y4⟩:=w
   have e9:(zb2 g bs ns rows).take (zah (.lst ds)).length=zb2 g bs ns rows:=VaF (by show (zb2 g bs ns rows).length≤ds.length; rw[rowsT.1]; exact Vaa _)
   rw[e9] at y4
   have P3:Pre S S2:=λx o z=>y1 _ _ (P2 _ _ z)
   have hn:bs.length-1+1=bs.length:=by omega
   have sq:Sq (bs.length-1+1) (za3 g bs ns rows):=⟨by unfold za3 zb2; rw[Vab,Vab]; omega,λr hr=>by
    obtain⟨x,hx,rfl⟩:=Vah.mp hr
    rw[Vab,(zor net sb hg hi' x hx).1,hn]⟩
   have bigM:Big (za3 g bs ns rows):=λr hr x hx=>by
    obtain⟨z,hz,rfl⟩:=Vah.mp hr
    obtain⟨p,hp,rfl⟩:=Vah.mp hx
    have z2:=(zo4 net sb hg hi' z hz).2 p hp
    exact(zoy z2.1 z2.2).mono (by decide)
   refine⟨za3 g bs ns rows,bs.length-1,by omega,⟨ys,y2,y4.low (Vak _)⟩,sq,bigM,hg,λdz=>?_,λdz T4 k4 p4 mt=>?_⟩
   ·rw[hn] at dz
    exact hN (by unfold alS; rw[if_pos ⟨lq,eL⟩,if_pos dz]) _ P3
   rw[hn] at dz mt
   have P4:Pre S T4:=λx o z=>p4 _ _ (P3 _ _ z)
   obtain⟨tds,ht,rowsM⟩:=mt
   refine⟨ns,ws,bs,eqs rows,P4 _ _ ha,P4 _ _ hb,net,sb,hg,l7,b9,p4 _ _ (y1 _ _ hp2),by omega,hi',λT5 m5 p5 lm5 h5=>?_⟩
   have P5:Pre S T5:=λx o z=>p5 _ _ (P4 _ _ z)
   have lI:=zqF (za3 g bs ns rows) (bs.length-1) (zaG bs.length (za3 g bs ns rows)) g
   refine⟨bs,zd9 g bs ns rows,zbL (za3 g bs ns rows) (bs.length-1) (zaG bs.length (za3 g bs ns rows)) g,tds,zb2 g bs ns rows,ds,p5 _ _ ht,rowsM.toI.pre p5,by omega,λr hr=>⟨by have:=zqj r hr; omega,zuX sq bigM (by omega) dz hg r hr⟩,P5 _ _ hb,h5,p5 _ _ (p4 _ _ (y1 _ _ h2)),rowsT.pre λx o z=>p5 _ _ (p4 _ _ (y1 _ _ z)),zor net sb hg hi',bl,by unfold zb2; rw[Vab]; omega,by unfold zd9; rw[Vab]; omega,λp hp=>⟨(sb p hp).2.1.mono (by decide),(sb p hp).2.2.mono (by decide)⟩,ztg net sb hg hi',hg,?_⟩
   refine⟨zcY g bs ns rows (zbL (za3 g bs ns rows) (bs.length-1) (zaG bs.length (za3 g bs ns rows)) g),bs,zax _ _,zaz (P5 _ _ hb),by unfold zcY; rw[List.length_mapIdx]; omega,?_⟩
   cases eD:zhG (zcY g bs ns rows (zbL (za3 g bs ns rows) (bs.length-1) (zaG bs.length (za3 g bs ns rows)) g)) bs
   ·refine zbD ?_
    exact hN (by unfold alS; rw[if_pos ⟨lq,eL⟩,if_neg dz,if_neg (by rw[eD]; decide)]) _ (zbf P5 _)
   refine zbn ?_
   have:=zfI P5
   exact hY (zbL (za3 g bs ns rows) (bs.length-1) (zaG bs.length (za3 g bs ns rows)) g) (zcY g bs ns rows (zbL (za3 g bs ns rows) (bs.length-1) (zaG bs.length (za3 g bs ns rows)) g)) (by unfold alS; rw[if_pos ⟨lq,eL⟩,if_neg dz,if_pos eD]) _ _ _ _ (zbf P5 _) (zaz (p5 _ _ ht)) ((rowsM.toI.pre p5).pre (zbf Pre.refl _)) (zax _ _) this
  ·exact h.elim⟩)
def zuM  (zmq:Df K mg "_law_numbers" zi9 zfv)(zbi:Fk P w K mg base 1 "_law_cell" zdl zc6)(zaX:mg "range"=none):Fk P w K mg base 2 "_law_numbers" zfv zfr:=
 zmq.mk' (zaw (k:=1) zmq.F zeT (zsQ) λcdv A outer s H E hr=>⟨_,(zao (zaA (i:=5) zeT.nd rfl (Or.inl rfl) (zbI zab)) (zao (zgP (i:=6) PassesOwn.never rfl zeT.nd rfl (Or.inl rfl) rfl zaX (zaa (dv 2) zab) (zao (zaA (i:=7) zeT.nd rfl (Or.inl rfl) (zan zbi hr (zaa (dv 0) (zaa (zaq zbm (dv 1) (dv 6)) zab)))) (zao (zaA (i:=8) zeT.nd rfl (Or.inl rfl) (zaq zcB (zaq zbF (zaq zdM (dv 7) zac) zac) zac)) (zao (zaR (PDW.pt (zsR (zaP (zbb hr) (zaq zbF (dv 7) zac) zac (zaJ _)) (zwZ (zsj (dv 5))))) (zai (zaA (i:=8) zeT.nd rfl (Or.inl rfl) (zaq zcB (zaq zbm (zaq zdh (zat (zaL (dv 5) (zl4 zjp zac) (λ_ _=>rfl)) zac (λ_ _=>rfl)) (dv 4)) (zaq zbF (zaq zdM (dv 7) zac) zac)) zac))) zaW) (zai (zds (zdO (dv 5) (zaS (zaa (zaq zbm (zaq za2 (dv 8) (dv 4)) (zaq ziZ (zaq zdM (dv 7) zac) (dv 4))) (zaa (zaq za2 (dv 3) (dv 4)) zab)))))))))) (zai (zas (dv 5))))),λds S Q ex h=>by
  unfold zfr at h
  split at h
  ·rename_i sc f mi g parts
   obtain⟨cs,q,hsc,f0,⟨rfl,q4⟩,hg,hp,h⟩:=h
   refine⟨⟨by omega,by omega⟩,λk dl' S'=>k≤q∧Pre S S'∧(∃P:List (Int×Int),S'[S.length]?=some (.lst (P.map frD))∧P.length=k∧∀p∈P,p.2=g*parts∧p.1.natAbs≤20000+40*k)∧∃u1 u2 u3:Option D,dl'=[some (.ref sc),some (.int f),some (.int (q:Nat)),some (.int g),some (.int parts),some (.ref S.length),u1,u2,u3],⟨Vak _,Pre.refl.push,⟨[],zax _ _,rfl,λp hp=>by simp at hp⟩,_,_,_,rfl⟩,?_⟩
   rintro k dl' S' ⟨hk,pr,⟨P,hP,lP,zP⟩,u1,u2,u3,rfl⟩
   rw[Vam]
   refine zdL (λc=>?_) (λc=>?_)
   ·refine⟨cs,pr _ _ hsc,show (0:Int)≤f+(k:Int) by omega,?_⟩
    generalize cs.getD (f+(k:Int)).toNat 0=x
    have xp:=zew (a:=x/3) (b:=parts) (by omega)
    have sz:∀place:Int,place.natAbs≤100000→IntMulOk place parts:=λplace hpl=>zaM (m:=20) (n:=10) (Sz.of 100000 hpl) (Sz.of 8 (by omega))
    have sg:IntMulOk g parts:=zaM (m:=21) (n:=10) (Sz.of 1000000 (by omega)) (Sz.of 8 (by omega))
    have p0:(x/2%4001-2000).natAbs≤2000:=by omega
    have plain:((x/2%4001-2000)*parts+x/3%parts).natAbs≤20000+40*(k+1):=by
     have a:=Vbg (x/2%4001-2000) parts
     have b:(x/2%4001-2000).natAbs*parts.natAbs≤2000*8:=Va5 p0 (by omega)
     omega
    try dsimp only[zfT]
    refine znk (λdl2 S2=>S'=S2∧∃place:Int,place.natAbs≤100000∧(place*parts+x/3%parts).natAbs≤20000+40*(k+1)∧dl2=[some (.ref sc),some (.int f),some (.int (q:Nat)),some (.int g),some (.int parts),some (.ref S.length),some (.int (k:Nat)),some (.int x),some (.int place)]) (λnx hn=>?_) ?_
    ·refine ifD (λe=>?_) (λe=>?_)
     ·refine zwK (n:=S.length) (S1:=S') (λK hK=>by exact hK) hP (λeP=>?_) (λeP=>?_)
      ·refine zbn ?_
       exact hn _ _ ⟨rfl,_,by omega,plain,rfl⟩
      ·refine zbD ?_
       obtain⟨p,hp1,hp2⟩:=zw0 (P:=P) (by intro e; rw[e] at eP; exact eP rfl)
       refine zaI (o:=.lst (P.map frD)) hP hp2 ?_
       refine⟨(Sz.of (n:=30) 8 (show parts.natAbs≤8 by omega)).fd (by omega),?_⟩
       have zp:=(zP p hp1).2
       have d1:=Int.natAbs_ediv_le_natAbs p.1 parts
       have d2:=Int.mul_ediv_add_emod p.1 parts
       have d3:=zew (a:=p.1) (b:=parts) (by omega)
       refine hn _ _ ⟨rfl,p.1/parts+x/2%5-2,by omega,?_,rfl⟩
       have d4:(p.1/parts+x/2%5-2)*parts=parts*(p.1/parts)+(x/2%5-2)*parts:=by grind
       have d5:=Vbg (x/2%5-2) parts
       have d6:(x/2%5-2).natAbs*parts.natAbs≤2*8:=Va5 (by omega) (by omega)
       omega
     ·refine zbn ?_
      exact hn _ _ ⟨rfl,_,by omega,plain,rfl⟩
    rintro dl2 S2 ⟨rfl,place,hpl,hb,rfl⟩
    refine zhq (n:=S.length) (S1:=S') (xs:=P.map frD) (y:=frD (place*parts+x/3%parts,g*parts)) (λK hK=>by exact hK) hP (λK hK=>⟨sz _ hpl,show (0:Int)<parts by omega,sg,hK⟩) (by rw[Vab]; omega) ?_
    exact⟨by omega,zdy pr (Vaa _),⟨P++[(place*parts+x/3%parts,g*parts)],by rw[VaW]; exact zcI hP,by rw[Vav,lP]; rfl,λp hp=>by
      rcases VaQ.mp hp with w | w
      ·have z:=zP p w
       exact⟨z.1,by omega⟩
      ·rw[VaS.mp w]
       exact⟨rfl,hb⟩⟩,_,_,_,rfl⟩
   ·have e:k=q:=by omega
    subst e
    exact h _ _ P pr (Vaa _) hP lP λp hp=>⟨(zP p hp).1,by have:=(zP p hp).2; omega⟩
  ·exact h.elim⟩)
def zyv  (zlQ:Df K mg "_law_at" zll zeu):Fk P w K mg base 1 "_law_at" zeu zeK:=
 zlQ.mk' (zaw (k:=0) zlQ.F ztt (zs0) λcdv A outer s H E hr=>⟨_,(zao (zaR (zaP (zu6 hr) (dv 1) (dv 0) rfl) (zai (zds (zdO (dv 0) (dv 1)))) zaW) (zai (zas (ztW (k:=1) hr (by decide) (dv 0) (zaa (dv 1) zab))))),λds S Q ex h=>by
  unfold zeK at h
  split at h
  ·rename_i a d
   obtain⟨q,v,ns,ws,rfl,ha,l9,net,ok,h16,h⟩:=h
   have fin:∀(T:Sto) (j:Nat) (ns':List Nd) (ws':List Nat),Gr q a 1 S ns ws T ns' ws'→ns'[j]?=some v→Q (.int (j:Int)) T:=λT j ns' ws' gr hj=>by
    refine h T j ns' ws' gr (Vad.mp hj).1 hj ?_ (zrz gr ok hj)
    rw[(gr.net.ok j v hj).2.1]
    exact zw7 gr net ok
   obtain⟨o,e1,e2,e3⟩:=zoW v ns
   refine zw9 (o:=o) ha e2 ?_
   cases o with
   | some j=>
    refine zbn ?_
    refine zpC (n:=a) (v:=v) (ns:=ns) (λK hK=>by exact hK) (λK hK=>by exact hK) ha e1 ?_
    exact fin S j ns ws ((Gr.refl net ha).mono (by decide)) (e3 j rfl)
   | none=>
    refine zbD ?_
    refine zhq (n:=a) (S1:=S) (xs:=ns.map Nd.d) (y:=v.d) (λK hK=>by exact hK) ha (λK hK=>by exact hK) (by rw[Vab]; omega) ?_
    have hm:(S.set a (.lst (ns.map Nd.d++[v.d])))[a]?=some (.lst ((ns++[v]).map Nd.d)):=by
     rw[VaW]
     exact zcI ha
    obtain⟨o2,f1,f2,f3⟩:=zoW v (ns++[v])
    cases o2 with
    | none=>
     obtain⟨k,hk⟩:∃k,(ns++[v])[k]?=some v:=⟨ns.length,by simp⟩
     exact absurd f2 (any_some hk)
    | some j=>
     refine zpC (n:=a) (v:=v) (ns:=ns++[v]) (λK hK=>by exact hK) (λK hK=>by exact hK) hm f1 ?_
     exact fin _ j (ns++[v]) (ws++[v.wt ws]) ⟨net.snoc ok h16,⟨[v],rfl,by simp⟩,⟨_,rfl⟩,hm,by simp,λx o hx e=>zc1 e (Ne.symm hx)⟩ (f3 j rfl)
  ·exact h.elim⟩)
def zsE  (zlK:Df K mg "_law_answers" zlj zij):Fk P w K mg base 1 "_law_answers" zij zf4:=
 zlK.mk' (zaw (k:=0) zlK.F zga (zsl) λcdv A outer s H E hr=>⟨_,(zao (zaA (i:=3) zga.nd rfl (Or.inl rfl) (zbI zab)) (zao (zem (i:=4) PassesOwn.never rfl zga.nd rfl (Or.inl rfl) (dv 0) (zai (zem (i:=5) PassesOwn.never rfl zga.nd rfl (Or.inl rfl) (dv 1) (zao (zaA (i:=6) zga.nd rfl (Or.inl rfl) (zbI (zaa (zaS (zaa (zaq zcB (zat (dv 4) zac (λ_ _=>rfl)) (zaq za2 (dv 2) (zat (dv 5) zac (λ_ _=>rfl)))) (zaa (zat (dv 4) zac (λ_ _=>rfl)) zab))) (zaa (dv 5) zab)))) (zai (zaR (zaP (zqS hr) (dv 6) (dv 3) rfl) (zai (zds (zdO (dv 3) (dv 6)))) zaW)))))) (zai (zas (dv 3))))),λds S Q ex h=>by
  unfold zf4 at h
  split at h
  ·rename_i o t sh
   obtain⟨O,T',ho,ht,⟨o1,o4⟩,⟨t1,t4⟩,hsh,zO,zT,h⟩:=h
   have eO:(zah (Ob.lst (O.map frD))).length=O.length:=by show (O.map frD).length=_; rw[Vab]
   have eT:(zah (Ob.lst (T'.map frD))).length=T'.length:=by show (T'.map frD).length=_; rw[Vab]
   refine zep (n:=o) (o:=.lst (O.map frD)) (λk dl' S'=>Pre S S'∧(∃(ds:List D) (R:List (List (Int×Int))),S'[S.length]?=some (.lst ds)∧zaF S' (S.length+1) ds R∧R.Nodup∧((1≤k→1≤R.length)∧R.length≤4*k)∧∀A∈R,∃x∈O,∃y∈T',A=[(x.1-sh*y.1,x.2),y])∧∃u4 u5 u6:Option D,dl'=[some (.ref o),some (.ref t),some (.int sh),some (.ref S.length),u4,u5,u6]) ⟨Pre.refl.push,⟨[],[],zax _ _,zaF.nil,List.nodup_nil,⟨λe=>by omega,Vak _⟩,λA hA=>by simp at hA⟩,_,_,_,rfl⟩ (λk dl' S' ⟨pr,_⟩=>pr _ _ ho) ?_ ?_
   ·rintro k x dl' S' nx ct ex' ⟨pr,⟨ds,R,hd,rows,nd,⟨r1,r2⟩,hR⟩,u4,u5,u6,rfl⟩ hn
    have hx:(O.map frD)[k]?=some x:=ex'
    rw[Vaf] at hx
    obtain⟨x,hxk,rfl⟩:=Vaj.mp hx
    have hk:=(Vad.mp hxk).1
    have mx:=Vag hxk
    have zx:=zO x mx
    refine zep (n:=t) (o:=.lst (T'.map frD)) (λl dl' S'=>Pre S S'∧(∃(ds:List D) (R:List (List (Int×Int))),S'[S.length]?=some (.lst ds)∧zaF S' (S.length+1) ds R∧R.Nodup∧((1≤l→1≤R.length)∧R.length≤4*k+l)∧∀A∈R,∃x∈O,∃y∈T',A=[(x.1-sh*y.1,x.2),y])∧∃u5 u6:Option D,dl'=[some (.ref o),some (.ref t),some (.int sh),some (.ref S.length),some (frD x),u5,u6]) ⟨pr,⟨ds,R,hd,rows,nd,⟨λe=>by omega,by omega⟩,hR⟩,_,_,rfl⟩ (λk dl' S' ⟨pr,_⟩=>pr _ _ ht) ?_ ?_
    ·rintro l y dl' S' nx ct ey' ⟨pr,⟨ds,R,hd,rows,nd,⟨r1,r2⟩,hR⟩,u5,u6,rfl⟩ hn
     have hy:(T'.map frD)[l]?=some y:=ey'
     rw[Vaf] at hy
     obtain⟨y,hyk,rfl⟩:=Vaj.mp hy
     have hl:=(Vad.mp hyk).1
     have my:=Vag hyk
     have zy:=zT y my
     have lS:=zbX hd
     refine⟨zaM (m:=10) (n:=20) (Sz.of 10 hsh) (Sz.of 30000 zy),?_⟩
     have hm:(S'++[Ob.lst [frD (x.1-sh*y.1,x.2),frD y]])[S'.length]?=some (.lst (([(x.1-sh*y.1,x.2),y]:List (Int×Int)).map frD)):=zax _ _
     have rows':=rows.pre (zbf (Pre.refl (S:=S')) [Ob.lst [frD (x.1-sh*y.1,x.2),frD y]])
     refine zq2 (n:=S.length) (m:=S'.length) (zaz hd) rows' hm (λc=>?_) (λc=>?_)
     ·refine zbn ?_
      refine hn _ _ ⟨zbf pr _,⟨ds,R,zaz hd,rows',nd,⟨λ_=>List.length_pos_iff.mpr (List.ne_nil_of_mem c),by omega⟩,hR⟩,_,_,rfl⟩
     ·refine zbD ?_
      refine zhq (n:=S.length) (S1:=S'++[Ob.lst [frD (x.1-sh*y.1,x.2),frD y]]) (xs:=ds) (y:=.ref S'.length) (λK hK=>by exact hK) (zaz hd) (λK hK=>by exact hK) (by have:=rows.1; omega) ?_
      refine hn _ _ ⟨zdy (zbf pr _) (Vaa _),⟨ds++[.ref S'.length],R++[[(x.1-sh*y.1,x.2),y]],zcI (zaz hd),(rows'.keep λz o' hz e=>zc1 e (by omega)).snoc (by omega) (zc1 hm (by omega)),zpM nd c,⟨λ_=>by simp,by rw[Vav]; show R.length+1≤_; omega⟩,λA hA=>?_⟩,_,_,rfl⟩
      rcases VaQ.mp hA with w | w
      ·exact hR A w
      ·exact⟨x,mx,y,my,VaS.mp w⟩
    ·rintro dl' S' ⟨pr,⟨ds,R,hd,rows,nd,⟨r1,r2⟩,hR⟩,u5,u6,rfl⟩
     rw[eT] at r1 r2
     exact hn _ _ ⟨pr,⟨ds,R,hd,rows,nd,⟨λ_=>r1 t1,by omega⟩,hR⟩,_,_,_,rfl⟩
   ·rintro dl' S' ⟨pr,⟨ds,R,hd,rows,nd,⟨r1,r2⟩,hR⟩,u4,u5,u6,rfl⟩
    rw[eO] at r1 r2
    exact h _ _ ds R pr (Vaa _) hd rows nd ⟨r1 o1,by omega⟩ hR
  ·exact h.elim⟩)
def zx9  (zl2:Df K mg "_law_lowest" zjd zg9)(zdC:mg "abs"=none):Fk P w K mg base 1 "_law_lowest" zg9 zhF:=
 zl2.mk' (zaw (k:=0) zl2.F zi4 (zx5) λcdv A outer s H E hr=>⟨_,(zao (zaA (i:=2) zi4.nd rfl (Or.inl rfl) (zaT zwi rfl zdC Boot.«abs» (zaa (dv 0) zab))) (zao (zaA (i:=3) zi4.nd rfl (Or.inl rfl) (dv 1)) (zao (zs6 PassesOwn.never (zaP (zgg hr) (dv 3) zac (zaJ _)) (zai (zsk (i:=2) (j:=3) rfl zi4.nd rfl rfl (by decide) rfl rfl (zaa (dv 3) (zaa (zaq ziZ (dv 2) (dv 3)) zab))))) (zai (zas (zaS (zaa (zaq zdh (dv 0) (dv 2)) (zaa (zaq zdh (dv 1) (dv 2)) zab)))))))),λds S Q ex h=>by
  unfold zhF at h
  split at h
  ·rename_i T B
   obtain⟨⟨hB,sB⟩,h⟩:=h
   have f:=zv5 (T:=T) (B:=B) (d:=((Int.gcd T B:Nat):Int)) (by omega) (by rw[if_neg (by omega)])
   obtain⟨f1,f2,f3,f4,f5,f6⟩:=f
   have gp:(0:Int)<((Int.gcd T B:Nat):Int):=by omega
   have gle:((Int.gcd T B:Nat):Int)≤B:=Int.le_of_dvd hB (Int.gcd_dvd_right T B)
   have sg:Sz 4000 ((Int.gcd T B:Nat):Int):=by
    unfold Sz at sB ⊢
    omega
   have eg:Int.gcd (zcW T) B=Int.gcd T B:=by
    have z:=zsI T B
    rw[show zcW B=B by unfold zcW; split <;> omega] at z
    exact z
   refine⟨λm dl' S'=>S'=S∧∃(x y:Int),dl'=[some (.int T),some (.int B),some (.int x),some (.int y)]∧0≤x∧0≤y∧Int.gcd x y=Int.gcd T B∧m=y.toNat,⟨B.toNat,rfl,zcW T,B,rfl,ztx T,by omega,eg,rfl⟩,?_⟩
   rintro m dl' S' ⟨rfl,x,y,rfl,hx,hy,hg,rfl⟩
   refine ifN (λc=>?_) (λc=>?_)
   ·have c':0<y:=by omega
    exact⟨c',⟨(x%y).toNat,by have:=zew (a:=x) c'; omega,rfl,y,x%y,rfl,hy,(zew (a:=x) c').1,(zrP x y).trans hg,rfl⟩⟩
   ·subst c
    have e:((Int.gcd T B:Nat):Int)=x:=by rw[← hg,Int.gcd_zero_right]; omega
    have e1:T/((Int.gcd T B:Nat):Int)=T.fdiv ((Int.gcd T B:Nat):Int):=(Int.fdiv_eq_ediv_of_nonneg _ (by omega)).symm
    have e2:B/((Int.gcd T B:Nat):Int)=B.fdiv ((Int.gcd T B:Nat):Int):=(Int.fdiv_eq_ediv_of_nonneg _ (by omega)).symm
    have q:=h _ _ f4 f5 f6 (zpy f1 f2) (by have:=zpy f1 f3; omega)
    rw[← e1,← e2] at q
    rw[e] at q sg gp
    exact⟨sg.fd gp,sg.fd gp,q⟩
  ·exact h.elim⟩)
def zyb  (zjS:Df K mg "_law_product_of" zmD zeI)(zcR:Fk P w K mg base 1 "_law_at" zeu zeK)(zoo:Fk P w K mg base 1 "_law_lowest" zg9 zhF):Fk P w K mg base 2 "_law_product_of" zeI zeM:=
 zjS.mk' (zaw (k:=1) zjS.F zd8 (ztI) λcdv A outer s H E hr=>⟨_,(zao (zaA (i:=3) zd8.nd rfl (Or.inl rfl) zdV) (zao (zem (i:=4) PassesOwn.never rfl zd8.nd rfl (Or.inl rfl) (dv 2) (zao (zaA (i:=5) zd8.nd rfl (Or.inl rfl) (zan zoo hr (zaa (zat (dv 4) zac (λ_ _=>rfl)) (zaa (zat (dv 4) zac (λ_ _=>rfl)) zab)))) (zao (zaA (i:=6) zd8.nd rfl (Or.inl rfl) (zan zcR hr (zaa (dv 0) (zaa (zaS (zaa zbr (zaa (dv 1) (zaa (zan zcR hr (zaa (dv 0) (zaa (zaS (zaa zbr (zaa (zat (dv 5) zac (λ_ _=>rfl)) (zaa (zat (dv 5) zac (λ_ _=>rfl)) zab)))) zab))) zab)))) zab)))) (zai (zaR (zaP zot (dv 3) zdV (zaJ _)) (zai (zaA (i:=3) zd8.nd rfl (Or.inl rfl) (dv 6))) (zai (zaA (i:=3) zd8.nd rfl (Or.inl rfl) (zan zcR hr (zaa (dv 0) (zaa (zaS (zaa zbr (zaa (dv 3) (zaa (dv 6) zab)))) zab)))))))))) (zai (zas (dv 3))))),λds S Q ex h=>by
  unfold zeM at h
  split at h
  ·rename_i a st p
   obtain⟨q,s,B,P,ns,ws,rfl,ha,hp,ap,net,hs,wB,⟨p1,p4⟩,b16,l3,zP,h⟩:=h
   refine zep (n:=p) (o:=.lst (P.map frD)) (λk dl' S'=>k≤P.length∧(∃(ns':List Nd) (ws':List Nat) (td:D),Gr q a (3*k) S ns ws S' ns' ws'∧((k=0∧td=.non)∨∃j:Nat,1≤k∧td=.int (j:Int)∧j<ns'.length∧ws'.getD j 0≤k*(B+1)∧∀A,(∃p∈P.take k,(gt (zal A ns) (s:Int)).1*p.2=p.1*(gt (zal A ns) (s:Int)).2)→(gt (zal A ns') (j:Int)).1=0)∧∃u4 u5 u6:Option D,dl'=[some (.ref a),some (.int (s:Nat)),some (.ref p),some td,u4,u5,u6])) ⟨Vak _,ns,ws,.non,(Gr.refl net ha),.inl ⟨rfl,rfl⟩,_,_,_,rfl⟩ (λk dl' S' ⟨_,_,_,_,gr,_⟩=>gr.kp _ _ (Ne.symm ap) hp) ?_ ?_
   ·rintro k x dl' S' nx ct ex' ⟨hk,ns',ws',td,gr,tot,u4,u5,u6,rfl⟩ hn
    have hx:(P.map frD)[k]?=some x:=ex'
    rw[Vaf] at hx
    obtain⟨pk,hpk,rfl⟩:=Vaj.mp hx
    have hk2:=(Vad.mp hpk).1
    have zk:=zP pk (Vag hpk)
    have ln:=gr.ln
    have tk:P.take (k+1)=P.take k++[pk]:=by rw[Va2,hpk]; rfl
    refine⟨⟨by omega,Sz.of (n:=4000) (10^10) (by omega)⟩,λt b b1 tg te tt tb=>?_⟩
    refine⟨q,.number t b,ns',ws',rfl,gr.nd,by omega,gr.net,⟨⟨b1,by omega⟩,tg,by omega⟩,show 1≤16 by decide,λT j ns2 ws2 gr2 lj hj wj dj=>?_⟩
    have ln2:=gr2.ln
    have w0:ws2.getD s 0≤B:=by rw[gr2.wt gr.net (by omega),gr.wt net hs]; exact wB
    have wj':ws2.getD j 0=1:=wj
    have hB:(k+1)*(B+1)≤16:=VaD (Nat.mul_le_mul_right (B+1) (show k+1≤P.length by omega)) b16
    have eB:(k+1)*(B+1)=k*(B+1)+(B+1):=Nat.succ_mul k (B+1)
    have wm:Nd.wt ws2 (.minus (s:Int) (j:Int))≤B+1:=by
     show ws2.getD ((s:Nat):Int).toNat 0+ws2.getD ((j:Nat):Int).toNat 0≤_
     rw[Vam,Vam,wj']
     omega
    refine⟨q,.minus s j,ns2,ws2,rfl,gr2.nd,by omega,gr2.net,⟨⟨by omega,by omega⟩,⟨by omega,by omega⟩⟩,by omega,λT2 j2 ns3 ws3 gr3 lj2 hj2 wj2 dj2=>?_⟩
    have ln3:=gr3.ln
    have d3:∀A,(gt (zal A ns) (s:Int)).1*pk.2=pk.1*(gt (zal A ns) (s:Int)).2→(gt (zal A ns3) (j2:Int)).1=0:=λA hA=>by
     rw[dj2 A]
     show (gt (zal A ns2) (s:Int)).1*(gt (zal A ns2) (j:Int)).2-(gt (zal A ns2) (j:Int)).1*(gt (zal A ns2) (s:Int)).2=0
     rw[dj A,gr2.due A (by omega),gr.due A hs]
     show (gt (zal A ns) (s:Int)).1*b-t*(gt (zal A ns) (s:Int)).2=0
     exact cross zk.1 hA (by omega)
    have gr4:Gr q a (3*k+1+1) S ns ws T2 ns3 ws3:=(gr.trans gr2).trans gr3
    rcases tot with ⟨rfl,rfl⟩ | ⟨jt,k1,rfl,ljt,wjt,djt⟩
    ·refine hn _ _ ⟨by omega,ns3,ws3,_,gr4.mono (by omega),.inr ⟨j2,by omega,rfl,lj2,by rw[wj2]; omega,λA ⟨pA,hpA,eA⟩=>?_⟩,_,_,_,rfl⟩
     rw[tk] at hpA
     rcases VaQ.mp hpA with w | w
     ·rw[List.take_zero] at w
      cases w
     ·rw[VaS.mp w] at eA
      exact d3 A eA
    ·have et:ws3.getD jt 0=ws'.getD jt 0:=by rw[gr3.wt gr2.net (by omega),gr2.wt gr.net ljt]
     have wt:Nd.wt ws3 (.times (jt:Int) (j2:Int))≤(k+1)*(B+1):=by
      show ws3.getD ((jt:Nat):Int).toNat 0+ws3.getD ((j2:Nat):Int).toNat 0≤_
      rw[Vam,Vam,et,wj2]
      omega
     refine⟨q,.times jt j2,ns3,ws3,rfl,gr3.nd,by omega,gr3.net,⟨⟨by omega,by omega⟩,⟨by omega,by omega⟩⟩,by omega,λT3 j3 ns4 ws4 gr5 lj3 hj3 wj3 dj3=>?_⟩
     refine hn _ _ ⟨by omega,ns4,ws4,_,(gr4.trans gr5).mono (by omega),.inr ⟨j3,by omega,rfl,lj3,by rw[wj3]; exact wt,λA ⟨pA,hpA,eA⟩=>?_⟩,_,_,_,rfl⟩
     rw[dj3 A]
     show (gt (zal A ns3) (jt:Int)).1*(gt (zal A ns3) (j2:Int)).1=0
     rw[tk] at hpA
     rcases VaQ.mp hpA with w | w
     ·rw[gr3.due A (by omega),gr2.due A ljt,djt A ⟨pA,w,eA⟩,VaU]
     ·rw[VaS.mp w] at eA
      rw[d3 A eA,Int.mul_zero]
   ·rintro dl' S' ⟨hk,ns',ws',td,gr,tot,u4,u5,u6,rfl⟩
    have eL:(zah (Ob.lst (P.map frD))).length=P.length:=by show (P.map frD).length=_; rw[Vab]
    rw[eL] at gr tot
    rcases tot with ⟨e0,_⟩ | ⟨j,_,rfl,lj,wj,dj⟩
    ·omega
    ·rw[Vay] at dj
     exact h _ j ns' ws' (gr.mono (by omega)) lj dj
  ·exact h.elim⟩)
def zr5  (zlu:Df K mg "_law_two" zfY zhj)(znb:Fk P w K mg base 1 "_law_answers" zij zf4)(zbi:Fk P w K mg base 1 "_law_cell" zdl zc6)(zeh:Fk P w K mg base 2 "_law_product_of" zeI zeM)(zcR:Fk P w K mg base 1 "_law_at" zeu zeK)(zek:Fk P w K mg base 2 "_law_numbers" zfv zfr):Fk P w K mg base 3 "_law_two" zhj zf7:=
 zlu.mk' (zaw (k:=2) zlu.F zcu (zuw) λcdv A outer s H E hr=>⟨_,(zao (zaA (i:=3) zcu.nd rfl (Or.inl rfl) (zan zek hr (zaa (dv 0) (zaa zac (zaa (zaq zbm zac (zaq zbF (zan zbi hr (zaa (dv 0) (zaa zac zab))) zac)) (zaa (dv 1) (zaa (dv 2) zab))))))) (zao (zaA (i:=4) zcu.nd rfl (Or.inl rfl) (zan zek hr (zaa (dv 0) (zaa zac (zaa (zaq zbm zac (zaq zbF (zan zbi hr (zaa (dv 0) (zaa zac zab))) zac)) (zaa (dv 1) (zaa (dv 2) zab))))))) (zao (zaA (i:=5) zcu.nd rfl (Or.inl rfl) (zaq zcB (zaq zbF (zan zbi hr (zaa (dv 0) (zaa zac zab))) zac) zac)) (zao (zaA (i:=6) zcu.nd rfl (Or.inl rfl) (zaq zbF (zaq zdM (zan zbi hr (zaa (dv 0) (zaa zac zab))) zac) zac)) (zao (zaA (i:=7) zcu.nd rfl (Or.inl rfl) (zbI (zaa (zaS (zaa zbr (zaa zac zab))) (zaa (zaS (zaa zbr (zaa zac zab))) zab)))) (zao (zaA (i:=8) zcu.nd rfl (Or.inl rfl) (zan zcR hr (zaa (dv 7) (zaa (zaS (zaa zbr (zaa (dv 5) (zaa zac zab)))) zab)))) (zao (zaA (i:=9) zcu.nd rfl (Or.inl rfl) (zan zcR hr (zaa (dv 7) (zaa (zaS (zaa zbr (zaa (dv 6) (zaa (zan zcR hr (zaa (dv 7) (zaa (zaS (zaa zbr (zaa (dv 8) (zaa (zaq zcB zac (dv 6)) zab)))) zab))) zab)))) zab)))) (zao (zaA (i:=10) zcu.nd rfl (Or.inl rfl) (zbI (zaa (zaS (zaa zbr (zaa (zan zeh hr (zaa (dv 7) (zaa (dv 9) (zaa (dv 3) zab)))) zab))) (zaa (zaS (zaa zbr (zaa (zan zeh hr (zaa (dv 7) (zaa (zaq zcB zac (dv 6)) (zaa (dv 4) zab)))) zab))) zab)))) (zao (zaR (zaP (zbb hr) (zaq zbF (zaq zdM (zan zbi hr (zaa (dv 0) (zaa zac zab))) zac) zac) zac (zaJ _)) (zai (zaA (i:=10) zcu.nd rfl (Or.inl rfl) (zbI (zaa (zaL (dv 10) zac (λ_ _=>rfl)) (zaa (zaL (dv 10) zac (λ_ _=>rfl)) zab))))) zaW) (zao (zaA (i:=11) zcu.nd rfl (Or.inl rfl) (zan znb hr (zaa (dv 3) (zaa (dv 4) (zaa (dv 5) zab))))) (zao (zaR (zaP (zbb hr) (dv 6) zac (zaJ _)) (zai (zlf (x:="_law_answer") (N:=[]) (caps:=[]) (ar:=zam zfY) rfl rfl csc rfl (by decide) (i:=11) zcu.nd rfl rfl (dv 11) (λ_ _ _ _ _ _=>zbW) (λ_ _ _ _ _ _=>(zbI (zaa (zaL (dv 0) zac (λ_ _=>rfl)) (zaa (zaL (dv 0) zac (λ_ _=>rfl)) zab)))))) zaW) (zai (zas (zaS (zaa (dv 7) (zaa (dv 10) (zaa (dv 11) zab))))))))))))))))),λds S Q ex h=>by
  unfold zf7 at h
  split at h
  ·rename_i sc g parts
   obtain⟨cs,hsc,hg,hp,h⟩:=h
   have gW:1≤g*parts∧g*parts≤10^9:=by
    have a:=Vbi hg.2 hp.2 (by omega) (by omega)
    have b:=VaC (show 0<g by omega) (show 0<parts by omega)
    omega
   refine⟨cs,hsc,by decide,?_⟩
   generalize cs.getD (2:Int).toNat 0=x2
   refine⟨cs,(1+x2%3).toNat,hsc,by decide,⟨by omega,by omega⟩,hg,hp,λT mo O pr lmo hO lO zO=>?_⟩
   have hsc1:=pr _ _ hsc
   refine⟨cs,hsc1,by decide,?_⟩
   generalize cs.getD (3:Int).toNat 0=x3
   refine⟨cs,(1+x3%3).toNat,hsc1,by decide,⟨by omega,by omega⟩,hg,hp,λT2 mt O2 pr2 lmt hO2 lO2 zO2=>?_⟩
   have hO:=pr2 _ _ hO
   have hsc2:=pr2 _ _ hsc1
   have pS:Pre S T2:=λx o e=>pr2 _ _ (pr _ _ e)
   have lmo':=zbX hO
   have lmt':=zbX hO2
   clear pr pr2 hsc hsc1 lmo lmt
   try dsimp only[zfT]
   refine znk (λdl2 S2=>T2=S2∧∃(sh:Int) (f:Nat),sh.natAbs≤2∧f≤1∧dl2=[some (.ref sc),some (.int g),some (.int parts),some (.ref mo),some (.ref mt),some (.int sh),some (.int (f:Int)),none,none,none,none,none]) (λnx hn=>?_) ?_
   ·refine⟨cs,hsc2,by decide,?_⟩
    refine⟨cs,hsc2,by decide,?_⟩
    refine hn _ _ ⟨rfl,cs.getD (12:Int).toNat 0%5-2,(cs.getD (0:Int).toNat 0/2%2).toNat,by omega,by omega,?_⟩
    rw[show (((cs.getD (0:Int).toNat 0/2%2).toNat:Nat):Int)=cs.getD (0:Int).toNat 0/2%2 by omega]
    rfl
   rintro dl2 S2 ⟨rfl,sh,f,sh2,f1,rfl⟩
   have net0:zaD 2 [Nd.unknown 0,Nd.unknown 1] [1,1]:=zpJ 2
   have unk:∀k:Nat,k<2→[Nd.unknown 0,Nd.unknown 1][k]?=some (.unknown (k:Int)):=λk hk=>by
    match k,hk with
    | 0,_=>rfl
    | 1,_=>rfl
   have sO:∀ {P:List (Int×Int)},(∀p∈P,p.2=g*parts∧p.1.natAbs≤30000)→∀p∈P,1≤p.2∧p.2≤10^9∧p.1.natAbs≤10^9:=λz p hp=>by
    have z:=z p hp
    rw[z.1]
    omega
   refine⟨2,.number sh 1,[Nd.unknown 0,Nd.unknown 1],[1,1],rfl,zax _ _,by decide,net0,⟨⟨by decide,by decide⟩,Int.gcd_one_right _,by omega⟩,show 1≤16 by decide,λT3 j ns1 ws1 gr1 lj hj wj dj=>?_⟩
   have ln1:=gr1.ln
   have l2:[Nd.unknown 0,Nd.unknown 1].length=2:=rfl
   have wj':ws1.getD j 0=1:=wj
   have wu1:∀k:Nat,k<2→ws1.getD k 0=1:=λk hk=>(gr1.net.ok k _ (gr1.get (unk k hk))).2.1
   have ef:(1-(f:Int)).toNat=1-f:=by omega
   have wt2:Nd.wt ws1 (.times (j:Int) (1-(f:Int)))=2:=by
    show ws1.getD ((j:Nat):Int).toNat 0+ws1.getD (1-(f:Int)).toNat 0=2
    rw[Vam,wj',ef,wu1 (1-f) (by omega)]
   refine⟨2,.times j (1-(f:Int)),ns1,ws1,rfl,gr1.nd,by omega,gr1.net,⟨⟨by omega,by omega⟩,⟨by omega,by omega⟩⟩,by omega,λT4 j2 ns2 ws2 gr2 lj2 hj2 wj2 dj2=>?_⟩
   have ln2:=gr2.ln
   have wt3:Nd.wt ws2 (.plus (f:Int) (j2:Int))=3:=by
    show ws2.getD ((f:Nat):Int).toNat 0+ws2.getD ((j2:Nat):Int).toNat 0=3
    rw[Vam,Vam,wj2,wt2,gr2.wt gr1.net (by omega),wu1 f (by omega)]
   refine⟨2,.plus f j2,ns2,ws2,rfl,gr2.nd,by omega,gr2.net,⟨⟨by omega,by omega⟩,⟨by omega,by omega⟩⟩,by omega,λT5 j3 ns3 ws3 gr3 lj3 hj3 wj3 dj3=>?_⟩
   have ln3:=gr3.ln
   have gr13:=(gr1.trans gr2).trans gr3
   have hO3:=gr13.kp _ _ (show mo≠T2.length by omega) (zaz hO)
   have hO23:=gr13.kp _ _ (show mt≠T2.length by omega) (zaz hO2)
   have unk3:∀k:Nat,k<2→ns3[k]?=some (.unknown (k:Int)):=λk hk=>gr13.get (unk k hk)
   refine⟨2,j3,3,O,ns3,ws3,rfl,gr3.nd,hO3,by omega,gr3.net,lj3,by rw[wj3,wt3]; exact Vaa _,⟨by omega,by omega⟩,by omega,by omega,sO zO,λT6 k1 ns4 ws4 gr4 lk1 dk1=>?_⟩
   have ln4:=gr4.ln
   have hO24:=gr4.kp _ _ (show mt≠T2.length by omega) hO23
   have unk4:∀k:Nat,k<2→ns4[k]?=some (.unknown (k:Int)):=λk hk=>gr4.get (unk3 k hk)
   have w4:ws4.getD (1-f) 0=1:=(gr4.net.ok (1-f) _ (unk4 (1-f) (by omega))).2.1
   refine⟨2,1-f,1,O2,ns4,ws4,by omega,gr4.nd,hO24,by omega,gr4.net,by omega,by rw[w4]; exact Vaa _,⟨by omega,by omega⟩,by omega,by omega,sO zO2,λT7 k2 ns5 ws5 gr5 lk2 dk2=>?_⟩
   have ln5:=gr5.ln
   have gr15:=(gr13.trans gr4).trans gr5
   have dz:∀(A:List (Int×Int)) (x y:Int×Int),x∈O→y∈O2→gt A (f:Int)=(x.1-sh*y.1,x.2)→gt A (1-(f:Int))=y→(gt (zal A ns5) (k1:Int)).1=0∧(gt (zal A ns5) (k2:Int)).1=0:=λA x y hx hy ex ey=>by
    have zx:=(zO x hx).1
    have zy:=(zO2 y hy).1
    have uf:∀ {ns:List Nd} {ws:List Nat},zaD 2 ns ws→∀k:Nat,ns[k]?=some (.unknown (k:Int))→gt (zal A ns) (k:Int)=gt A (k:Int):=λnt k hk=>zoK (P:=A) nt hk
    have e1:((1-f:Nat):Int)=1-(f:Int):=by omega
    constructor
    ·rw[gr5.due A lk1]
     refine dk1 A ⟨x,hx,?_⟩
     rw[dj3 A]
     have a1:gt (zal A ns2) (f:Int)=(x.1-sh*y.1,x.2):=by rw[uf gr2.net f (gr2.get (gr1.get (unk f (by omega)))),ex]
     have a2:gt (zal A ns2) (j2:Int)=(sh*y.1,1*y.2):=by
      rw[dj2 A]
      have b1:gt (zal A ns1) (j:Int)=(sh,1):=dj A
      have b2:gt (zal A ns1) (1-(f:Int))=y:=by rw[← e1,uf gr1.net (1-f) (gr1.get (unk (1-f) (by omega))),e1,ey]
      show ((gt (zal A ns1) (j:Int)).1*(gt (zal A ns1) (1-(f:Int))).1,(gt (zal A ns1) (j:Int)).2*(gt (zal A ns1) (1-(f:Int))).2)=_
      rw[b1,b2]
     show ((gt (zal A ns2) (f:Int)).1*(gt (zal A ns2) (j2:Int)).2+(gt (zal A ns2) (j2:Int)).1*(gt (zal A ns2) (f:Int)).2)*x.2=x.1*((gt (zal A ns2) (f:Int)).2*(gt (zal A ns2) (j2:Int)).2)
     rw[a1,a2]
     show ((x.1-sh*y.1)*(1*y.2)+(sh*y.1)*x.2)*x.2=x.1*(x.2*(1*y.2))
     rw[zx,zy]
     grind
    ·refine dk2 A ⟨y,hy,?_⟩
     rw[uf gr4.net (1-f) (unk4 (1-f) (by omega)),e1,ey]
   have hN:=gr15.nd
   have net5:=gr15.net
   have hO7:=gr15.kp _ _ (show mo≠T2.length by omega) (zaz hO)
   have hO27:=gr15.kp _ _ (show mt≠T2.length by omega) (zaz hO2)
   have hsc7:=gr15.kp _ _ (show sc≠T2.length by have:=zbX hsc2; omega) (zaz hsc2)
   have pS7:Pre S T7:=λx o e=>gr15.kp _ _ (by have:=zbX (pS _ _ e); omega) (zaz (pS _ _ e))
   have l60:ns5.length≤60:=by omega
   clear gr1 gr2 gr3 gr4 gr5 gr13 gr15 dk1 dk2 dj dj2 dj3 hO3 hO23 hO24 hO hO2 hsc2 pS
   dsimp only[zmy]
   refine zdL (λ_=>?_) (λc=>absurd (Nat.le_of_ble_eq_true rfl) c)
   try dsimp only[zmy]
   refine zdL (λ_=>?_) (λc=>absurd (Nat.le_of_ble_eq_true rfl) c)
   refine zg4 (λdl2 S2=>Pre T7 S2∧∃(r:Nat) (is:List Nat),S2[r]?=some (.lst (is.map λi=>rwD (true,i)))∧is.length=2∧(∀i∈is,i=k1∨i=k2)∧dl2=[some (.ref sc),some (.int g),some (.int parts),some (.ref mo),some (.ref mt),some (.int sh),some (.int (f:Int)),some (.ref T2.length),some (.int (j:Int)),some (.int (j3:Int)),some (.ref r),none]) (λnx hn=>?_) ?_
   ·refine⟨cs,zaz hsc7,by decide,?_⟩
    refine ifD (λe=>?_) (λe=>?_)
    ·refine zaI (n:=T7.length) (o:=.lst [rwD (true,k1),rwD (true,k2)]) (i:=1) (zax _ _) (d:=rwD (true,k2)) rfl ?_
     refine zaI (n:=T7.length) (o:=.lst [rwD (true,k1),rwD (true,k2)]) (i:=0) (zax _ _) (d:=rwD (true,k1)) rfl ?_
     exact hn _ _ ⟨zbf (zbf Pre.refl _) _,_,[k2,k1],zax _ _,rfl,λi hi=>by simp at hi; omega,rfl⟩
    ·exact hn _ _ ⟨zbf Pre.refl _,_,[k1,k2],zax _ _,rfl,λi hi=>by simp at hi; omega,rfl⟩
   rintro dl2 S2 ⟨pr7,r,is,hr,lis,his,rfl⟩
   refine⟨O,O2,pr7 _ _ hO7,pr7 _ _ hO27,⟨by omega,by omega⟩,⟨by omega,by omega⟩,by omega,λp hp=>(zO p hp).2,λp hp=>(zO2 p hp).2,λT8 m ds R pr8 lm hm rows nd r16 hR=>?_⟩
   have hN8:=pr8 _ _ (pr7 _ _ hN)
   have hr8:=pr8 _ _ hr
   have pS8:Pre S T8:=λx o e=>pr8 _ _ (pr7 _ _ (pS7 _ _ e))
   have sml:∀x∈O,∀y∈O2,(x.1-sh*y.1).natAbs≤400000:=λx hx y hy=>by
    have a:=(zO x hx).2
    have b:=(zO2 y hy).2
    have c:=Vbg sh y.1
    have d:sh.natAbs*y.1.natAbs≤2*30000:=Va5 sh2 b
    omega
   have lis':∀i∈is,i<ns5.length:=λi hi=>by rcases his i hi with e | e <;> rw[e] <;> omega
   refine ifD (λe=>?_) (λe=>?_)
   ·have ef1:f=1:=by omega
    subst ef1
    refine znz (n:=m) (o:=.lst ds) (S1:=T8) (λk ys S2=>Pre T8 S2∧S2[T8.length]?=some (.lst ys)∧ys.length=k∧zaF S2 (T8.length+1) ys ((R.take k).map List.reverse)) (λK hK=>by exact hK) hm (λk ys S2 ⟨p,e,l,_⟩=>⟨p _ _ hm,e,l⟩) (by show ds.length≤1000; rw[rows.1]; omega) ⟨zbf Pre.refl _,zax _ _,rfl,zaF.nil⟩ ?_ ?_
    ·rintro k x ys S2 K hx ⟨p,e3,l,rw2⟩ hK
     have hx:ds[k]?=some x:=hx
     have hk:=(Vad.mp hx).1
     have hRk:=Vac (show k<R.length by rw[← rows.1]; exact hk)
     obtain⟨a,rfl,_,ha⟩:=rows.2 k x _ hx hRk
     obtain⟨x',hx',y',hy',eA⟩:=hR _ (VaB (show k<R.length by rw[← rows.1]; exact hk))
     rw[eA] at ha
     have ha2:=p _ _ ha
     refine zaI (o:=.lst ([(x'.1-sh*y'.1,x'.2),y'].map frD)) (i:=1) ha2 (d:=frD y') rfl ?_
     refine zaI (o:=.lst ([(x'.1-sh*y'.1,x'.2),y'].map frD)) (i:=0) ha2 (d:=frD (x'.1-sh*y'.1,x'.2)) rfl ?_
     have l3:=zbX e3
     refine hK (.ref S2.length) _ (zaz e3) ⟨zdy (zbf p _) (Vaa _),zcI (zaz e3),by rw[Vav,l]; rfl,?_⟩
     rw[Va2,hRk,eA,VaW]
     exact((rw2.pre (zbf Pre.refl _)).keep λz o' hz e=>zc1 e (by omega)).snoc (r:=[y',(x'.1-sh*y'.1,x'.2)]) (by omega) (zc1 (zax _ _) (by omega))
    ·rintro ys S2 ⟨p,e3,l,rw2⟩
     have eL:(zah (Ob.lst ds)).length=R.length:=rows.1
     rw[eL,Vay] at rw2
     refine h S2 T2.length r T8.length 2 ns5 ws5 is ys (R.map List.reverse) (λx o e=>p _ _ (pS8 _ _ e)) (p _ _ hN8) net5 ⟨by decide,by decide⟩ l60 (p _ _ hr8) lis lis' e3 (rw2.low (Vak _)) (zs1 nd) (by rw[Vab]; exact r16) λA hA=>?_
     obtain⟨A',hA',rfl⟩:=Vah.mp hA
     obtain⟨x',hx',y',hy',rfl⟩:=hR A' hA'
     have z:=dz [y',(x'.1-sh*y'.1,x'.2)] x' y' hx' hy' (zbv (k:=1) rfl) (zbv (k:=0) rfl)
     refine⟨rfl,λp hp=>?_,λi hi=>?_⟩
     ·have hp:p∈[y',(x'.1-sh*y'.1,x'.2)]:=hp
      rcases Vas.mp hp with w | w
      ·rw[w]; have q:=zO2 y' hy'; exact⟨q.1,by omega⟩
      ·rw[VaS.mp w]; exact⟨(zO x' hx').1,sml x' hx' y' hy'⟩
     ·rcases his i hi with e | e <;> rw[e]
      ·exact z.1
      ·exact z.2
   ·have ef0:f=0:=by omega
    subst ef0
    refine h T8 T2.length r m 2 ns5 ws5 is ds R pS8 hN8 net5 ⟨by decide,by decide⟩ l60 hr8 lis lis' hm (rows.low (Vak _)) nd r16 λA hA=>?_
    obtain⟨x',hx',y',hy',rfl⟩:=hR A hA
    have z:=dz [(x'.1-sh*y'.1,x'.2),y'] x' y' hx' hy' (zbv (k:=0) rfl) (zbv (k:=1) rfl)
    refine⟨rfl,λp hp=>?_,λi hi=>?_⟩
    ·rcases Vas.mp hp with w | w
     ·rw[w]; exact⟨(zO x' hx').1,sml x' hx' y' hy'⟩
     ·rw[VaS.mp w]; have q:=zO2 y' hy'; exact⟨q.1,by omega⟩
    ·rcases his i hi with e | e <;> rw[e]
     ·exact z.1
     ·exact z.2
  ·exact h.elim⟩)
def zvH  (zjX:Df K mg "_law_one" zjE zh3)(zeh:Fk P w K mg base 2 "_law_product_of" zeI zeM)(zek:Fk P w K mg base 2 "_law_numbers" zfv zfr)(zbi:Fk P w K mg base 1 "_law_cell" zdl zc6):Fk P w K mg base 3 "_law_one" zh3 zhg:=
 zjX.mk' (zaw (k:=2) zjX.F zfX (zwj) λcdv A outer s H E hr=>⟨_,(zao (zaA (i:=3) zfX.nd rfl (Or.inl rfl) (zan zek hr (zaa (dv 0) (zaa zac (zaa (zaq zbm zac (zaq zbF (zan zbi hr (zaa (dv 0) (zaa zac zab))) zac)) (zaa (dv 1) (zaa (dv 2) zab))))))) (zao (zaA (i:=4) zfX.nd rfl (Or.inl rfl) (zbI (zaa (zaS (zaa zbr (zaa zac zab))) zab))) (zao (zaA (i:=5) zfX.nd rfl (Or.inl rfl) (zbI (zaa (zaS (zaa zbr (zaa (zan zeh hr (zaa (dv 4) (zaa zac (zaa (dv 3) zab)))) zab))) zab))) (zao (zaA (i:=6) zfX.nd rfl (Or.inl rfl) (zbI zab)) (zao (zem (i:=7) PassesOwn.never rfl zfX.nd rfl (Or.inl rfl) (dv 3) (zai (zaR (zaP (zqS hr) (zbI (zaa (dv 7) zab)) (dv 6) rfl) (zai (zds (zdO (dv 6) (zbI (zaa (dv 7) zab))))) zaW))) (zai (zas (zaS (zaa (dv 4) (zaa (dv 5) (zaa (dv 6) zab))))))))))),λds S Q ex h=>by
  unfold zhg at h
  split at h
  ·rename_i sc g parts
   obtain⟨cs,hsc,hg,hp,h⟩:=h
   refine⟨cs,hsc,by decide,?_⟩
   generalize cs.getD (2:Int).toNat 0=x
   refine⟨cs,(1+x%4).toNat,hsc,by decide,⟨by omega,by omega⟩,hg,hp,λT mp P pr lm hP lP zP=>?_⟩
   have lmp:=zbX hP
   have net0:zaD 1 [Nd.unknown 0] [1]:=zpJ 1
   have gW:1≤g*parts∧g*parts≤10^9:=by
    have a:=Vbi hg.2 hp.2 (by omega) (by omega)
    have b:=VaC (show 0<g by omega) (show 0<parts by omega)
    omega
   have sP:∀p∈P,1≤p.2∧p.2≤10^9∧p.1.natAbs≤10^9:=λp hp=>by
    have z:=zP p hp
    rw[z.1]
    omega
   refine⟨1,0,1,P,[Nd.unknown 0],[1],rfl,zax _ _,zaz hP,by omega,net0,by decide,by decide,⟨by omega,by omega⟩,by omega,by decide,sP,λT2 j ns' ws' gr lj dj=>?_⟩
   have lT:=zfI pr
   have pS:Pre S T2:=λx o e=>gr.kp x o (by have:=zbX e; omega) (zaz (pr _ _ e))
   have hN:=gr.nd
   have hP2:=gr.kp _ _ (show mp≠T.length by omega) (zaz hP)
   have ln:=gr.ln
   have net':=gr.net
   have dz:∀p∈P,(gt (zal [p] ns') (j:Int)).1=0:=λp hp=>dj [p] ⟨p,hp,by
    have e:gt (zal [p] [Nd.unknown 0]) ((0:Nat):Int)=p:=zoK (P:=[p]) net0 (j:=0) (v:=.unknown 0) rfl
    rw[e]⟩
   clear gr dj
   have hR:=zax T2 (.lst [rwD (true,j)])
   have p3:Pre T2 (T2++[Ob.lst [rwD (true,j)]]):=Pre.refl.push
   have hN:=p3 _ _ hN
   have hP2:=p3 _ _ hP2
   have pS:Pre S (T2++[Ob.lst [rwD (true,j)]]):=zbf pS _
   generalize hS3:T2++[Ob.lst [rwD (true,j)]]=S3 at hR hN hP2 pS
   have eP:(zah (Ob.lst (P.map frD))).length=P.length:=by show (P.map frD).length=_; rw[Vab]
   try dsimp only[zfT]
   refine zep (n:=mp) (o:=.lst (P.map frD)) (λk dl' S'=>Pre S3 S'∧(∃(ds:List D) (R:List (List (Int×Int))),S'[S3.length]?=some (.lst ds)∧zaF S' (S3.length+1) ds R∧R.Nodup∧((1≤k→1≤R.length)∧R.length≤k)∧∀A∈R,∃y∈P,A=[y])∧∃u:Option D,dl'=[some (.ref sc),some (.int g),some (.int parts),some (.ref mp),some (.ref T.length),some (.ref T2.length),some (.ref S3.length),u]) ⟨by subst hS3; exact Pre.refl.push,⟨[],[],by subst hS3; exact zax _ _,zaF.nil,List.nodup_nil,⟨λe=>by omega,Vak _⟩,λA hA=>by simp at hA⟩,_,by subst hS3; rfl⟩ (λk dl' S' ⟨pr,_⟩=>pr _ _ hP2) ?_ ?_
   ·rintro k y dl' S' nx ct ey' ⟨pr,⟨ds,R,hd,rows,nd,⟨r1,r2⟩,hRA⟩,u,rfl⟩ hn
    have hy:(P.map frD)[k]?=some y:=ey'
    rw[Vaf] at hy
    obtain⟨y,hyk,rfl⟩:=Vaj.mp hy
    have hk:=(Vad.mp hyk).1
    have my:=Vag hyk
    have lS:=zbX hd
    have hm:(S'++[Ob.lst [frD y]])[S'.length]?=some (.lst (([y]:List (Int×Int)).map frD)):=zax _ _
    have rows':=rows.pre (zbf (Pre.refl (S:=S')) [Ob.lst [frD y]])
    refine zq2 (n:=S3.length) (m:=S'.length) (zaz hd) rows' hm (λc=>?_) (λc=>?_)
    ·refine zbn ?_
     exact hn _ _ ⟨zbf pr _,⟨ds,R,zaz hd,rows',nd,⟨λ_=>List.length_pos_iff.mpr (List.ne_nil_of_mem c),by omega⟩,hRA⟩,_,rfl⟩
    ·refine zbD ?_
     have rows2:=rows'.pre (zbf (Pre.refl (S:=S'++[Ob.lst [frD y]])) [Ob.lst [frD y]])
     have lS2:(S'++[Ob.lst [frD y]]).length=S'.length+1:=by simp
     have hm2:(S'++[Ob.lst [frD y]]++[Ob.lst [frD y]])[(S'++[Ob.lst [frD y]]).length]?=some (.lst (([y]:List (Int×Int)).map frD)):=zax _ _
     refine zqs (n:=S3.length) (xs:=ds) (λK hK=>by exact hK) (zaz hd) (λK hK=>?_) (by have:=rows.1; omega)
     refine hK (.ref (S'++[Ob.lst [frD y]]).length) _ (zaz (zaz hd)) ?_
     refine hn _ _ ⟨zdy (zbf (zbf pr _) _) (Vaa _),⟨ds++[.ref (S'++[Ob.lst [frD y]]).length],R++[[y]],zcI (zaz (zaz hd)),(rows2.keep λz o' hz e=>zc1 e (by omega)).snoc (by omega) (zc1 hm2 (by omega)),zpM nd c,⟨λ_=>by simp,by rw[Vav]; show R.length+1≤_; omega⟩,λA hA=>?_⟩,_,rfl⟩
     rcases VaQ.mp hA with w | w
     ·exact hRA A w
     ·exact⟨y,my,VaS.mp w⟩
   ·rintro dl' S' ⟨pr,⟨ds,R,hd,rows,nd,⟨r1,r2⟩,hRA⟩,u,rfl⟩
    rw[eP] at r1 r2
    refine h S' T.length T2.length S3.length 1 ns' ws' [j] ds R (λx o e=>pr _ _ (pS _ _ e)) (pr _ _ hN) net' ⟨by decide,by decide⟩ (by have:=ln.2; simp at this; omega) (pr _ _ hR) rfl (λi hi=>by rw[VaS.mp hi]; exact lj) hd (rows.low (Vak _)) nd ⟨r1 (by omega),by omega⟩ λA hA=>?_
    obtain⟨y,my,rfl⟩:=hRA A hA
    exact⟨rfl,λp hp=>by rw[VaS.mp hp]; have z:=zP y my; exact⟨z.1,by omega⟩,λi hi=>by rw[VaS.mp hi]; exact dz y my⟩
  ·exact h.elim⟩)
def zvY  (zkL:Df K mg "_law_holds" zjb zgv):Fk P w K mg base 1 "_law_holds" zgv zhh:=
 zkL.mk' (zaw (k:=0) zkL.F ztN (zsm) λcdv A outer s H E hr=>⟨_,(zai (zas (zxJ zok zok (zaq za2 (zat (dv 0) zac (λ_ _=>rfl)) (zat (dv 1) zac (λ_ _=>rfl))) (zaq za2 (zat (dv 1) zac (λ_ _=>rfl)) (dv 2)) (zaq za2 (zat (dv 0) zac (λ_ _=>rfl)) (zat (dv 1) zac (λ_ _=>rfl)))))),λds S Q ex h=>by
  unfold zhh at h
  split at h
  ·rename_i l u a b g
   obtain⟨⟨s1,s2,s3,s4,s5⟩,h⟩:=h
   refine⟨zaM s1 s4,zaM s3 s5,?_⟩
   refine ifD (λc=>?_) (λc=>?_)
   ·refine⟨zaM s2 s4,?_⟩
    rw[decide_eq_true c,Bool.true_and] at h
    exact h
   ·rw[decide_eq_false c,Bool.false_and] at h
    exact h
  ·exact h.elim⟩)
def zsU  (zmo:Df K mg "_law_in" zks zf1)(znK:Fk P w K mg base 1 "_law_holds" zgv zhh)(zaX:mg "range"=none)(zaB:mg "len"=none):Fk P w K mg base 2 "_law_in" zf1 zhX:=
 zmo.mk' (zaw (k:=1) zmo.F zqP (zvU) λcdv A outer s H E hr=>⟨_,(zao (zgP (i:=3) PassesOwn.never rfl zqP.nd rfl (Or.inl rfl) rfl zaX (zaa (zaT (zaV zbo) rfl zaB Boot.«len» (zaa (dv 1) zab)) zab) (zai (zaR (zcU (zcO (zan znK hr (zaa (zaL (dv 1) (dv 3) (λ_ _=>rfl)) (zaa (zaL (dv 0) (dv 3) (λ_ _=>rfl)) (zaa (dv 2) zab)))))) (zai (zas zcX)) zaW))) (zai (zas zcX))),λds S Q ex h=>by
  unfold zhX at h
  split at h
  ·rename_i a b g
   obtain⟨A,B,ha,hb,l,l9,zA,zB,hg,h1,h2⟩:=h
   have sg:Sz 30 g:=Sz.of 1000000 (by omega)
   have sz:∀ {xs:List (Int×Int)},Bd 60 xs→∀k:Nat,k<xs.length→Sz 60 (gt xs (k:Int)).1∧Sz 60 (gt xs (k:Int)).2:=λ{xs} z k hk=>z _ (zd0 ⟨by omega,by omega⟩)
   refine zbC hb ?_
   rw[Vab]
   refine⟨⟨by omega,by omega⟩,λk dl' S'=>S=S'∧k≤B.length∧(∀j:Nat,j<k→(gt B (j:Int)).1*(gt A (j:Int)).2≤(gt A (j:Int)).1*g∧(gt A (j:Int)).1*g≤(gt B (j:Int)).2*(gt A (j:Int)).2)∧∃u:Option D,dl'=[some (.ref a),some (.ref b),some (.int g),u],⟨rfl,Vak _,λj hj=>by omega,_,rfl⟩,?_⟩
   rintro k dl' S' ⟨rfl,hk,all,u,rfl⟩
   rw[Vam]
   refine zdL (λc=>?_) (λc=>?_)
   ·refine zaI (o:=.lst (B.map frD)) hb (zbd ⟨by omega,by omega⟩) ?_
    refine zaI (o:=.lst (A.map frD)) ha (zbd ⟨by omega,by omega⟩) ?_
    have z1:=sz zB k c
    have z2:=sz zA k (by omega)
    refine⟨⟨z1.1.mono (by decide),z1.2.mono (by decide),z2.1.mono (by decide),z2.2.mono (by decide),sg⟩,?_⟩
    cases e:(decide ((gt B (k:Int)).1*(gt A (k:Int)).2≤(gt A (k:Int)).1*g)&&decide ((gt A (k:Int)).1*g≤(gt B (k:Int)).2*(gt A (k:Int)).2))
    ·refine zbD ?_
     refine h2 λq=>?_
     have z:=q (k:Int) ⟨by omega,by omega⟩
     simp only[Bool.and_eq_false_iff,decide_eq_false_iff_not] at e
     omega
    ·refine zbn ?_
     simp only[Bool.and_eq_true,decide_eq_true_eq] at e
     refine⟨rfl,c,λj hj=>?_,_,rfl⟩
     by_cases ej:j=k
     ·rw[ej]; exact e
     ·exact all j (by omega)
   ·refine h1 λj hj=>?_
    have h0:=hj.1
    have h1:=hj.2
    have z:=all j.toNat (by omega)
    rw[show ((j.toNat:Nat):Int)=j by omega] at z
    exact z
  ·exact h.elim⟩)
def zys  (zlU:Df K mg "_law_deep" zmc zgc)(zaX:mg "range"=none)(zaB:mg "len"=none):Fk P w K mg base 1 "_law_deep" zgc zgA:=
 zlU.mk' (zaw (k:=0) zlU.F zo3 (ztv) λcdv A outer s H E hr=>⟨_,(zao (zgP (i:=2) PassesOwn.never rfl zo3.nd rfl (Or.inl rfl) rfl zaX (zaa (zaT (zaV zbo) rfl zaB Boot.«len» (zaa (dv 1) zab)) zab) (zai (zaR (PDW.pt (ze2 (zcU (zaP zdF (zat (zaL (dv 1) (dv 2) (λ_ _=>rfl)) zac (λ_ _=>rfl)) (zat (zaL (dv 0) (dv 2) (λ_ _=>rfl)) zac (λ_ _=>rfl)) (zaJ _))) (zg6 (zcU (zaP zdF (zat (zaL (dv 0) (dv 2) (λ_ _=>rfl)) zac (λ_ _=>rfl)) (zat (zaL (dv 1) (dv 2) (λ_ _=>rfl)) zac (λ_ _=>rfl)) (zaJ _)))))) (zai (zas zcX)) zaW))) (zai (zas zcX))),λds S Q ex h=>by
  unfold zgA at h
  split at h
  ·rename_i f b
   obtain⟨us,vs,hu,hv,l,l9,wi,h⟩:=h
   refine zbC hv ?_
   rw[Vab]
   refine⟨⟨by omega,by omega⟩,λk dl' S'=>S=S'∧k≤vs.length∧∃u:Option D,dl'=[some (.ref f),some (.ref b),u],⟨rfl,Vak _,_,rfl⟩,?_⟩
   rintro k dl' S' ⟨rfl,hk,u,rfl⟩
   rw[Vam]
   refine zdL (λc=>?_) (λc=>h)
   have kv:inR ((vs.length:Nat):Int) (k:Int):=⟨by omega,by omega⟩
   have ku:inR ((us.length:Nat):Int) (k:Int):=⟨by omega,by omega⟩
   obtain⟨w1,w2⟩:=wi k c
   refine zaI (o:=.lst (vs.map frD)) hv (zbd kv) ?_
   refine zaI (o:=.lst (us.map frD)) hu (zbd ku) ?_
   refine ifNF w1 ?_
   refine zaI (o:=.lst (us.map frD)) hu (zbd ku) ?_
   refine zaI (o:=.lst (vs.map frD)) hv (zbd kv) ?_
   refine ifNF w2 ?_
   exact⟨rfl,c,_,rfl⟩
  ·exact h.elim⟩)
def zvi  (zlR:Df K mg "_law_whole" zmd zf3)(zbz:mg "isinstance"=none)(zdz:mg "bool"=none)(zdR:mg "int"=none)(zfW:Kit K "bool")(zev:Kit K "int"):Fk P w K mg base 1 "_law_whole" zf3 zhb:=
 zlR.mk' (zaw (k:=0) zlR.F ztc (zr9) λcdv A outer s H E hr=>⟨_,(zai (zas (zeo (zja zev rfl zbz rfl zdR Boot.«int» (dv 0)) (zfZ (zvJ (zja zfW rfl zbz rfl zdz Boot.«bool» (dv 0))))))),λds S Q ex h=>by
  unfold zhb at h
  split at h
  ·exact h
  ·exact h.elim⟩)
def zsp  (zky:Df K mg "_law_span" zmp zf8)(zjQ:Fk P w K mg base 1 "_law_whole" zf3 zhb)(zaB:mg "len"=none)(zbz:mg "isinstance"=none)(zcy:mg "tuple"=none)(zdn:Kit K "tuple"):Fk P w K mg base 2 "_law_span" zf8 zh4:=
 zky.mk' (zaw (k:=1) zky.F zxz (zx2) λcdv A outer s H E hr=>⟨_,(zao (zaR (PDW.pt (ze2 (zcU (zcO (zja zdn rfl zbz rfl zcy Boot.«tuple» (dv 0)))) (zg6 (zaP (zgg hr) (zaT zbo rfl zaB Boot.«len» (zaa (dv 0) zab)) zac (zaJ _))))) (zai (zas zcX)) zaW) (zai (zas (zeo (zan zjQ hr (zaa (zat (dv 0) zac (λ_ _=>rfl)) zab)) (zeo (zan zjQ hr (zaa (zat (dv 0) zac (λ_ _=>rfl)) zab)) (zfZ (zdS zok (zat (dv 0) zac (λ_ _=>rfl)) (zat (dv 0) zac (λ_ _=>rfl)) (zaJ _)))))))),λds S Q ex h=>by
  unfold zh4 at h
  split at h
  ·obtain⟨hab,h⟩:=h
   exact qt (Q:=Q) (decide_eq_true hab) h
  ·exact h.elim⟩)
def zwS  (zje:Df K mg "_law_spans" zkZ zgT)(zn1:Fk P w K mg base 2 "_law_span" zf8 zh4)(zaB:mg "len"=none)(zbz:mg "isinstance"=none)(zck:mg "list"=none):Fk P w K mg base 3 "_law_spans" zgT zhl:=
 zje.mk' (zaw (k:=2) zje.F zqw (zrL) λcdv A outer s H E hr=>⟨_,(zao (zaR (PDW.pt (ze2 (zcU (zcO (zwu (zvk _) rfl zbz rfl zck Boot.«list» (dv 0)))) (zg6 (zaP (zgg hr) (zaT (zaV zbo) rfl zaB Boot.«len» (zaa (dv 0) zab)) (dv 1) (zaJ _))))) (zai (zas zcX)) zaW) (zao (zem (i:=2) PassesOwn.never rfl zqw.nd rfl (Or.inl rfl) (dv 0) (zai (zaR (zcU (zcO (zan zn1 hr (zaa (dv 2) zab)))) (zai (zas zcX)) zaW))) (zai (zas zcX)))),λds S Q ex h=>by
  unfold zhl at h
  split at h
  ·rename_i a m
   obtain⟨vs,h1,rfl,hp,h⟩:=h
   refine zym (n:=a) (λK hK=>by exact hK) h1 ?_
   refine zbn ?_
   refine zbC h1 ?_
   rw[Vab]
   refine ifN (λc=>absurd rfl c) (λ_=>?_)
   refine zep (n:=a) (o:=.lst (vs.map frD)) (λk dl' S'=>S'=S∧∃u:Option D,dl'=[some (.ref a),some (.int (vs.length:Nat)),u]) ⟨rfl,_,rfl⟩ (λk dl' S' w=>by rw[w.1]; exact h1) ?_ (λdl' S' w=>by rw[w.1]; exact h)
   rintro k x dl' S' nx ct ex' ⟨rfl,u,rfl⟩ hn
   obtain⟨p,hpm,rfl⟩:=Vah.mp (Vag ex')
   refine⟨hp p hpm,?_⟩
   exact hn _ _ ⟨rfl,_,rfl⟩
  ·exact h.elim⟩)
def zwP  (zjR:Df K mg "law" zc8 zlO)(zn4:Fk P w K mg base 1 "_law_deep" zgc zgA)(zkS:Fk P w K mg base 2 "_law_in" zf1 zhX)(zon:Fk P w K mg base 3 "_law_spans" zgT zhl)(zmY:Fk P w K mg base 12 "alone" zgV zhm)(zob:Fk P w K mg base 2 "_law_about" zih zhs)(zbi:Fk P w K mg base 1 "_law_cell" zdl zc6)(zoH:Fk P w K mg base 3 "_law_two" zhj zf7)(znj:Fk P w K mg base 3 "_law_one" zh3 zhg)(zmZ:Fk P w K mg base 1 "_law_grid" zid zhk)(zaB:mg "len"=none)(zbz:mg "isinstance"=none)(zcy:mg "tuple"=none)(zck:mg "list"=none)(zdn:Kit K "tuple"):Fk P w K mg base 13 "law" zlO zfH:=
 zjR.mk' (zaw (k:=12) zjR.F zc7 zuF λcdv A outer s H E hr=>⟨_,(zao (zaA (i:=1) zc7.nd rfl (Or.inr rfl) (zan zmZ hr (zaa (zan zbi hr (zaa (dv 0) (zaa zac zab))) zab))) (zao (zaA (i:=2) zc7.nd rfl (Or.inr rfl) (zaq zbm zac (zaq zbF (zan zbi hr (zaa (dv 0) (zaa zac zab))) zac))) (zao (zaR (zaP (zbb hr) (zaq zbF (zan zbi hr (zaa (dv 0) (zaa zac zab))) zac) zac (zaJ _)) (zai (zpu (is:=[3,4,5]) rfl zc7.nd (Nms.cons (i:=3) rfl (Or.inl rfl) (by first | exact .inl rfl | exact .inr rfl) (Nms.cons (i:=4) rfl (Or.inl rfl) (by first | exact .inl rfl | exact .inr rfl) (Nms.cons (i:=5) rfl (Or.inl rfl) (by first | exact .inl rfl | exact .inr rfl) Nms.nil))) (zan zoH hr (zaa (dv 0) (zaa (dv 1) (zaa (dv 2) zab)))))) (zai (zpu (is:=[3,4,5]) rfl zc7.nd (Nms.cons (i:=3) rfl (Or.inl rfl) (by first | exact .inl rfl | exact .inr rfl) (Nms.cons (i:=4) rfl (Or.inl rfl) (by first | exact .inl rfl | exact .inr rfl) (Nms.cons (i:=5) rfl (Or.inl rfl) (by first | exact .inl rfl | exact .inr rfl) Nms.nil))) (zan znj hr (zaa (dv 0) (zaa (dv 1) (zaa (dv 2) zab))))))) (zao (zaA (i:=6) zc7.nd rfl (Or.inl rfl) (zaL (dv 5) (zaq ziZ (zan zbi hr (zaa (dv 0) (zaa zac zab))) (zaT (zaV zbo) rfl zaB Boot.«len» (zaa (dv 5) zab))) (λ_ _=>rfl))) (zao (zaA (i:=7) zc7.nd rfl (Or.inr rfl) (zan zob hr (zaa (zcS (x:="_law_number") (N:=["_law_grid_here","_law_parts"]) (caps:=[1,2]) (ar:=zam zc8) rfl rfl csc rfl (by decide) (dv 6) (λ_ _ _ _ _ _=>zbW) (λ_ _ _ _ _ _=>(zaS (zaa (zaq zdh (zat (dv 0) zac (λ_ _=>rfl)) (dv 2)) (zaa (dv 1) zab))))) (zaa (dv 0) zab)))) (zao (zaA (i:=8) zc7.nd rfl (Or.inl rfl) (zan zmY hr (zaa (zn0 (zaV znp) rfl zck Boot.«list» (zaa (dv 3) zab)) (zaa (zn0 (zaV znp) rfl zck Boot.«list» (zaa (dv 4) zab)) (zaa (zn0 (zaV znp) rfl zck Boot.«list» (zaa (dv 7) zab)) (zaa (dv 1) zab)))))) (zao (zaR (zaP zot (dv 8) zdV (zaJ _)) (zai (zas zcX)) zaW) (zao (zaR (PDW.pt (ze2 (zcU (zcO (zja zdn rfl zbz rfl zcy Boot.«tuple» (dv 8)))) (ze2 (zaP (zgg hr) (zaT (zaV zbo) rfl zaB Boot.«len» (zaa (dv 8) zab)) zac (zaJ _)) (zg6 (zcU (zcO (zan zon hr (zaa (zat (dv 8) zac (λ_ _=>rfl)) (zaa (zaT (zaV zbo) rfl zaB Boot.«len» (zaa (dv 7) zab)) zab))))))))) (zai (zas zcX)) zaW) (zao (zlf (x:="_law_answer") (N:=["_law_box","_law_grid_here"]) (caps:=[7,1]) (ar:=zam zc8) rfl rfl csc rfl (by decide) (i:=9) zc7.nd rfl rfl (dv 5) (λ_ _ _ _ _ _=>zns (zcO (zan zkS hr (zaa (dv 0) (zaa (dv 1) (zaa (dv 2) zab)))))) (λ_ _ _ _ _ _=>(dv 0))) (zai (zas (zeo (zdS (zbb hr) (zaT (zaV zbo) rfl zaB Boot.«len» (zaa (dv 9) zab)) zac (zaJ _)) (zeo (zan zkS hr (zaa (zaL (dv 9) zac (λ_ _=>rfl)) (zaa (zat (dv 8) zac (λ_ _=>rfl)) (zaa (dv 1) zab)))) (zfZ (zan zn4 hr (zaa (zat (dv 8) zac (λ_ _=>rfl)) (zaa (dv 7) zab))))))))))))))))),λds S Q ex h=>by
  obtain⟨ns,rfl,rfl,hl,h⟩:=h
  refine znk (λdl2 S2=>S2=[Ob.frz (ns.map D.int)]∧∃g W:Int,(1≤g∧g≤1000000)∧(1≤W∧W≤8)∧dl2=[some (.ref 0),some (.int g),some (.int W),none,none,none,none,none,none,none]) (λnx hn=>?_) ?_
  ·refine⟨ns,rfl,by decide,?_⟩
   intro g hg g2
   refine⟨ns,rfl,by decide,?_⟩
   exact hn _ _ ⟨rfl,g,1+ns.getD (13:Int).toNat 0%8,⟨hg,g2⟩,⟨by omega,by omega⟩,rfl⟩
  rintro dl2 S2 ⟨rfl,g,W,hg,hW,rfl⟩
  refine zg4 (λdl2 T=>T[0]?=some (Ob.frz (ns.map D.int))∧∃(a r m q:Nat) (xs:List Nd) (wx is:List Nat) (ds:List D) (R:List (List (Int×Int))),T[a]?=some (.lst (xs.map Nd.d))∧zaD q xs wx∧(1≤q∧q≤2)∧xs.length≤60∧T[r]?=some (.lst (is.map λi=>rwD (true,i)))∧is.length=q∧(∀i∈is,i<xs.length)∧T[m]?=some (.lst ds)∧zaF T 0 ds R∧R.Nodup∧(1≤R.length∧R.length≤16)∧(∀A∈R,A.length=q∧(∀p∈A,p.2=g*W∧p.1.natAbs≤400000)∧∀i∈is,(gt (zal A xs) (i:Int)).1=0)∧dl2=[some (.ref 0),some (.int g),some (.int W),some (.ref a),some (.ref r),some (.ref m),none,none,none,none]) (λnx hn=>?_) ?_
  ·refine⟨ns,rfl,by decide,?_⟩
   refine ifD (λe=>?_) (λe=>?_)
   ·exact⟨ns,rfl,hg,hW,λT a r m q xs wx is ds R pr h1 h2 h3 h4 h5 h6 h7 h8 h9 h10 h11 h12=>⟨rfl,hn _ _ ⟨pr _ _ rfl,a,r,m,q,xs,wx,is,ds,R,h1,h2,h3,h4,h5,h6,h7,h8,h9,h10,h11,h12,rfl⟩⟩⟩
   ·exact⟨ns,rfl,hg,hW,λT a r m q xs wx is ds R pr h1 h2 h3 h4 h5 h6 h7 h8 h9 h10 h11 h12=>⟨rfl,hn _ _ ⟨pr _ _ rfl,a,r,m,q,xs,wx,is,ds,R,h1,h2,h3,h4,h5,h6,h7,h8,h9,h10,h11,h12,rfl⟩⟩⟩
  rintro dl2 T ⟨h0,a,r,m,q,xs,wx,is,ds,R,hN,net,q12,l60,hr,lis,his,hm,rows,nd,r16,hR,rfl⟩
  refine zg4 (λdl2 S2=>T=S2∧∃(c:Nat) (A:List (Int×Int)),A∈R∧T[c]?=some (.lst (A.map frD))∧dl2=[some (.ref 0),some (.int g),some (.int W),some (.ref a),some (.ref r),some (.ref m),some (.ref c),none,none,none]) (λnx hn=>?_) ?_
  ·refine⟨ns,h0,by decide,?_⟩
   refine zbC hm ?_
   have l0:(0:Int)<((ds.length:Nat):Int):=by rw[rows.1]; omega
   refine⟨l0,?_⟩
   have xr:=zew (a:=ns.getD (14:Int).toNat 0) (b:=((ds.length:Nat):Int)) l0
   generalize hix:ns.getD (14:Int).toNat 0%((ds.length:Nat):Int)=i at xr
   have ir:inR ((R.length:Nat):Int) i:=⟨xr.1,by rw[← rows.1]; exact xr.2⟩
   obtain⟨c,ec,_,hc⟩:=rows.at ir
   rw[← hix] at ec
   refine zaI (o:=.lst ds) hm ec ?_
   have ik:i.toNat<R.length:=by have:=ir.1; have:=ir.2; omega
   refine hn _ _ ⟨rfl,c,R.getD i.toNat [],?_,hc,rfl⟩
   rw[Vai,Vac ik]
   exact VaB ik
  rintro dl2 S2 ⟨rfl,c,A,hA,hc,rfl⟩
  obtain⟨lA,zA,dA⟩:=hR A hA
  have eC:(zah (.lst (A.map frD))).map (λd=>match d with | .tup [.int t,.int _]=>.tup [.int (t/W),.int g] | _=>.non)=(A.map λp=>((p.1/W,g):Int×Int)).map frD:=by
   show (A.map frD).map _=_
   rw[Vau]
   rw[Vau]
   rfl
  refine zc5 (n:=c) (S1:=T) (o:=.lst (A.map frD)) (λd=>match d with | .tup [.int t,.int _]=>.tup [.int (t/W),.int g] | _=>.non) (λK hK=>by exact hK) hc (by show (A.map frD).length≤1000; rw[Vab]; omega) (λx hx S2 K pr hK=>?_) ?_
  ·have hx':x∈A.map frD:=hx
   obtain⟨p,_,rfl⟩:=Vah.mp hx'
   exact⟨(Sz.of (n:=30) 8 (show W.natAbs≤8 by omega)).fd (by omega),hK⟩
  rw[eC]
  refine⟨ns,A.map λp=>((p.1/W,g):Int×Int),zaz h0,zax _ _,by rw[Vab]; omega,λp hp=>?_,λT2 mb B p2 lmb hB lB dB zB=>?_⟩
  ·obtain⟨x,hx,rfl⟩:=Vah.mp hp
   have d1:=Int.natAbs_ediv_le_natAbs x.1 W
   have d2:=(zA x hx).2
   show (x.1/W).natAbs≤1000000
   omega
  rw[Vab] at lB dB
  have pre2:Pre T T2:=λx o e=>p2 _ _ (zaz e)
  have h02:=pre2 _ _ h0
  have hN2:=pre2 _ _ hN
  have hr2:=pre2 _ _ hr
  have hm2:=pre2 _ _ hm
  have rows2:=rows.pre pre2
  have ipA:InW g B A:=λj hj=>by
   have j0:=hj.1
   have j1:=hj.2
   have z:=dB j.toNat (by omega)
   rw[show ((j.toNat:Nat):Int)=j by omega,zoz _ hj] at z
   exact zuh hg.1 hW.1 (zA _ (zd0 hj)).1 z.1 z.2
  clear p2 hc h0 hN hr hm rows dB
  have eR:(is.map λi=>rwD (true,i))=(is.map λi=>((true,i):Bool×Nat)).map rwD:=by rw[Vau]; rfl
  rw[eR] at hr2
  have eqi:=zpY is
  have lrr:(is.map λi=>((true,i):Bool×Nat)).length=q:=by rw[Vab,lis]
  have okr:∀r∈(is.map λi=>((true,i):Bool×Nat)),r.2<xs.length:=λr hr=>by
   obtain⟨i,hi,rfl⟩:=Vah.mp hr
   exact his i hi
  generalize (is.map λi=>((true,i):Bool×Nat))=rows at hr2 lrr okr eqi
  have hi':∀i∈eqs rows,i<xs.length:=λi hi=>by rw[eqi] at hi; exact his i hi
  have sb:Spn 51 B:=λp hp=>⟨(zB p hp).1,Sz.of (n:=51) (10^15) (by have:=(zB p hp).2.1; omega),Sz.of (n:=51) (10^15) (by have:=(zB p hp).2.2; omega)⟩
  have netB:zaD B.length xs wx:=by rw[lB,lA]; exact net
  have gW:1≤g*W∧g*W≤10^9:=by
   have a:=Vbi hg.2 hW.2 (by omega) (by omega)
   have b:=VaC (show 0<g by omega) (show 0<W by omega)
   omega
  have zpt:∀A∈R,Pz 110 A:=λA hA p hp=>by
   have z:=(hR A hA).2.1 p hp
   exact⟨by rw[z.1]; exact gW.1,Sz.of (n:=110) (10^9) (by omega),Sz.of (n:=110) (10^9) (by rw[z.1]; omega)⟩
  have pt:∀A∈R,∀j:Int,inR A.length j→(gt A j).2=g*W:=λA hA j hj=>((hR A hA).2.1 _ (zd0 hj)).1
  have zer:∀A∈R,∀i∈eqs rows,(gt (zal A xs) (i:Int)).1=0:=λA hA i hi=>by rw[eqi] at hi; exact(hR A hA).2.2 i hi
  refine zoJ (zaO hN2 rfl) ?_
  refine zoJ (zaO (zaz hr2) rfl) ?_
  refine zoJ (zaO (zaz (zaz hB)) rfl) ?_
  dsimp only[zah]
  have p3:Pre T2 (T2++[Ob.lst (xs.map Nd.d)]++[Ob.lst (rows.map rwD)]++[Ob.lst (B.map frD)]):=zbf (zbf (zbf Pre.refl _) _) _
  refine⟨xs,wx,B,rows,zaz (zaz (zax _ _)),zax _ _,netB,sb,hg,by omega,by omega,zaz (zax _ _),by omega,okr,⟨by omega,by omega⟩,λeN T3 pT=>h _,λM near eS T3 mm nn ms pT h1 rI h2 _=>?_⟩
  have pT':Pre T2 T3:=λx o e=>pT _ _ (p3 _ _ e)
  have hB3:=pT' _ _ hB
  have hm3:=pT' _ _ hm2
  have rows3:=rows2.pre pT'
  clear pT p3 h1 rI hB hm2 rows2 pre2 pT' hN2 hr2 h02
  obtain⟨ln,dn,sn⟩:=zph eS (by omega) netB sb hg hi'
  obtain⟨le,lM,lE,_,_,hk⟩:=zm3 eS (by omega)
  have inN:=zwQ eS hg ⟨hW.1,by omega⟩ hi' (zer A hA) (zpt A hA) (pt A hA) netB (by omega) (by omega) sb ipA
  have uni:∀y∈R,inP g B y=true→y=A:=λy hy hp=>by
   have iy:InW g B y:=by unfold inP at hp; exact @of_decide_eq_true _ (Classical.propDecidable _) hp
   obtain⟨ly,zy,_⟩:=hR y hy
   have nt:=zrD (is:=eqs rows) (M:=M) netB rfl (show B.length=y.length by omega) (show B.length=A.length by omega) sb hg hW.1 iy ipA (zpt y hy) (zpt A hA) (λj hj=>pt y hy j (by rw[show y.length=B.length by omega]; exact hj)) (λj hj=>pt A hA j (by rw[show A.length=B.length by omega]; exact hj)) hi' (λi hi=>by rw[zer y hy i hi,zer A hA i hi,VaU,VaU]) lM (λes he=>by rw[lE es he,le]) (λk es hm=>(hk k es hm).2)
   exact zt4 (by omega) (λp hp=>(zy p hp).1) (λp hp=>(zA p hp).1) λk hk=>nt k (by omega)
  have one:=zwM nd hA (by unfold inP; exact @decide_eq_true _ (Classical.propDecidable _) ipA) uni
  have sel:=zqH (g:=g) (B:=B) rows3
  rw[one] at sel
  have bd:∀ {us:List (Int×Int)},Spn 51 us→Bd 60 us:=λz p hp=>⟨(z p hp).2.1.mono (by decide),(z p hp).2.2.mono (by decide)⟩
  have bdR:∀A∈R,Bd 60 A:=λA hA p hp=>by
   have z:=(hR A hA).2.1 p hp
   exact⟨Sz.of (n:=60) (10^9) (by omega),Sz.of (n:=60) (10^9) (by rw[z.1]; omega)⟩
  dsimp only[zfT]
  refine zg4 (λdl2 S2=>T3=S2∧dl2=[some (.ref 0),some (.int g),some (.int W),some (.ref a),some (.ref r),some (.ref m),some (.ref c),some (.ref mb),some (.tup [.ref mm,.ref nn]),none]) (λnx hn=>hn _ _ ⟨rfl,rfl⟩) ?_
  rintro dl2 S2 ⟨rfl,rfl⟩
  refine zg4 (λdl2 S2=>T3=S2∧dl2=[some (.ref 0),some (.int g),some (.int W),some (.ref a),some (.ref r),some (.ref m),some (.ref c),some (.ref mb),some (.tup [.ref mm,.ref nn]),none]) (λnx hn=>?_) ?_
  ·refine zsB ?_
   refine zbC hB3 ?_
   rw[Vab]
   refine⟨near,h2,by rw[ln],λp hp=>(sn p hp).1,?_⟩
   refine zbn ?_
   exact hn _ _ ⟨rfl,rfl⟩
  rintro dl2 S2 ⟨rfl,rfl⟩
  have rowOf:∀x∈ds,∃(b:Nat) (C:List (Int×Int)),x=.ref b∧C∈R∧T3[b]?=some (.lst (C.map frD)):=λx hx=>by
   obtain⟨k,hk,ek⟩:=VaJ.mp hx
   have hR':=Vac (show k<R.length by rw[← rows3.1]; exact hk)
   obtain⟨b,e,_,hb⟩:=rows3.2 k x _ (by rw[Vac hk,ek]) hR'
   exact⟨b,_,e,Vag hR',hb⟩
  refine zoU (n:=m) (S1:=T3) (o:=.lst ds) (zdo T3 g B) (λK hK=>by exact hK) hm3 (by show ds.length≤1000; rw[rows3.1]; omega) (λx hx S2 K pr hK=>?_) (λx hx y hy S2 K pr hK=>?_) ?_
  ·obtain⟨b,C,rfl,hC,hb⟩:=rowOf x hx
   refine⟨C,B,pr _ _ hb,pr _ _ hB3,by have:=(hR C hC).1; omega,by omega,bdR C hC,bd sb,hg,λi=>?_,λi=>?_⟩
   ·rw[zp3 hb i] at hK
    exact hK
   ·rw[zpF hb i] at hK
    exact hK
  ·rw[zuA hy] at hK
   exact hK
  have hW9:=zax T3 (.lst (ds.filterMap (zdo T3 g B)))
  show _
  dsimp only[zah]
  generalize ds.filterMap (zdo T3 g B)=ws9 at sel hW9 ⊢
  obtain⟨d9,rfl⟩:∃d,ws9=[d]:=List.length_eq_one_iff.mp sel.1
  obtain⟨b9,rfl,_,hb9⟩:=sel.2 0 d9 A rfl rfl
  refine zbC hW9 ?_
  refine zaI (o:=.lst [.ref b9]) (i:=0) hW9 (d:=.ref b9) rfl ?_
  refine⟨A,near,zaz hb9,zaz h2,by omega,by omega,bdR A hA,bd sn,hg,λ_=>?_,λc=>absurd inN c⟩
  refine⟨near,B,zaz h2,zaz hB3,ln,by omega,λk hk=>⟨(dn k hk).1,(dn k hk).2.2⟩,h _⟩⟩)
end
theorem zx8 {l:PySem.W.OpenLaw}{w:World}{K:PySem.W.Frag}{h:Heap}{mg:Str→Option Value}{fa:Addr}(X:K.In h)(G:h.Ns mainGlobals mg)(hfa:mg "law"=some (.ref fa))
  {zch:Addr}(zly:PySem.W.nsIn K mainGlobals "Number"=some (some (.ref zch)))(ziQ:PySem.W.plainGet K zch Str.empty=true)(zi7:PySem.W.hasDictIn K zch=true)(zkg:PySem.W.plainOver K zch=true)(zlr:PySem.W.findIn K (.ref zch) "__setattr__"=some (some (.builtin "object.__setattr__")))(zi5:PySem.W.makesIn K zch=true)(zjg:PySem.W.keepIn K (.ref zch)=true)
  (zkA:PySem.W.findIn K (.ref zch) "bottom"=some none)
  (zi8:PySem.W.findIn K (.ref zch) "top"=some none)
  {zcq:Addr}(zjB:PySem.W.nsIn K mainGlobals "Unknown"=some (some (.ref zcq)))(zj1:PySem.W.plainGet K zcq Str.empty=true)(zlk:PySem.W.hasDictIn K zcq=true)(zlm:PySem.W.plainOver K zcq=true)(zlH:PySem.W.findIn K (.ref zcq) "__setattr__"=some (some (.builtin "object.__setattr__")))(ziF:PySem.W.makesIn K zcq=true)(zmL:PySem.W.keepIn K (.ref zcq)=true)
  (ziM:PySem.W.findIn K (.ref zcq) "place"=some none)
  {zcb:Addr}(zkV:PySem.W.nsIn K mainGlobals "Plus"=some (some (.ref zcb)))(ziS:PySem.W.plainGet K zcb Str.empty=true)(zl9:PySem.W.hasDictIn K zcb=true)(zkn:PySem.W.plainOver K zcb=true)(zlw:PySem.W.findIn K (.ref zcb) "__setattr__"=some (some (.builtin "object.__setattr__")))(zjo:PySem.W.makesIn K zcb=true)(zlb:PySem.W.keepIn K (.ref zcb)=true)
  (zla:PySem.W.findIn K (.ref zcb) "other"=some none)
  (zkd:PySem.W.findIn K (.ref zcb) "one"=some none)
  {zb9:Addr}(zlv:PySem.W.nsIn K mainGlobals "Minus"=some (some (.ref zb9)))(zj4:PySem.W.plainGet K zb9 Str.empty=true)(ziU:PySem.W.hasDictIn K zb9=true)(ziJ:PySem.W.plainOver K zb9=true)(zmN:PySem.W.findIn K (.ref zb9) "__setattr__"=some (some (.builtin "object.__setattr__")))(zkh:PySem.W.makesIn K zb9=true)(zkC:PySem.W.keepIn K (.ref zb9)=true)
  (zkK:PySem.W.findIn K (.ref zb9) "other"=some none)
  (zlV:PySem.W.findIn K (.ref zb9) "one"=some none)
  {zb5:Addr}(zlE:PySem.W.nsIn K mainGlobals "Times"=some (some (.ref zb5)))(zju:PySem.W.plainGet K zb5 Str.empty=true)(zjD:PySem.W.hasDictIn K zb5=true)(zlg:PySem.W.plainOver K zb5=true)(zk8:PySem.W.findIn K (.ref zb5) "__setattr__"=some (some (.builtin "object.__setattr__")))(zmO:PySem.W.makesIn K zb5=true)(zjA:PySem.W.keepIn K (.ref zb5)=true)
  (zjm:PySem.W.findIn K (.ref zb5) "other"=some none)
  (zkN:PySem.W.findIn K (.ref zb5) "one"=some none)
  {zci:Addr}(zlZ:PySem.W.nsIn K mainGlobals "Power"=some (some (.ref zci)))(ziL:PySem.W.plainGet K zci Str.empty=true)(ziT:PySem.W.hasDictIn K zci=true)(zkP:PySem.W.plainOver K zci=true)(zmz:PySem.W.findIn K (.ref zci) "__setattr__"=some (some (.builtin "object.__setattr__")))(zmF:PySem.W.makesIn K zci=true)(zkt:PySem.W.keepIn K (.ref zci)=true)
  (ziA:PySem.W.findIn K (.ref zci) "many"=some none)
  (zjh:PySem.W.findIn K (.ref zci) "one"=some none)
  {f0 h0:Addr}{m0:Value}(a0:nsA K "_law_grid" f0)(l0:lkA K f0 "_law_grid" "_law_grid" zmj m0 h0)(c0:cdA K h0 "_law_grid")
  {f1 h1:Addr}{m1:Value}(a1:nsA K "_law_cell" f1)(l1:lkA K f1 "_law_cell" "_law_cell" ziR m1 h1)(c1:cdA K h1 "_law_cell")
  {f2 h2:Addr}{m2:Value}(a2:nsA K "_law_about" f2)(l2:lkA K f2 "_law_about" "_law_about" zi6 m2 h2)(c2:cdA K h2 "_law_about")
  {f3 h3:Addr}{m3:Value}(a3:nsA K "equation_places" f3)(l3:lkA K f3 "equation_places" "equation_places" zhy m3 h3)(c3:cdA K h3 "equation_places")
  {f4 h4:Addr}{m4:Value}(a4:nsA K "picked" f4)(l4:lkA K f4 "picked" "picked" zgd m4 h4)(c4:cdA K h4 "picked")
  {f5 h5:Addr}{m5:Value}(a5:nsA K "less" f5)(l5:lkA K f5 "less" "less" zl6 m5 h5)(c5:cdA K h5 "less")
  {f6 h6:Addr}{m6:Value}(a6:nsA K "rounded_up" f6)(l6:lkA K f6 "rounded_up" "rounded_up" zli m6 h6)(c6:cdA K h6 "rounded_up")
  {f7 h7:Addr}{m7:Value}(a7:nsA K "span_of" f7)(l7:lkA K f7 "span_of" "span_of" zlM m7 h7)(c7:cdA K h7 "span_of")
  {f8 h8:Addr}{m8:Value}(a8:fdA K zch "forth" f8)(l8:lkA K f8 "forth" "Number.forth" zmI m8 h8)(c8:cdA K h8 "Number.forth")
  {f9 h9:Addr}{m9:Value}(a9:fdA K zcq "forth" f9)(l9:lkA K f9 "forth" "Unknown.forth" zkF m9 h9)(c9:cdA K h9 "Unknown.forth")
  {f10 h10:Addr}{m10:Value}(a10:nsA K "add_spans" f10)(l10:lkA K f10 "add_spans" "add_spans" zk1 m10 h10)(c10:cdA K h10 "add_spans")
  {f11 h11:Addr}{m11:Value}(a11:fdA K zcb "forth" f11)(l11:lkA K f11 "forth" "Plus.forth" zl0 m11 h11)(c11:cdA K h11 "Plus.forth")
  {f12 h12:Addr}{m12:Value}(a12:nsA K "take_spans" f12)(l12:lkA K f12 "take_spans" "take_spans" ziI m12 h12)(c12:cdA K h12 "take_spans")
  {f13 h13:Addr}{m13:Value}(a13:fdA K zb9 "forth" f13)(l13:lkA K f13 "forth" "Minus.forth" zkc m13 h13)(c13:cdA K h13 "Minus.forth")
  {f14 h14:Addr}{m14:Value}(a14:nsA K "mul_spans" f14)(l14:lkA K f14 "mul_spans" "mul_spans" ziX m14 h14)(c14:cdA K h14 "mul_spans")
  {f15 h15:Addr}{m15:Value}(a15:fdA K zb5 "forth" f15)(l15:lkA K f15 "forth" "Times.forth" zi2 m15 h15)(c15:cdA K h15 "Times.forth")
  {f16 h16:Addr}{m16:Value}(a16:nsA K "raised" f16)(l16:lkA K f16 "raised" "raised" zmP m16 h16)(c16:cdA K h16 "raised")
  {f17 h17:Addr}{m17:Value}(a17:nsA K "raise_span" f17)(l17:lkA K f17 "raise_span" "raise_span" ziw m17 h17)(c17:cdA K h17 "raise_span")
  {f18 h18:Addr}{m18:Value}(a18:fdA K zci "forth" f18)(l18:lkA K f18 "forth" "Power.forth" zjC m18 h18)(c18:cdA K h18 "Power.forth")
  {f19 h19:Addr}{m19:Value}(a19:fdA K zci "__init__" f19)(l19:lkA K f19 "__init__" "Power.__init__" zlA m19 h19)(c19:cdA K h19 "Power.__init__")
  {f20 h20:Addr}{m20:Value}(a20:fdA K zch "__init__" f20)(l20:lkA K f20 "__init__" "Number.__init__" zi3 m20 h20)(c20:cdA K h20 "Number.__init__")
  {f21 h21:Addr}{m21:Value}(a21:fdA K zcq "__init__" f21)(l21:lkA K f21 "__init__" "Unknown.__init__" zmv m21 h21)(c21:cdA K h21 "Unknown.__init__")
  {f22 h22:Addr}{m22:Value}(a22:fdA K zcb "__init__" f22)(l22:lkA K f22 "__init__" "Pair.__init__" zj3 m22 h22)(c22:cdA K h22 "Pair.__init__")
  {f23 h23:Addr}{m23:Value}(a23:fdA K zb9 "__init__" f23)(l23:lkA K f23 "__init__" "Pair.__init__" zki m23 h23)(c23:cdA K h23 "Pair.__init__")
  {f24 h24:Addr}{m24:Value}(a24:fdA K zb5 "__init__" f24)(l24:lkA K f24 "__init__" "Pair.__init__" zjV m24 h24)(c24:cdA K h24 "Pair.__init__")
  {f25 h25:Addr}{m25:Value}(a25:nsA K "kind_of" f25)(l25:lkA K f25 "kind_of" "kind_of" ziP m25 h25)(c25:cdA K h25 "kind_of")
  {f26 h26:Addr}{m26:Value}(a26:nsA K "worths" f26)(l26:lkA K f26 "worths" "worths" zmw m26 h26)(c26:cdA K h26 "worths")
  {f27 h27:Addr}{m27:Value}(a27:fdA K zch "slope" f27)(l27:lkA K f27 "slope" "Number.slope" ziE m27 h27)(c27:cdA K h27 "Number.slope")
  {f28 h28:Addr}{m28:Value}(a28:fdA K zcq "slope" f28)(l28:lkA K f28 "slope" "Unknown.slope" zg2 m28 h28)(c28:cdA K h28 "Unknown.slope")
  {f29 h29:Addr}{m29:Value}(a29:fdA K zcb "slope_of_both" f29)(l29:lkA K f29 "slope_of_both" "Plus.slope_of_both" zkD m29 h29)(c29:cdA K h29 "Plus.slope_of_both")
  {f30 h30:Addr}{m30:Value}(a30:fdA K zcb "slope" f30)(l30:lkA K f30 "slope" "Pair.slope" ziu m30 h30)(c30:cdA K h30 "Pair.slope")
  {f31 h31:Addr}{m31:Value}(a31:fdA K zb9 "slope_of_both" f31)(l31:lkA K f31 "slope_of_both" "Minus.slope_of_both" zkv m31 h31)(c31:cdA K h31 "Minus.slope_of_both")
  {f32 h32:Addr}{m32:Value}(a32:fdA K zb9 "slope" f32)(l32:lkA K f32 "slope" "Pair.slope" zhu m32 h32)(c32:cdA K h32 "Pair.slope")
  {f33 h33:Addr}{m33:Value}(a33:fdA K zb5 "slope_of_both" f33)(l33:lkA K f33 "slope_of_both" "Times.slope_of_both" zmu m33 h33)(c33:cdA K h33 "Times.slope_of_both")
  {f34 h34:Addr}{m34:Value}(a34:fdA K zb5 "slope" f34)(l34:lkA K f34 "slope" "Pair.slope" zhv m34 h34)(c34:cdA K h34 "Pair.slope")
  {f35 h35:Addr}{m35:Value}(a35:nsA K "scale_span" f35)(l35:lkA K f35 "scale_span" "scale_span" zkY m35 h35)(c35:cdA K h35 "scale_span")
  {f36 h36:Addr}{m36:Value}(a36:fdA K zci "slope" f36)(l36:lkA K f36 "slope" "Power.slope" zgE m36 h36)(c36:cdA K h36 "Power.slope")
  {f37 h37:Addr}{m37:Value}(a37:nsA K "slopes" f37)(l37:lkA K f37 "slopes" "slopes" zkm m37 h37)(c37:cdA K h37 "slopes")
  {f38 h38:Addr}{m38:Value}(a38:nsA K "slopes_at" f38)(l38:lkA K f38 "slopes_at" "slopes_at" zj5 m38 h38)(c38:cdA K h38 "slopes_at")
  {f39 h39:Addr}{m39:Value}(a39:nsA K "signed" f39)(l39:lkA K f39 "signed" "signed" zl1 m39 h39)(c39:cdA K h39 "signed")
  {f40 h40:Addr}{m40:Value}(a40:nsA K "without" f40)(l40:lkA K f40 "without" "without" zgb m40 h40)(c40:cdA K h40 "without")
  {f41 h41:Addr}{m41:Value}(a41:nsA K "cofactor" f41)(l41:lkA K f41 "cofactor" "cofactor" zej m41 h41)(c41:cdA K h41 "cofactor")
  {f42 h42:Addr}{m42:Value}(a42:nsA K "determinant" f42)(l42:lkA K f42 "determinant" "determinant" zce m42 h42)(c42:cdA K h42 "determinant")
  {f43 h43:Addr}{m43:Value}(a43:nsA K "inverse_entry" f43)(l43:lkA K f43 "inverse_entry" "inverse_entry" zmJ m43 h43)(c43:cdA K h43 "inverse_entry")
  {f44 h44:Addr}{m44:Value}(a44:nsA K "inverse_row" f44)(l44:lkA K f44 "inverse_row" "inverse_row" zgl m44 h44)(c44:cdA K h44 "inverse_row")
  {f45 h45:Addr}{m45:Value}(a45:nsA K "inverse" f45)(l45:lkA K f45 "inverse" "inverse" zhK m45 h45)(c45:cdA K h45 "inverse")
  {f46 h46:Addr}{m46:Value}(a46:nsA K "middle" f46)(l46:lkA K f46 "middle" "middle" zjx m46 h46)(c46:cdA K h46 "middle")
  {f47 h47:Addr}{m47:Value}(a47:nsA K "middles" f47)(l47:lkA K f47 "middles" "middles" zh6 m47 h47)(c47:cdA K h47 "middles")
  {f48 h48:Addr}{m48:Value}(a48:nsA K "box_of_middles" f48)(l48:lkA K f48 "box_of_middles" "box_of_middles" zg1 m48 h48)(c48:cdA K h48 "box_of_middles")
  {f49 h49:Addr}{m49:Value}(a49:nsA K "sum_of_products" f49)(l49:lkA K f49 "sum_of_products" "sum_of_products" zkH m49 h49)(c49:cdA K h49 "sum_of_products")
  {f50 h50:Addr}{m50:Value}(a50:nsA K "lacking" f50)(l50:lkA K f50 "lacking" "lacking" zg0 m50 h50)(c50:cdA K h50 "lacking")
  {f51 h51:Addr}{m51:Value}(a51:nsA K "span_by" f51)(l51:lkA K f51 "span_by" "span_by" zet m51 h51)(c51:cdA K h51 "span_by")
  {f52 h52:Addr}{m52:Value}(a52:nsA K "step_by" f52)(l52:lkA K f52 "step_by" "step_by" zgz m52 h52)(c52:cdA K h52 "step_by")
  {f53 h53:Addr}{m53:Value}(a53:nsA K "thin_worths" f53)(l53:lkA K f53 "thin_worths" "thin_worths" zms m53 h53)(c53:cdA K h53 "thin_worths")
  {f54 h54:Addr}{m54:Value}(a54:nsA K "deep" f54)(l54:lkA K f54 "deep" "deep" zlx m54 h54)(c54:cdA K h54 "deep")
  {f55 h55:Addr}{m55:Value}(a55:nsA K "all_deep" f55)(l55:lkA K f55 "all_deep" "all_deep" ziq m55 h55)(c55:cdA K h55 "all_deep")
  {f56 h56:Addr}{m56:Value}(a56:nsA K "sure" f56)(l56:lkA K f56 "sure" "sure" zjW m56 h56)(c56:cdA K h56 "sure")
  {f57 h57:Addr}{m57:Value}(a57:nsA K "leasts_are_sure" f57)(l57:lkA K f57 "leasts_are_sure" "leasts_are_sure" zgx m57 h57)(c57:cdA K h57 "leasts_are_sure")
  {f58 h58:Addr}{m58:Value}(a58:nsA K "alone" f58)(l58:lkA K f58 "alone" "alone" zhw m58 h58)(c58:cdA K h58 "alone")
  {f59 h59:Addr}{m59:Value}(a59:nsA K "_law_numbers" f59)(l59:lkA K f59 "_law_numbers" "_law_numbers" zi9 m59 h59)(c59:cdA K h59 "_law_numbers")
  {f60 h60:Addr}{m60:Value}(a60:nsA K "_law_at" f60)(l60:lkA K f60 "_law_at" "_law_at" zll m60 h60)(c60:cdA K h60 "_law_at")
  {f61 h61:Addr}{m61:Value}(a61:nsA K "_law_answers" f61)(l61:lkA K f61 "_law_answers" "_law_answers" zlj m61 h61)(c61:cdA K h61 "_law_answers")
  {f62 h62:Addr}{m62:Value}(a62:nsA K "_law_lowest" f62)(l62:lkA K f62 "_law_lowest" "_law_lowest" zjd m62 h62)(c62:cdA K h62 "_law_lowest")
  {f63 h63:Addr}{m63:Value}(a63:nsA K "_law_product_of" f63)(l63:lkA K f63 "_law_product_of" "_law_product_of" zmD m63 h63)(c63:cdA K h63 "_law_product_of")
  {f64 h64:Addr}{m64:Value}(a64:nsA K "_law_two" f64)(l64:lkA K f64 "_law_two" "_law_two" zfY m64 h64)(c64:cdA K h64 "_law_two")
  {f65 h65:Addr}{m65:Value}(a65:nsA K "_law_one" f65)(l65:lkA K f65 "_law_one" "_law_one" zjE m65 h65)(c65:cdA K h65 "_law_one")
  {f66 h66:Addr}{m66:Value}(a66:nsA K "_law_holds" f66)(l66:lkA K f66 "_law_holds" "_law_holds" zjb m66 h66)(c66:cdA K h66 "_law_holds")
  {f67 h67:Addr}{m67:Value}(a67:nsA K "_law_in" f67)(l67:lkA K f67 "_law_in" "_law_in" zks m67 h67)(c67:cdA K h67 "_law_in")
  {f68 h68:Addr}{m68:Value}(a68:nsA K "_law_deep" f68)(l68:lkA K f68 "_law_deep" "_law_deep" zmc m68 h68)(c68:cdA K h68 "_law_deep")
  {f69 h69:Addr}{m69:Value}(a69:nsA K "_law_whole" f69)(l69:lkA K f69 "_law_whole" "_law_whole" zmd m69 h69)(c69:cdA K h69 "_law_whole")
  {f70 h70:Addr}{m70:Value}(a70:nsA K "_law_span" f70)(l70:lkA K f70 "_law_span" "_law_span" zmp m70 h70)(c70:cdA K h70 "_law_span")
  {f71 h71:Addr}{m71:Value}(a71:nsA K "_law_spans" f71)(l71:lkA K f71 "_law_spans" "_law_spans" zkZ m71 h71)(c71:cdA K h71 "_law_spans")
  {f72 h72:Addr}{m72:Value}(a72:nsA K "law" f72)(l72:lkA K f72 "law" "law" zc8 m72 h72)(c72:cdA K h72 "law")
  (zaB:PySem.W.nsIn K mainGlobals "len"=some none)
  (zaX:PySem.W.nsIn K mainGlobals "range"=some none)
  (zb7:PySem.W.nsIn K mainGlobals "max"=some none)
  (zb6:PySem.W.nsIn K mainGlobals "min"=some none)
  (zbh:PySem.W.nsIn K mainGlobals "zip"=some none)
  (zbs:PySem.W.nsIn K mainGlobals "sum"=some none)
  (zbg:PySem.W.nsIn K mainGlobals "enumerate"=some none)
  (zcF:PySem.W.nsIn K mainGlobals "all"=some none)
  (zdC:PySem.W.nsIn K mainGlobals "abs"=some none)
  (zbz:PySem.W.nsIn K mainGlobals "isinstance"=some none)
  (zdz:PySem.W.nsIn K mainGlobals "bool"=some none)
  (zdR:PySem.W.nsIn K mainGlobals "int"=some none)
  (zcy:PySem.W.nsIn K mainGlobals "tuple"=some none)
  (zck:PySem.W.nsIn K mainGlobals "list"=some none)
  (zfW:Kit K "bool")
  (zev:Kit K "int")
  (zdn:Kit K "tuple")
  :∃fd:FuncData,(∀(s:Shared) (v:Value),BindsTo s fd ⟨[v],[]⟩ [("_law_script",v)])∧∀base:Heap,K.In base→base.Ns mainGlobals mg→za6 l.prog w K mg base (CXE l.prog w) 13 fa fd ["_law_script"] (upF K zfH):=by
 have e:=hfa.symm.trans (PySem.W.mg_of X G a72)
 cases e
 let zaj:zbJ K mg:=⟨zch,PySem.W.mg_of X G zly,⟨ziQ,zi7,zkg,zlr⟩,zkA,zi8,zi5,zjg⟩
 let zak:zbN K mg:=⟨zcq,PySem.W.mg_of X G zjB,⟨zj1,zlk,zlm,zlH⟩,ziM,ziF,zmL⟩
 let zaf:zbH K mg:=⟨zcb,PySem.W.mg_of X G zkV,⟨ziS,zl9,zkn,zlw⟩,zla,zkd,zjo,zlb⟩
 let zad:zbG K mg:=⟨zb9,PySem.W.mg_of X G zlv,⟨zj4,ziU,ziJ,zmN⟩,zkK,zlV,zkh,zkC⟩
 let zae:zbE K mg:=⟨zb5,PySem.W.mg_of X G zlE,⟨zju,zjD,zlg,zk8⟩,zjm,zkN,zmO,zjA⟩
 let zag:zbK K mg:=⟨zci,PySem.W.mg_of X G zlZ,⟨ziL,ziT,zkP,zmz⟩,ziA,zjh,zmF,zkt⟩
 let zjz:Df K mg "_law_grid" zmj zid:=dfo X G a0 l0 c0 λ_ _ _ _ _ _=>ln1 λ_=>rfl
 let zme:Df K mg "_law_cell" ziR zdl:=dfo X G a1 l1 c1 λ_ _ _ _ _ _=>ln2 λ_ _=>rfl
 let zle:Df K mg "_law_about" zi6 zih:=dfo X G a2 l2 c2 λ_ _ _ _ _ _=>ln2 λ_ _=>rfl
 let ziC:Df K mg "equation_places" zhy zik:=dfo X G a3 l3 c3 λ_ _ _ _ _ _=>ln1 λ_=>rfl
 let ziD:Df K mg "picked" zgd zeD:=dfo X G a4 l4 c4 λ_ _ _ _ _ _=>ln2 λ_ _=>rfl
 let zlq:Df K mg "less" zl6 zim:=dfo X G a5 l5 c5 λ_ _ _ _ _ _=>ln2 λ_ _=>rfl
 let zkU:Df K mg "rounded_up" zli zd6:=dfo X G a6 l6 c6 λ_ _ _ _ _ _=>ln2 λ_ _=>rfl
 let zkw:Df K mg "span_of" zlM zgq:=dfo X G a7 l7 c7 λ_ _ _ _ _ _=>ln3 λ_ _ _=>rfl
 let zjf:Dm K zaj.C "forth" "Number.forth" zmI zgN:=dmo a8 l8 c8 λ_ _ _ _ _ _=>ln4 λ_ _ _ _=>rfl
 let zj9:Dm K zak.C "forth" "Unknown.forth" zkF zhE:=dmo a9 l9 c9 λ_ _ _ _ _ _=>ln4 λ_ _ _ _=>rfl
 let ziN:Df K mg "add_spans" zk1 zdb:=dfo X G a10 l10 c10 λ_ _ _ _ _ _=>ln2 λ_ _=>rfl
 let zke:Dm K zaf.C "forth" "Plus.forth" zl0 zhY:=dmo a11 l11 c11 λ_ _ _ _ _ _=>ln4 λ_ _ _ _=>rfl
 let zmb:Df K mg "take_spans" ziI zdZ:=dfo X G a12 l12 c12 λ_ _ _ _ _ _=>ln2 λ_ _=>rfl
 let zml:Dm K zad.C "forth" "Minus.forth" zkc zho:=dmo a13 l13 c13 λ_ _ _ _ _ _=>ln4 λ_ _ _ _=>rfl
 let zjF:Df K mg "mul_spans" ziX zdq:=dfo X G a14 l14 c14 λ_ _ _ _ _ _=>ln3 λ_ _ _=>rfl
 let zmg:Dm K zae.C "forth" "Times.forth" zi2 zhC:=dmo a15 l15 c15 λ_ _ _ _ _ _=>ln4 λ_ _ _ _=>rfl
 let zjl:Df K mg "raised" zmP zhd:=dfo X G a16 l16 c16 λ_ _ _ _ _ _=>ln2 λ_ _=>rfl
 let zkb:Df K mg "raise_span" ziw zfM:=dfo X G a17 l17 c17 λ_ _ _ _ _ _=>ln3 λ_ _ _=>rfl
 let zlD:Dm K zag.C "forth" "Power.forth" zjC zia:=dmo a18 l18 c18 λ_ _ _ _ _ _=>ln4 λ_ _ _ _=>rfl
 let zkx:Dm K zag.C "__init__" "Power.__init__" zlA zg5:=dmo a19 l19 c19 λ_ _ _ _ _ _=>ln3 λ_ _ _=>rfl
 let zlN:Dm K zaj.C "__init__" "Number.__init__" zi3 zhH:=dmo a20 l20 c20 λ_ _ _ _ _ _=>ln3 λ_ _ _=>rfl
 let zjt:Dm K zak.C "__init__" "Unknown.__init__" zmv zgh:=dmo a21 l21 c21 λ_ _ _ _ _ _=>ln2 λ_ _=>rfl
 let ziH:Dm K zaf.C "__init__" "Pair.__init__" zj3 zhD:=dmo a22 l22 c22 λ_ _ _ _ _ _=>ln3 λ_ _ _=>rfl
 let zmk:Dm K zad.C "__init__" "Pair.__init__" zki zgi:=dmo a23 l23 c23 λ_ _ _ _ _ _=>ln3 λ_ _ _=>rfl
 let zjN:Dm K zae.C "__init__" "Pair.__init__" zjV zhQ:=dmo a24 l24 c24 λ_ _ _ _ _ _=>ln3 λ_ _ _=>rfl
 let zmC:Df K mg "kind_of" ziP zez:=dfo X G a25 l25 c25 λ_ _ _ _ _ _=>ln1 λ_=>rfl
 let zln:Df K mg "worths" zmw zd7:=dfo X G a26 l26 c26 λ_ _ _ _ _ _=>ln3 λ_ _ _=>rfl
 let zj0:Dm K zaj.C "slope" "Number.slope" ziE zf5:=dmo a27 l27 c27 λ_ _ _ _ _ _=>ln5 λ_ _ _ _ _=>rfl
 let zlY:Dm K zak.C "slope" "Unknown.slope" zg2 zhp:=dmo a28 l28 c28 λ_ _ _ _ _ _=>ln5 λ_ _ _ _ _=>rfl
 let zi0:Dm K zaf.C "slope_of_both" "Plus.slope_of_both" zkD zhi:=dmo a29 l29 c29 λ_ _ _ _ _ _=>ln6 λ_ _ _ _ _ _=>rfl
 let zmm:Dm K zaf.C "slope" "Pair.slope" ziu zgO:=dmo a30 l30 c30 λ_ _ _ _ _ _=>ln5 λ_ _ _ _ _=>rfl
 let zjn:Dm K zad.C "slope_of_both" "Minus.slope_of_both" zkv zgm:=dmo a31 l31 c31 λ_ _ _ _ _ _=>ln6 λ_ _ _ _ _ _=>rfl
 let zjs:Dm K zad.C "slope" "Pair.slope" zhu zh1:=dmo a32 l32 c32 λ_ _ _ _ _ _=>ln5 λ_ _ _ _ _=>rfl
 let ziz:Dm K zae.C "slope_of_both" "Times.slope_of_both" zmu zgr:=dmo a33 l33 c33 λ_ _ _ _ _ _=>ln6 λ_ _ _ _ _ _=>rfl
 let zj6:Dm K zae.C "slope" "Pair.slope" zhv zif:=dmo a34 l34 c34 λ_ _ _ _ _ _=>ln5 λ_ _ _ _ _=>rfl
 let zkf:Df K mg "scale_span" zkY zg8:=dfo X G a35 l35 c35 λ_ _ _ _ _ _=>ln2 λ_ _=>rfl
 let zmK:Dm K zag.C "slope" "Power.slope" zgE zhz:=dmo a36 l36 c36 λ_ _ _ _ _ _=>ln5 λ_ _ _ _ _=>rfl
 let zmG:Df K mg "slopes" zkm zil:=dfo X G a37 l37 c37 λ_ _ _ _ _ _=>ln3 λ_ _ _=>rfl
 let zmf:Df K mg "slopes_at" zj5 zg3:=dfo X G a38 l38 c38 λ_ _ _ _ _ _=>ln4 λ_ _ _ _=>rfl
 let zkT:Df K mg "signed" zl1 zdW:=dfo X G a39 l39 c39 λ_ _ _ _ _ _=>ln2 λ_ _=>rfl
 let ziK:Df K mg "without" zgb zdE:=dfo X G a40 l40 c40 λ_ _ _ _ _ _=>ln3 λ_ _ _=>rfl
 let zbM:Df K mg "cofactor" zej zbU:=dfo X G a41 l41 c41 λ_ _ _ _ _ _=>ln3 λ_ _ _=>rfl
 let zbq:Df K mg "determinant" zce zbR:=dfo X G a42 l42 c42 λ_ _ _ _ _ _=>ln1 λ_=>rfl
 let zl8:Df K mg "inverse_entry" zmJ zht:=dfo X G a43 l43 c43 λ_ _ _ _ _ _=>ln5 λ_ _ _ _ _=>rfl
 let zld:Df K mg "inverse_row" zgl zgM:=dfo X G a44 l44 c44 λ_ _ _ _ _ _=>ln4 λ_ _ _ _=>rfl
 let zjZ:Df K mg "inverse" zhK zgt:=dfo X G a45 l45 c45 λ_ _ _ _ _ _=>ln2 λ_ _=>rfl
 let zlT:Df K mg "middle" zjx zhZ:=dfo X G a46 l46 c46 λ_ _ _ _ _ _=>ln1 λ_=>rfl
 let zjv:Df K mg "middles" zh6 ze4:=dfo X G a47 l47 c47 λ_ _ _ _ _ _=>ln1 λ_=>rfl
 let zls:Df K mg "box_of_middles" zg1 zfL:=dfo X G a48 l48 c48 λ_ _ _ _ _ _=>ln1 λ_=>rfl
 let zjJ:Df K mg "sum_of_products" zkH zey:=dfo X G a49 l49 c49 λ_ _ _ _ _ _=>ln3 λ_ _ _=>rfl
 let zmt:Df K mg "lacking" zg0 zhr:=dfo X G a50 l50 c50 λ_ _ _ _ _ _=>ln5 λ_ _ _ _ _=>rfl
 let zjM:Df K mg "span_by" zet zie:=dfo X G a51 l51 c51 λ_ _ _ _ _ _=>ln6 λ_ _ _ _ _ _=>rfl
 let zlz:Df K mg "step_by" zgz zh0:=dfo X G a52 l52 c52 λ_ _ _ _ _ _=>ln5 λ_ _ _ _ _=>rfl
 let zjH:Df K mg "thin_worths" zms zhx:=dfo X G a53 l53 c53 λ_ _ _ _ _ _=>ln4 λ_ _ _ _=>rfl
 let zkO:Df K mg "deep" zlx zgs:=dfo X G a54 l54 c54 λ_ _ _ _ _ _=>ln2 λ_ _=>rfl
 let zlW:Df K mg "all_deep" ziq zhV:=dfo X G a55 l55 c55 λ_ _ _ _ _ _=>ln2 λ_ _=>rfl
 let ziV:Df K mg "sure" zjW zh5:=dfo X G a56 l56 c56 λ_ _ _ _ _ _=>ln2 λ_ _=>rfl
 let ziB:Df K mg "leasts_are_sure" zgx zgj:=dfo X G a57 l57 c57 λ_ _ _ _ _ _=>ln2 λ_ _=>rfl
 let zkk:Df K mg "alone" zhw zgV:=dfo X G a58 l58 c58 λ_ _ _ _ _ _=>ln4 λ_ _ _ _=>rfl
 let zmq:Df K mg "_law_numbers" zi9 zfv:=dfo X G a59 l59 c59 λ_ _ _ _ _ _=>ln5 λ_ _ _ _ _=>rfl
 let zlQ:Df K mg "_law_at" zll zeu:=dfo X G a60 l60 c60 λ_ _ _ _ _ _=>ln2 λ_ _=>rfl
 let zlK:Df K mg "_law_answers" zlj zij:=dfo X G a61 l61 c61 λ_ _ _ _ _ _=>ln3 λ_ _ _=>rfl
 let zl2:Df K mg "_law_lowest" zjd zg9:=dfo X G a62 l62 c62 λ_ _ _ _ _ _=>ln2 λ_ _=>rfl
 let zjS:Df K mg "_law_product_of" zmD zeI:=dfo X G a63 l63 c63 λ_ _ _ _ _ _=>ln3 λ_ _ _=>rfl
 let zlu:Df K mg "_law_two" zfY zhj:=dfo X G a64 l64 c64 λ_ _ _ _ _ _=>ln3 λ_ _ _=>rfl
 let zjX:Df K mg "_law_one" zjE zh3:=dfo X G a65 l65 c65 λ_ _ _ _ _ _=>ln3 λ_ _ _=>rfl
 let zkL:Df K mg "_law_holds" zjb zgv:=dfo X G a66 l66 c66 λ_ _ _ _ _ _=>ln3 λ_ _ _=>rfl
 let zmo:Df K mg "_law_in" zks zf1:=dfo X G a67 l67 c67 λ_ _ _ _ _ _=>ln3 λ_ _ _=>rfl
 let zlU:Df K mg "_law_deep" zmc zgc:=dfo X G a68 l68 c68 λ_ _ _ _ _ _=>ln2 λ_ _=>rfl
 let zlR:Df K mg "_law_whole" zmd zf3:=dfo X G a69 l69 c69 λ_ _ _ _ _ _=>ln1 λ_=>rfl
 let zky:Df K mg "_law_span" zmp zf8:=dfo X G a70 l70 c70 λ_ _ _ _ _ _=>ln1 λ_=>rfl
 let zje:Df K mg "_law_spans" zkZ zgT:=dfo X G a71 l71 c71 λ_ _ _ _ _ _=>ln2 λ_ _=>rfl
 let zjR:Df K mg "law" zc8 zlO:=dfo X G a72 l72 c72 λ_ _ _ _ _ _=>ln1 λ_=>rfl
 have zaB:=PySem.W.mg_none_of X G zaB
 have zaX:=PySem.W.mg_none_of X G zaX
 have zb7:=PySem.W.mg_none_of X G zb7
 have zb6:=PySem.W.mg_none_of X G zb6
 have zbh:=PySem.W.mg_none_of X G zbh
 have zbs:=PySem.W.mg_none_of X G zbs
 have zbg:=PySem.W.mg_none_of X G zbg
 have zcF:=PySem.W.mg_none_of X G zcF
 have zdC:=PySem.W.mg_none_of X G zdC
 have zbz:=PySem.W.mg_none_of X G zbz
 have zdz:=PySem.W.mg_none_of X G zdz
 have zdR:=PySem.W.mg_none_of X G zdR
 have zcy:=PySem.W.mg_none_of X G zcy
 have zck:=PySem.W.mg_none_of X G zck
 refine⟨PySem.W.fnOf "law" "law" (zeb zc8) (zdf zc8) (zam zc8) .none .none .none m72 none (.ref h72) .none,λs v=>.of_eq rfl,λbase _ _=>?_⟩
 let zmZ:=zuE (P:=l.prog) (w:=w) (base:=base) zjz
 let zbi:=zwh (P:=l.prog) (w:=w) (base:=base) zme zaB
 let zob:=zxX (P:=l.prog) (w:=w) (base:=base) zle zbi zaX zaB
 let znh:=zvG (P:=l.prog) (w:=w) (base:=base) ziC
 let zfg:=zsi (P:=l.prog) (w:=w) (base:=base) ziD
 let zn3:=zwH (P:=l.prog) (w:=w) (base:=base) zlq
 let zde:=zwo (P:=l.prog) (w:=w) (base:=base) zkU
 let znw:=zuN (P:=l.prog) (w:=w) (base:=base) zkw zde zn3
 let zoV:=zs8 (P:=l.prog) (w:=w) (base:=base) zaj zak zaf zad zae zag zjf znw
 let zm8:=ztz (P:=l.prog) (w:=w) (base:=base) zak zaj zaf zad zae zag zj9
 let zb3:=zyn (P:=l.prog) (w:=w) (base:=base) ziN
 let zoO:=ztk (P:=l.prog) (w:=w) (base:=base) zaf zaj zak zad zae zag zke zb3
 let zcj:=zwp (P:=l.prog) (w:=w) (base:=base) zmb
 let zmU:=zv8 (P:=l.prog) (w:=w) (base:=base) zad zaj zak zaf zae zag zml zcj
 let zcg:=zvd (P:=l.prog) (w:=w) (base:=base) zjF zde zb7 zb6
 let znJ:=zvF (P:=l.prog) (w:=w) (base:=base) zae zaj zak zaf zad zag zmg zcg
 let zmE:=zvg (P:=l.prog) (w:=w) (base:=base) zjl zaX
 let zeF:=zxA (P:=l.prog) (w:=w) (base:=base) zkb zde zmE zb7 zb6
 let zo1:=zsV (P:=l.prog) (w:=w) (base:=base) zag zaj zak zaf zad zae zlD zeF
 let zfk:=zv6 (P:=l.prog) (w:=w) (base:=base) zag zkx
 let zeH:=zwT (P:=l.prog) (w:=w) (base:=base) zaj zlN
 let zeB:=zvR (P:=l.prog) (w:=w) (base:=base) zak zjt
 let zfm:=zvQ (P:=l.prog) (w:=w) (base:=base) zaf ziH
 let zfn:=zs2 (P:=l.prog) (w:=w) (base:=base) zad zmk
 let zfS:=zxu (P:=l.prog) (w:=w) (base:=base) zae zjN
 let zfl:=zwX (P:=l.prog) (w:=w) (base:=base) zag zae zad zaf zak zaj zmC zfk zfS zfn zfm zeB zeH
 let zda:=zwE (P:=l.prog) (w:=w) (base:=base) zag zae zad zaf zak zaj zln zo1 znJ zmU zoO zm8 zoV zfl
 let zng:=zyw (P:=l.prog) (w:=w) (base:=base) zaj zak zaf zad zae zag zj0
 let znX:=zvj (P:=l.prog) (w:=w) (base:=base) zak zaj zaf zad zae zag zlY zaX
 let zgL:=zsC (P:=l.prog) (w:=w) (base:=base) zaf zi0 zb3
 let zoS:=zxQ (P:=l.prog) (w:=w) (base:=base) zaf zaj zak zad zae zag zmm zgL zbh
 let zf9:=ztX (P:=l.prog) (w:=w) (base:=base) zad zjn zcj
 let zm0:=zvt (P:=l.prog) (w:=w) (base:=base) zad zaj zak zaf zae zag zjs zf9 zbh
 let zhO:=zvv (P:=l.prog) (w:=w) (base:=base) zae ziz zb3 zcg
 let zod:=zug (P:=l.prog) (w:=w) (base:=base) zae zaj zak zaf zad zag zj6 zhO zbh
 let znS:=zvE (P:=l.prog) (w:=w) (base:=base) zkf zb7 zb6
 let zn5:=zt2 (P:=l.prog) (w:=w) (base:=base) zag zaj zak zaf zad zae zmK zcg znS zeF
 let zni:=zth (P:=l.prog) (w:=w) (base:=base) zag zae zad zaf zak zaj zmG zn5 zod zm0 zoS znX zng zfl zda zaB
 let zn2:=zw5 (P:=l.prog) (w:=w) (base:=base) zmf zfg zni
 let zcv:=zxN (P:=l.prog) (w:=w) (base:=base) zkT
 let zcr:=zvX (P:=l.prog) (w:=w) (base:=base) ziK
 let zyk:=zuH (P:=l.prog) (w:=w) (base:=base) zbq (Df.never (P:=l.prog) (w:=w) (base:=base) 0 zbM) zbs zbg zaB
 let zxB:=zuO (P:=l.prog) (w:=w) (base:=base) zbM zcv zyk zcr
 let zrO:=zxj (P:=l.prog) (w:=w) (base:=base) zbq zxB zbs zbg zaB
 let zrr:=zu0 (P:=l.prog) (w:=w) (base:=base) zbM zcv zrO zcr
 let zuz:=zwC (P:=l.prog) (w:=w) (base:=base) zbq zrr zbs zbg zaB
 let zus:=zsN (P:=l.prog) (w:=w) (base:=base) zbM zcv zuz zcr
 let zwg:=zuC (P:=l.prog) (w:=w) (base:=base) zbq zus zbs zbg zaB
 let zb8:=zuV (P:=l.prog) (w:=w) (base:=base) zbM zcv zwg zcr
 let zcC:=ztn (P:=l.prog) (w:=w) (base:=base) zbq zb8 zbs zbg zaB
 let zn8:=zrq (P:=l.prog) (w:=w) (base:=base) zl8 zb8
 let znG:=zwJ (P:=l.prog) (w:=w) (base:=base) zld zn8 zaX zaB
 let zoN:=zrs (P:=l.prog) (w:=w) (base:=base) zjZ znG zcC zaX zaB
 let zoC:=zwV (P:=l.prog) (w:=w) (base:=base) zlT
 let zfO:=zub (P:=l.prog) (w:=w) (base:=base) zjv zoC
 let zfB:=zrJ (P:=l.prog) (w:=w) (base:=base) zls zfO
 let zes:=zxD (P:=l.prog) (w:=w) (base:=base) zjJ zb3 zcg zbh
 let zoE:=ztE (P:=l.prog) (w:=w) (base:=base) zmt zcj zes
 let zm6:=ztQ (P:=l.prog) (w:=w) (base:=base) zjM zb3 zes zcj zoE zfB zbh zaX zaB
 let znP:=zxY (P:=l.prog) (w:=w) (base:=base) zlz zm6 zbg
 let zno:=zvK (P:=l.prog) (w:=w) (base:=base) zjH zfg zda zfB
 let znI:=zyp (P:=l.prog) (w:=w) (base:=base) zkO
 let zos:=zux (P:=l.prog) (w:=w) (base:=base) zlW znI zcF zbh
 let zoF:=zsx (P:=l.prog) (w:=w) (base:=base) ziV
 let zn7:=zsy (P:=l.prog) (w:=w) (base:=base) ziB zoF zcF
 let zmY:=zts (P:=l.prog) (w:=w) (base:=base) zkk zos znP zno zoN zfO zn2 zn7 zda znh zaB
 let zek:=zuM (P:=l.prog) (w:=w) (base:=base) zmq zbi zaX
 let zcR:=zyv (P:=l.prog) (w:=w) (base:=base) zlQ
 let znb:=zsE (P:=l.prog) (w:=w) (base:=base) zlK
 let zoo:=zx9 (P:=l.prog) (w:=w) (base:=base) zl2 zdC
 let zeh:=zyb (P:=l.prog) (w:=w) (base:=base) zjS zcR zoo
 let zoH:=zr5 (P:=l.prog) (w:=w) (base:=base) zlu znb zbi zeh zcR zek
 let znj:=zvH (P:=l.prog) (w:=w) (base:=base) zjX zeh zek zbi
 let znK:=zvY (P:=l.prog) (w:=w) (base:=base) zkL
 let zkS:=zsU (P:=l.prog) (w:=w) (base:=base) zmo znK zaX zaB
 let zn4:=zys (P:=l.prog) (w:=w) (base:=base) zlU zaX zaB
 let zjQ:=zvi (P:=l.prog) (w:=w) (base:=base) zlR zbz zdz zdR zfW zev
 let zn1:=zsp (P:=l.prog) (w:=w) (base:=base) zky zjQ zaB zbz zcy zdn
 let zon:=zwS (P:=l.prog) (w:=w) (base:=base) zje zn1 zaB zbz zck
 let G_law:=zwP (P:=l.prog) (w:=w) (base:=base) zjR zn4 zkS zon zmY zob zbi zoH znj zmZ zaB zbz zcy zck zdn
 exact G_law.ok
end Mine
open PySem PySem.W PyProof.Rows
set_option maxRecDepth 100003 in
set_option maxHeartbeats 0 in
theorem PySem.Challenge.cw_boxnarrow_k47_one_of_known_roots_holds : PySem.Challenge.rw_boxnarrow_k47_one_of_known_roots.Holds := by
 w_on; refine PySem.W.holds_law Mine.ws_eq λsaid=>?_
 refine PySem.W.holds_open (q:=Mine.vw) (loose:=[]) (Xt:=Mine.xt) (XP:=XL Mine.vw []) (Yf:=Hook.obs (kHook Mine.kp Mine.ks Mine.zfw)) (Ya:=Hook.val (kHook Mine.kp Mine.ks Mine.zfw))
  (YP:=Hook.says (kHook Mine.kp Mine.ks Mine.zfw)) (N:=9896) Mine.left (Hook.of (kHook Mine.kp Mine.ks Mine.zfw)) (Hook.keeps (kHook Mine.kp Mine.ks Mine.zfw)) (λs e=>xl_of s (Bool.and_eq_true_iff.mp e).1) XL.keeps
  (by rfl) (by rfl) (by rfl) (λs e=>recFacts_of (Bool.and_eq_true_iff.mp e).2) (by rfl) (by first | assumption | decide +kernel)
  (by decide +kernel) ⟨rfl,rfl,rfl,rfl,rfl,by decide +kernel⟩ ?hw ?hc
 (case hw=>w_witness2)
 k_fill
 refine L3.zw3 (l:=PySem.Challenge.rw_boxnarrow_k47_one_of_known_roots) (x:="_law_script") 13 rfl rfl ⟨rfl,by decide,by decide⟩ (λw h Y=>PySem.W.kIn_of Y) ?F
 case F=>
  intro w mg fa h KX G hmg
  refine' Mine.zx8 KX G hmg (zly:=?zly) (ziQ:=?ziQ) (zi7:=?zi7) (zkg:=?zkg) (zlr:=?zlr) (zi5:=?zi5) (zjg:=?zjg) (zkA:=?zkA) (zi8:=?zi8) (zjB:=?zjB) (zj1:=?zj1) (zlk:=?zlk) (zlm:=?zlm) (zlH:=?zlH) (ziF:=?ziF) (zmL:=?zmL) (ziM:=?ziM) (zkV:=?zkV) (ziS:=?ziS) (zl9:=?zl9) (zkn:=?zkn) (zlw:=?zlw) (zjo:=?zjo) (zlb:=?zlb) (zla:=?zla) (zkd:=?zkd) (zlv:=?zlv) (zj4:=?zj4) (ziU:=?ziU) (ziJ:=?ziJ) (zmN:=?zmN) (zkh:=?zkh) (zkC:=?zkC) (zkK:=?zkK) (zlV:=?zlV) (zlE:=?zlE) (zju:=?zju) (zjD:=?zjD) (zlg:=?zlg) (zk8:=?zk8) (zmO:=?zmO) (zjA:=?zjA) (zjm:=?zjm) (zkN:=?zkN) (zlZ:=?zlZ) (ziL:=?ziL) (ziT:=?ziT) (zkP:=?zkP) (zmz:=?zmz) (zmF:=?zmF) (zkt:=?zkt) (ziA:=?ziA) (zjh:=?zjh) (a0:=?a0) (l0:=?l0) (c0:=?c0) (a1:=?a1) (l1:=?l1) (c1:=?c1) (a2:=?a2) (l2:=?l2) (c2:=?c2) (a3:=?a3) (l3:=?l3) (c3:=?c3) (a4:=?a4) (l4:=?l4) (c4:=?c4) (a5:=?a5) (l5:=?l5) (c5:=?c5) (a6:=?a6) (l6:=?l6) (c6:=?c6) (a7:=?a7) (l7:=?l7) (c7:=?c7) (a8:=?a8) (l8:=?l8) (c8:=?c8) (a9:=?a9) (l9:=?l9) (c9:=?c9) (a10:=?a10) (l10:=?l10) (c10:=?c10) (a11:=?a11) (l11:=?l11) (c11:=?c11) (a12:=?a12) (l12:=?l12) (c12:=?c12) (a13:=?a13) (l13:=?l13) (c13:=?c13) (a14:=?a14) (l14:=?l14) (c14:=?c14) (a15:=?a15) (l15:=?l15) (c15:=?c15) (a16:=?a16) (l16:=?l16) (c16:=?c16) (a17:=?a17) (l17:=?l17) (c17:=?c17) (a18:=?a18) (l18:=?l18) (c18:=?c18) (a19:=?a19) (l19:=?l19) (c19:=?c19) (a20:=?a20) (l20:=?l20) (c20:=?c20) (a21:=?a21) (l21:=?l21) (c21:=?c21) (a22:=?a22) (l22:=?l22) (c22:=?c22) (a23:=?a23) (l23:=?l23) (c23:=?c23) (a24:=?a24) (l24:=?l24) (c24:=?c24) (a25:=?a25) (l25:=?l25) (c25:=?c25) (a26:=?a26) (l26:=?l26) (c26:=?c26) (a27:=?a27) (l27:=?l27) (c27:=?c27) (a28:=?a28) (l28:=?l28) (c28:=?c28) (a29:=?a29) (l29:=?l29) (c29:=?c29) (a30:=?a30) (l30:=?l30) (c30:=?c30) (a31:=?a31) (l31:=?l31) (c31:=?c31) (a32:=?a32) (l32:=?l32) (c32:=?c32) (a33:=?a33) (l33:=?l33) (c33:=?c33) (a34:=?a34) (l34:=?l34) (c34:=?c34) (a35:=?a35) (l35:=?l35) (c35:=?c35) (a36:=?a36) (l36:=?l36) (c36:=?c36) (a37:=?a37) (l37:=?l37) (c37:=?c37) (a38:=?a38) (l38:=?l38) (c38:=?c38) (a39:=?a39) (l39:=?l39) (c39:=?c39) (a40:=?a40) (l40:=?l40) (c40:=?c40) (a41:=?a41) (l41:=?l41) (c41:=?c41) (a42:=?a42) (l42:=?l42) (c42:=?c42) (a43:=?a43) (l43:=?l43) (c43:=?c43) (a44:=?a44) (l44:=?l44) (c44:=?c44) (a45:=?a45) (l45:=?l45) (c45:=?c45) (a46:=?a46) (l46:=?l46) (c46:=?c46) (a47:=?a47) (l47:=?l47) (c47:=?c47) (a48:=?a48) (l48:=?l48) (c48:=?c48) (a49:=?a49) (l49:=?l49) (c49:=?c49) (a50:=?a50) (l50:=?l50) (c50:=?c50) (a51:=?a51) (l51:=?l51) (c51:=?c51) (a52:=?a52) (l52:=?l52) (c52:=?c52) (a53:=?a53) (l53:=?l53) (c53:=?c53) (a54:=?a54) (l54:=?l54) (c54:=?c54) (a55:=?a55) (l55:=?l55) (c55:=?c55) (a56:=?a56) (l56:=?l56) (c56:=?c56) (a57:=?a57) (l57:=?l57) (c57:=?c57) (a58:=?a58) (l58:=?l58) (c58:=?c58) (a59:=?a59) (l59:=?l59) (c59:=?c59) (a60:=?a60) (l60:=?l60) (c60:=?c60) (a61:=?a61) (l61:=?l61) (c61:=?c61) (a62:=?a62) (l62:=?l62) (c62:=?c62) (a63:=?a63) (l63:=?l63) (c63:=?c63) (a64:=?a64) (l64:=?l64) (c64:=?c64) (a65:=?a65) (l65:=?l65) (c65:=?c65) (a66:=?a66) (l66:=?l66) (c66:=?c66) (a67:=?a67) (l67:=?l67) (c67:=?c67) (a68:=?a68) (l68:=?l68) (c68:=?c68) (a69:=?a69) (l69:=?l69) (c69:=?c69) (a70:=?a70) (l70:=?l70) (c70:=?c70) (a71:=?a71) (l71:=?l71) (c71:=?c71) (a72:=?a72) (l72:=?l72) (c72:=?c72) (zaB:=?zaB) (zaX:=?zaX) (zb7:=?zb7) (zb6:=?zb6) (zbh:=?zbh) (zbs:=?zbs) (zbg:=?zbg) (zcF:=?zcF) (zdC:=?zdC) (zbz:=?zbz) (zdz:=?zdz) (zdR:=?zdR) (zcy:=?zcy) (zck:=?zck) (zfW:=?zfW) (zev:=?zev) (zdn:=?zdn)
  (case zly | ziQ | zi7 | zkg | zlr | zi5 | zjg | zkA | zi8 | zjB | zj1 | zlk | zlm | zlH | ziF | zmL | ziM | zkV | ziS | zl9 | zkn | zlw | zjo | zlb | zla | zkd | zlv | zj4 | ziU | ziJ | zmN | zkh | zkC | zkK | zlV | zlE | zju | zjD | zlg | zk8 | zmO | zjA | zjm | zkN | zlZ | ziL | ziT | zkP | zmz | zmF | zkt | ziA | zjh | zaB | zaX | zb7 | zb6 | zbh | zbs | zbg | zcF | zdC | zbz | zdz | zdR | zcy | zck=>k_is)
  (case a0 | a1 | a2 | a3 | a4 | a5 | a6 | a7 | a10 | a12 | a14 | a16 | a17 | a25 | a26 | a35 | a37 | a38 | a39 | a40 | a41 | a42 | a43 | a44 | a45 | a46 | a47 | a48 | a49 | a50 | a51 | a52 | a53 | a54 | a55 | a56 | a57 | a58 | a59 | a60 | a61 | a62 | a63 | a64 | a65 | a66 | a67 | a68 | a69 | a70 | a71 | a72=>delta Mine.nsA; k_is)
  (case a8 | a9 | a11 | a13 | a15 | a18 | a19 | a20 | a21 | a22 | a23 | a24 | a27 | a28 | a29 | a30 | a31 | a32 | a33 | a34 | a36=>delta Mine.fdA; k_is)
  (case l0 | l1 | l2 | l3 | l4 | l5 | l6 | l7 | l8 | l9 | l10 | l11 | l12 | l13 | l14 | l15 | l16 | l17 | l18 | l19 | l20 | l21 | l22 | l23 | l24 | l25 | l26 | l27 | l28 | l29 | l30 | l31 | l32 | l33 | l34 | l35 | l36 | l37 | l38 | l39 | l40 | l41 | l42 | l43 | l44 | l45 | l46 | l47 | l48 | l49 | l50 | l51 | l52 | l53 | l54 | l55 | l56 | l57 | l58 | l59 | l60 | l61 | l62 | l63 | l64 | l65 | l66 | l67 | l68 | l69 | l70 | l71 | l72=>delta Mine.lkA; k_is)
  (case c0 | c1 | c2 | c3 | c4 | c5 | c6 | c7 | c8 | c9 | c10 | c11 | c12 | c13 | c14 | c15 | c16 | c17 | c18 | c19 | c20 | c21 | c22 | c23 | c24 | c25 | c26 | c27 | c28 | c29 | c30 | c31 | c32 | c33 | c34 | c35 | c36 | c37 | c38 | c39 | c40 | c41 | c42 | c43 | c44 | c45 | c46 | c47 | c48 | c49 | c50 | c51 | c52 | c53 | c54 | c55 | c56 | c57 | c58 | c59 | c60 | c61 | c62 | c63 | c64 | c65 | c66 | c67 | c68 | c69 | c70 | c71 | c72=>delta Mine.cdA; k_is)
  (case zfW=>exact L3.zn9 _ _ (by simp))
  (case zev=>exact L3.zn9 _ _ (by simp))
  (case zdn=>exact L3.zn9 _ _ (by simp))
