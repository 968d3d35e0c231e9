import PyProof.Rows.All
import Wide.All
import OpenK.AllK
import Wide.FinOn
import Lean
import PyProof.EqAt
import PyProof.EqKinds
import PyProof.TupleCall
import PySem.Challenge.RW_boxnarrow_k46_whole_no_two_alike
set_option genSizeOf false
theorem Vaa:type_of% @Nat.le_refl:=@Nat.le_refl
theorem Vab:type_of% @List.length_map:=@List.length_map
theorem Vac:type_of% @List.getElem?_eq_getElem:=@List.getElem?_eq_getElem
theorem Vad:type_of% @List.getElem?_eq_some_iff:=@List.getElem?_eq_some_iff
theorem Vae:type_of% @List.getElem?_map:=@List.getElem?_map
theorem Vaf:type_of% @Int.mul_le_mul_of_nonneg_right:=@Int.mul_le_mul_of_nonneg_right
theorem Vag:type_of% @List.mem_map:=@List.mem_map
theorem Vah:type_of% @Int.toNat_natCast:=@Int.toNat_natCast
theorem Vai:type_of% @List.mem_of_getElem?:=@List.mem_of_getElem?
theorem Vaj:type_of% @Nat.zero_le:=@Nat.zero_le
theorem Vak:type_of% @List.getD_eq_getElem?_getD:=@List.getD_eq_getElem?_getD
theorem Val:type_of% @List.getElem?_append_left:=@List.getElem?_append_left
theorem Vam:type_of% @Int.pow_succ:=@Int.pow_succ
theorem Van:type_of% @Option.map_eq_some_iff:=@Option.map_eq_some_iff
theorem Vao:type_of% @List.length_take:=@List.length_take
theorem Vap:type_of% @List.map_map:=@List.map_map
theorem Vaq:type_of% @Nat.ne_of_lt:=@Nat.ne_of_lt
theorem Var:type_of% @Bool.false_ne_true:=@Bool.false_ne_true
theorem Vas:type_of% @List.length_append:=@List.length_append
theorem Vat:type_of% @List.size_toArray:=@List.size_toArray
theorem Vau:type_of% @List.mem_cons:=@List.mem_cons
theorem Vav:type_of% @Int.le_refl:=@Int.le_refl
theorem Vaw:type_of% @Int.mul_nonneg:=@Int.mul_nonneg
theorem Vax:type_of% @Nat.lt_of_lt_of_le:=@Nat.lt_of_lt_of_le
theorem Vay:type_of% @List.lookup_cons:=@List.lookup_cons
theorem Vaz:type_of% @List.take_of_length_le:=@List.take_of_length_le
theorem VaA:type_of% @List.take_length:=@List.take_length
theorem VaB:type_of% @Nat.le_trans:=@Nat.le_trans
theorem VaC:type_of% @List.length_cons:=@List.length_cons
theorem VaD:type_of% @List.map_append:=@List.map_append
theorem VaE:type_of% @Int.mul_pos:=@Int.mul_pos
theorem VaF:type_of% @List.getElem?_append_right:=@List.getElem?_append_right
theorem VaG:type_of% @Nat.lt_irrefl:=@Nat.lt_irrefl
theorem VaH:type_of% @List.mem_append_right:=@List.mem_append_right
theorem VaI:type_of% @Int.le_of_mul_le_mul_right:=@Int.le_of_mul_le_mul_right
theorem VaJ:type_of% @Int.pow_pos:=@Int.pow_pos
theorem VaK:type_of% @List.getElem?_eq_none:=@List.getElem?_eq_none
theorem VaL:type_of% @List.mem_append:=@List.mem_append
theorem VaM:type_of% @List.getElem_mem:=@List.getElem_mem
theorem VaN:type_of% @Nat.pow_pos:=@Nat.pow_pos
theorem VaO:type_of% @Int.pow_nonneg:=@Int.pow_nonneg
theorem VaP:type_of% @List.getElem?_set_ne:=@List.getElem?_set_ne
theorem VaQ:type_of% @Int.mul_pow:=@Int.mul_pow
theorem VaR:type_of% @List.mem_cons_of_mem:=@List.mem_cons_of_mem
theorem VaS:type_of% @List.mem_iff_getElem:=@List.mem_iff_getElem
theorem VaT:type_of% @Option.isSome_iff_exists:=@Option.isSome_iff_exists
theorem VaU:type_of% @Int.neg_mul:=@Int.neg_mul
theorem VaV:type_of% @Nat.le_of_lt:=@Nat.le_of_lt
theorem VaW:type_of% @Int.mul_one:=@Int.mul_one
theorem VaX:type_of% @List.map_cons:=@List.map_cons
theorem VaY:type_of% @Int.natAbs_mul:=@Int.natAbs_mul
theorem VaZ:type_of% @Int.pow_zero:=@Int.pow_zero
theorem Va0:type_of% @Nat.mul_le_mul:=@Nat.mul_le_mul
theorem Va1:type_of% @List.mem_range:=@List.mem_range
theorem Va2:type_of% @List.append_nil:=@List.append_nil
theorem Va3:type_of% @List.getElem?_eq_none_iff:=@List.getElem?_eq_none_iff
theorem Va4:type_of% @Int.mul_comm:=@Int.mul_comm
theorem Va5:type_of% @List.getElem?_range:=@List.getElem?_range
theorem Va6:type_of% @List.mem_cons_self:=@List.mem_cons_self
theorem Va7:type_of% @List.length_drop:=@List.length_drop
theorem Va8:type_of% @List.replicate_succ:=@List.replicate_succ
theorem Va9:type_of% @List.take_succ:=@List.take_succ
theorem Vba:type_of% @List.length_nil:=@List.length_nil
theorem Vbb:type_of% @Int.zero_mul:=@Int.zero_mul
theorem Vbc:type_of% @List.ext_getElem?:=@List.ext_getElem?
theorem Vbd:type_of% @List.mem_singleton:=@List.mem_singleton
theorem Vbe:type_of% @Bool.eq_iff_iff:=@Bool.eq_iff_iff
theorem Vbf:type_of% @List.flatten_cons:=@List.flatten_cons
theorem Vbg:type_of% @Nat.sub_self:=@Nat.sub_self
theorem Vbh:type_of% @List.length_range:=@List.length_range
theorem Vbi:type_of% @Int.le_trans:=@Int.le_trans
theorem Vbj:type_of% @List.mem_of_mem_drop:=@List.mem_of_mem_drop
set_option Elab.async false
set_option linter.all false
set_option maxRecDepth 100000
set_option maxHeartbeats 40000000
namespace L2
open PySem PySem.Spec PyProof.Rows
def zaV (s:Stmt)(j:Nat):Stmt:=match s with
 | .ClassDef _ _ _ body _ _ _ _ _ _ _=>body.getD j (.Pass ⟨0,0,0,0⟩)
 | _=>.Pass ⟨0,0,0,0⟩
def zer (s:Stmt):Arguments:=match s with
 | .FunctionDef _ a _ _ _ _ _ _ _ _=>a
 | _=>{ posonlyargs:=[],args:=[],vararg:=none,kwonlyargs:=[],kw_defaults:=[],kwarg:=none,defaults:=[] }
def zd2 (s:Stmt):List Stmt:=match s with
 | .FunctionDef _ _ b _ _ _ _ _ _ _=>b
 | _=>[]
def zam (s:Stmt):Scope:=match s with
 | .FunctionDef _ _ _ _ _ _ sc _ _ _=>sc
 | _=>{ kind:=.function,names:=[],isGenerator:=false,isCoroutine:=false }
end L2
namespace L3
open PySem PySem.W PyProof.Rows PySem.Calls
theorem zoA {α β γ δ:Type}{f:α→Option β}{A:β→γ}{B:β→δ}{a:γ}{b:δ}(h1:(λx=>(f x).map A)=λ_=>some a)(h2:(λx=>(f x).map B)=λ_=>some b):(λx=>(f x).map λs=>(A s,B s))=λ_=>some (a,b):=by
 funext x
 have e1:=congrFun h1 x
 have e2:=congrFun h2 x
 cases h:f x with
 | none=>rw[h] at e1; cases e1
 | some s=>
  rw[h] at e1 e2
  exact congrArg some (Prod.ext (Option.some.inj e1) (Option.some.inj e2))
def goT (tb:String→Option Builtin)(p:Program)(w:World)(n₀:Nat)(ann:Option Value):Nat→SharedT→Thread→Option SharedT
 | 0,_,_=>none
 | k+1,s,t=>bif through t then some s else bif stepOk n₀ ann t then (stepT (denote tb) p w s t).bind (λr=>goT tb p w n₀ ann k r.1 r.2) else none
theorem zrB {tb:String→Option Builtin}{p:Program}{w:World}{n₀:Nat}{ann:Option Value}:∀ {n:Nat} {s s':SharedT} {t:Thread},goT tb p w n₀ ann n s t=some s'→topRun tb p w n₀ ann n s.abs t=some s'.abs
 | 0,_,_,_,q=>nomatch q
 | n+1,s,s',t,q=>by
  unfold goT at q
  unfold topRun
  cases c1:through t
  ·rw[c1] at q
   cases c2:stepOk n₀ ann t
   ·rw[c2] at q
    exact nomatch q
   ·rw[c2] at q
    obtain⟨⟨s2,t2⟩,c3,q⟩:=Option.bind_eq_some_iff.mp q
    rw[stepT_spec c3]
    exact zrB q
  ·rw[c1] at q
   cases q
   rfl
def znH (os:Array Obj):Nat→Nat→Nat→BT
 | 0,_,_=>.nil
 | f+1,a,b=>match os[b]? with
  | some o=>.node o (znH os f (2*a) (a+b)) (znH os f (2*a) (2*a+b))
  | none=>.nil
noncomputable def bootT (P:Params):BT:=znH (boot_heap P).objs 6 1 0
noncomputable abbrev zcK (w:World)(os:OsState):SharedT:=⟨bootT w.params,11,(boot_heap w.params).life,Array.mk [],boot_drawn,boot_toks,os⟩
def zj4 (s:SharedT)(a:Addr):Option Obj:=if a<s.n then (match s.tree.get a with | some o=>alive o | none=>s.abs.heap.get? a) else none
theorem zwo (s:SharedT)(a:Addr):s.abs.heap.get? a=zj4 s a:=by
 unfold zj4
 split
 ·rename_i h
  cases e:s.tree.get a with
  | none=>rfl
  | some o=>exact abs_get h e
 ·rename_i h
  exact abs_get_none h
theorem zxK (l:List Addr)(s:SharedT):l.map s.abs.heap.get?=l.map (zj4 s):=List.map_congr_left λa _=>zwo s a
noncomputable abbrev seenT (p q:Program)(loose:List Str)(Xt:Shared→Bool){α:Type}(YT:SharedT→α)(g0:Bool)(w:World)(s:SharedT):=
 ((staticsOk (importedModules p.main.body) (boot_heap w.params) s.abs.heap&&namesBound p s.abs.heap&&gensDone s.abs&&laidKept (boot_heap w.params) s.abs.heap),openSeen q loose (importedModules p.main.body) Xt g0 s.abs,YT s)
theorem zuE {p q:Program}{loose:List Str}{Xt:Shared→Bool}{α:Type}{Yf:Shared→α}{YT:SharedT→α}{Ya:World→α}{N:Nat}{g0:Bool}{ann:Option Value}(hY:∀s:SharedT,Yf s.abs=YT s)(e:opening p=plainProg p.main.scope.names)(hN:Nat.ble 600 N=true)(f:∀s,fenceModules? p s=some s)
  (size:∀w:World,((boot_heap w.params).isNs mainGlobals&&(Array.mk []:Array GenState).size==0,(boot_heap w.params).objs.size,(boot_heap w.params).nsMap mainGlobals "__annotations__")=(true,11,ann))
  (run:∀w:World,(λos=>(goT treeTable p w 11 ann N (zcK w os) (topStub p)).map λs=>seenT p q loose Xt YT g0 w s)=λ_=>some (true,openGood q loose,Ya w)):LeftO p q loose Xt Yf Ya N g0:=λw=>by
 obtain⟨⟨h,gs,d,k,os⟩,e1,e'⟩:=Van.mp (boot_open e hN f w)
 obtain⟨rfl,rfl,rfl,rfl⟩:h=boot_heap w.params∧gs=Array.mk []∧d=boot_drawn∧k=boot_toks:=by simpa using e'
 obtain⟨y1,y2,y3⟩:_∧_∧_:=by simpa only [Prod.mk.injEq] using size w
 obtain⟨s',r1,r2⟩:=Van.mp (congrFun (run w) os)
 obtain⟨l1,l2,l3⟩:_∧_∧_:=by simpa only [Prod.mk.injEq] using r2
 have r:topRun treeTable p w 11 ann N ⟨boot_heap w.params,Array.mk [],boot_drawn,boot_toks,os⟩ (topStub p)=some s'.abs:=by
  have z:=zrB r1
  exact z
 have t:topFrom treeTable p w N ⟨boot_heap w.params,Array.mk [],boot_drawn,boot_toks,os⟩=some s'.abs:=by
  unfold topFrom
  dsimp only
  rw[y1,y2,y3,r]
  show (match staticsOk (importedModules p.main.body) (boot_heap w.params) s'.abs.heap&&namesBound p s'.abs.heap&&gensDone s'.abs&&laidKept (boot_heap w.params) s'.abs.heap with | true=>_ | false=>_)=_
  rw[l1]
 unfold openEnds
 rw[e1]
 show Option.map _ (topFrom treeTable p w N _)=_
 rw[t]
 exact congrArg some (Prod.ext l2 ((hY s').trans l3))
noncomputable abbrev zpo (p:Program)(w:World)(s:SharedT):Bool:=staticsOk (importedModules p.main.body) (boot_heap w.params) s.abs.heap&&namesBound p s.abs.heap&&gensDone s.abs&&laidKept (boot_heap w.params) s.abs.heap
theorem zxt {p q:Program}{loose:List Str}{Xt:Shared→Bool}{α:Type}{Yf:Shared→α}{YT:SharedT→α}{Ya:World→α}{N:Nat}{g0:Bool}{ann:Option Value}(hY:∀s:SharedT,Yf s.abs=YT s)(e:opening p=plainProg p.main.scope.names)(hN:Nat.ble 600 N=true)(f:∀s,fenceModules? p s=some s)
  (size:∀w:World,((boot_heap w.params).isNs mainGlobals&&(Array.mk []:Array GenState).size==0,(boot_heap w.params).objs.size,(boot_heap w.params).nsMap mainGlobals "__annotations__")=(true,11,ann))
  (ra:∀w:World,(λos=>(goT treeTable p w 11 ann N (zcK w os) (topStub p)).map λs=>(zpo p w s,(openSeen q loose (importedModules p.main.body) Xt g0 s.abs).1))=λ_=>some (true,(openGood q loose).1))
  (rb:∀w:World,(λos=>(goT treeTable p w 11 ann N (zcK w os) (topStub p)).map λs=>((openSeen q loose (importedModules p.main.body) Xt g0 s.abs).2.1,(openSeen q loose (importedModules p.main.body) Xt g0 s.abs).2.2.1))=λ_=>some ((openGood q loose).2.1,(openGood q loose).2.2.1))
  (rc:∀w:World,(λos=>(goT treeTable p w 11 ann N (zcK w os) (topStub p)).map λs=>(openSeen q loose (importedModules p.main.body) Xt g0 s.abs).2.2.2)=λ_=>some (openGood q loose).2.2.2)
  (objs:∀w:World,(λos=>(goT treeTable p w 11 ann N (zcK w os) (topStub p)).map YT)=λ_=>some (Ya w)):LeftO p q loose Xt Yf Ya N g0:=by
 refine zuE hY e hN f size λw=>funext λos=>?_
 obtain⟨s1,a1,b1⟩:=Van.mp (congrFun (ra w) os)
 obtain⟨s2,a2,b2⟩:=Van.mp (congrFun (rb w) os)
 obtain⟨s3,a3,b3⟩:=Van.mp (congrFun (rc w) os)
 obtain⟨s4,a4,b4⟩:=Van.mp (congrFun (objs w) os)
 rw[a1] at a2 a3 a4
 cases a2
 cases a3
 cases a4
 obtain⟨l1,l2⟩:=Prod.mk.inj b1
 obtain⟨l3,l4⟩:=Prod.mk.inj b2
 have l5:openSeen q loose (importedModules p.main.body) Xt g0 s1.abs=openGood q loose:=Prod.ext l2 (Prod.ext l3 (Prod.ext l4 b3))
 rw[a1]
 show some (zpo p w s1,openSeen q loose (importedModules p.main.body) Xt g0 s1.abs,YT s1)=some (true,openGood q loose,Ya w)
 rw[l1,l5,b4]
end L3
namespace Mine
open PySem PySem.Spec PyProof.Rows L2 L3
def top (i:Nat):Stmt:=PySem.Challenge.pw_boxnarrow_k46_whole_no_two_alike.main.body.getD i (.Pass ⟨0,0,0,0⟩)
theorem ws_eq:PySem.W.OpenLaw.wellSaid PySem.Challenge.rw_boxnarrow_k46_whole_no_two_alike=true:=by decide +kernel
def vw:Program:={ PySem.Challenge.pw_boxnarrow_k46_whole_no_two_alike with main:={ PySem.Challenge.pw_boxnarrow_k46_whole_no_two_alike.main with body:=[top 0,top 2,top 3,top 4,top 5,top 6,top 7,top 8,top 10,top 11,top 13,top 14,top 16,top 17,top 18,top 19,top 20,top 21,top 22,top 23,top 24,top 26,top 27,top 28,top 29,top 30,top 31,top 32,top 33,top 34,top 36,top 37,top 39,top 41,top 42,top 43,top 44,top 45,top 46,top 47,top 48,top 49,top 50,top 51,top 52,top 53,top 55,top 56,top 57,top 58,top 59,top 60,top 61,top 62,top 63,top 64,top 65,top 66,top 67,top 68,top 69,top 70,top 71,top 72,top 73,top 74,top 75,top 76,top 77,top 78] } }
noncomputable abbrev de (P:Params)(s:Str)(t:Tok)(v:Value):DictEntry:=⟨PySem.PyData.keyHash P s,.str s t,v⟩
abbrev co (n q:Str)(a b c d:Tok)(i k:Int)(r s:Addr)(y z:Value)(t:Addr)(j:Int):Obj:=⟨.type "code",none,.fields #[.str n a,.str q b,.str "/claim/cut.py" c,.int i 0,.int k 0,.int 0 0,.int 0 0,.int 3 0,.ref r,.bool Bool.true,.int 181 0,.ref s,.none,y,z,.ref t,.int j 0,.int i 0,.str "/claim/cut.py" d],#[]⟩
abbrev fo (n q:Str)(st:Stmt)(m:Value)(c:Addr):Obj:=⟨.type "function",none,.func (PySem.W.fnOf n q (zer st) (zd2 st) (zam st) .none .none .none m none (.ref c) .none),#[]⟩
noncomputable def kp:Params→PySem.W.Frag:=λP=>
 (nat_lit 3,(.mk (.type "dict") none (.dict #[(de P "__name__" 165 (.str "law_boxnarrow_k46_whole_no_two_alike" 976)),(de P "__doc__" 166 .none),(de P "__package__" 167 .none),(de P "__loader__" 168 (.builtin "__main__.__loader__#opaque")),(de P "__spec__" 169 .none),(de P "__annotations__" 170 (.ref 6)),(de P "__builtins__" 171 (.ref 4)),(de P "__file__" 173 (.str "/claim/cut.py" 172)),(de P "__cached__" 174 .none),(de P "_wall" 193 (.ref 21)),(de P "signed" 203 (.ref 28)),(de P "without" 209 (.ref 33)),(de P "cofactor" 218 (.ref 40)),(de P "determinant" 224 (.ref 45)),(de P "inverse_entry" 235 (.ref 52)),(de P "inverse_row" 241 (.ref 57)),(de P "inverse" 247 (.ref 62)),(de P "BoxError" 267 (.ref 72)),(de P "NoSpan" 283 (.ref 85)),(de P "raised" 295 (.ref 94)),(de P "less" 303 (.ref 101)),(de P "rounded_up" 313 (.ref 108)),(de P "span_of" 322 (.ref 115)),(de P "add_spans" 330 (.ref 122)),(de P "take_spans" 338 (.ref 129)),(de P "mul_spans" 348 (.ref 136)),(de P "raise_span" 354 (.ref 141)),(de P "scale_span" 362 (.ref 148)),(de P "deep" 370 (.ref 155)),(de P "middle" 377 (.ref 162)),(de P "Node" 399 (.ref 172)),(de P "Number" 467 (.ref 221)),(de P "Unknown" 527 (.ref 266)),(de P "Pair" 570 (.ref 297)),(de P "Plus" 639 (.ref 344)),(de P "Minus" 708 (.ref 391)),(de P "Times" 777 (.ref 438)),(de P "Power" 839 (.ref 483)),(de P "kind_of" 846 (.ref 492)),(de P "worths" 859 (.ref 499)),(de P "sure" 867 (.ref 506)),(de P "slopes" 881 (.ref 513)),(de P "equation_places" 889 (.ref 518)),(de P "picked" 895 (.ref 523)),(de P "middles" 901 (.ref 528)),(de P "box_of_middles" 907 (.ref 533)),(de P "sum_of_products" 919 (.ref 540)),(de P "lacking" 925 (.ref 545)),(de P "span_by" 931 (.ref 550)),(de P "step_by" 937 (.ref 555)),(de P "thin_worths" 947 (.ref 562)),(de P "slopes_at" 957 (.ref 569)),(de P "leasts_are_sure" 963 (.ref 574)),(de P "all_deep" 969 (.ref 579)),(de P "alone" 975 (.ref 584)),(de P "_law_free" 984 (.ref 591)),(de P "_law_cell" 995 (.ref 598)),(de P "_law_any" 1002 (.ref 605)),(de P "_law_whole" 1009 (.ref 612)),(de P "_law_span" 1016 (.ref 619)),(de P "_law_spans" 1025 (.ref 626)),(de P "_law_lowest" 1035 (.ref 633)),(de P "_law_little" 1042 (.ref 640)),(de P "_law_put" 1052 (.ref 647)),(de P "_law_grow" 1069 (.ref 654)),(de P "_law_grid" 1076 (.ref 661)),(de P "_law_often" 1086 (.ref 668)),(de P "_law_of_parts" 1097 (.ref 675)),(de P "_law_exacts" 1107 (.ref 682)),(de P "_law_point" 1119 (.ref 689)),(de P "_law_at" 1127 (.ref 696)),(de P "_law_sum" 1137 (.ref 703)),(de P "_law_linear" 1149 (.ref 710)),(de P "_law_shift" 1155 (.ref 715)),(de P "_law_any_system" 1161 (.ref 720)),(de P "_law_system" 1167 (.ref 725)),(de P "_law_room" 1181 (.ref 732)),(de P "_law_deep" 1190 (.ref 739)),(de P "law" 1196 (.ref 744))] 79) #[]))::
 (nat_lit 27,co "signed" "signed" 196 197 198 202 5 2 22 23 (.ref 24) (.ref 25) 26 201)::
 (nat_lit 28,fo "signed" "signed" (top 2) (.str "boxnarrow.matrices" 194) 27)::
 (nat_lit 32,co "without" "without" 204 205 206 208 7 3 29 30 .none .none 31 207)::
 (nat_lit 33,fo "without" "without" (top 3) (.str "boxnarrow.matrices" 194) 32)::
 (nat_lit 39,co "cofactor" "cofactor" 210 211 212 217 10 3 34 35 (.ref 36) (.ref 37) 38 216)::
 (nat_lit 40,fo "cofactor" "cofactor" (top 4) (.str "boxnarrow.matrices" 194) 39)::
 (nat_lit 44,co "determinant" "determinant" 219 220 221 223 12 1 41 42 .none .none 43 222)::
 (nat_lit 45,fo "determinant" "determinant" (top 5) (.str "boxnarrow.matrices" 194) 44)::
 (nat_lit 51,co "inverse_entry" "inverse_entry" 225 226 227 234 16 5 46 47 (.ref 48) (.ref 49) 50 233)::
 (nat_lit 52,fo "inverse_entry" "inverse_entry" (top 6) (.str "boxnarrow.matrices" 194) 51)::
 (nat_lit 56,co "inverse_row" "inverse_row" 236 237 238 240 18 4 53 54 .none .none 55 239)::
 (nat_lit 57,fo "inverse_row" "inverse_row" (top 7) (.str "boxnarrow.matrices" 194) 56)::
 (nat_lit 61,co "inverse" "inverse" 242 243 244 246 20 2 58 59 .none .none 60 245)::
 (nat_lit 62,fo "inverse" "inverse" (top 8) (.str "boxnarrow.matrices" 194) 61)::
 (nat_lit 71,(.mk (.type "dict") none (.dict #[(de P "__module__" 257 (.str "boxnarrow.errors" 248)),(de P "__firstlineno__" 261 (.int 26 260)),(de P "__static_attributes__" 262 (.ref 70)),(de P "__weakref__" 264 (.ref 73)),(de P "__doc__" 265 .none)] 3) #[]))::
 (nat_lit 72,(.mk (.type "type") none (.cls (PySem.ClassData.mk "BoxError" [(.type "ValueError")] [(.ref 72),(.type "ValueError"),(.type "Exception"),(.type "BaseException"),(.type "object")] 71 "BoxError" Bool.true [] [(.ref 85)] Bool.false none Bool.false)) #[(some (.ref 63)),none,(some (.str "BoxError" 250)),(some (.str "BoxError" 258)),(some (.builtin "ValueError.__new__")),(some (.bool Bool.true))]))::
 (nat_lit 84,(.mk (.type "dict") none (.dict #[(de P "__module__" 275 (.str "boxnarrow.errors" 248)),(de P "__firstlineno__" 279 (.int 28 278)),(de P "__static_attributes__" 280 (.ref 83)),(de P "__doc__" 281 .none)] 2) #[]))::
 (nat_lit 85,(.mk (.type "type") none (.cls (PySem.ClassData.mk "NoSpan" [(.ref 72)] [(.ref 85),(.ref 72),(.type "ValueError"),(.type "Exception"),(.type "BaseException"),(.type "object")] 84 "NoSpan" Bool.true [] [] Bool.false none Bool.false)) #[(some (.ref 76)),none,(some (.str "NoSpan" 268)),(some (.str "NoSpan" 276)),(some (.builtin "ValueError.__new__")),(some (.bool Bool.true))]))::
 (nat_lit 93,co "raised" "raised" 286 287 288 294 31 2 88 89 (.ref 90) (.ref 91) 92 293)::
 (nat_lit 94,fo "raised" "raised" (top 13) (.str "boxnarrow.fractions" 284) 93)::
 (nat_lit 100,co "less" "less" 296 297 298 302 36 2 95 96 (.ref 97) (.ref 98) 99 301)::
 (nat_lit 101,fo "less" "less" (top 14) (.str "boxnarrow.fractions" 284) 100)::
 (nat_lit 107,co "rounded_up" "rounded_up" 306 307 308 312 39 2 102 103 (.ref 104) (.ref 105) 106 311)::
 (nat_lit 108,fo "rounded_up" "rounded_up" (top 16) (.str "boxnarrow.spans" 304) 107)::
 (nat_lit 114,co "span_of" "span_of" 314 315 316 321 41 3 109 110 (.ref 111) (.ref 112) 113 320)::
 (nat_lit 115,fo "span_of" "span_of" (top 17) (.str "boxnarrow.spans" 304) 114)::
 (nat_lit 121,co "add_spans" "add_spans" 323 324 325 329 45 2 116 117 (.ref 118) (.ref 119) 120 328)::
 (nat_lit 122,fo "add_spans" "add_spans" (top 18) (.str "boxnarrow.spans" 304) 121)::
 (nat_lit 128,co "take_spans" "take_spans" 331 332 333 337 47 2 123 124 (.ref 125) (.ref 126) 127 336)::
 (nat_lit 129,fo "take_spans" "take_spans" (top 19) (.str "boxnarrow.spans" 304) 128)::
 (nat_lit 135,co "mul_spans" "mul_spans" 339 340 341 347 49 3 130 131 (.ref 132) (.ref 133) 134 346)::
 (nat_lit 136,fo "mul_spans" "mul_spans" (top 20) (.str "boxnarrow.spans" 304) 135)::
 (nat_lit 140,co "raise_span" "raise_span" 349 350 351 353 52 3 137 138 .none .none 139 352)::
 (nat_lit 141,fo "raise_span" "raise_span" (top 21) (.str "boxnarrow.spans" 304) 140)::
 (nat_lit 147,co "scale_span" "scale_span" 355 356 357 361 59 2 142 143 (.ref 144) (.ref 145) 146 360)::
 (nat_lit 148,fo "scale_span" "scale_span" (top 22) (.str "boxnarrow.spans" 304) 147)::
 (nat_lit 154,co "deep" "deep" 363 364 365 369 61 2 149 150 (.ref 151) (.ref 152) 153 368)::
 (nat_lit 155,fo "deep" "deep" (top 23) (.str "boxnarrow.spans" 304) 154)::
 (nat_lit 161,co "middle" "middle" 371 372 373 376 63 1 156 157 (.ref 158) (.ref 159) 160 375)::
 (nat_lit 162,fo "middle" "middle" (top 24) (.str "boxnarrow.spans" 304) 161)::
 (nat_lit 171,(.mk (.type "dict") none (.dict #[(de P "__module__" 387 (.str "boxnarrow.kinds" 378)),(de P "__firstlineno__" 391 (.int 66 390)),(de P "__static_attributes__" 392 (.ref 170)),(de P "__dict__" 394 (.ref 173)),(de P "__weakref__" 396 (.ref 174)),(de P "__doc__" 397 .none)] 4) #[]))::
 (nat_lit 172,(.mk (.type "type") none (.cls (PySem.ClassData.mk "Node" [(.type "object")] [(.ref 172),(.type "object")] 171 "Node" Bool.true [] [(.ref 221),(.ref 266),(.ref 297),(.ref 483)] Bool.false none Bool.false)) #[none,none,(some (.str "Node" 380)),(some (.str "Node" 388)),(some (.builtin "object.__new__")),(some (.bool Bool.true))]))::
 (nat_lit 189,co "__init__" "Number.__init__" 412 413 414 419 70 3 184 185 (.ref 186) (.ref 187) 188 418)::
 (nat_lit 190,fo "__init__" "Number.__init__" (zaV (top 27) 0) (.str "boxnarrow.kinds" 378) 189)::
 (nat_lit 203,co "forth" "Number.forth" 430 431 432 439 77 4 198 199 (.ref 200) (.ref 201) 202 438)::
 (nat_lit 204,fo "forth" "Number.forth" (zaV (top 27) 2) (.str "boxnarrow.kinds" 378) 203)::
 (nat_lit 217,co "slope" "Number.slope" 451 452 453 460 84 5 212 213 (.ref 214) (.ref 215) 216 459)::
 (nat_lit 218,fo "slope" "Number.slope" (zaV (top 27) 4) (.str "boxnarrow.kinds" 378) 217)::
 (nat_lit 220,(.mk (.type "dict") none (.dict #[(de P "__module__" 407 (.str "boxnarrow.kinds" 378)),(de P "__firstlineno__" 411 (.int 68 410)),(de P "__init__" 420 (.ref 190)),(de P "exact" 429 (.ref 197)),(de P "forth" 440 (.ref 204)),(de P "back" 450 (.ref 211)),(de P "slope" 461 (.ref 218)),(de P "__static_attributes__" 464 (.ref 219)),(de P "__doc__" 465 .none)] 2) #[]))::
 (nat_lit 221,(.mk (.type "type") none (.cls (PySem.ClassData.mk "Number" [(.ref 172)] [(.ref 221),(.ref 172),(.type "object")] 220 "Number" Bool.true [] [] Bool.false none Bool.false)) #[(some (.ref 177)),none,(some (.str "Number" 400)),(some (.str "Number" 408)),(some (.builtin "object.__new__")),(some (.bool Bool.true))]))::
 (nat_lit 236,co "__init__" "Unknown.__init__" 480 481 482 486 88 2 231 232 (.ref 233) (.ref 234) 235 485)::
 (nat_lit 237,fo "__init__" "Unknown.__init__" (zaV (top 28) 0) (.str "boxnarrow.kinds" 378) 236)::
 (nat_lit 250,co "forth" "Unknown.forth" 497 498 499 505 94 4 245 246 (.ref 247) (.ref 248) 249 504)::
 (nat_lit 251,fo "forth" "Unknown.forth" (zaV (top 28) 2) (.str "boxnarrow.kinds" 378) 250)::
 (nat_lit 262,co "slope" "Unknown.slope" 517 518 519 521 100 5 259 260 .none .none 261 520)::
 (nat_lit 263,fo "slope" "Unknown.slope" (zaV (top 28) 4) (.str "boxnarrow.kinds" 378) 262)::
 (nat_lit 265,(.mk (.type "dict") none (.dict #[(de P "__module__" 475 (.str "boxnarrow.kinds" 378)),(de P "__firstlineno__" 479 (.int 86 478)),(de P "__init__" 487 (.ref 237)),(de P "exact" 496 (.ref 244)),(de P "forth" 506 (.ref 251)),(de P "back" 516 (.ref 258)),(de P "slope" 522 (.ref 263)),(de P "__static_attributes__" 524 (.ref 264)),(de P "__doc__" 525 .none)] 2) #[]))::
 (nat_lit 266,(.mk (.type "type") none (.cls (PySem.ClassData.mk "Unknown" [(.ref 172)] [(.ref 266),(.ref 172),(.type "object")] 265 "Unknown" Bool.true [] [] Bool.false none Bool.false)) #[(some (.ref 224)),none,(some (.str "Unknown" 468)),(some (.str "Unknown" 476)),(some (.builtin "object.__new__")),(some (.bool Bool.true))]))::
 (nat_lit 281,co "__init__" "Pair.__init__" 540 541 542 547 104 3 276 277 (.ref 278) (.ref 279) 280 546)::
 (nat_lit 282,fo "__init__" "Pair.__init__" (zaV (top 29) 0) (.str "boxnarrow.kinds" 378) 281)::
 (nat_lit 293,co "slope" "Pair.slope" 559 560 561 563 111 5 290 291 .none .none 292 562)::
 (nat_lit 294,fo "slope" "Pair.slope" (zaV (top 29) 2) (.str "boxnarrow.kinds" 378) 293)::
 (nat_lit 296,(.mk (.type "dict") none (.dict #[(de P "__module__" 535 (.str "boxnarrow.kinds" 378)),(de P "__firstlineno__" 539 (.int 102 538)),(de P "__init__" 548 (.ref 282)),(de P "back" 558 (.ref 289)),(de P "slope" 564 (.ref 294)),(de P "__static_attributes__" 567 (.ref 295)),(de P "__doc__" 568 .none)] 2) #[]))::
 (nat_lit 297,(.mk (.type "type") none (.cls (PySem.ClassData.mk "Pair" [(.ref 172)] [(.ref 297),(.ref 172),(.type "object")] 296 "Pair" Bool.true [] [(.ref 344),(.ref 391),(.ref 438)] Bool.false none Bool.false)) #[(some (.ref 269)),none,(some (.str "Pair" 528)),(some (.str "Pair" 536)),(some (.builtin "object.__new__")),(some (.bool Bool.true))]))::
 (nat_lit 319,co "forth" "Plus.forth" 592 593 594 600 120 4 314 315 (.ref 316) (.ref 317) 318 599)::
 (nat_lit 320,fo "forth" "Plus.forth" (zaV (top 30) 1) (.str "boxnarrow.kinds" 378) 319)::
 (nat_lit 340,co "slope_of_both" "Plus.slope_of_both" 624 625 626 634 129 6 335 336 (.ref 337) (.ref 338) 339 633)::
 (nat_lit 341,fo "slope_of_both" "Plus.slope_of_both" (zaV (top 30) 4) (.str "boxnarrow.kinds" 378) 340)::
 (nat_lit 343,(.mk (.type "dict") none (.dict #[(de P "__module__" 578 (.str "boxnarrow.kinds" 378)),(de P "__firstlineno__" 582 (.int 115 581)),(de P "exact" 591 (.ref 313)),(de P "forth" 601 (.ref 320)),(de P "first_left" 612 (.ref 327)),(de P "second_left" 623 (.ref 334)),(de P "slope_of_both" 635 (.ref 341)),(de P "__static_attributes__" 636 (.ref 342)),(de P "__doc__" 637 .none)] 2) #[]))::
 (nat_lit 344,(.mk (.type "type") none (.cls (PySem.ClassData.mk "Plus" [(.ref 297)] [(.ref 344),(.ref 297),(.ref 172),(.type "object")] 343 "Plus" Bool.true [] [] Bool.false none Bool.false)) #[(some (.ref 300)),none,(some (.str "Plus" 571)),(some (.str "Plus" 579)),(some (.builtin "object.__new__")),(some (.bool Bool.true))]))::
 (nat_lit 366,co "forth" "Minus.forth" 661 662 663 669 136 4 361 362 (.ref 363) (.ref 364) 365 668)::
 (nat_lit 367,fo "forth" "Minus.forth" (zaV (top 31) 1) (.str "boxnarrow.kinds" 378) 366)::
 (nat_lit 387,co "slope_of_both" "Minus.slope_of_both" 693 694 695 703 145 6 382 383 (.ref 384) (.ref 385) 386 702)::
 (nat_lit 388,fo "slope_of_both" "Minus.slope_of_both" (zaV (top 31) 4) (.str "boxnarrow.kinds" 378) 387)::
 (nat_lit 390,(.mk (.type "dict") none (.dict #[(de P "__module__" 647 (.str "boxnarrow.kinds" 378)),(de P "__firstlineno__" 651 (.int 131 650)),(de P "exact" 660 (.ref 360)),(de P "forth" 670 (.ref 367)),(de P "first_left" 681 (.ref 374)),(de P "second_left" 692 (.ref 381)),(de P "slope_of_both" 704 (.ref 388)),(de P "__static_attributes__" 705 (.ref 389)),(de P "__doc__" 706 .none)] 2) #[]))::
 (nat_lit 391,(.mk (.type "type") none (.cls (PySem.ClassData.mk "Minus" [(.ref 297)] [(.ref 391),(.ref 297),(.ref 172),(.type "object")] 390 "Minus" Bool.true [] [] Bool.false none Bool.false)) #[(some (.ref 347)),none,(some (.str "Minus" 640)),(some (.str "Minus" 648)),(some (.builtin "object.__new__")),(some (.bool Bool.true))]))::
 (nat_lit 413,co "forth" "Times.forth" 730 731 732 738 152 4 408 409 (.ref 410) (.ref 411) 412 737)::
 (nat_lit 414,fo "forth" "Times.forth" (zaV (top 32) 1) (.str "boxnarrow.kinds" 378) 413)::
 (nat_lit 434,co "slope_of_both" "Times.slope_of_both" 762 763 764 772 161 6 429 430 (.ref 431) (.ref 432) 433 771)::
 (nat_lit 435,fo "slope_of_both" "Times.slope_of_both" (zaV (top 32) 4) (.str "boxnarrow.kinds" 378) 434)::
 (nat_lit 437,(.mk (.type "dict") none (.dict #[(de P "__module__" 716 (.str "boxnarrow.kinds" 378)),(de P "__firstlineno__" 720 (.int 147 719)),(de P "exact" 729 (.ref 407)),(de P "forth" 739 (.ref 414)),(de P "first_left" 750 (.ref 421)),(de P "second_left" 761 (.ref 428)),(de P "slope_of_both" 773 (.ref 435)),(de P "__static_attributes__" 774 (.ref 436)),(de P "__doc__" 775 .none)] 2) #[]))::
 (nat_lit 438,(.mk (.type "type") none (.cls (PySem.ClassData.mk "Times" [(.ref 297)] [(.ref 438),(.ref 297),(.ref 172),(.type "object")] 437 "Times" Bool.true [] [] Bool.false none Bool.false)) #[(some (.ref 394)),none,(some (.str "Times" 709)),(some (.str "Times" 717)),(some (.builtin "object.__new__")),(some (.bool Bool.true))]))::
 (nat_lit 453,co "__init__" "Power.__init__" 790 791 792 797 165 3 448 449 (.ref 450) (.ref 451) 452 796)::
 (nat_lit 454,fo "__init__" "Power.__init__" (zaV (top 33) 0) (.str "boxnarrow.kinds" 378) 453)::
 (nat_lit 467,co "forth" "Power.forth" 808 809 810 816 172 4 462 463 (.ref 464) (.ref 465) 466 815)::
 (nat_lit 468,fo "forth" "Power.forth" (zaV (top 33) 2) (.str "boxnarrow.kinds" 378) 467)::
 (nat_lit 479,co "slope" "Power.slope" 828 829 830 832 178 5 476 477 .none .none 478 831)::
 (nat_lit 480,fo "slope" "Power.slope" (zaV (top 33) 4) (.str "boxnarrow.kinds" 378) 479)::
 (nat_lit 482,(.mk (.type "dict") none (.dict #[(de P "__module__" 785 (.str "boxnarrow.kinds" 378)),(de P "__firstlineno__" 789 (.int 163 788)),(de P "__init__" 798 (.ref 454)),(de P "exact" 807 (.ref 461)),(de P "forth" 817 (.ref 468)),(de P "back" 827 (.ref 475)),(de P "slope" 833 (.ref 480)),(de P "__static_attributes__" 836 (.ref 481)),(de P "__doc__" 837 .none)] 2) #[]))::
 (nat_lit 483,(.mk (.type "type") none (.cls (PySem.ClassData.mk "Power" [(.ref 172)] [(.ref 483),(.ref 172),(.type "object")] 482 "Power" Bool.true [] [] Bool.false none Bool.false)) #[(some (.ref 441)),none,(some (.str "Power" 778)),(some (.str "Power" 786)),(some (.builtin "object.__new__")),(some (.bool Bool.true))]))::
 (nat_lit 491,co "kind_of" "kind_of" 840 841 842 845 182 1 486 487 (.ref 488) (.ref 489) 490 844)::
 (nat_lit 492,fo "kind_of" "kind_of" (top 34) (.str "boxnarrow.kinds" 378) 491)::
 (nat_lit 498,co "worths" "worths" 849 850 851 858 195 3 493 494 (.ref 495) (.ref 496) 497 857)::
 (nat_lit 499,fo "worths" "worths" (top 36) (.str "boxnarrow.worths" 847) 498)::
 (nat_lit 505,co "sure" "sure" 860 861 862 866 200 2 500 501 (.ref 502) (.ref 503) 504 865)::
 (nat_lit 506,fo "sure" "sure" (top 37) (.str "boxnarrow.worths" 847) 505)::
 (nat_lit 512,co "slopes" "slopes" 870 871 872 880 205 3 507 508 (.ref 509) (.ref 510) 511 879)::
 (nat_lit 513,fo "slopes" "slopes" (top 39) (.str "boxnarrow.sloping" 868) 512)::
 (nat_lit 517,co "equation_places" "equation_places" 884 885 886 888 212 1 514 515 .none .none 516 887)::
 (nat_lit 518,fo "equation_places" "equation_places" (top 41) (.str "boxnarrow.alone" 882) 517)::
 (nat_lit 522,co "picked" "picked" 890 891 892 894 214 2 519 520 .none .none 521 893)::
 (nat_lit 523,fo "picked" "picked" (top 42) (.str "boxnarrow.alone" 882) 522)::
 (nat_lit 527,co "middles" "middles" 896 897 898 900 216 1 524 525 .none .none 526 899)::
 (nat_lit 528,fo "middles" "middles" (top 43) (.str "boxnarrow.alone" 882) 527)::
 (nat_lit 532,co "box_of_middles" "box_of_middles" 902 903 904 906 218 1 529 530 .none .none 531 905)::
 (nat_lit 533,fo "box_of_middles" "box_of_middles" (top 44) (.str "boxnarrow.alone" 882) 532)::
 (nat_lit 539,co "sum_of_products" "sum_of_products" 908 909 910 918 220 3 534 535 (.ref 536) (.ref 537) 538 917)::
 (nat_lit 540,fo "sum_of_products" "sum_of_products" (top 45) (.str "boxnarrow.alone" 882) 539)::
 (nat_lit 544,co "lacking" "lacking" 920 921 922 924 225 5 541 542 .none .none 543 923)::
 (nat_lit 545,fo "lacking" "lacking" (top 46) (.str "boxnarrow.alone" 882) 544)::
 (nat_lit 549,co "span_by" "span_by" 926 927 928 930 229 6 546 547 .none .none 548 929)::
 (nat_lit 550,fo "span_by" "span_by" (top 47) (.str "boxnarrow.alone" 882) 549)::
 (nat_lit 554,co "step_by" "step_by" 932 933 934 936 236 5 551 552 .none .none 553 935)::
 (nat_lit 555,fo "step_by" "step_by" (top 48) (.str "boxnarrow.alone" 882) 554)::
 (nat_lit 561,co "thin_worths" "thin_worths" 938 939 940 946 238 4 556 557 (.ref 558) (.ref 559) 560 945)::
 (nat_lit 562,fo "thin_worths" "thin_worths" (top 49) (.str "boxnarrow.alone" 882) 561)::
 (nat_lit 568,co "slopes_at" "slopes_at" 948 949 950 956 240 4 563 564 (.ref 565) (.ref 566) 567 955)::
 (nat_lit 569,fo "slopes_at" "slopes_at" (top 50) (.str "boxnarrow.alone" 882) 568)::
 (nat_lit 573,co "leasts_are_sure" "leasts_are_sure" 958 959 960 962 242 2 570 571 .none .none 572 961)::
 (nat_lit 574,fo "leasts_are_sure" "leasts_are_sure" (top 51) (.str "boxnarrow.alone" 882) 573)::
 (nat_lit 578,co "all_deep" "all_deep" 964 965 966 968 244 2 575 576 .none .none 577 967)::
 (nat_lit 579,fo "all_deep" "all_deep" (top 52) (.str "boxnarrow.alone" 882) 578)::
 (nat_lit 583,co "alone" "alone" 970 971 972 974 246 4 580 581 .none .none 582 973)::
 (nat_lit 584,fo "alone" "alone" (top 53) (.str "boxnarrow.alone" 882) 583)::
 (nat_lit 590,co "_law_free" "_law_free" 978 979 980 983 259 1 585 586 (.ref 587) (.ref 588) 589 982)::
 (nat_lit 591,fo "_law_free" "_law_free" (top 55) (.str "law_boxnarrow_k46_whole_no_two_alike" 976) 590)::
 (nat_lit 597,co "_law_cell" "_law_cell" 985 986 987 994 261 2 592 593 (.ref 594) (.ref 595) 596 993)::
 (nat_lit 598,fo "_law_cell" "_law_cell" (top 56) (.str "law_boxnarrow_k46_whole_no_two_alike" 976) 597)::
 (nat_lit 604,co "_law_any" "_law_any" 996 997 998 1001 274 1 599 600 (.ref 601) (.ref 602) 603 1000)::
 (nat_lit 605,fo "_law_any" "_law_any" (top 57) (.str "law_boxnarrow_k46_whole_no_two_alike" 976) 604)::
 (nat_lit 611,co "_law_whole" "_law_whole" 1003 1004 1005 1008 276 1 606 607 (.ref 608) (.ref 609) 610 1007)::
 (nat_lit 612,fo "_law_whole" "_law_whole" (top 58) (.str "law_boxnarrow_k46_whole_no_two_alike" 976) 611)::
 (nat_lit 618,co "_law_span" "_law_span" 1010 1011 1012 1015 278 1 613 614 (.ref 615) (.ref 616) 617 1014)::
 (nat_lit 619,fo "_law_span" "_law_span" (top 59) (.str "law_boxnarrow_k46_whole_no_two_alike" 976) 618)::
 (nat_lit 625,co "_law_spans" "_law_spans" 1017 1018 1019 1024 282 2 620 621 (.ref 622) (.ref 623) 624 1023)::
 (nat_lit 626,fo "_law_spans" "_law_spans" (top 60) (.str "law_boxnarrow_k46_whole_no_two_alike" 976) 625)::
 (nat_lit 632,co "_law_lowest" "_law_lowest" 1026 1027 1028 1034 289 2 627 628 (.ref 629) (.ref 630) 631 1033)::
 (nat_lit 633,fo "_law_lowest" "_law_lowest" (top 61) (.str "law_boxnarrow_k46_whole_no_two_alike" 976) 632)::
 (nat_lit 639,co "_law_little" "_law_little" 1036 1037 1038 1041 295 1 634 635 (.ref 636) (.ref 637) 638 1040)::
 (nat_lit 640,fo "_law_little" "_law_little" (top 62) (.str "law_boxnarrow_k46_whole_no_two_alike" 976) 639)::
 (nat_lit 646,co "_law_put" "_law_put" 1043 1044 1045 1051 297 4 641 642 (.ref 643) (.ref 644) 645 1050)::
 (nat_lit 647,fo "_law_put" "_law_put" (top 63) (.str "law_boxnarrow_k46_whole_no_two_alike" 976) 646)::
 (nat_lit 653,co "_law_grow" "_law_grow" 1053 1054 1055 1068 303 5 648 649 (.ref 650) (.ref 651) 652 1067)::
 (nat_lit 654,fo "_law_grow" "_law_grow" (top 64) (.str "law_boxnarrow_k46_whole_no_two_alike" 976) 653)::
 (nat_lit 660,co "_law_grid" "_law_grid" 1070 1071 1072 1075 319 1 655 656 (.ref 657) (.ref 658) 659 1074)::
 (nat_lit 661,fo "_law_grid" "_law_grid" (top 65) (.str "law_boxnarrow_k46_whole_no_two_alike" 976) 660)::
 (nat_lit 667,co "_law_often" "_law_often" 1077 1078 1079 1085 325 2 662 663 (.ref 664) (.ref 665) 666 1084)::
 (nat_lit 668,fo "_law_often" "_law_often" (top 66) (.str "law_boxnarrow_k46_whole_no_two_alike" 976) 667)::
 (nat_lit 674,co "_law_of_parts" "_law_of_parts" 1087 1088 1089 1096 330 2 669 670 (.ref 671) (.ref 672) 673 1095)::
 (nat_lit 675,fo "_law_of_parts" "_law_of_parts" (top 67) (.str "law_boxnarrow_k46_whole_no_two_alike" 976) 674)::
 (nat_lit 681,co "_law_exacts" "_law_exacts" 1098 1099 1100 1106 341 2 676 677 (.ref 678) (.ref 679) 680 1105)::
 (nat_lit 682,fo "_law_exacts" "_law_exacts" (top 68) (.str "law_boxnarrow_k46_whole_no_two_alike" 976) 681)::
 (nat_lit 688,co "_law_point" "_law_point" 1108 1109 1110 1118 351 4 683 684 (.ref 685) (.ref 686) 687 1117)::
 (nat_lit 689,fo "_law_point" "_law_point" (top 69) (.str "law_boxnarrow_k46_whole_no_two_alike" 976) 688)::
 (nat_lit 695,co "_law_at" "_law_at" 1120 1121 1122 1126 356 2 690 691 (.ref 692) (.ref 693) 694 1125)::
 (nat_lit 696,fo "_law_at" "_law_at" (top 70) (.str "law_boxnarrow_k46_whole_no_two_alike" 976) 695)::
 (nat_lit 702,co "_law_sum" "_law_sum" 1128 1129 1130 1136 360 2 697 698 (.ref 699) (.ref 700) 701 1135)::
 (nat_lit 703,fo "_law_sum" "_law_sum" (top 71) (.str "law_boxnarrow_k46_whole_no_two_alike" 976) 702)::
 (nat_lit 709,co "_law_linear" "_law_linear" 1138 1139 1140 1148 365 3 704 705 (.ref 706) (.ref 707) 708 1147)::
 (nat_lit 710,fo "_law_linear" "_law_linear" (top 72) (.str "law_boxnarrow_k46_whole_no_two_alike" 976) 709)::
 (nat_lit 714,co "_law_shift" "_law_shift" 1150 1151 1152 1154 374 5 711 712 .none .none 713 1153)::
 (nat_lit 715,fo "_law_shift" "_law_shift" (top 73) (.str "law_boxnarrow_k46_whole_no_two_alike" 976) 714)::
 (nat_lit 719,co "_law_any_system" "_law_any_system" 1156 1157 1158 1160 379 3 716 717 .none .none 718 1159)::
 (nat_lit 720,fo "_law_any_system" "_law_any_system" (top 74) (.str "law_boxnarrow_k46_whole_no_two_alike" 976) 719)::
 (nat_lit 724,co "_law_system" "_law_system" 1162 1163 1164 1166 388 4 721 722 .none .none 723 1165)::
 (nat_lit 725,fo "_law_system" "_law_system" (top 75) (.str "law_boxnarrow_k46_whole_no_two_alike" 976) 724)::
 (nat_lit 731,co "_law_room" "_law_room" 1168 1169 1170 1180 409 3 726 727 (.ref 728) (.ref 729) 730 1179)::
 (nat_lit 732,fo "_law_room" "_law_room" (top 76) (.str "law_boxnarrow_k46_whole_no_two_alike" 976) 731)::
 (nat_lit 738,co "_law_deep" "_law_deep" 1182 1183 1184 1189 422 2 733 734 (.ref 735) (.ref 736) 737 1188)::
 (nat_lit 739,fo "_law_deep" "_law_deep" (top 77) (.str "law_boxnarrow_k46_whole_no_two_alike" 976) 738)::
 (nat_lit 743,co "law" "law" 1191 1192 1193 1195 427 1 740 741 .none .none 742 1194)::
 (nat_lit 744,fo "law" "law" (top 78) (.str "law_boxnarrow_k46_whole_no_two_alike" 976) 743)::[]
def ks:List Addr:=nat_lit 3::nat_lit 27::nat_lit 28::nat_lit 32::nat_lit 33::nat_lit 39::nat_lit 40::nat_lit 44::nat_lit 45::nat_lit 51::nat_lit 52::nat_lit 56::nat_lit 57::nat_lit 61::nat_lit 62::nat_lit 71::nat_lit 72::nat_lit 84::nat_lit 85::nat_lit 93::nat_lit 94::nat_lit 100::nat_lit 101::nat_lit 107::nat_lit 108::nat_lit 114::nat_lit 115::nat_lit 121::nat_lit 122::nat_lit 128::nat_lit 129::nat_lit 135::nat_lit 136::nat_lit 140::nat_lit 141::nat_lit 147::nat_lit 148::nat_lit 154::nat_lit 155::nat_lit 161::nat_lit 162::nat_lit 171::nat_lit 172::nat_lit 189::nat_lit 190::nat_lit 203::nat_lit 204::nat_lit 217::nat_lit 218::nat_lit 220::nat_lit 221::nat_lit 236::nat_lit 237::nat_lit 250::nat_lit 251::nat_lit 262::nat_lit 263::nat_lit 265::nat_lit 266::nat_lit 281::nat_lit 282::nat_lit 293::nat_lit 294::nat_lit 296::nat_lit 297::nat_lit 319::nat_lit 320::nat_lit 340::nat_lit 341::nat_lit 343::nat_lit 344::nat_lit 366::nat_lit 367::nat_lit 387::nat_lit 388::nat_lit 390::nat_lit 391::nat_lit 413::nat_lit 414::nat_lit 434::nat_lit 435::nat_lit 437::nat_lit 438::nat_lit 453::nat_lit 454::nat_lit 467::nat_lit 468::nat_lit 479::nat_lit 480::nat_lit 482::nat_lit 483::nat_lit 491::nat_lit 492::nat_lit 498::nat_lit 499::nat_lit 505::nat_lit 506::nat_lit 512::nat_lit 513::nat_lit 517::nat_lit 518::nat_lit 522::nat_lit 523::nat_lit 527::nat_lit 528::nat_lit 532::nat_lit 533::nat_lit 539::nat_lit 540::nat_lit 544::nat_lit 545::nat_lit 549::nat_lit 550::nat_lit 554::nat_lit 555::nat_lit 561::nat_lit 562::nat_lit 568::nat_lit 569::nat_lit 573::nat_lit 574::nat_lit 578::nat_lit 579::nat_lit 583::nat_lit 584::nat_lit 590::nat_lit 591::nat_lit 597::nat_lit 598::nat_lit 604::nat_lit 605::nat_lit 611::nat_lit 612::nat_lit 618::nat_lit 619::nat_lit 625::nat_lit 626::nat_lit 632::nat_lit 633::nat_lit 639::nat_lit 640::nat_lit 646::nat_lit 647::nat_lit 653::nat_lit 654::nat_lit 660::nat_lit 661::nat_lit 667::nat_lit 668::nat_lit 674::nat_lit 675::nat_lit 681::nat_lit 682::nat_lit 688::nat_lit 689::nat_lit 695::nat_lit 696::nat_lit 702::nat_lit 703::nat_lit 709::nat_lit 710::nat_lit 714::nat_lit 715::nat_lit 719::nat_lit 720::nat_lit 724::nat_lit 725::nat_lit 731::nat_lit 732::nat_lit 738::nat_lit 739::nat_lit 743::nat_lit 744::[]
theorem ze1 (P:Params):ks=(kp P).map (·.1):=by kernel_rfl
noncomputable abbrev hk:PySem.W.Hook:=PySem.W.kHook kp ks ze1
abbrev xt (s:Shared):Bool:=PySem.W.xlAt vw [] s&&PySem.W.recOk (PySem.W.RowW.records (PySem.W.OpenRow.toRowW (PySem.W.OpenLaw.row PySem.Challenge.rw_boxnarrow_k46_whole_no_two_alike))) s
theorem znI:PySem.W.opening PySem.Challenge.pw_boxnarrow_k46_whole_no_two_alike=PySem.W.plainProg PySem.Challenge.pw_boxnarrow_k46_whole_no_two_alike.main.scope.names:=by kernel_rfl
theorem fe_eq (s:Shared):PySem.fenceModules? PySem.Challenge.pw_boxnarrow_k46_whole_no_two_alike s=some s:=by kernel_rfl
theorem si_eq (w:World):((PySem.W.boot_heap w.params).isNs mainGlobals&&(Array.mk []:Array GenState).size==0,(PySem.W.boot_heap w.params).objs.size,(PySem.W.boot_heap w.params).nsMap mainGlobals "__annotations__")=(true,11,some (.ref 6)):=by kernel_rfl
open PySem.W PySem.Calls in
theorem zxQ (w:World):(λos=>(L3.goT PySem.treeTable PySem.Challenge.pw_boxnarrow_k46_whole_no_two_alike w 11 (some (.ref 6)) 10306 (L3.zcK w os) (PySem.W.topStub PySem.Challenge.pw_boxnarrow_k46_whole_no_two_alike)).map λs=>(L3.zpo PySem.Challenge.pw_boxnarrow_k46_whole_no_two_alike w s))=λ_=>some (true):=by kernel_rfl
open PySem.W PySem.Calls in
theorem zxE (w:World):(λos=>(L3.goT PySem.treeTable PySem.Challenge.pw_boxnarrow_k46_whole_no_two_alike w 11 (some (.ref 6)) 10306 (L3.zcK w os) (PySem.W.topStub PySem.Challenge.pw_boxnarrow_k46_whole_no_two_alike)).map λs=>(seen ((recsOf vw).map (·.name)) (ownsOf vw) [] { s.abs with gens:=#[] }))=λ_=>some (expectedOf vw):=by kernel_rfl
open PySem.W PySem.Calls in
theorem zvK (w:World):(λos=>(L3.goT PySem.treeTable PySem.Challenge.pw_boxnarrow_k46_whole_no_two_alike w 11 (some (.ref 6)) 10306 (L3.zcK w os) (PySem.W.topStub PySem.Challenge.pw_boxnarrow_k46_whole_no_two_alike)).map λs=>(s.abs.heap.bltView))=λ_=>some (bltViewBooted):=by kernel_rfl
open PySem.W PySem.Calls in
theorem zuK (w:World):(λos=>(L3.goT PySem.treeTable PySem.Challenge.pw_boxnarrow_k46_whole_no_two_alike w 11 (some (.ref 6)) 10306 (L3.zcK w os) (PySem.W.topStub PySem.Challenge.pw_boxnarrow_k46_whole_no_two_alike)).map λs=>(s.abs.heap.keysOk (looseW vw []) ((recsOf vw).map (·.name)) ((litsOf vw).map (·.1)) ((clssOf vw (looseW vw [])).map (·.name))&&s.abs.heap.accountedOkI (importedModules PySem.Challenge.pw_boxnarrow_k46_whole_no_two_alike.main.body)&&s.abs.heap.isNs mainGlobals&&s.abs.heap.isNs builtinsNs&&tablesOk vw s.abs.heap&&xt s.abs&&(if true then s.abs.gens.size==0 else !leftWithCleanup s.abs.gens)))=λ_=>some (true):=by kernel_rfl
open PySem.W PySem.Calls in
theorem zv9 (w:World):(λos=>(L3.goT PySem.treeTable PySem.Challenge.pw_boxnarrow_k46_whole_no_two_alike w 11 (some (.ref 6)) 10306 (L3.zcK w os) (PySem.W.topStub PySem.Challenge.pw_boxnarrow_k46_whole_no_two_alike)).map λs=>(tabsOk vw s.abs))=λ_=>some (true):=by kernel_rfl
open PySem.W PySem.Calls in
theorem zt6 (w:World):(λos=>(L3.goT PySem.treeTable PySem.Challenge.pw_boxnarrow_k46_whole_no_two_alike w 11 (some (.ref 6)) 10306 (L3.zcK w os) (PySem.W.topStub PySem.Challenge.pw_boxnarrow_k46_whole_no_two_alike)).map λs=>(pinSeenD vw (drecsOf vw) s.abs,plainSeenE vw (looseW vw []) s.abs,plainSeenD vw [] s.abs,wideSeen vw s.abs,clsSeenW vw [] s.abs))=λ_=>some (pinGoodD (drecsOf vw),plainGoodE vw (looseW vw []),plainGoodD vw [],wideGood vw,clsGoodW vw []):=by kernel_rfl
theorem ob_eq (w:World):(λos=>(L3.goT PySem.treeTable PySem.Challenge.pw_boxnarrow_k46_whole_no_two_alike w 11 (some (.ref 6)) 10306 (L3.zcK w os) (PySem.W.topStub PySem.Challenge.pw_boxnarrow_k46_whole_no_two_alike)).map λs=>ks.map (L3.zj4 s))=λ_=>some (hk.val w):=by kernel_rfl
theorem left:PySem.W.LeftO PySem.Challenge.pw_boxnarrow_k46_whole_no_two_alike vw [] xt hk.obs hk.val 10306:=L3.zxt (L3.zxK ks) znI (by decide) fe_eq si_eq (λw=>L3.zoA (zxQ w) (zxE w)) (λw=>L3.zoA (zvK w) (zuK w)) (λw=>L3.zoA (zv9 w) (zt6 w)) ob_eq
end Mine
set_option Elab.async false
set_option linter.all false
set_option maxRecDepth 100000
namespace L2
open PySem PySem.Spec PyProof.Rows
abbrev Key:=Sum Int Str
def zpZ:Key→Value→Bool
 | .inl k,v=>Value.isInt k v
 | .inr x,v=>Value.isStrOf x v
def keyH (w:World):Key→Int
 | .inl k=>hashInt k
 | .inr x=>hashStr w x
theorem zds:∀ {k:Key} {v:Value},zpZ k v=true→(∃i t,k=Sum.inl i∧v=Value.int i t)∨(∃x t,k=Sum.inr x∧v=Value.str x t)
 | .inl i,v,h=>by
  obtain⟨t,e⟩:=Value.isInt_shape (k:=i) (v:=v) h
  exact .inl ⟨i,t,rfl,e⟩
 | .inr x,v,h=>by
  obtain⟨t,e⟩:=Value.isStrOf_shape (x:=x) (v:=v) h
  exact .inr ⟨x,t,rfl,e⟩
theorem zs8 (a b:Int):decide ((Sum.inl a:Key)=Sum.inl b)=(a==b):=by
 by_cases e:a=b
 ·subst e; simp
 ·have h:¬ (Sum.inl a:Key)=Sum.inl b:=λq=>e (Sum.inl.inj q)
  rw[decide_eq_false h]
  exact(beq_eq_false_iff_ne.mpr e).symm
theorem zyt (a b:Str):decide ((Sum.inr a:Key)=Sum.inr b)=decide (a=b):=by
 by_cases e:a=b
 ·subst e; simp
 ·have h:¬ (Sum.inr a:Key)=Sum.inr b:=λq=>e (Sum.inr.inj q)
  rw[decide_eq_false h,decide_eq_false e]
theorem zsN (a:Int)(b:Str):decide ((Sum.inl a:Key)=Sum.inr b)=false:=decide_eq_false (λq=>nomatch q)
theorem zxu (a:Str)(b:Int):decide ((Sum.inr a:Key)=Sum.inl b)=false:=decide_eq_false (λq=>nomatch q)
def zru (prog:Program)(w:World):PySem.KeyKind prog w Key where
 is:=zpZ
 hash:=keyH w
 inj:=λv a b ha hb=>by
  rcases zds ha with ⟨i,t,rfl,rfl⟩ | ⟨x,t,rfl,rfl⟩
  ·rcases zds hb with ⟨j,u,rfl,e⟩ | ⟨y,u,rfl,e⟩
   ·injection e with e1 _; rw[e1]
   ·exact nomatch e
  ·rcases zds hb with ⟨j,u,rfl,e⟩ | ⟨y,u,rfl,e⟩
   ·exact nomatch e
   ·injection e with e1 _; rw[e1]
 byValue:=λk v h=>by
  rcases zds h with ⟨i,t,rfl,rfl⟩ | ⟨x,t,rfl,rfl⟩ <;> rfl
 pyHash:=λhv h=>by
  rcases zds hv with ⟨i,t,rfl,rfl⟩ | ⟨x,t,rfl,rfl⟩
  ·exact wpAny_pyHash_int h
  ·exact wpAny_pyHash_str h
 eqBool:=λhu hv h=>by
  rcases zds hu with ⟨i,t,rfl,rfl⟩ | ⟨x,t,rfl,rfl⟩
  ·rcases zds hv with ⟨j,u,rfl,rfl⟩ | ⟨y,u,rfl,rfl⟩
   ·rw[zs8] at h; exact wpAny_eqBool_int h
   ·rw[zsN] at h; exact SeqAt.EqAt.int_str i t y u _ _ _ _ h
  ·rcases zds hv with ⟨j,u,rfl,rfl⟩ | ⟨y,u,rfl,rfl⟩
   ·rw[zxu] at h; exact SeqAt.EqAt.str_int x t j u _ _ _ _ h
   ·rw[zyt] at h; exact wpAny_eqBool_str h
 «strs»:=λk x t v h=>by
  rcases zds h with ⟨i,u,rfl,e⟩ | ⟨y,u,rfl,e⟩
  ·exact nomatch e
  ·injection e with e1 _
   subst e1
   cases v <;> rfl
end L2
namespace L2
open PySem PySem.Spec PyProof.Rows
inductive V where
 | non | bl (b:Bool) | int (i:Int) | str (x:Str) | byt (b:Array UInt8) | flt (b:UInt64) | ref (a:Addr) | ty (n:String)
 deriving DecidableEq
def zaA:V→Value→Prop
 | .non,u=>u=Value.none
 | .bl b,u=>u=Value.bool b
 | .int i,u=>∃t,u=Value.int i t
 | .str x,u=>∃t,u=Value.str x t
 | .byt b,u=>∃t,u=Value.bytes b t
 | .flt b,u=>∃t,u=Value.float b t
 | .ref a,u=>u=Value.ref a
 | .ty n,u=>u=Value.type n
abbrev zaB:List V→List Value→Prop:=Paired zaA
theorem zaB.length {xs:List V}{us:List Value}(r:zaB xs us):xs.length=us.length:=Paired.length r
theorem zaB.get:∀ {xs:List V} {us:List Value} {i:Nat} {x:V},zaB xs us→xs[i]?=some x→∃u,us[i]?=some u∧zaA x u
 | _,_,_,_,.nil,e=>by simp at e
 | _,_,0,_,.cons r _,e=>by simp at e; subst e; exact⟨_,rfl,r⟩
 | _,_,i+1,x,.cons _ t,e=>by
  obtain⟨u,h1,h2⟩:=zaB.get (i:=i) (x:=x) t (by simpa using e)
  exact⟨u,by simpa using h1,h2⟩
theorem zaB.append:∀ {xs ys:List V} {us ws:List Value},zaB xs us→zaB ys ws→zaB (xs++ys) (us++ws)
 | _,_,_,_,.nil,s=>s
 | _,_,_,_,.cons r t,s=>.cons r (zaB.append t s)
theorem zaB.take:∀ {xs:List V} {us:List Value} (n:Nat),zaB xs us→zaB (xs.take n) (us.take n)
 | _,_,0,_=>.nil
 | _,_,_+1,.nil=>.nil
 | _,_,n+1,.cons r t=>.cons r (zaB.take n t)
theorem zaB.drop:∀ {xs:List V} {us:List Value} (n:Nat),zaB xs us→zaB (xs.drop n) (us.drop n)
 | _,_,0,r=>r
 | _,_,_+1,.nil=>.nil
 | _,_,n+1,.cons _ t=>zaB.drop n t
def zc1:Option V→Option Value→Prop
 | some v,some u=>zaA v u
 | none,none=>True
 | _,_=>False
def KV {κ:Type}:List (κ×V)→List (κ×Value)→Prop:=Paired λ(p:κ×V) (q:κ×Value)=>p.1=q.1∧zaA p.2 q.2
def kV:Key→V
 | .inl i=>.int i
 | .inr x=>.str x
inductive HO where
  | lst (xs:List V)
  | tup (xs:List V)
  | dK (kvs:List (Key×V)) | dT (kvs:List (List Key×V))
  | set (S:Int→Bool) (n:Nat)
  | ins (C dx:Addr) (fs:List (Str×V))
  | own (x:Addr)
  | xd (fs:List (Str×V))
  | met (f x:Addr)
  | rng (lo hi:Int)
  | frz (o:Obj) (u:HO)
  | tbl (ps:Array Value)
  | ext (φ:Heap→Prop)
abbrev Hp:=Addr→Option HO
def upd (H:Hp)(a:Addr)(o:HO):Hp:=λb=>if b=a then some o else H b
theorem zcA {H:Hp}{a:Addr}{o:HO}:upd H a o a=some o:=by unfold upd; rw[if_pos rfl]
theorem za6 {H:Hp}{a b:Addr}{o:HO}(h:b≠a):upd H a o b=H b:=by unfold upd; rw[if_neg h]
theorem zn8 {H:Hp}{a b:Addr}{o u:HO}(h:H a=some o)(h':H b=some u)(d:o≠u):a≠b:=by
 intro e; subst e; rw[h] at h'; exact d (Option.some.inj h')
theorem zdI {H:Hp}{a b:Addr}{o:HO}(h:H a=some o)(h':H b=none):a≠b:=by
 intro e; subst e; rw[h] at h'; cases h'
section
variable (P:Program)(w:World)
def zbz (H:Hp)(h:Heap)(a:Addr):HO→Prop
 | .lst xs=>xs.length≤sizeLine∧∃(its:List Value) (n:Nat),zaB xs its∧h.get? a=some { cls:=.type "list",data:=.seq its.toArray n }
 | .tup xs=>xs.length≤sizeLine∧∃its:List Value,zaB xs its∧IsTup h a its.toArray
 | .dK kvs=>kvs.length≤sizeLine∧(a==sysModules)=false∧∃vs,KV kvs vs∧h.DictOf (zru P w) a vs
 | .dT kvs=>kvs.length≤sizeLine∧(a==sysModules)=false∧∃xs:List (List Key×Addr×Value),
   Paired (λ(p:List Key×V) (q:List Key×Addr×Value)=>p.1=q.1∧H q.2.1=some (.tup (p.1.map kV))∧zaA p.2 q.2.2) kvs xs∧
   ∃o es ep,h.get? a=some o∧o.ExactDict∧o.data=.dict es ep∧es.toList=xs.map (entryOfKey (tupleKind (zru P w)))∧(xs.map (·.1)).Nodup
 | .set S n=>h.SetOf (intKind P w) a S n
 | .ins C dx fs=>H dx=some (.own a)∧fs.length≤1000∧dx≠a∧h.get? a=some (PySem.W.instObj C dx)∧
   ∃mA,h.Ns1 dx mA∧(∀f,zc1 (fs.lookup f) (mA f))∧PySem.Within mA (fs.map (·.1))
 | .own _=>∃o,h.get? a=some o
 | .xd fs=>∃mA,h.Ns1 a mA∧∀f,zc1 (fs.lookup f) (mA f)
 | .rng lo hi=>∃t u v,h.get? a=some { cls:=.type "range",data:=.fields #[.int lo t,.int hi u,.int 1 v] }
 | .frz o u=>h.get? a=some o∧zbz H h a u
 | .tbl ps=>h.get? a=some { cls:=.none,data:=.fields ps }
 | .met f x=>h.get? a=some (PySem.W.methodObj (.ref f) (.ref x))
 | .ext φ=>φ h∧(∃o,h.get? a=some o)∧∀h1 h2:Heap,φ h1→(∀o,h1.get? a=some o→h2.get? a=some o)→φ h2
def HOk (H:Hp)(h:Heap):Prop:=∀a o,H a=some o→zbz P w H h a o
end
section
variable {P:Program}{w:World}{H H':Hp}{h h':Heap}{a:Addr}{o:HO}
theorem zbz.lt (x:zbz P w H h a o):a<h.objs.size:=by
 cases o with
 | lst xs=>obtain⟨_,_,_,_,e⟩:=x; exact Heap.lt_size e
 | tup xs=>obtain⟨_,_,_,p⟩:=x; exact p.lt
 | dK kvs=>obtain⟨_,_,_,_,o,_,_,e,_⟩:=x; exact Heap.lt_size e
 | dT kvs=>obtain⟨_,_,_,_,o,_,_,e,_⟩:=x; exact Heap.lt_size e
 | set S n=>obtain⟨o,_,_,_,e,_⟩:=x; exact Heap.lt_size e
 | ins C dx fs=>obtain⟨_,_,_,e,_⟩:=x; exact Heap.lt_size e
 | own y=>obtain⟨_,e⟩:=x; exact Heap.lt_size e
 | xd fs=>obtain⟨_,⟨_,_,_,e,_⟩,_⟩:=x; exact Heap.lt_size e
 | rng lo hi=>obtain⟨_,_,_,e⟩:=x; exact Heap.lt_size e
 | frz ob u=>obtain⟨e,_⟩:=x; exact Heap.lt_size e
 | tbl ps=>exact Heap.lt_size (show h.get? a=some _ from x)
 | met f y=>exact Heap.lt_size (show h.get? a=some _ from x)
 | ext φ=>obtain⟨_,⟨_,e⟩,_⟩:=x; exact Heap.lt_size e
theorem Paired.mapP {α β:Type}{F G:α→β→Prop}:∀ {l₁:List α} {l₂:List β},Paired F l₁ l₂→(∀a b,F a b→G a b)→Paired G l₁ l₂
 | _,_,.nil,_=>.nil
 | _,_,.cons r t,f=>.cons (f _ _ r) (Paired.mapP t f)
theorem zbz.stay (x:zbz P w H h a o)(k:∀b u,(b=a∨H b=some (.own a))→h.get? b=some u→h'.get? b=some u)
  (ho:∀b,H b=some (.own a)→H' b=some (.own a))(ht:∀b xs,H b=some (.tup xs)→H' b=some (.tup xs)):zbz P w H' h' a o:=by
 induction o with
 | lst xs=>obtain⟨z,its,n,r,e⟩:=x; exact⟨z,its,n,r,k _ _ (.inl rfl) e⟩
 | tup xs=>obtain⟨z,its,r,ob,e,c⟩:=x; exact⟨z,its,r,ob,k _ _ (.inl rfl) e,c⟩
 | dK kvs=>obtain⟨z,y,vs,r,ob,es,ep,e,c⟩:=x; exact⟨z,y,vs,r,ob,es,ep,k _ _ (.inl rfl) e,c⟩
 | dT kvs=>
  obtain⟨z,y,xs,r,ob,es,ep,e,c⟩:=x
  exact⟨z,y,xs,Paired.mapP r λp q z=>⟨z.1,ht _ _ z.2.1,z.2.2⟩,ob,es,ep,k _ _ (.inl rfl) e,c⟩
 | set S n=>obtain⟨ob,es,ep,t,e,c⟩:=x; exact⟨ob,es,ep,t,k _ _ (.inl rfl) e,c⟩
 | ins C dx fs=>
  obtain⟨d,z,ne,e,mA,⟨od,es,ep,e2,c⟩,r⟩:=x
  exact⟨ho _ d,z,ne,k _ _ (.inl rfl) e,mA,⟨od,es,ep,k _ _ (.inr d) e2,c⟩,r⟩
 | own y=>obtain⟨ob,e⟩:=x; exact⟨ob,k _ _ (.inl rfl) e⟩
 | xd fs=>obtain⟨mA,⟨od,es,ep,e,c⟩,r⟩:=x; exact⟨mA,⟨od,es,ep,k _ _ (.inl rfl) e,c⟩,r⟩
 | rng lo hi=>obtain⟨t,u,v,e⟩:=x; exact⟨t,u,v,k _ _ (.inl rfl) e⟩
 | frz ob u ih=>obtain⟨e,q⟩:=x; exact⟨k _ _ (.inl rfl) e,ih q⟩
 | tbl ps=>
  have e:h.get? a=some { cls:=.none,data:=.fields ps }:=x
  show h'.get? a=some { cls:=.none,data:=.fields ps }
  exact k a _ (.inl rfl) e
 | met f y=>
  have e:h.get? a=some (PySem.W.methodObj (.ref f) (.ref y)):=x
  show h'.get? a=some (PySem.W.methodObj (.ref f) (.ref y))
  exact k a _ (.inl rfl) e
 | ext φ=>obtain⟨p,⟨o,e⟩,st⟩:=x; exact⟨st _ _ p λo q=>k _ _ (.inl rfl) q,⟨o,k _ _ (.inl rfl) e⟩,st⟩
theorem HOk.lt (x:HOk P w H h)(e:H a=some o):a<h.objs.size:=(x a o e).lt
theorem HOk.fresh (x:HOk P w H h)(e:h.objs.size≤a):H a=none:=by
 cases q:H a with
 | none=>rfl
 | some u=>exact absurd (Vax (x.lt q) e) (VaG _)
theorem HOk.kept (x:HOk P w H h)(k:∀b u,h.get? b=some u→h'.get? b=some u):HOk P w H h':=λa o e=>
 (x a o e).stay (λb u _ q=>k b u q) (λ_ q=>q) λ_ _ q=>q
theorem HOk.laid (x:HOk P w H h)(k:∀b u,h.get? b=some u→h'.get? b=some u)(hp:h.objs.size≤a)(new:zbz P w (upd H a o) h' a o):HOk P w (upd H a o) h':=λb u e=>by
 have hn:=x.fresh hp
 by_cases hb:b=a
 ·subst hb; rw[zcA] at e; cases e; exact new
 ·rw[za6 hb] at e
  exact(x b u e).stay (λc v _ q=>k c v q) (λc q=>by rw[za6 (zdI q hn)]; exact q) λc xs q=>by rw[za6 (zdI q hn)]; exact q
end
def Rd (H:Hp)(a:Addr)(u:HO):Prop:=H a=some u∨∃o,H a=some (.frz o u)
theorem Rd.ok {P:Program}{w:World}{H:Hp}{h:Heap}{a:Addr}{u:HO}(r:Rd H a u)(x:HOk P w H h):zbz P w H h a u:=by
 rcases r with r | ⟨o,r⟩
 ·exact x a u r
 ·obtain⟨_,q⟩:=x a _ r
  exact q
def Mut:Option HO→Prop
 | some (.lst _)=>True
 | some (.dK _)=>True
 | some (.dT _)=>True
 | some (.set _ _)=>True
 | some (.ins _ _ _)=>True
 | some (.ext _)=>True
 | _=>False
section
variable {P:Program}{w:World}{H:Hp}{h h':Heap}{x e:Addr}{o':HO}
theorem HOk.write (ok:HOk P w H h)(mu:Mut (H x))(he:e=x∨H e=some (.own x))(k:∀b u,b≠e→h.get? b=some u→h'.get? b=some u)(heo:∃u,h'.get? e=some u)
  (new:zbz P w (upd H x o') h' x o'):HOk P w (upd H x o') h':=λb u q=>by
 have nown:∀c y,H c=some (.own y)→c≠x:=λc y r z=>by subst z; rw[r] at mu; exact mu
 have ntup:∀c xs,H c=some (.tup xs)→c≠x:=λc xs r z=>by subst z; rw[r] at mu; exact mu
 by_cases hb:b=x
 ·subst hb; rw[zcA] at q; cases q; exact new
 ·rw[za6 hb] at q
  by_cases hbe:b=e
  ·have q':H b=some (.own x):=by
    rcases he with z | z
    ·exact absurd (hbe.trans z) hb
    ·rw[hbe]; exact z
   rw[q] at q'; cases q'
   obtain⟨v,hv⟩:=heo
   exact⟨v,by rw[hbe]; exact hv⟩
  ·refine(ok b u q).stay (λc v hc r=>k c v ?_ r) (λc r=>by rw[za6 (nown c b r)]; exact r) λc xs r=>by rw[za6 (ntup c xs r)]; exact r
   rcases hc with rfl | hc
   ·exact hbe
   ·rintro rfl
    rcases he with z | z
    ·exact nown c b hc z
    ·rw[hc] at z; cases z; exact hb rfl
end
structure Un (fs ex:List Addr)(H H':Hp)(h h':Heap):Prop where
 keep:∀b o,h.get? b=some o→H b=none→b ∉ fs→b ∉ ex→h'.get? b=some o
 slot:∀b o,h.get? b=some o→H b=none→b∈fs→b ∉ ex→∃sl,h'.get? b=some { o with slots:=sl }
 free:∀b o,h.get? b=some o→H b=none→b ∉ ex→H' b=none
 there:∀b o,h.get? b=some o→b ∉ ex→∃o',h'.get? b=some o'
 tups:∀b xs,H b=some (.tup xs)→H' b=some (.tup xs)
 frzs:∀b o u,H b=some (.frz o u)→H' b=some (.frz o u)
 tbls:∀b ps,H b=some (.tbl ps)→∃more,H' b=some (.tbl (ps++more))
section
variable {fs fs' ex ex':List Addr}{H H1 H2:Hp}{h h1 h2 h':Heap}{a x e:Addr}{o:HO}
theorem Un.any (u:Un fs ex H H1 h h1){b:Addr}{ob:Obj}(q:h.get? b=some ob)(n:H b=none)(hx:b ∉ ex):∃sl,h1.get? b=some { ob with slots:=sl }:=by
 by_cases hb:b∈fs
 ·exact u.slot b ob q n hb hx
 ·exact⟨ob.slots,u.keep b ob q n hb hx⟩
theorem Un.kept (k:∀b u,h.get? b=some u→h'.get? b=some u):Un fs ex H H h h':=
 ⟨λb ob q _ _ _=>k b ob q,λb ob q _ _ _=>⟨ob.slots,k b ob q⟩,λ_ _ _ n _=>n,λb ob q _=>⟨ob,k b ob q⟩,λ_ _ q=>q,λ_ _ _ q=>q,λ_ ps q=>⟨#[],by rw[q]; simp⟩⟩
theorem Un.refl:Un fs ex H H h h:=Un.kept λ_ _ q=>q
theorem Un.laid (k:∀b u,h.get? b=some u→h'.get? b=some u)(hp:h.objs.size≤a)(hn:H a=none):Un fs ex H (upd H a o) h h' where
 keep:=λb u q _ _ _=>k b u q
 slot:=λb u q _ _ _=>⟨u.slots,k b u q⟩
 free:=λb u q n _=>by rw[za6 (Vaq (Vax (Heap.lt_size q) hp))]; exact n
 there:=λb u q _=>⟨u,k b u q⟩
 tups:=λb xs q=>by rw[za6 (zdI q hn)]; exact q
 frzs:=λb u xs q=>by rw[za6 (zdI q hn)]; exact q
 tbls:=λb ps q=>⟨#[],by rw[za6 (zdI q hn),q]; simp⟩
theorem Un.write (mu:Mut (H x))(he:e=x∨H e=some (.own x))(k:∀b u,b≠e→h.get? b=some u→h'.get? b=some u)(heo:∃u,h'.get? e=some u):Un fs ex H (upd H x o) h h':=by
 have hx:∀b,H b=none→b≠x:=λb n z=>by subst z; rw[n] at mu; exact mu
 have hb:∀b,H b=none→b≠e:=λb n z=>by
  subst z
  rcases he with r | r
  ·exact hx b n r
  ·rw[n] at r; cases r
 have hm:∀b u,H b=some u→¬ Mut (some u)→b≠x:=λb u q nm z=>by subst z; rw[q] at mu; exact nm mu
 refine⟨λb u q n _ _=>k b u (hb b n) q,λb u q n _ _=>⟨u.slots,k b u (hb b n) q⟩,λb u q n _=>by rw[za6 (hx b n)]; exact n,λb u q _=>?_,
  λb xs q=>by rw[za6 (hm b _ q λz=>z)]; exact q,λb u xs q=>by rw[za6 (hm b _ q λz=>z)]; exact q,λb ps q=>⟨#[],by rw[za6 (hm b _ q λz=>z),q]; simp⟩⟩
 by_cases hbe:b=e
 ·subst hbe; exact heo
 ·exact⟨u,k b u hbe q⟩
end
def trk (h:Heap)(H:Hp):List Addr:=(List.range h.objs.size).filter λa=>(H a).isSome
def zdc (h:Heap)(H:Hp):Heap:=PySem.W.hideAll h (trk h H)
theorem zuP (h:Heap)(H:Hp):(zdc h H).objs.size=h.objs.size:=PySem.W.hideAll_size _ _
theorem zv4 {h:Heap}{H:Hp}{b:Addr}{o:Obj}(e:h.get? b=some o)(n:H b=none):(zdc h H).get? b=some o:=
 PySem.W.hideAll_get _ e λhm=>by
  have q:(H b).isSome=true:=(List.mem_filter.mp hm).2
  rw[n] at q; simp at q
theorem ztc {h:Heap}{H:Hp}{b:Addr}{o:Obj}(e:(zdc h H).get? b=some o):h.get? b=some o∧H b=none:=by
 have e':h.get? b=some o:=PySem.W.of_hideAll (trk h H) e
 refine⟨e',?_⟩
 cases q:H b with
 | none=>rfl
 | some x=>
  have hm:b∈trk h H:=List.mem_filter.mpr ⟨Va1.mpr (Heap.lt_size e'),by simp[q]⟩
  have z:(zdc h H).get? b=none:=PySem.W.hideAll_none (trk h H) hm
  rw[z] at e; cases e
end L2
namespace L2
open PySem PySem.Spec PyProof.Rows
structure Mod (K:PySem.W.Frag)(mg:Str→Option Value)(base:Heap):Prop where
 kin:K.In base
 glob:base.Ns mainGlobals mg
 blt:∃mb,base.Ns builtinsNs mb∧∀x:Str,x≠"__name__"→mb x=bootBuiltins x
 nolimit:base.NoLimit
structure Cx where
 prog:Program
 w:World
 K:PySem.W.Frag
 mg:Str→Option Value
 base:Heap
 A:Around
 N:List Str
 s₀:Shared
 H₀:Hp
 env:Env
 outer:List Env
 stack:List Env
 ex:List Addr
 fn:Str→Bool
 calm:Bool
 pn:List (Addr×Obj)
 xe:Value→Shared→Prop
def frs (l:List Env):List Addr:=l.filterMap (·.frame)
abbrev Cx.fs (X:Cx):List Addr:=frs X.outer
def Vis (sc:Scope)(x:Str):Prop:=sc.names.lookup x=some .local∨sc.names.lookup x=some .cell∨sc.names.lookup x=some .free
def Loc (sc:Scope)(x:Str):Prop:=sc.names.lookup x=some .local∨sc.names.lookup x=some .cell
def Look (env:Env)(h:Heap)(m:Str→Option Value)(x:Str)(u:Value):Prop:=
 (env.kindOf x=some .local∧m x=some u)∨((env.kindOf x=some .cell∨env.kindOf x=some .free)∧∃c,env.cells.lookup x=some c∧h.IsCell c (some u))
structure Cx.Ok (X:Cx):Prop where
 mod:Mod X.K X.mg X.base
 kind:X.env.scope.kind=.function
 glob:X.env.globals=mainGlobals
 blt:X.env.builtins=builtinsNs
 above:X.s₀.heap.objs.size≤X.env.locals
 inj:∀x y c,X.env.cells.lookup x=some c→X.env.cells.lookup y=some c→x=y
 has:∀x,(X.env.kindOf x=some .cell∨X.env.kindOf x=some .free)→∃c,X.env.cells.lookup x=some c
 cab:∀x c,X.fn x=true→X.env.cells.lookup x=some c→X.s₀.heap.objs.size≤c
 hd:X.calm=true→X.A.handled=none
 frames:X.A.frames=some X.stack
 stk:X.stack=X.outer∨(X.stack=X.env::X.outer∧X.env.frame=some X.env.locals)
 exf:∀b∈X.ex,b≠X.env.locals∧∀x c,X.env.cells.lookup x=some c→c≠b
 bs:∀b o,X.base.get? b=some o→X.s₀.heap.get? b=some o∧X.H₀ b=none
 bsz:X.base.objs.size≤X.s₀.heap.objs.size
 noex:∀b o,X.base.get? b=some o→b ∉ X.ex
 exfs:∀b∈X.ex,b ∉ X.fs
 funs:X.s₀.heap.FunFrames X.base X.outer
 frf:∀b∈X.fs,X.H₀ b=none
structure Inv (X:Cx)(pins:List (Addr×Obj))(σ:List (Option V))(H:Hp)(s:Shared):Prop where
 ok:X.Ok
 os:s.os=X.s₀.os
 bare:AllBare s.gens
 base:Un X.fs X.ex X.H₀ H X.s₀.heap s.heap
 loc:∃m,s.heap.Ns X.env.locals m∧∀(i:Nat) (x:Str) (v:V),X.N[i]?=some x→σ[i]?=some (some v)→Vis X.env.scope x→∃u,zaA v u∧Look X.env s.heap m x u
 cell:∀x c,X.env.cells.lookup x=some c→∃v,s.heap.IsCell c v
 free:H X.env.locals=none
 freeC:∀x c,X.env.cells.lookup x=some c→H c=none
 pin:∀p∈X.pn++pins,s.heap.get? p.1=some p.2∧H p.1=none∧p.1≠X.env.locals∧p.1 ∉ X.fs∧∀v,p.2.data≠.cell v
 hok:HOk X.prog X.w H s.heap
 len:σ.length=X.N.length
section
variable {X:Cx}{pins:List (Addr×Obj)}{σ:List (Option V)}{H H':Hp}{s:Shared}{h':Heap}
theorem Cx.Ok.nofr (ok:X.Ok){b:Addr}{o:Obj}(e:X.base.get? b=some o):b ∉ X.fs:=λhb=>by
 have:=(ok.funs.mem hb).1
 rw[e] at this; cases this
theorem Inv.bs (I:Inv X pins σ H s):∀b o,X.base.get? b=some o→s.heap.get? b=some o∧H b=none:=λb o e=>
 ⟨I.base.keep b o (I.ok.bs b o e).1 (I.ok.bs b o e).2 (I.ok.nofr e) (I.ok.noex b o e),I.base.free b o (I.ok.bs b o e).1 (I.ok.bs b o e).2 (I.ok.noex b o e)⟩
theorem Inv.bk (I:Inv X pins σ H s):∀b o,X.base.get? b=some o→s.heap.get? b=some o:=λb o e=>(I.bs b o e).1
theorem Inv.mod (I:Inv X pins σ H s):Mod X.K X.mg X.base:=I.ok.mod
theorem Inv.kIn (I:Inv X pins σ H s):X.K.In s.heap:=I.ok.mod.kin.keeps I.bk
theorem Inv.lt (I:Inv X pins σ H s):X.env.locals<s.heap.objs.size:=let ⟨_,hn,_⟩:=I.loc; hn.lt
theorem Inv.sz (I:Inv X pins σ H s):X.s₀.heap.objs.size≤s.heap.objs.size:=VaB I.ok.above (VaV I.lt)
theorem Inv.nofs (I:Inv X pins σ H s){a:Addr}(h:s.heap.objs.size≤a):a ∉ X.fs:=λhb=>by
 obtain⟨_,o,ho,_⟩:=I.ok.funs.mem hb
 exact absurd (Vax (Heap.lt_size ho) (VaB I.sz h)) (VaG _)
theorem Inv.cne (I:Inv X pins σ H s):∀x c,X.env.cells.lookup x=some c→c≠X.env.locals:=λx c e z=>by
 obtain⟨v,o,ho,hd⟩:=I.cell x c e
 obtain⟨m,⟨o',es,ep,ho',hd',_⟩,_⟩:=I.loc
 rw[z,ho'] at ho; cases ho; rw[hd'] at hd; cases hd
theorem Inv.funs (I:Inv X pins σ H s):s.heap.FunFrames X.base X.outer:=by
 have all:∀(l:List Env),(∀b∈frs l,b∈X.fs)→X.s₀.heap.FunFrames X.base l→s.heap.FunFrames X.base l:=by
  intro l
  induction l with
  | nil=>intro _ _; trivial
  | cons env r ih=>
   intro hs hl
   obtain⟨hk,⟨L,o,hf,hn,ho,hd⟩,hr⟩:=hl
   have hL:L∈X.fs:=hs L (by unfold frs; rw[List.filterMap_cons,hf]; exact Va6)
   obtain⟨sl,e⟩:=I.base.slot L o ho (I.ok.frf L hL) hL λz=>I.ok.exfs L z hL
   exact⟨hk,⟨L,_,hf,hn,e,hd⟩,ih (λb hb=>hs b (by unfold frs; rw[List.filterMap_cons,hf]; exact VaR _ hb)) hr⟩
 exact all X.outer (λ_ hb=>hb) I.ok.funs
theorem Inv.stack (I:Inv X pins σ H s):s.heap.FunFrames X.base X.stack:=by
 rcases I.ok.stk with e | ⟨e,hf⟩
 ·rw[e]; exact I.funs
 ·rw[e]
  obtain⟨m,hn,_⟩:=I.loc
  refine .cons (by rw[I.ok.kind]; decide) hf hn ?_ I.funs
  exact Heap.get?_none_of_le (VaB I.ok.bsz I.ok.above)
theorem Inv.stkSub (I:Inv X pins σ H s):∀b∈frs X.stack,b∈X.env.locals::X.fs:=λb hb=>by
 rcases I.ok.stk with e | ⟨e,hf⟩
 ·rw[e] at hb; exact VaR _ hb
 ·rw[e] at hb
  unfold frs at hb
  rw[List.filterMap_cons,hf] at hb
  exact hb
theorem Inv.stkFree (I:Inv X pins σ H s):∀b∈frs X.stack,H b=none:=λb hb=>by
 rcases Vau.mp (I.stkSub b hb) with e | hb
 ·rw[e]; exact I.free
 ·obtain⟨_,o,ho,_⟩:=I.ok.funs.mem hb
  exact I.base.free b o ho (I.ok.frf b hb) λz=>I.ok.exfs b z hb
theorem Inv.step {g':Array GenState}{t':Nat}{d':Drawn}{ch:List Addr}(I:Inv X pins σ H s)
  (hch:∀b∈ch,(b∈X.ex∨X.s₀.heap.objs.size≤b)∧b≠X.env.locals∧(∀x c,X.env.cells.lookup x=some c→c≠b)∧∀p∈X.pn++pins,p.1≠b)
  (keep:∀b o,b≠X.env.locals→b ∉ X.fs→b ∉ ch→s.heap.get? b=some o→H b=none→h'.get? b=some o)
  (slot:∀b o,b≠X.env.locals→b∈X.fs→b ∉ ch→s.heap.get? b=some o→H b=none→∃sl,h'.get? b=some { o with slots:=sl })(free:∀b o,b ∉ ch→s.heap.get? b=some o→H b=none→H' b=none)
  (there:∀b o,b ∉ ch→s.heap.get? b=some o→∃o',h'.get? b=some o')
  (tups:∀b xs,H b=some (.tup xs)→H' b=some (.tup xs))(frzs:∀b o u,H b=some (.frz o u)→H' b=some (.frz o u))(tbls:∀b ps,H b=some (.tbl ps)→∃more,H' b=some (.tbl (ps++more)))
  (ns:∀m,s.heap.Ns X.env.locals m→h'.Ns X.env.locals m)(hok:HOk X.prog X.w H' h')(hg:AllBare g'):
  Inv X pins σ H' { s with heap:=h',gens:=g',drawn:=d',toks:=t' }:=by
 have neL:∀b o,X.s₀.heap.get? b=some o→b≠X.env.locals:=λb o e=>Vaq (Vax (Heap.lt_size e) I.ok.above)
 have neC:∀b o,X.s₀.heap.get? b=some o→b ∉ X.ex→b ∉ ch:=λb o e hx hb=>by
  rcases (hch b hb).1 with z | z
  ·exact hx z
  ·exact absurd (Vax (Heap.lt_size e) z) (VaG _)
 have cellK:∀x c,X.env.cells.lookup x=some c→∀v,s.heap.IsCell c v→h'.IsCell c v:=λx c e v ⟨o,ho,hd⟩=>by
  have nch:c ∉ ch:=λz=>(hch c z).2.2.1 x c e rfl
  by_cases hc:c∈X.fs
  ·obtain⟨sl,q⟩:=slot c o (I.cne x c e) hc nch ho (I.freeC x c e)
   exact⟨_,q,hd⟩
  ·exact⟨o,keep c o (I.cne x c e) hc nch ho (I.freeC x c e),hd⟩
 refine⟨I.ok,I.os,hg,⟨λb o e n hb hx=>?_,λb o e n hb hx=>?_,λb o e n hx=>?_,λb o e hx=>?_,λb xs e=>tups b xs (I.base.tups b xs e),λb o xs e=>frzs b o xs (I.base.frzs b o xs e),λb ps e=>?_⟩,?_,λx c e=>?_,?_,λx c e=>?_,λp hp=>?_,hok,I.len⟩
 ·exact keep b o (neL b o e) hb (neC b o e hx) (I.base.keep b o e n hb hx) (I.base.free b o e n hx)
 ·obtain⟨sl,e1⟩:=I.base.slot b o e n hb hx
  obtain⟨sl',e2⟩:=slot b _ (neL b o e) hb (neC b o e hx) e1 (I.base.free b o e n hx)
  exact⟨sl',e2⟩
 ·obtain⟨o',e1⟩:=I.base.there b o e hx
  exact free b o' (neC b o e hx) e1 (I.base.free b o e n hx)
 ·obtain⟨o',e1⟩:=I.base.there b o e hx
  exact there b o' (neC b o e hx) e1
 ·obtain⟨m1,e1⟩:=I.base.tbls b ps e
  obtain⟨m2,e2⟩:=tbls b _ e1
  exact⟨m1++m2,by rw[e2,Array.append_assoc]⟩
 ·obtain⟨m,hn,hl⟩:=I.loc
  refine⟨m,ns m hn,λi x v e1 e2 e3=>?_⟩
  obtain⟨u,r,l⟩:=hl i x v e1 e2 e3
  refine⟨u,r,?_⟩
  rcases l with l | ⟨k,c,e,z⟩
  ·exact .inl l
  ·exact .inr ⟨k,c,e,cellK x c e _ z⟩
 ·obtain⟨v,z⟩:=I.cell x c e
  exact⟨v,cellK x c e v z⟩
 ·obtain⟨m,⟨o,_,_,ho,_⟩,_⟩:=I.loc
  exact free _ o (λz=>(hch _ z).2.1 rfl) ho I.free
 ·obtain⟨v,o,ho,hd⟩:=I.cell x c e
  exact free c o (λz=>(hch c z).2.2.1 x c e rfl) ho (I.freeC x c e)
 ·obtain⟨e,n,ne,nf,d⟩:=I.pin p hp
  have nch:p.1 ∉ ch:=λz=>(hch p.1 z).2.2.2 p hp rfl
  exact⟨keep p.1 p.2 ne nf nch e n,free p.1 p.2 nch e n,ne,nf,d⟩
theorem Inv.un {t':Nat}(I:Inv X pins σ H s)(u:Un X.fs [] H H' s.heap h')(hok:HOk X.prog X.w H' h'):Inv X pins σ H' { s with heap:=h',toks:=t' }:=by
 obtain⟨m,⟨o,es,ep,ho,r⟩,_⟩:=id I.loc
 obtain⟨sl,hL⟩:=u.any ho I.free (by simp)
 exact I.step (g':=s.gens) (d':=s.drawn) (ch:=[]) (λ_ z=>nomatch z) (λb o _ hb _ e n=>u.keep b o e n hb (by simp)) (λb o _ hb _ e n=>u.slot b o e n hb (by simp)) (λb o _ e n=>u.free b o e n (by simp)) (λb o _ e=>u.there b o e (by simp)) u.tups u.frzs u.tbls (λm' hm=>by
  obtain⟨o',es',ep',ho',r'⟩:=hm
  rw[ho] at ho'; cases ho'
  exact⟨_,es',ep',hL,r'⟩) hok I.bare
theorem Inv.call {g':Array GenState}{t':Nat}{d':Drawn}{ch:List Addr}(I:Inv X pins σ H s)(u:Un (frs X.stack) ch H H' s.heap h')(hok:HOk X.prog X.w H' h')(hg:AllBare g')
  (hch:∀b∈ch,(b∈X.ex∨X.s₀.heap.objs.size≤b)∧b≠X.env.locals∧(∀x c,X.env.cells.lookup x=some c→c≠b)∧∀p∈X.pn++pins,p.1≠b):
  Inv X pins σ H' { s with heap:=h',gens:=g',drawn:=d',toks:=t' }:=by
 obtain⟨m,⟨o,es,ep,ho,r⟩,_⟩:=id I.loc
 obtain⟨sl,hL⟩:=u.any ho I.free λz=>(hch _ z).2.1 rfl
 exact I.step (ch:=ch) hch (λb o hL hb hc e n=>u.keep b o e n (λz=>(Vau.mp (I.stkSub b z)).elim hL hb) hc) (λb o _ _ hc e n=>u.any e n hc) (λb o hc e n=>u.free b o e n hc) (λb o hc e=>u.there b o e hc) u.tups u.frzs u.tbls (λm' hm=>by
  obtain⟨o',es',ep',ho',r'⟩:=hm
  rw[ho] at ho'; cases ho'
  exact⟨_,es',ep',hL,r'⟩) hok hg
theorem Inv.turned {t':Nat}{it:Addr}(I:Inv X pins σ H s)(k:∀b o,b≠it→s.heap.get? b=some o→h'.get? b=some o)(hn:H it=none)(hL:it≠X.env.locals)
  (h1:it∈X.ex∨X.s₀.heap.objs.size≤it)(h2:∀x c,X.env.cells.lookup x=some c→c≠it)(h3:∀p∈X.pn++pins,p.1≠it):Inv X pins σ H { s with heap:=h',toks:=t' }:=by
 have nit:∀b u,H b=some u→b≠it:=λb u e z=>by rw[z,hn] at e; cases e
 refine I.step (g':=s.gens) (d':=s.drawn) (ch:=[it]) (λb hb=>?_) (λb o _ _ hc e _=>k b o (λz=>hc (by simp[z])) e) (λb o _ _ hc e _=>⟨o.slots,k b o (λz=>hc (by simp[z])) e⟩) (λ_ _ _ _ n=>n)
  (λb o hc e=>⟨o,k b o (λz=>hc (by simp[z])) e⟩) (λ_ _ e=>e) (λ_ _ _ e=>e) (λb ps e=>⟨#[],by rw[e]; simp⟩) (λm hm=>?_) (λb u e=>?_) I.bare
 ·have e:b=it:=by simpa using hb
  subst e
  exact⟨h1,hL,h2,h3⟩
 ·obtain⟨o,es,ep,ho,r⟩:=hm
  exact⟨o,es,ep,k _ o (Ne.symm hL) ho,r⟩
 ·refine(I.hok b u e).stay (λc v hc q=>k c v ?_ q) (λ_ q=>q) λ_ _ q=>q
  rcases hc with z | z
  ·rw[z]; exact nit b u e
  ·exact nit c _ z
theorem Inv.tok (I:Inv X pins σ H s)(t:Nat):Inv X pins σ H { s with toks:=t }:=I.un (h':=s.heap) (t':=t) Un.refl I.hok
theorem Inv.kept {t':Nat}(I:Inv X pins σ H s)(k:∀b u,s.heap.get? b=some u→h'.get? b=some u):Inv X pins σ H { s with heap:=h',toks:=t' }:=I.un (Un.kept k) (I.hok.kept k)
theorem Inv.laid {a:Addr}{o:HO}{t':Nat}(I:Inv X pins σ H s)(k:∀b u,s.heap.get? b=some u→h'.get? b=some u)(hp:s.heap.objs.size≤a)(new:zbz X.prog X.w (upd H a o) h' a o):
  Inv X pins σ (upd H a o) { s with heap:=h',toks:=t' }:=I.un (Un.laid k hp (I.hok.fresh hp)) (I.hok.laid k hp new)
theorem Inv.write {x e:Addr}{o:HO}{t':Nat}(I:Inv X pins σ H s)(mu:Mut (H x))(he:e=x∨H e=some (.own x))(k:∀b u,b≠e→s.heap.get? b=some u→h'.get? b=some u)(heo:∃u,h'.get? e=some u)
  (new:zbz X.prog X.w (upd H x o) h' x o):Inv X pins σ (upd H x o) { s with heap:=h',toks:=t' }:=I.un (Un.write mu he k heo) (I.hok.write mu he k heo new)
theorem Inv.pins_of {pins':List (Addr×Obj)}(I:Inv X pins σ H s)(h:∀p∈pins',s.heap.get? p.1=some p.2∧H p.1=none∧p.1≠X.env.locals∧p.1 ∉ X.fs∧∀v,p.2.data≠.cell v):Inv X pins' σ H s:=
 ⟨I.ok,I.os,I.bare,I.base,I.loc,I.cell,I.free,I.freeC,λp hp=>(VaL.mp hp).elim (λz=>I.pin p (List.mem_append_left _ z)) (h p),I.hok,I.len⟩
theorem zq3 {N:List Str}(hN:N.Nodup){i j:Nat}{x:Str}(a:N[i]?=some x)(b:N[j]?=some x):i=j:=by
 obtain⟨h1,e1⟩:=Vad.mp a
 obtain⟨h2,e2⟩:=Vad.mp b
 exact(List.getElem_inj hN).mp (e1.trans e2.symm)
theorem zn4 {M:Model}{A:Around}{E:Value→Shared→Prop}{i:Nat}{x:Str}{v:V}{u:Value}{Q:Unit→Shared→Prop}(I:Inv X pins σ H s)(hN:X.N.Nodup)(hi:X.N[i]?=some x)(hx:Loc X.env.scope x)(r:zaA v u)
  (h:∀s',Inv X pins (σ.set i (some v)) H s'→(∃a,Heap.SameBut a s.heap s'.heap∧(a=X.env.locals∨X.env.cells.lookup x=some a))→Q () s')(hf:X.fn x=true∨X.env.scope.names.lookup x=some .local:=by first | exact .inl rfl | exact .inr rfl | assumption):wpAny M A (storeName X.env x u) Q E s:=by
 obtain⟨m,hn,hl⟩:=id I.loc
 have hcls:(X.env.scope.kind==.class||(X.env.scope.kind==.module&&X.env.locals != X.env.globals))=false:=by rw[I.ok.kind]; rfl
 have hiσ:i<σ.length:=by rw[I.len]; exact(Vad.mp hi).1
 have cne:=I.cne
 have tracked:∀ {a:Addr} {h':Heap},(∃o,s.heap.get? a=some o∧H a=none)→Heap.SameBut a s.heap h'→HOk X.prog X.w H h':=λ{a h'} ha hs b ob e=>by
  obtain⟨_,_,hfree⟩:=ha
  refine(I.hok b ob e).stay (λc w' hc q=>(hs.2 c ?_).trans q) (λ_ q=>q) λ_ _ q=>q
  rintro rfl
  rcases hc with rfl | hc
  ·rw[hfree] at e; cases e
  ·rw[hfree] at hc; cases hc
 rcases hx with hk | hk
 ·refine wpAny_storeName_local hk hn (λh' hn' hs=>?_) hcls
  obtain⟨oL,_,_,hoL,_⟩:=id hn
  refine h _ ⟨I.ok,I.os,I.bare,⟨λb o e n hb hx=>?_,λb o e n hb hx=>?_,I.base.free,λb o e hx=>?_,I.base.tups,I.base.frzs,I.base.tbls⟩,⟨_,hn',λj y v' e1 e2 e3=>?_⟩,λy c e=>?_,I.free,I.freeC,λp hp=>?_,tracked ⟨oL,hoL,I.free⟩ hs,by simpa using I.len⟩ ⟨_,hs,.inl rfl⟩
  ·exact(hs.2 b (Vaq (Vax (Heap.lt_size e) I.ok.above))).trans (I.base.keep b o e n hb hx)
  ·obtain⟨sl,e1⟩:=I.base.slot b o e n hb hx
   exact⟨sl,(hs.2 b (Vaq (Vax (Heap.lt_size e) I.ok.above))).trans e1⟩
  ·obtain⟨o',e1⟩:=I.base.there b o e hx
   exact⟨o',(hs.2 b (Vaq (Vax (Heap.lt_size e) I.ok.above))).trans e1⟩
  ·by_cases hj:j=i
   ·subst hj
    rw[hi] at e1; cases e1
    rw[List.getElem?_set_self hiσ] at e2
    cases e2
    exact⟨u,r,.inl ⟨hk,by simp⟩⟩
   ·rw[VaP (Ne.symm hj)] at e2
    obtain⟨u',r',q⟩:=hl j y v' e1 e2 e3
    refine⟨u',r',?_⟩
    rcases q with ⟨k,e⟩ | ⟨k,c,e,z⟩
    ·refine .inl ⟨k,?_⟩
     have:y≠x:=λe=>hj (zq3 hN e1 (e ▸ hi))
     simp[this,e]
    ·exact .inr ⟨k,c,e,z.sameBut hs (cne y c e)⟩
  ·obtain⟨w',z⟩:=I.cell y c e
   exact⟨w',z.sameBut hs (cne y c e)⟩
  ·obtain⟨e,n,ne,nf,d⟩:=I.pin p hp
   exact⟨(hs.2 p.1 ne).trans e,n,ne,nf,d⟩
 ·have hfn:X.fn x=true:=by
   rcases hf with z | z
   ·exact z
   ·rw[z] at hk; cases hk
  obtain⟨c,hc⟩:=I.ok.has x (.inl hk)
  obtain⟨w',z⟩:=I.cell x c hc
  refine wpAny_storeName_cell I.ok.kind hk hc z (λh' hc' hs=>?_)
  obtain⟨oc,hoc,hocd⟩:=id z
  refine h { s with heap:=h' } ⟨I.ok,I.os,I.bare,⟨λb o e n hb hx=>?_,λb o e n hb hx=>?_,I.base.free,λb o e hx=>?_,I.base.tups,I.base.frzs,I.base.tbls⟩,⟨m,hn.sameBut hs (Ne.symm (cne x c hc)),λj y v' e1 e2 e3=>?_⟩,λy c' e=>?_,I.free,I.freeC,λp hp=>?_,tracked ⟨oc,hoc,I.freeC x c hc⟩ hs,by simpa using I.len⟩ ⟨c,hs,.inr hc⟩
  ·exact(hs.2 b (Vaq (Vax (Heap.lt_size e) (I.ok.cab x c hfn hc)))).trans (I.base.keep b o e n hb hx)
  ·obtain⟨sl,e1⟩:=I.base.slot b o e n hb hx
   exact⟨sl,(hs.2 b (Vaq (Vax (Heap.lt_size e) (I.ok.cab x c hfn hc)))).trans e1⟩
  ·obtain⟨o',e1⟩:=I.base.there b o e hx
   exact⟨o',(hs.2 b (Vaq (Vax (Heap.lt_size e) (I.ok.cab x c hfn hc)))).trans e1⟩
  ·by_cases hj:j=i
   ·subst hj
    rw[hi] at e1; cases e1
    rw[List.getElem?_set_self hiσ] at e2
    cases e2
    exact⟨u,r,.inr ⟨.inl hk,c,hc,hc'⟩⟩
   ·rw[VaP (Ne.symm hj)] at e2
    obtain⟨u',r',q⟩:=hl j y v' e1 e2 e3
    refine⟨u',r',?_⟩
    rcases q with q | ⟨k,c',e,z'⟩
    ·exact .inl q
    ·refine .inr ⟨k,c',e,z'.sameBut hs ?_⟩
     rintro rfl
     exact hj (zq3 hN e1 (I.ok.inj _ _ _ e hc ▸ hi))
  ·by_cases hcc:c'=c
   ·subst hcc; exact⟨_,hc'⟩
   ·obtain⟨w2,z2⟩:=I.cell y c' e
    exact⟨w2,z2.sameBut hs hcc⟩
  ·obtain⟨e,n,ne,nf,d⟩:=I.pin p hp
   refine⟨(hs.2 p.1 ?_).trans e,n,ne,nf,d⟩
   intro q
   rw[q,hoc] at e
   have q':oc=p.2:=Option.some.inj e
   exact d w' (by rw[← q']; exact hocd)
theorem zlu {M:Model}{A:Around}{E:Value→Shared→Prop}{i:Nat}{x:Str}{v:V}{u:Value}{Q:Unit→Shared→Prop}(I:Inv X pins σ H s)(hN:X.N.Nodup)(hi:X.N[i]?=some x)(hx:Loc X.env.scope x)(r:zaA v u)
  (h:∀s',Inv X pins (σ.set i (some v)) H s'→Q () s')(hf:X.fn x=true∨X.env.scope.names.lookup x=some .local:=by first | exact .inl rfl | exact .inr rfl | assumption):wpAny M A (storeName X.env x u) Q E s:=
 zn4 I hN hi hx r (λs' I' _=>h s' I') hf
theorem Inv.call' {s':Shared}{ch:List Addr}(I:Inv X pins σ H s)(ho:s'.os=s.os)(u:Un (frs X.stack) ch H H' s.heap s'.heap)(hok:HOk X.prog X.w H' s'.heap)(hg:AllBare s'.gens)
  (hch:∀b∈ch,(b∈X.ex∨X.s₀.heap.objs.size≤b)∧b≠X.env.locals∧(∀x c,X.env.cells.lookup x=some c→c≠b)∧∀p∈X.pn++pins,p.1≠b):Inv X pins σ H' s':=by
 obtain⟨h',g',d',t',o'⟩:=s'
 have e:o'=s.os:=ho
 subst e
 exact I.call (g':=g') (t':=t') (d':=d') u hok hg hch
end
abbrev XK:=Value→Option Addr→Hp→Prop
abbrev St:=List (Option V)
abbrev VK:=V→Hp→Prop
abbrev TE:=St→Hp→VK→Prop
abbrev TT:=St→Hp→(Bool→Hp→Prop)→Prop
abbrev TA:=St→Hp→(List V→Hp→Prop)→Prop
structure zdX where
 nx:St→Hp→Prop
 rt:VK
 bk:St→Hp→Prop:=λ_ _=>False
 ct:St→Hp→Prop:=λ_ _=>False
abbrev TS:=zdX→St→Hp→Prop
def EP (X:Cx)(pins:List (Addr×Obj))(σ:St)(Q:VK)(u:Value)(s':Shared):Prop:=∃v H',Inv X pins σ H' s'∧zaA v u∧Q v H'
def TP (X:Cx)(pins:List (Addr×Obj))(σ:St)(Q:Bool→Hp→Prop)(b:Bool)(s':Shared):Prop:=∃H',Inv X pins σ H' s'∧Q b H'
def AP (X:Cx)(pins:List (Addr×Obj))(σ:St)(Q:List V→Hp→Prop)(us:List Value)(s':Shared):Prop:=∃vs H',Inv X pins σ H' s'∧zaB vs us∧Q vs H'
def SP (X:Cx)(pins:List (Addr×Obj))(D:zdX)(f:Flow)(s':Shared):Prop:=
 match f with
 | .next=>∃σ' H',Inv X pins σ' H' s'∧D.nx σ' H'
 | .brk=>∃σ' H',Inv X pins σ' H' s'∧D.bk σ' H'
 | .cont=>∃σ' H',Inv X pins σ' H' s'∧D.ct σ' H'
 | .ret u=>∃v σ' H',Inv X pins σ' H' s'∧zaA v u∧D.rt v H'
def PE (X:Cx)(e:Expr)(t:TE):Prop:=
 ∀(pins:List (Addr×Obj)) (s:Shared) (σ:St) (H:Hp) (Q:VK),Inv X pins σ H s→t σ H Q→wpAny (model X.prog X.w) X.A (eval e X.env) (EP X pins σ Q) X.xe s
def PT (X:Cx)(e:Expr)(t:TT):Prop:=
 ∀(pins:List (Addr×Obj)) (s:Shared) (σ:St) (H:Hp) (Q:Bool→Hp→Prop),Inv X pins σ H s→t σ H Q→wpAny (model X.prog X.w) X.A (isTrue e X.env (eval e X.env)) (TP X pins σ Q) X.xe s
def PW (X:Cx)(e:Expr)(t:TT):Prop:=
 ∀(whole:Sem Value) (pins:List (Addr×Obj)) (s:Shared) (σ:St) (H:Hp) (Q:Bool→Hp→Prop),Inv X pins σ H s→t σ H Q→wpAny (model X.prog X.w) X.A (isTrue e X.env whole) (TP X pins σ Q) X.xe s
theorem PW.pt {X:Cx}{e:Expr}{t:TT}(h:PW X e t):PT X e t:=h _
def PA (X:Cx)(es:List Expr)(t:TA):Prop:=
 ∀(pos:Pos) (pins:List (Addr×Obj)) (s:Shared) (σ:St) (H:Hp) (Q:List V→Hp→Prop),Inv X pins σ H s→t σ H Q→wpAny (model X.prog X.w) X.A (spliced (backTo pos (starEach es X.env))) (AP X pins σ Q) X.xe s
def PS (X:Cx)(st:Stmt)(t:TS):Prop:=
 ∀(pins:List (Addr×Obj)) (s:Shared) (σ:St) (H:Hp) (D:zdX),Inv X pins σ H s→t D σ H→wpAny (model X.prog X.w) X.A (exec st X.env) (SP X pins D) X.xe s
def PSs (X:Cx)(st:List Stmt)(t:TS):Prop:=
 ∀(pins:List (Addr×Obj)) (s:Shared) (σ:St) (H:Hp) (D:zdX),Inv X pins σ H s→t D σ H→wpAny (model X.prog X.w) X.A (execs st X.env) (SP X pins D) X.xe s
theorem thn {α:Type}{t:Sem α}{Q Q':α→Shared→Prop}{M:Model}{A:Around}{E:Value→Shared→Prop}{s:Shared}(h:wpAny M A t Q E s)(hQ:∀a s,Q a s→Q' a s):wpAny M A t Q' E s:=wpAny_mono h hQ λ_ _ x=>x
end L2
namespace L2
open PySem PySem.Spec PyProof.Rows
section
variable {X:Cx}
def tVar (i:Nat):TE:=λσ H Q=>∃v,σ[i]?=some (some v)∧Q v H
def tC (v:V):TE:=λ_ H Q=>Q v H
theorem zwC {i:Nat}{x:Str}{pos:Pos}(hN:X.N[i]?=some x)(hv:Vis X.env.scope x)(hd:(x==("__debug__":Str))=false:=by decide)(hcd:(x==("__classdict__":Str))=false:=by decide):PE X (.Name x pos) (tVar i):=by
 intro pins s σ H Q I h
 obtain⟨v,e,h⟩:=h
 obtain⟨m,hn,hl⟩:=I.loc
 obtain⟨u,r,l⟩:=hl i x v hN e hv
 have fin:EP X pins σ Q u s:=⟨v,H,I,r,h⟩
 rcases l with ⟨hk,hm⟩ | ⟨hk,c,hc,hcell⟩
 ·exact wpAny_Name (wpAny_loadName_local I.ok.kind hk hn hm fin) hd
 ·rcases hk with hk | hk
  ·exact wpAny_Name (wpAny_loadName_cell I.ok.kind hk hc hcell fin) hd
  ·exact wpAny_Name (wpAny_loadName_free I.ok.kind hk hc hcell fin hcd) hd
theorem zwp {i j pos}:PE X (.Constant (.int i) j pos) (tC (.int i)):=λ_ _ _ H _ I h=>wpAny_Constant_int ⟨.int i,H,I.tok _,⟨_,rfl⟩,h⟩
theorem pe_bl {b j pos}:PE X (.Constant (.bool b) j pos) (tC (.bl b)):=λ_ _ _ H _ I h=>Constant_bool ⟨.bl b,H,I,rfl,h⟩
theorem zyk {j pos}:PE X (.Constant .none j pos) (tC .non):=λ_ _ _ H _ I h=>Constant_none ⟨.non,H,I,rfl,h⟩
theorem zub {x j pos}:PE X (.Constant (.str x) j pos) (tC (.str x)):=λ_ _ _ H _ I h=>Calls.Constant_str ⟨.str x,H,I.tok _,⟨_,rfl⟩,h⟩
def Gl (X:Cx)(x:Str):Prop:=X.env.kindOf x=some .globalImplicit
theorem zqS {E:Value→Shared→Prop}{pins:List (Addr×Obj)}{s:Shared}{σ:St}{H:Hp}{x:Str}{u:Value}{pos:Pos}{Q:Value→Shared→Prop}(I:Inv X pins σ H s)(hg:Gl X x)(hm:X.mg x=some u)(h:Q u s)
  (hd:(x==("__debug__":Str))=false:=by decide):wpAny (model X.prog X.w) X.A (eval (.Name x pos) X.env) Q E s:=
 Calls.Name_function_global I.ok.kind hg (Calls.loadGlobal_global (by rw[I.ok.glob]; exact I.mod.glob.keeps I.bk) hm h) hd
theorem zec {E:Value→Shared→Prop}{pins:List (Addr×Obj)}{s:Shared}{σ:St}{H:Hp}{x:Str}{u:Value}{pos:Pos}{Q:Value→Shared→Prop}(I:Inv X pins σ H s)(hg:Gl X x)(hm:X.mg x=none)(hv:bootBuiltins x=some u)(h:Q u s)
  (hn:x≠"__name__":=by decide)(hd:(x==("__debug__":Str))=false:=by decide):wpAny (model X.prog X.w) X.A (eval (.Name x pos) X.env) Q E s:=by
 obtain⟨mb,h1,h2⟩:=I.mod.blt
 exact Calls.Name_function_global I.ok.kind hg (Calls.loadGlobal_builtin (by rw[I.ok.glob]; exact I.mod.glob.keeps I.bk) hm (by rw[I.ok.blt]; exact h1.keeps I.bk) ((h2 x hn).trans hv) h) hd
theorem zqF {x:Str}{v:V}{u:Value}{pos:Pos}(hg:Gl X x)(hm:X.mg x=none)(hv:bootBuiltins x=some u)(r:zaA v u)(hn:x≠"__name__":=by decide)(hd:(x==("__debug__":Str))=false:=by decide):PE X (.Name x pos) (tC v):=
 λ_ _ _ H _ I h=>zec I hg hm hv ⟨v,H,I,r,h⟩ hn hd
variable {a b:Expr}{ta tb:TE}{pos:Pos}
def tB (t:TE):TT:=λσ H Q=>t σ H λx H1=>∃c,x=.bl c∧Q c H1
theorem zuR {e:Expr}{t:TE}(h:PE X e t)(he:∀whole,isTrue e X.env whole=(do let v ← whole; standAt e.pos; holding [v] (truthy v)):=by intro _; rfl):PT X e (tB t):=by
 intro pins s σ H Q I hw
 refine isTrue_plain (thn (h pins s σ H _ I hw) λv s1 ⟨x,H1,I1,r1,q1⟩=>?_) (he _)
 obtain⟨d,rfl,q⟩:=q1
 cases r1
 exact wpAny_truthy_bool ⟨H1,I1,q⟩
variable {tA tB':TT}{rest:List Expr}
def tAnd (t u:TT):TT:=λσ H Q=>t σ H λc H1=>if c=true then u σ H1 Q else Q false H1
def tOr (t u:TT):TT:=λσ H Q=>t σ H λc H1=>if c=true then Q true H1 else u σ H1 Q
def tNot (t:TT):TT:=λσ H Q=>t σ H λc H1=>Q (!c) H1
theorem zsd (ha:PT X a tA):PW X (.BoolOp .And [a] pos) tA:=by
 intro wh pins s σ H Q I h
 refine isTrue_and (thn (ha pins s σ H Q I h) λc s1 e=>?_)
 cases c with
 | true=>exact isTrue_and_nil e
 | false=>exact e
theorem zzr (ha:PT X a tA):PW X (.BoolOp .Or [a] pos) tA:=by
 intro wh pins s σ H Q I h
 refine isTrue_or (thn (ha pins s σ H Q I h) λc s1 e=>?_)
 cases c with
 | false=>exact isTrue_or_nil e
 | true=>exact e
theorem zsT (ha:PT X a tA)(hb:PW X (.BoolOp .And (b::rest) pos) tB'):PW X (.BoolOp .And (a::b::rest) pos) (tAnd tA tB'):=by
 intro wh pins s σ H Q I h
 refine isTrue_and (thn (ha pins s σ H _ I h) λc s1 ⟨H1,I1,q1⟩=>?_)
 cases c with
 | true=>exact hb wh pins s1 σ H1 Q I1 q1
 | false=>exact⟨H1,I1,q1⟩
theorem pw_or (ha:PT X a tA)(hb:PW X (.BoolOp .Or (b::rest) pos) tB'):PW X (.BoolOp .Or (a::b::rest) pos) (tOr tA tB'):=by
 intro wh pins s σ H Q I h
 refine isTrue_or (thn (ha pins s σ H _ I h) λc s1 ⟨H1,I1,q1⟩=>?_)
 cases c with
 | true=>exact⟨H1,I1,q1⟩
 | false=>exact hb wh pins s1 σ H1 Q I1 q1
theorem zzq (ha:PT X a tA):PT X (.UnaryOp .Not a pos) (tNot tA):=by
 intro pins s σ H Q I h
 exact isTrue_not (ha pins s σ H (λc H1=>Q (!c) H1) I h)
def tAndV (ta tb:TE):TE:=λσ H Q=>ta σ H λx H1=>∃c,x=.bl c∧if c=true then tb σ H1 Q else Q (.bl false) H1
def tNotV (ta:TE):TE:=λσ H Q=>ta σ H λx H1=>∃c,x=.bl c∧Q (.bl (!c)) H1
theorem zyd {op}{t:TE}(h:PE X a t):PE X (.BoolOp op [a] pos) t:=λpins s σ H Q I hw=>BoolOp_one (h pins s σ H Q I hw)
theorem zsp (ha:PE X a ta)(hb:PE X (.BoolOp .And (b::rest) pos) tb):PE X (.BoolOp .And (a::b::rest) pos) (tAndV ta tb):=by
 intro pins s σ H Q I h
 refine BoolOp_and (thn (ha pins s σ H _ I h) λv s1 ⟨x,H1,I1,r1,q1⟩=>?_)
 obtain⟨c,rfl,q1⟩:=q1
 cases r1
 refine wpAny_truthy_bool ?_
 cases c with
 | true=>exact hb pins s1 σ H1 Q I1 q1
 | false=>exact⟨.bl false,H1,I1,rfl,q1⟩
theorem zsB (ha:PE X a ta):PE X (.UnaryOp .Not a pos) (tNotV ta):=by
 intro pins s σ H Q I h
 refine UnaryOp_ (thn (ha pins s σ H _ I h) λv s1 ⟨x,H1,I1,r1,q1⟩=>?_)
 obtain⟨c,rfl,q1⟩:=q1
 cases r1
 exact not_of (wpAny_truthy_bool ⟨.bl (!c),H1,I1,rfl,q1⟩)
def tIf (t:TT)(ta tb:TE):TE:=λσ H Q=>t σ H λc H1=>if c=true then ta σ H1 Q else tb σ H1 Q
theorem ztv {c:Expr}(hc:PT X c tA)(ha:PE X a ta)(hb:PE X b tb):PE X (.IfExp c a b pos) (tIf tA ta tb):=by
 intro pins s σ H Q I h
 refine wpAny_IfExp (thn (hc pins s σ H _ I h) λd s1 ⟨H1,I1,q1⟩=>?_)
 cases d with
 | true=>exact ha pins s1 σ H1 Q I1 q1
 | false=>exact hb pins s1 σ H1 Q I1 q1
end
end L2
namespace L2
open PySem PySem.Spec PyProof.Rows
def SqL (K:PySem.W.Frag)(H:Hp)(a:Addr)(xs:List V):Prop:=
 Rd H a (.lst xs)∨
  ∃(o:Obj) (its:Array Value) (n:Nat),K.lookup a=some o∧o.cls=.type "list"∧o.dict=none∧o.data=.seq its n∧its.size≤sizeLine∧zaB xs its.toList
def SqT (K:PySem.W.Frag)(H:Hp)(a:Addr)(xs:List V):Prop:=
 Rd H a (.tup xs)∨
  ∃(o:Obj) (its:Array Value) (n:Nat),K.lookup a=some o∧o.cls=.type "tuple"∧o.data=.seq its n∧its.size≤sizeLine∧zaB xs its.toList
def absV:Value→Option V
 | .none=>some .non
 | .bool b=>some (.bl b)
 | .int i _=>some (.int i)
 | .str x _=>some (.str x)
 | .bytes b _=>some (.byt b)
 | .float b _=>some (.flt b)
 | .ref a=>some (.ref a)
 | .type n=>some (.ty n)
 | _=>none
theorem zaA.abs {x:V}{u:Value}(r:zaA x u):absV u=some x:=by
 cases x with
 | non=>cases r; rfl
 | bl _=>cases r; rfl
 | int _=>obtain⟨t,rfl⟩:=r; rfl
 | str _=>obtain⟨t,rfl⟩:=r; rfl
 | byt _=>obtain⟨t,rfl⟩:=r; rfl
 | flt _=>obtain⟨t,rfl⟩:=r; rfl
 | ref _=>cases r; rfl
 | ty _=>cases r; rfl
theorem zaA.inj {x y:V}{u:Value}(r:zaA x u)(q:zaA y u):x=y:=Option.some.inj (r.abs.symm.trans q.abs)
theorem zaB.inj:∀ {xs ys:List V} {us:List Value},zaB xs us→zaB ys us→xs=ys
 | _,_,_,.nil,.nil=>rfl
 | _,_,_,.cons r t,.cons r' t'=>by rw[r.inj r',zaB.inj t t']
section
variable {X:Cx}{pins:List (Addr×Obj)}{σ:St}{H:Hp}{s:Shared}{a:Addr}{xs ys:List V}
theorem SqL.of {K:PySem.W.Frag}(h:H a=some (.lst xs)):SqL K H a xs:=.inl (.inl h)
theorem SqT.of {K:PySem.W.Frag}(h:H a=some (.tup xs)):SqT K H a xs:=.inl (.inl h)
theorem Inv.list (I:Inv X pins σ H s)(h:SqL X.K H a xs):∃its:List Value,zaB xs its∧PlainL s.heap a its.toArray∧xs.length≤sizeLine:=by
 rcases h with h | ⟨o,its,n,hk,hc,hd,hs,hz,r⟩
 ·obtain⟨z,its,n,r,e⟩:=h.ok I.hok
  exact⟨its,r,⟨_,n,e,rfl,rfl,rfl⟩,z⟩
 ·refine⟨its.toList,r,⟨o,n,I.kIn a o hk,hc,hd,by simpa using hs⟩,?_⟩
  have e:=r.length
  simp only[Array.length_toList] at e
  omega
theorem Inv.tuple (I:Inv X pins σ H s)(h:SqT X.K H a xs):∃its:List Value,zaB xs its∧IsTup s.heap a its.toArray∧xs.length≤sizeLine:=by
 rcases h with h | ⟨o,its,n,hk,hc,hs,hz,r⟩
 ·obtain⟨z,its,r,p⟩:=h.ok I.hok
  exact⟨its,r,p,z⟩
 ·refine⟨its.toList,r,⟨o,I.kIn a o hk,hc,n,by simpa using hs⟩,?_⟩
  have e:=r.length
  simp only[Array.length_toList] at e
  omega
theorem Inv.list_inj (I:Inv X pins σ H s)(h:SqL X.K H a xs)(h':SqL X.K H a ys):xs=ys:=by
 obtain⟨its,r,⟨o,n,e,_,_,d⟩,_⟩:=I.list h
 obtain⟨its',r',⟨o',n',e',_,_,d'⟩,_⟩:=I.list h'
 rw[e] at e'; cases e'
 rw[d] at d'
 injection d' with d1 _
 have:its=its':=by simpa using congrArg Array.toList d1
 subst this
 exact r.inj r'
end
abbrev Cx.wish (X:Cx)(E:Value→Shared→Prop):Cx:={ X with xe:=E }
abbrev Cx.nox (X:Cx):Cx:=X.wish λ_ _=>False
theorem Cx.Ok.wish {X:Cx}(ok:X.Ok)(E:Value→Shared→Prop):(X.wish E).Ok:=
 ⟨ok.mod,ok.kind,ok.glob,ok.blt,ok.above,ok.inj,ok.has,ok.cab,ok.hd,ok.frames,ok.stk,ok.exf,ok.bs,ok.bsz,ok.noex,ok.exfs,ok.funs,ok.frf⟩
theorem Cx.Ok.unwish {X:Cx}{E:Value→Shared→Prop}(ok:(X.wish E).Ok):X.Ok:=
 ⟨ok.mod,ok.kind,ok.glob,ok.blt,ok.above,ok.inj,ok.has,ok.cab,ok.hd,ok.frames,ok.stk,ok.exf,ok.bs,ok.bsz,ok.noex,ok.exfs,ok.funs,ok.frf⟩
section
variable {X:Cx}{pins:List (Addr×Obj)}{σ:St}{H:Hp}{s:Shared}{E:Value→Shared→Prop}
theorem Inv.wish (I:Inv X pins σ H s)(E:Value→Shared→Prop):Inv (X.wish E) pins σ H s:=⟨I.ok.wish E,I.os,I.bare,I.base,I.loc,I.cell,I.free,I.freeC,I.pin,I.hok,I.len⟩
theorem Inv.unwish (I:Inv (X.wish E) pins σ H s):Inv X pins σ H s:=⟨I.ok.unwish,I.os,I.bare,I.base,I.loc,I.cell,I.free,I.freeC,I.pin,I.hok,I.len⟩
theorem SP.unwish {D:zdX}{f:Flow}{s':Shared}(h:SP (X.wish E) pins D f s'):SP X pins D f s':=by
 cases f with
 | next=>obtain⟨σ',H',I,q⟩:=h; exact⟨σ',H',I.unwish,q⟩
 | brk=>obtain⟨σ',H',I,q⟩:=h; exact⟨σ',H',I.unwish,q⟩
 | cont=>obtain⟨σ',H',I,q⟩:=h; exact⟨σ',H',I.unwish,q⟩
 | ret u=>obtain⟨v,σ',H',I,r,q⟩:=h; exact⟨v,σ',H',I.unwish,r,q⟩
theorem PSs.nox {st:List Stmt}{t:TS}(h:PSs X.nox st t):PSs X st t:=λpins s σ H D I hw=>
 wpAny_mono (h pins s σ H D (I.wish _) hw) (λ_ _ q=>q.unwish) λ_ _ z=>False.elim z
end
section
variable {X:Cx}{st:Stmt}{rest:List Stmt}{t u:TS}{e:Expr}{te:TE}{pos:Pos}
def tNext:TS:=λD σ H=>D.nx σ H
def tSeq (t u:TS):TS:=λD σ H=>t { D with nx:=u D } σ H
theorem zxL:PSs X [] tNext:=λ_ _ σ H _ I h=>wpAny_execs_nil ⟨σ,H,I,h⟩
theorem zx0 (h1:PS X st t)(h2:PSs X rest u):PSs X (st::rest) (tSeq t u):=by
 intro pins s σ H D I h
 refine wpAny_execs_cons (thn (h1 pins s σ H { D with nx:=u D } I h) λf s1 q=>?_)
 cases f with
 | next=>
  obtain⟨σ',H',I',q⟩:=q
  exact h2 pins s1 σ' H' D I' q
 | ret v=>exact q
 | brk=>exact q
 | cont=>exact q
theorem zwK (h1:PS X st t):PSs X [st] t:=by
 intro pins s σ H D I h
 refine wpAny_execs_cons (thn (h1 pins s σ H D I h) λf s1 q=>?_)
 cases f with
 | next=>exact wpAny_execs_nil q
 | ret v=>exact q
 | brk=>exact q
 | cont=>exact q
theorem Inv.quiet {pins:List (Addr×Obj)}{σ:St}{H:Hp}{s:Shared}(I:Inv X pins σ H s):interactive X.env=false:=by simp[interactive,I.ok.kind]
def tDrop (te:TE):TS:=λD σ H=>te σ H λ_ H1=>D.nx σ H1
theorem zrV (he:PE X e te)(hs:swapsWith e none pos.line X.env=pure false:=by rfl):PS X (.Expr e pos) (tDrop te):=by
 intro pins s σ H D I h
 exact wpAny_Expr_any (thn (he pins s σ H _ I h) λv s1 ⟨x,H1,I1,r1,q1⟩=>⟨σ,H1,I1,q1⟩) I.quiet hs
def tRet (te:TE):TS:=λD σ H=>te σ H D.rt
theorem zsX (he:PE X e te):PS X (.Return (some e) pos) (tRet te):=by
 intro pins s σ H D I h
 exact wpAny_Return_some (thn (he pins s σ H _ I h) λv s1 ⟨x,H1,I1,r1,q1⟩=>⟨x,σ,H1,I1,r1,q1⟩)
def tIfS (c:TT)(t u:TS):TS:=λD σ H=>c σ H λb H1=>if b=true then t D σ H1 else u D σ H1
theorem ps_if {c:Expr}{a b:List Stmt}{tc:TT}(hc:PT X c tc)(ha:PSs X a t)(hb:PSs X b u):PS X (.If c a b pos) (tIfS tc t u):=by
 intro pins s σ H D I h
 refine wpAny_If (thn (hc pins s σ H _ I h) λd s1 ⟨H1,I1,q1⟩=>?_)
 cases d with
 | true=>exact ha pins s1 σ H1 D I1 q1
 | false=>exact hb pins s1 σ H1 D I1 q1
def zyD:TS:=λ_ _ _=>False
theorem zyb:PS X st zyD:=λ_ _ _ _ _ _ h=>h.elim
end
abbrev TG:=V→St→Hp→(St→Hp→Prop)→Prop
abbrev TGs:=List V→St→Hp→(St→Hp→Prop)→Prop
def PG (X:Cx)(target:Expr)(t:TG):Prop:=
 ∀(pins:List (Addr×Obj)) (s:Shared) (σ:St) (H:Hp) (v:V) (u:Value) (Q:St→Hp→Prop),Inv X pins σ H s→zaA v u→t v σ H Q→
  wpAny (model X.prog X.w) X.A (assign target X.env u) (λ_ s'=>∃σ' H',Inv X pins σ' H' s'∧Q σ' H') X.xe s
def PGs (X:Cx)(ts:List Expr)(t:TGs):Prop:=
 ∀(pins:List (Addr×Obj)) (s:Shared) (σ:St) (H:Hp) (vs:List V) (us:List Value) (Q:St→Hp→Prop),Inv X pins σ H s→zaB vs us→t vs σ H Q→
  wpAny (model X.prog X.w) X.A (assignInOrder ((assignEach ts X.env).map (·.2)) us) (λ_ s'=>∃σ' H',Inv X pins σ' H' s'∧Q σ' H') X.xe s
section
variable {X:Cx}{pos:Pos}
def zqb (i:Nat):TG:=λv σ H Q=>Q (σ.set i (some v)) H
theorem zgo {i:Nat}{x:Str}(hN:X.N.Nodup)(hi:X.N[i]?=some x)(hx:Loc X.env.scope x)(hf:X.fn x=true∨X.env.scope.names.lookup x=some .local:=by first | exact .inl rfl | exact .inr rfl | assumption):PG X (.Name x pos) (zqb i):=by
 intro pins s σ H v u Q I r h
 exact wpAny_assign_Name (zlu I hN hi hx r (λs' I'=>⟨_,H,I',h⟩) hf)
def gNil:TGs:=λvs σ H Q=>vs=[]∧Q σ H
def gCons (t:TG)(u:TGs):TGs:=λvs σ H Q=>∃v r,vs=v::r∧t v σ H λσ' H'=>u r σ' H' Q
theorem zvd:PGs X [] gNil:=by
 intro pins s σ H vs us Q I r h
 obtain⟨e,h⟩:=h
 subst e
 cases r
 exact assignInOrder_nil ⟨σ,H,I,h⟩
theorem ztl {e:Expr}{es:List Expr}{t:TG}{u:TGs}(h1:PG X e t)(h2:PGs X es u)
  (hs:(assignEach (e::es) X.env).map (·.2)=assign e X.env::(assignEach es X.env).map (·.2):=by rfl):PGs X (e::es) (gCons t u):=by
 intro pins s σ H vs us Q I r h
 obtain⟨v,vr,e1,h⟩:=h
 subst e1
 cases r with
 | cons r rr=>
  rw[hs]
  refine assignInOrder_cons (thn (h1 pins s σ H _ _ _ I r h) λ_ s1 ⟨σ1,H1,I1,q1⟩=>?_)
  exact h2 pins s1 σ1 H1 _ _ Q I1 rr q1
def ze6 (K:PySem.W.Frag)(n:Nat)(t:TGs):TG:=λv σ H Q=>∃a xs,v=.ref a∧SqT K H a xs∧xs.length=n∧t xs σ H Q
theorem zhQ {es:List Expr}{k:Nat}{t:TGs}{n:Nat}(hc:X.calm=true)(h:PGs X es t)
  (hn:(assignEach es X.env).length=n:=by rfl)(hst:(assignEach es X.env).findIdx? (·.1)=none:=by rfl):PG X (.Tuple es k pos) (ze6 X.K n t):=by
 intro pins s σ H v u Q I r hw
 obtain⟨a,xs,e1,hq,hl,hw⟩:=hw
 subst e1
 cases r
 obtain⟨its,rv,ht,hz⟩:=I.tuple hq
 refine assign_Tuple_tuple (I.ok.hd hc) ht (by simp[hn,← hl,rv.length]) hst λh' hx=>?_
 have I1:Inv X pins σ H { s with heap:=h' }:=I.kept (t':=s.toks) λb o e=>hx b o (Vaq (Heap.lt_size e)) e
 exact h pins _ σ H xs _ Q I1 (by simpa using rv) hw
def tAsg (te:TE)(g:TG):TS:=λD σ H=>te σ H λx H1=>g x σ H1 D.nx
theorem zt9 {tg e:Expr}{te:TE}{g:TG}(he:PE X e te)(hg:PG X tg g)(hs:swapsWithSole [tg] e pos.line X.env=pure false:=by rfl)(hw:swappedStores [tg] e X.env=pure none:=by rfl)
  (h1:(assignEach [tg] X.env).map (·.2)=[assign tg X.env]:=by rfl):PS X (.Assign [tg] e pos) (tAsg te g):=by
 intro pins s σ H D I h
 refine wpAny_Assign_stores (thn (he pins s σ H _ I h) λv s1 ⟨x,H1,I1,r1,q1⟩=>?_) hs hw
 rw[h1]
 exact thn (hg pins s1 σ H1 x v _ I1 r1 q1) λ_ s2 q=>q
theorem zwx {i:Nat}{x:Str}{e:Expr}{te:TE}{pos':Pos}(hN:X.N.Nodup)(hi:X.N[i]?=some x)(hx:Loc X.env.scope x)(he:PE X e te)(hs:swapsWith e (some (.Name x pos')) pos.line X.env=pure false:=by rfl)(hf:X.fn x=true∨X.env.scope.names.lookup x=some .local:=by first | exact .inl rfl | exact .inr rfl | assumption):
  PS X (.Assign [.Name x pos'] e pos) (tAsg te (zqb i)):=by
 intro pins s σ H D I h
 refine wpAny_Assign_Name (thn (he pins s σ H _ I h) λv s1 ⟨y,H1,I1,r1,q1⟩=>?_) hs
 exact zlu I1 hN hi hx r1 (λs2 I2=>⟨_,H1,I2,q1⟩) hf
def tPar (i j:Nat)(ta:TA):TS:=λD σ H=>ta σ H λvs H1=>∃v w,vs=[v,w]∧D.nx ((σ.set i (some v)).set j (some w)) H1
theorem zsQ {i j:Nat}{x y:Str}{a b:Expr}{ta:TA}{px py pt:Pos}{kt k2 pt2}(hc:X.calm=true)(hN:X.N.Nodup)(hi:X.N[i]?=some x)(hj:X.N[j]?=some y)(hij:i≠j)
  (hx:X.env.scope.names.lookup x=some .local)(hy:X.env.scope.names.lookup y=some .local)(ha:PA X [a,b] ta)
  (hw:swappedStores [.Tuple [.Name x px,.Name y py] kt pt] (.Tuple [a,b] k2 pt2) X.env=pure (some [x,y]))
  (hs:swapsWithSole [.Tuple [.Name x px,.Name y py] kt pt] (.Tuple [a,b] k2 pt2) pos.line X.env=pure false:=by rfl):
  PS X (.Assign [.Tuple [.Name x px,.Name y py] kt pt] (.Tuple [a,b] k2 pt2) pos) (tPar i j ta):=by
 intro pins s σ H D I h
 rw[exec_Assign_arm]
 refine wpAny_bind (wpAny_standAt ?_)
 rw[hs]
 refine wpAny_bind (wpAny_pure ?_)
 rw[if_neg (by decide)]
 refine wpAny_bind (Tuple_ (thn (ha _ pins s σ H _ I h) λus s1 ⟨vs,H1,I1,r1,q1⟩=>?_))
 obtain⟨v,w,e1,q1⟩:=q1
 subst e1
 obtain⟨u1,u2,rfl,rv,rw'⟩:∃u1 u2,us=[u1,u2]∧zaA v u1∧zaA w u2:=by
  cases r1 with
  | cons p q=>
   cases q with
   | cons p' q'=>
    cases q'
    exact⟨_,_,rfl,p,p'⟩
 refine wpAny_newObj_type ?_ (by show 2≤sizeLine; decide)
 have I2:Inv X pins σ H1 { s1 with heap:=s1.heap.push { cls:=.type "tuple",data:=.seq [u1,u2].toArray } }:=I1.kept (t':=s1.toks) λb o e=>Heap.get?_push_of_some _ e
 rw[hw]
 refine wpAny_bind (wpAny_pure ?_)
 show wpAny (model X.prog X.w) X.A (do rule "assign.swapped-stores"; let items ← unpackItems (.ref s1.heap.objs.size) 2 none; assignInOrder [λv=>bindName X.env y v,λv=>bindName X.env x v] items.reverse; pure Flow.next) _ _ _
 refine wpAny_bind (wpAny_rule (wpAny_bind (unpackItems_tuple (items:=#[u1,u2]) (I.ok.hd hc) (IsTup.new s1.heap _) λh' hx'=>?_)))
 have I3:=I2.kept (h':=h') (t':=s1.toks) λb o e=>hx' b o (Vaq (Heap.lt_size e)) e
 show wpAny _ _ (assignInOrder [λv=>bindName X.env y v,λv=>bindName X.env x v] [u2,u1] >>= λ_=>pure Flow.next) _ _ _
 refine wpAny_bind (assignInOrder_cons (wpAny_bindName (zlu I3 hN hj (.inl hy) rw' (λs2 I4=>?_) (.inr hy))))
 refine assignInOrder_cons (wpAny_bindName (zlu I4 hN hi (.inl hx) rv (λs3 I5=>assignInOrder_nil (wpAny_pure ?_)) (.inr hx)))
 rw[List.set_comm _ _ (Ne.symm hij)] at I5
 exact⟨_,H1,I5,q1⟩
end
section
variable {X:Cx}{pos:Pos}
def ztu (c:TT)(tb:TS):TS:=λD σ H=>∃W:Nat→St→Hp→Prop,(∃m,W m σ H)∧∀m σ H,W m σ H→
 c σ H λb H1=>if b=true then ∃N:St→Hp→Prop,(∀σ' H',N σ' H'→∃m',m'<m∧W m' σ' H')∧tb { D with nx:=N,ct:=N,bk:=D.nx } σ H1 else D.nx σ H1
theorem zyN {c:Expr}{body:List Stmt}{tc:TT}{tb:TS}(hp:PassesOwn (model X.prog X.w) X.A X.env X.xe)(hc:PT X c tc)(hb:PSs X body tb):PS X (.While c body [] pos) (ztu tc tb):=by
 intro pins s σ H D I h
 obtain⟨W,⟨m0,w0⟩,turn⟩:=h
 refine wpAny_While (codeAny_whileLoop (λn s'=>∃σ' H',Inv X pins σ' H' s'∧W n σ' H') ?_ m0 ⟨σ,H,I,w0⟩)
 rintro n s1 ⟨σ1,H1,I1,w1⟩
 refine wpAny_passesOwn hp (thn (hc pins s1 σ1 H1 _ I1 (turn n σ1 H1 w1)) λb s2 ⟨H2,I2,q2⟩=>?_)
 cases b with
 | true=>
  obtain⟨N,hN,q2⟩:=q2
  rw[if_pos rfl]
  refine wpAny_passesOwn hp (thn (hb pins s2 σ1 H2 _ I2 q2) λf s3 q3=>?_)
  cases f with
  | next=>
   obtain⟨σ3,H3,I3,n3⟩:=q3
   obtain⟨m',hm,w3⟩:=hN σ3 H3 n3
   exact⟨m',hm,σ3,H3,I3,w3⟩
  | cont=>
   obtain⟨σ3,H3,I3,n3⟩:=q3
   obtain⟨m',hm,w3⟩:=hN σ3 H3 n3
   exact⟨m',hm,σ3,H3,I3,w3⟩
  | brk=>exact q3
  | ret v=>exact q3
 | false=>
  rw[if_neg Var]
  exact wpAny_execs_nil ⟨σ1,H2,I2,q2⟩
end
structure It where
 go:Nat→Hp→Prop
 yld:Nat→Hp→V→Hp→Prop
 stop:Nat→Hp→Prop
def zbL (X:Cx)(pins:List (Addr×Obj))(H:Hp)(b:Addr):Prop:=
 H b=none∧b≠X.env.locals∧b ∉ X.fs∧(b∈X.ex∨X.s₀.heap.objs.size≤b)∧(∀x c,X.env.cells.lookup x=some c→c≠b)∧∀p∈X.pn++pins,p.1≠b
theorem Inv.fpOk {X:Cx}{pins:List (Addr×Obj)}{σ:St}{H H':Hp}{s:Shared}{b:Addr}(I:Inv X pins σ H s)(hb:s.heap.objs.size≤b)(hn:H' b=none):zbL X pins H' b:=by
 refine⟨hn,Nat.ne_of_gt (Vax I.lt hb),I.nofs hb,.inr (VaB I.sz hb),λx c e z=>?_,λp hp z=>?_⟩
 ·obtain⟨v,q⟩:=I.cell x c e
  exact absurd (Vax q.lt (by rw[z]; exact hb)) (VaG _)
 ·exact absurd (Vax (Heap.lt_size (I.pin p hp).1) (by rw[z]; exact hb)) (VaG _)
structure zf7 (P:Program)(w:World)(K:PySem.W.Frag)(tg:Expr)(J:It)(fp:List Addr)(it:Addr)(tn:Nat→Heap→Prop):Prop where
 mem:it∈fp
 obj:∀i h,tn i h→∀b∈fp,∃o,h.get? b=some o∧∀v,o.data≠.cell v
 keep:∀i h h',tn i h→(∀b∈fp,∀o,h.get? b=some o→h'.get? b=some o)→tn i h'
 item:∀(X:Cx),X.prog=P→X.w=w→X.K=K→X.calm=true→∀(i:Nat) (pins:List (Addr×Obj)) (s:Shared) (σ:St) (H:Hp) (E:Value→Shared→Prop),Inv X pins σ H s→(∀b∈fp,zbL X pins H b)→tn i s.heap→J.go i H→
  wpAny (model P w) X.A (pyNext (.ref it)) (λr s1=>∃u,r=some u∧
   wpAny (model P w) X.A (letOwnedTupleGo tg (.ref it) u) (λ_ s2=>∃x H',Inv X pins σ H' s2∧zaA x u∧J.yld i H x H'∧tn (i+1) s2.heap∧∀b∈fp,H' b=none) E s1) E s
 done:∀(X:Cx),X.prog=P→X.w=w→X.K=K→X.calm=true→∀(i:Nat) (pins:List (Addr×Obj)) (s:Shared) (σ:St) (H:Hp) (E:Value→Shared→Prop),Inv X pins σ H s→(∀b∈fp,zbL X pins H b)→tn i s.heap→J.stop i H→
  wpAny (model P w) X.A (pyNext (.ref it)) (λr s1=>r=none∧Inv X pins σ H s1) E s
 self:∀(A:Around) (i:Nat) (s:Shared) (Q:Value→Shared→Prop) (E:Value→Shared→Prop),tn i s.heap→Q (.ref it) s→wpAny (model P w) A (pyIter (.ref it)) Q E s
abbrev TI:=St→Hp→(It→Hp→Prop)→Prop
def PIE (X:Cx)(pins:List (Addr×Obj))(σ:St)(tg:Expr)(R:It→Hp→Prop)(itv:Value)(s2:Shared):Prop:=
 ∃(it:Addr) (fp:List Addr) (tn:Nat→Heap→Prop) (J:It) (H':Hp),itv=.ref it∧Inv X pins σ H' s2∧zf7 X.prog X.w X.K tg J fp it tn∧tn 0 s2.heap∧(∀b∈fp,zbL X pins H' b)∧R J H'
def PI (X:Cx)(tg iter:Expr)(wi:TI):Prop:=
 ∀(pins:List (Addr×Obj)) (s:Shared) (σ:St) (H:Hp) (R:It→Hp→Prop),Inv X pins σ H s→wi σ H R→
  wpAny (model X.prog X.w) X.A (eval iter X.env) (λv s1=>wpAny (model X.prog X.w) X.A (pyIter v) (PIE X pins σ tg R) X.xe s1) X.xe s
theorem zrl {M:Model}{A:Around}{E:Value→Shared→Prop}{s:Shared}{tg:Expr}{it:Addr}{u:Value}{o:Obj}{n:String}{vs:Array Value}{Q:Unit→Shared→Prop}(ho:s.heap.get? it=some o)(hc:o.cls=.type n)(hd:o.data=.fields vs)
    (hn:["enumerate","zip","dict_itemiterator","dict_reverseitemiterator","odict_iterator","itertools.zip_longest","itertools.pairwise"].contains n=false)(hQ:Q () s):wpAny M A (letOwnedTupleGo tg (.ref it) u) Q E s:=by
  unfold letOwnedTupleGo
  cases tg <;> first
    | exact wpAny_pure hQ
    | (cases u <;> first
        | exact wpAny_pure hQ
        | (refine wpAny_bind (wpAny_load ho ?_)
           rw[hc,hd]
           show wpAny M A (if (["enumerate","zip","dict_itemiterator","dict_reverseitemiterator","odict_iterator","itertools.zip_longest","itertools.pairwise"].contains n&&vs[0]?==some (rawInt _))=true then _ else _) Q E s
           rw[if_neg (by intro h; rw[hn,Bool.false_and] at h; cases h)]
           exact wpAny_pure hQ))
def Itl (K:PySem.W.Frag)(a:Addr):It:=
 ⟨λi H=>∃xs x,SqL K H a xs∧xs[i]?=some x,λi H x H'=>H'=H∧∀xs,SqL K H a xs→xs[i]?=some x,λi H=>∃xs,SqL K H a xs∧xs.length≤i⟩
def Itr (lo:Int)(n:Nat):It:=⟨λi _=>i<n,λi H x H'=>H'=H∧x=.int (lo+i),λi _=>n≤i⟩
theorem zwR {P:Program}{w:World}{K:PySem.W.Frag}{tg:Expr}(a it:Addr):zf7 P w K tg (Itl K a) [it] it (λi h=>h.IsListIter it a i) where
 mem:=by simp
 obj:=λi h st b hb=>by
  have e:b=it:=by simpa using hb
  subst e
  obtain⟨o,e,c,d⟩:=st
  exact⟨o,e,λv z=>by rw[d] at z; cases z⟩
 keep:=λi h h' st k=>st.at λo e=>k it (by simp) o e
 item:=by
  intro X hP hw hK hc i pins s σ H E I hf st hg
  subst hP hw hK
  obtain⟨xs,x,hq,hx⟩:=hg
  obtain⟨its,rv,p,hz⟩:=I.list hq
  obtain⟨u,hu,ru⟩:=rv.get hx
  obtain⟨f0,f1,f2,f3,f4,f5⟩:=hf it (by simp)
  refine wpAny_pyNext_list_item st p.isList (x:=u) (by simpa using hu) λh' st' sb=>?_
  have I1:Inv X pins σ H { s with heap:=h' }:=I.turned (t':=s.toks) (λb o hb e=>(sb.2 b hb).trans e) f0 f1 f3 f4 f5
  obtain⟨o,e,c,d⟩:=id st'
  exact⟨u,rfl,zrl (s:={ s with heap:=h' }) e c d (by decide) ⟨x,H,I1,ru,⟨rfl,λys hy=>by rw[I.list_inj hy hq]; exact hx⟩,st',λb hb=>(hf b hb).1⟩⟩
 done:=by
  intro X hP hw hK hc i pins s σ H E I hf st hg
  subst hP hw hK
  obtain⟨xs,hq,hx⟩:=hg
  obtain⟨its,rv,p,hz⟩:=I.list hq
  obtain⟨f0,f1,f2,f3,f4,f5⟩:=hf it (by simp)
  have hl:=rv.length
  exact wpAny_pyNext_list_end (I.ok.hd hc) st p.isList (by simp; omega) λh' eb=>⟨rfl,I.turned (t':=s.toks) (λb o hb e=>eb b o hb e) f0 f1 f3 f4 f5⟩
 self:=λ_ _ _ _ _ st h=>wpAny_pyIter_listiter st h
theorem zx1 {P:Program}{w:World}{K:PySem.W.Frag}{tg:Expr}(it:Addr)(lo:Int)(n:Nat):zf7 P w K tg (Itr lo n) [it] it (λi h=>IsRangeIter h it (lo+(i:Nat)*1) ((n:Int)-(i:Nat)) 1) where
 mem:=by simp
 obj:=λi h st b hb=>by
  have e:b=it:=by simpa using hb
  subst e
  exact⟨_,st,λv z=>by
   have z':Data.fields _=Data.cell v:=z
   cases z'⟩
 keep:=λi h h' st k=>k it (by simp) _ st
 item:=by
  intro X hP hw hK hc i pins s σ H E I hf st hg
  subst hP hw hK
  obtain⟨f0,f1,f2,f3,f4,f5⟩:=hf it (by simp)
  have W:=Walks.range (prog:=X.prog) (w:=X.w) (I.ok.hd hc) it lo 1 n
  refine W.item i s _ _ hg st λv h' tk hv st' kk=>?_
  obtain⟨t,rfl⟩:=hv
  have I1:Inv X pins σ H { s with heap:=h',toks:=tk }:=I.turned (λb o hb e=>kk b o (by simpa using hb) e) f0 f1 f3 f4 f5
  refine⟨_,rfl,zrl (s:={ s with heap:=h',toks:=tk }) (n:="range_iterator") st' rfl rfl (by decide) ⟨.int (lo+i),H,I1,⟨t,?_⟩,⟨rfl,rfl⟩,st',λb hb=>(hf b hb).1⟩⟩
  rw[VaW]
 done:=by
  intro X hP hw hK hc i pins s σ H E I hf st hg
  subst hP hw hK
  obtain⟨f0,f1,f2,f3,f4,f5⟩:=hf it (by simp)
  exact wpAny_pyNext_range_end (I.ok.hd hc) st (by have:n≤i:=hg; omega) λh' eb=>⟨rfl,I.turned (t':=s.toks) (λb o hb e=>eb b o hb e) f0 f1 f3 f4 f5⟩
 self:=λ_ _ _ _ _ st h=>wpAny_pyIter_rangeiter st h
end L2
namespace L2
open PySem PySem.Spec PyProof.Rows
section
variable {X:Cx}{tg:Expr}
def zqH (K:PySem.W.Frag)(tl:TE):TI:=λσ H R=>tl σ H λx H1=>∃a,x=.ref a∧(∃xs,SqL K H1 a xs)∧R (Itl K a) H1
theorem zpd {l:Expr}{tl:TE}(hl:PE X l tl):PI X tg l (zqH X.K tl):=by
 intro pins s σ H R I h
 refine thn (hl pins s σ H _ I h) λv s1 ⟨x,H1,I1,r1,q1⟩=>?_
 obtain⟨a,e,⟨xs,hq⟩,q⟩:=q1
 subst e
 cases r1
 obtain⟨its,rv,p,hz⟩:=I1.list hq
 refine wpAny_pyIter_list p.isList ?_
 refine⟨s1.heap.objs.size,[s1.heap.objs.size],_,_,H1,rfl,I1.kept (t':=s1.toks) λb o e=>Heap.get?_push_of_some _ e,zwR a _,⟨_,Heap.get?_push_size _ rfl,rfl,rfl⟩,λb hb=>?_,q⟩
 have e:b=s1.heap.objs.size:=by simpa using hb
 subst e
 exact I1.fpOk (Vaa _) (I1.hok.fresh (Vaa _))
theorem zri {pins:List (Addr×Obj)}{σ:St}{H:Hp}{s:Shared}{R:It→Hp→Prop}{E:Value→Shared→Prop}{lo hi:Int}{t u v:Tok}{tk:Nat}(I:Inv X pins σ H s)(h1:-(2^62)≤lo)(h2:lo<2^62)(h3:-(2^62)≤hi)(h4:hi<2^62)
  (q:R (Itr lo (hi-lo).toNat) H):wpAny (model X.prog X.w) X.A (pyIter (.ref s.heap.objs.size)) (PIE X pins σ tg R) E { s with heap:=s.heap.push { cls:=.type "range",data:=.fields #[.int lo t,.int hi u,.int 1 v] },toks:=tk }:=by
 refine wpAny_pyIter_range (IsRange.new ..) (small_one h1 h2 h3 h4) ?_
 have I1:Inv X pins σ H { s with heap:=s.heap.push { cls:=.type "range",data:=.fields #[.int lo t,.int hi u,.int 1 v] },toks:=tk }:=I.kept λb o e=>Heap.get?_push_of_some _ e
 refine⟨(s.heap.push { cls:=.type "range",data:=.fields #[.int lo t,.int hi u,.int 1 v] }).objs.size,[(s.heap.push { cls:=.type "range",data:=.fields #[.int lo t,.int hi u,.int 1 v] }).objs.size],_,_,H,rfl,
  I1.kept (t':=tk) λb o e=>Heap.get?_push_of_some _ e,zx1 _ lo (hi-lo).toNat,?_,λb hb=>?_,q⟩
 ·have e1:lo+((0:Nat):Int)*1=lo:=by simp
  have e2:(((hi-lo).toNat:Nat):Int)-((0:Nat):Int)=Builtin.Range.rangeSize lo hi 1:=by rw[rangeSize_one]; split <;> omega
  show IsRangeIter _ _ (lo+((0:Nat):Int)*1) ((((hi-lo).toNat:Nat):Int)-((0:Nat):Int)) 1
  rw[e1,e2]
  exact Heap.get?_push_size _ rfl
 ·have e:b=(s.heap.push { cls:=.type "range",data:=.fields #[.int lo t,.int hi u,.int 1 v] }).objs.size:=by simpa using hb
  subst e
  exact I1.fpOk (Vaa _) (I1.hok.fresh (Vaa _))
def zrI (ta:TA):TI:=λσ H R=>ta σ H λvs H1=>∃j:Int,vs=[.int j]∧-(2^62)≤j∧j<2^62∧R (Itr 0 j.toNat) H1
def iRng2 (ta:TA):TI:=λσ H R=>ta σ H λvs H1=>∃i j:Int,vs=[.int i,.int j]∧(-(2^62)≤i∧i<2^62∧-(2^62)≤j∧j<2^62)∧R (Itr i (j-i).toNat) H1
theorem zol {a:Expr}{ta:TA}{p pos:Pos}(hg:Gl X "range")(hm:X.mg "range"=none)(ha:PA X [a] ta)(hs:starEach [a] X.env=[(false,eval a X.env)]:=by rfl):PI X tg (.Call (.Name "range" p) [a] [] pos) (zrI ta):=by
 intro pins s σ H R I h
 refine Call_ (zec I hg hm boot_range (PyProof.Rows.callWith_type1 (thn (ha pos pins s σ H _ I h) λus s1 ⟨vs,H1,I1,r1,q1⟩=>?_) hs rfl))
 obtain⟨j,e,q1,q2,q⟩:=q1
 subst e
 cases r1 with
 | cons r rr=>
  cases rr
  obtain⟨t,rfl⟩:=r
  exact call_range_1 (zri I1 (by omega) (by omega) q1 q2 (by simpa using q))
theorem zsE {a b:Expr}{ta:TA}{p pos:Pos}(hg:Gl X "range")(hm:X.mg "range"=none)(ha:PA X [a,b] ta)(hs:starEach [a,b] X.env=[(false,eval a X.env),(false,eval b X.env)]:=by rfl)(hs2:starEach [b] X.env=[(false,eval b X.env)]:=by rfl):
  PI X tg (.Call (.Name "range" p) [a,b] [] pos) (iRng2 ta):=by
 intro pins s σ H R I h
 refine Call_ (zec I hg hm boot_range (PyProof.Rows.callWith_type1 (thn (ha pos pins s σ H _ I h) λus s1 ⟨vs,H1,I1,r1,q1⟩=>?_) (by rw[hs,hs2]) (by rw[hs2]; rfl)))
 obtain⟨i,j,e,⟨q1,q2,q3,q4⟩,q⟩:=q1
 subst e
 cases r1 with
 | cons r rr=>
  cases rr with
  | cons r' rr=>
   cases rr
   obtain⟨t,rfl⟩:=r
   obtain⟨t',rfl⟩:=r'
   exact call_range_2 (zri I1 q1 q2 q3 q4 q)
def tFor (wi:TI)(g:TG)(tb:TS):TS:=λD σ H=>wi σ H λJ H1=>∃W:Nat→Nat→St→Hp→Prop,(∃m,W 0 m σ H1)∧∀i m σ H,W i m σ H→
 (J.stop i H∧D.nx σ H)∨(J.go i H∧∃N:St→Hp→Prop,(∀σ' H',N σ' H'→∃m',m'<m∧W (i+1) m' σ' H')∧∀x H',J.yld i H x H'→g x σ H' λσ2 H2=>tb { D with nx:=N,ct:=N,bk:=D.nx } σ2 H2)
def zfG (fp:List Addr)(h:Heap):List (Addr×Obj):=fp.filterMap λb=>(h.get? b).map λo=>(b,o)
theorem zeH {fp:List Addr}{h:Heap}{b:Addr}{o:Obj}(hb:b∈fp)(e:h.get? b=some o):(b,o)∈zfG fp h:=List.mem_filterMap.mpr ⟨b,hb,by rw[e]; rfl⟩
theorem zwe {fp:List Addr}{h:Heap}{p:Addr×Obj}(hp:p∈zfG fp h):p.1∈fp∧h.get? p.1=some p.2:=by
 obtain⟨b,hb,e⟩:=List.mem_filterMap.mp hp
 cases q:h.get? b with
 | none=>rw[q] at e; cases e
 | some o=>
  rw[q] at e
  have e':(b,o)=p:=Option.some.inj e
  subst e'
  exact⟨hb,q⟩
theorem Inv.pinned {pins:List (Addr×Obj)}{σ:St}{H:Hp}{s:Shared}{fp:List Addr}(I:Inv X pins σ H s)(hf:∀b∈fp,zbL X pins H b)(ho:∀b∈fp,∃o,s.heap.get? b=some o∧∀v,o.data≠.cell v):Inv X (pins++zfG fp s.heap) σ H s:=
 I.pins_of λp hp=>(VaL.mp hp).elim (λz=>I.pin p (VaH _ z)) λz=>by
  obtain⟨hb,e⟩:=zwe z
  obtain⟨f0,f1,f2,_⟩:=hf p.1 hb
  obtain⟨o,e',d⟩:=ho p.1 hb
  rw[e] at e'; cases e'
  exact⟨e,f0,f1,f2,d⟩
theorem Inv.unpinned {pins pl:List (Addr×Obj)}{σ:St}{H:Hp}{s:Shared}(I:Inv X (pins++pl) σ H s):Inv X pins σ H s:=I.pins_of λp hp=>I.pin p (VaH _ (List.mem_append_left _ hp))
theorem znj {iter:Expr}{body:List Stmt}{wi:TI}{g:TG}{tb:TS}{pos:Pos}(hp:PassesOwn (model X.prog X.w) X.A X.env X.xe)(hc:X.calm=true)(hi:PI X tg iter wi)(hg:PG X tg g)(hb:PSs X body tb)
  (hs:∀x,foldedSetIterable iter X.env x=pure x:=by intro _; rfl):PS X (.For tg iter body [] pos) (tFor wi g tb):=by
 intro pins s σ H D I h
 refine wpAny_For (thn (hi pins s σ H _ I h) λv s1 h1=>thn h1 λitv s2 h2=>?_) hs
 obtain⟨it,fp,tn,J,H2,e,I2,T,st2,f2,W,⟨m0,w0⟩,turn⟩:=h2
 subst e
 have stat:∀ {H':Hp},(∀b∈fp,H' b=none)→∀b∈fp,zbL X pins H' b:=λhn b hb=>⟨hn b hb,(f2 b hb).2⟩
 refine codeAny_forLoop_any (λn s'=>∃i σ' H',Inv X pins σ' H' s'∧tn i s'.heap∧(∀b∈fp,H' b=none)∧W i n σ' H') ?_ m0 ⟨0,σ,H2,I2,st2,λb hb=>(f2 b hb).1,w0⟩
 rintro n s3 ⟨i,σ3,H3,I3,st3,fr3,w3⟩
 rcases turn i n σ3 H3 w3 with ⟨stop,qn⟩ | ⟨go,N,hN,step⟩
 ·refine wpAny_passesOwn hp (thn (T.done X rfl rfl rfl hc i pins s3 σ3 H3 X.xe I3 (stat fr3) st3 stop) λr s4 ⟨hr,I4⟩=>?_)
  subst hr
  exact wpAny_execs_nil ⟨σ3,H3,I4,qn⟩
 ·refine wpAny_passesOwn hp (thn (T.item X rfl rfl rfl hc i pins s3 σ3 H3 X.xe I3 (stat fr3) st3 go) λr s4 ⟨u,hr,h4⟩=>?_)
  subst hr
  refine wpAny_passesOwn hp (thn h4 λ_ s5 ⟨x,H5,I5,r5,y5,st5,fr5⟩=>?_)
  have I5':=I5.pinned (stat fr5) (T.obj _ _ st5)
  refine wpAny_passesOwn hp (thn (hg _ s5 σ3 H5 x u _ I5' r5 (step x H5 y5)) λ_ s6 ⟨σ6,H6,I6,q6⟩=>?_)
  refine wpAny_passesOwn hp (thn (hb _ s6 σ6 H6 _ I6 q6) λf s7 q7=>?_)
  have again:∀ {σ7:St} {H7:Hp},Inv X (pins++zfG fp s5.heap) σ7 H7 s7→N σ7 H7→∃m,m<n∧∃i σ' H',Inv X pins σ' H' s7∧tn i s7.heap∧(∀b∈fp,H' b=none)∧W i m σ' H':=λ{σ7 H7} I7 n7=>by
   obtain⟨m',hm,w7⟩:=hN σ7 H7 n7
   refine⟨m',hm,i+1,σ7,H7,I7.unpinned,T.keep _ _ _ st5 λb hb o e=>(I7.pin (b,o) (VaH _ (VaH _ (zeH hb e)))).1,λb hb=>?_,w7⟩
   obtain⟨o,e,d⟩:=T.obj _ _ st5 b hb
   exact(I7.pin (b,o) (VaH _ (VaH _ (zeH hb e)))).2.1
  cases f with
  | next=>obtain⟨σ7,H7,I7,n7⟩:=q7; exact again I7 n7
  | cont=>obtain⟨σ7,H7,I7,n7⟩:=q7; exact again I7 n7
  | brk=>obtain⟨σ7,H7,I7,q7⟩:=q7; exact⟨σ7,H7,I7.unpinned,q7⟩
  | ret v=>obtain⟨x7,σ7,H7,I7,r7,q7⟩:=q7; exact⟨x7,σ7,H7,I7.unpinned,r7,q7⟩
end
end L2
namespace L2
open PySem PySem.Spec PyProof.Rows
abbrev R2:=V→V→Hp→VK→Prop
def OpR (X:Cx)(f:Value→Value→Sem Value)(r:R2):Prop:=
 ∀(pins:List (Addr×Obj)) (s:Shared) (σ:St) (H:Hp) (x y:V) (v u:Value) (Q:VK),Inv X pins σ H s→zaA x v→zaA y u→r x y H Q→
  wpAny (model X.prog X.w) X.A (f v u) (EP X pins σ Q) X.xe s
def UnR (X:Cx)(f:Value→Sem Value)(r:V→Hp→VK→Prop):Prop:=
 ∀(pins:List (Addr×Obj)) (s:Shared) (σ:St) (H:Hp) (x:V) (v:Value) (Q:VK),Inv X pins σ H s→zaA x v→r x H Q→
  wpAny (model X.prog X.w) X.A (f v) (EP X pins σ Q) X.xe s
def zbo (X:Cx)(f:Value)(r:List V→Hp→VK→Prop):Prop:=
 ∀(pins:List (Addr×Obj)) (s:Shared) (σ:St) (H:Hp) (xs:List V) (us:List Value) (Q:VK),Inv X pins σ H s→zaB xs us→r xs H Q→
  wpAny (model X.prog X.w) X.A (call f us) (EP X pins σ Q) X.xe s
def tOp (r:R2)(ta tb:TE):TE:=λσ H Q=>ta σ H λx H1=>tb σ H1 λy H2=>r x y H2 Q
def tUn (r:V→Hp→VK→Prop)(ta:TE):TE:=λσ H Q=>ta σ H λx H1=>r x H1 Q
def rI (C:Int→Int→Prop)(g:Int→Int→V):R2:=λx y H Q=>∃i j,x=.int i∧y=.int j∧C i j∧Q (g i j) H
def rI0 (g:Int→Int→V):R2:=λx y H Q=>∃i j,x=.int i∧y=.int j∧Q (g i j) H
def rU (g:Int→V):V→Hp→VK→Prop:=λx H Q=>∃i,x=.int i∧Q (g i) H
section
variable {X:Cx}{a b c:Expr}{ta tb tc:TE}{pos:Pos}
theorem binT (ha:PE X a ta)(hb:PE X b tb){pins:List (Addr×Obj)}{s:Shared}{σ:St}{H:Hp}{R:V→V→Hp→Prop}(I:Inv X pins σ H s)
  (h:ta σ H λx H1=>tb σ H1 λy H2=>R x y H2){Q:Value→Shared→Prop}{f:Value→Value→Sem Value}
  (hf:∀v u s2 x y H2,Inv X pins σ H2 s2→zaA x v→zaA y u→R x y H2→wpAny (model X.prog X.w) X.A (f v u) Q X.xe s2):
  wpAny (model X.prog X.w) X.A (eval a X.env) (λv s₁=>wpAny (model X.prog X.w) X.A (eval b X.env) (λu s₂=>wpAny (model X.prog X.w) X.A (f v u) Q X.xe s₂) X.xe s₁) X.xe s:=by
 refine thn (ha pins s σ H _ I h) λv s1 ⟨x,H1,I1,r1,q1⟩=>?_
 refine thn (hb pins s1 σ H1 _ I1 q1) λu s2 ⟨y,H2,I2,r2,q2⟩=>?_
 exact hf v u s2 x y H2 I2 r1 r2 q2
theorem pe_op {op:Operator}{r:R2}(ho:OpR X (binaryOp op) r)(ha:PE X a ta)(hb:PE X b tb):PE X (.BinOp a op b pos) (tOp r ta tb):=by
 intro pins s σ H Q I h
 exact wpAny_BinOp (binT ha hb I h λv u s2 x y H2 I2 rx ry q=>ho pins s2 σ H2 x y v u Q I2 rx ry q)
theorem pe_un {op:UnaryOp}{r:V→Hp→VK→Prop}(ho:UnR X (unaryOp op) r)(ha:PE X a ta):PE X (.UnaryOp op a pos) (tUn r ta):=by
 intro pins s σ H Q I h
 exact UnaryOp_ (thn (ha pins s σ H _ I h) λv s1 ⟨x,H1,I1,r1,q1⟩=>ho pins s1 σ H1 x v Q I1 r1 q1)
theorem opI {f:Value→Value→Sem Value}{C:Int→Int→Prop}{g:Int→Int→Int}
  (rule:∀(i j:Int) (t u:Tok) (s:Shared) (Q:Value→Shared→Prop) (E:Value→Shared→Prop),C i j→Q (.int (g i j) s.toks) { s with toks:=s.toks+1 }→wpAny (model X.prog X.w) X.A (f (.int i t) (.int j u)) Q E s):
  OpR X f (rI C λi j=>.int (g i j)):=by
 intro pins s σ H x y v u Q I rx ry h
 obtain⟨i,j,rfl,rfl,hc,q⟩:=h
 obtain⟨t,rfl⟩:=rx
 obtain⟨t',rfl⟩:=ry
 exact rule i j t t' s _ _ hc ⟨.int (g i j),H,I.tok _,⟨_,rfl⟩,q⟩
theorem opI0 {f:Value→Value→Sem Value}{g:Int→Int→Int}
  (rule:∀(i j:Int) (t u:Tok) (s:Shared) (Q:Value→Shared→Prop) (E:Value→Shared→Prop),Q (.int (g i j) s.toks) { s with toks:=s.toks+1 }→wpAny (model X.prog X.w) X.A (f (.int i t) (.int j u)) Q E s):
  OpR X f (rI0 λi j=>.int (g i j)):=by
 intro pins s σ H x y v u Q I rx ry h
 obtain⟨i,j,rfl,rfl,q⟩:=h
 obtain⟨t,rfl⟩:=rx
 obtain⟨t',rfl⟩:=ry
 exact rule i j t t' s _ _ ⟨.int (g i j),H,I.tok _,⟨_,rfl⟩,q⟩
theorem zk0 {f:Value→Value→Sem Value}{g:Int→Int→Bool}
  (rule:∀(i j:Int) (t u:Tok) (s:Shared) (Q:Value→Shared→Prop) (E:Value→Shared→Prop),Q (.bool (g i j)) s→wpAny (model X.prog X.w) X.A (f (.int i t) (.int j u)) Q E s):
  OpR X f (rI0 λi j=>.bl (g i j)):=by
 intro pins s σ H x y v u Q I rx ry h
 obtain⟨i,j,rfl,rfl,q⟩:=h
 obtain⟨t,rfl⟩:=rx
 obtain⟨t',rfl⟩:=ry
 exact rule i j t t' s _ _ ⟨.bl (g i j),H,I,rfl,q⟩
def CPow (i j:Int):Prop:=0≤j∧j≤1000000∧i.natAbs<2^64
theorem ztx:OpR X (binaryOp .Add) (rI0 λi j=>.int (i+j)):=opI0 λ_ _ _ _ _ _ _ q=>add_int q
theorem zwv:OpR X (binaryOp .Sub) (rI0 λi j=>.int (i-j)):=opI0 λ_ _ _ _ _ _ _ q=>sub_int q
theorem zr3:OpR X (binaryOp .Mod) (rI (λ_ j=>0<j) λi j=>.int (i%j)):=opI λi j _ _ _ _ _ hc q=>by
 have h1:(0:Int)<j:=hc
 exact mod_int' (by omega) (by rw[Int.fmod_eq_emod_of_nonneg i (by omega)]; exact q)
theorem zrS:OpR X (binaryOp .Pow) (rI CPow λi j=>.int (i^j.toNat)):=opI λ_ _ _ _ _ _ _ hc q=>pow_int_small hc.1 hc.2.1 hc.2.2 q
theorem unI {f:Value→Sem Value}{g:Int→Int}
  (rule:∀(i:Int) (t:Tok) (s:Shared) (Q:Value→Shared→Prop) (E:Value→Shared→Prop),Q (.int (g i) s.toks) { s with toks:=s.toks+1 }→wpAny (model X.prog X.w) X.A (f (.int i t)) Q E s):
  UnR X f (rU λi=>.int (g i)):=by
 intro pins s σ H x v Q I rx h
 obtain⟨i,rfl,q⟩:=h
 obtain⟨t,rfl⟩:=rx
 exact rule i t s _ _ ⟨.int (g i),H,I.tok _,⟨_,rfl⟩,q⟩
theorem zss:UnR X (unaryOp .USub) (rU λi=>.int (-i)):=unI λ_ _ _ _ _ q=>neg_int q
end
def zlv:V→V→Bool
 | .non,.non=>true | .non,.int _=>true | .int _,.non=>true | .non,.bl _=>true | .bl _,.non=>true | .non,.str _=>true | .str _,.non=>true
 | .int _,.int _=>true | .bl _,.bl _=>true | .str _,.str _=>true | .byt _,.byt _=>true
 | .int _,.str _=>true | .str _,.int _=>true | .bl _,.str _=>true | .str _,.bl _=>true
 | _,_=>false
def rEq:R2:=λx y H Q=>zlv x y=true∧Q (.bl (decide (x=y))) H
def rNe:R2:=λx y H Q=>zlv x y=true∧Q (.bl (!decide (x=y))) H
theorem zpD {i j:Int}:decide (V.int i=V.int j)=(i==j):=by
 rw[Vbe]
 simp
theorem zp4 {i j:Bool}:decide (V.bl i=V.bl j)=(i==j):=by
 rw[Vbe]
 simp
theorem zpP {i j:Str}:decide (V.str i=V.str j)=(i==j):=by
 rw[Vbe]
 simp
theorem zre {i j:Array UInt8}:decide (V.byt i=V.byt j)=(i.toList==j.toList):=by
 rw[Vbe]
 cases i
 cases j
 simp
section
variable {X:Cx}{a b c:Expr}{ta tb tc:TE}{pos:Pos}
theorem za3 {pins:List (Addr×Obj)}{σ:St}{H:Hp}{s:Shared}{Q:VK}{k k':Bool}(I:Inv X pins σ H s)(q:Q (.bl k) H)(e:k=k'):EP X pins σ Q (.bool k') s:=by
 subst e
 exact⟨.bl k,H,I,rfl,q⟩
theorem znI:OpR X (compareOp .Eq) rEq:=by
 intro pins s σ H x y v u Q I rx ry h
 obtain⟨hs,q⟩:=h
 cases x with
 | non=>
  cases rx
  cases y with
  | non=>cases ry; exact PySem.EqNone.eq_none_none (za3 I q (by simp))
  | bl j=>cases ry; exact PySem.EqNone.eq_none_bool (za3 I q (by simp))
  | int j=>obtain⟨t',rfl⟩:=ry; exact PySem.EqNone.eq_none_int (za3 I q (by simp))
  | str j=>obtain⟨t',rfl⟩:=ry; exact PySem.EqNone.eq_none_str (za3 I q (by simp))
  | _=>exact absurd (show false=true from hs) Var
 | bl i=>
  cases rx
  cases y with
  | non=>cases ry; exact PySem.EqNone.eq_bool_none (za3 I q (by simp))
  | bl j=>cases ry; exact eq_bool (za3 I q zp4)
  | str j=>obtain⟨t',rfl⟩:=ry; exact PySem.EqMixed.eq_bool_str (za3 I q (by simp))
  | _=>exact absurd (show false=true from hs) Var
 | int i=>
  obtain⟨t,rfl⟩:=rx
  cases y with
  | non=>cases ry; exact PySem.EqNone.eq_int_none (za3 I q (by simp))
  | int j=>obtain⟨t',rfl⟩:=ry; exact eq_int (za3 I q zpD)
  | str j=>obtain⟨t',rfl⟩:=ry; exact PySem.EqMixed.eq_int_str (za3 I q (by simp))
  | _=>exact absurd (show false=true from hs) Var
 | str i=>
  obtain⟨t,rfl⟩:=rx
  cases y with
  | non=>cases ry; exact PySem.EqNone.eq_str_none (za3 I q (by simp))
  | bl j=>cases ry; exact PySem.EqMixed.eq_str_bool (za3 I q (by simp))
  | int j=>obtain⟨t',rfl⟩:=ry; exact PySem.EqMixed.eq_str_int (za3 I q (by simp))
  | str j=>obtain⟨t',rfl⟩:=ry; exact eq_str (za3 I q zpP)
  | _=>exact absurd (show false=true from hs) Var
 | byt i=>
  obtain⟨t,rfl⟩:=rx
  cases y with
  | byt j=>obtain⟨t',rfl⟩:=ry; exact PySem.W.eq_bytes (za3 I q zre)
  | _=>exact absurd (show false=true from hs) Var
 | _=>cases y <;> exact absurd (show false=true from hs) Var
theorem op_ne:OpR X (compareOp .NotEq) rNe:=by
 intro pins s σ H x y v u Q I rx ry h
 obtain⟨hs,q⟩:=h
 cases x with
 | non=>
  cases rx
  cases y with
  | non=>cases ry; exact PySem.EqNone.ne_none_none (za3 I q (by simp))
  | bl j=>cases ry; exact PySem.EqNone.ne_none_bool (za3 I q (by simp))
  | int j=>obtain⟨t',rfl⟩:=ry; exact PySem.EqNone.ne_none_int (za3 I q (by simp))
  | str j=>obtain⟨t',rfl⟩:=ry; exact PySem.EqNone.ne_none_str (za3 I q (by simp))
  | _=>exact absurd (show false=true from hs) Var
 | bl i=>
  cases rx
  cases y with
  | non=>cases ry; exact PySem.EqNone.ne_bool_none (za3 I q (by simp))
  | bl j=>cases ry; exact ne_bool (za3 I q (congrArg not zp4))
  | str j=>obtain⟨t',rfl⟩:=ry; exact PySem.EqMixed.ne_bool_str (za3 I q (by simp))
  | _=>exact absurd (show false=true from hs) Var
 | int i=>
  obtain⟨t,rfl⟩:=rx
  cases y with
  | non=>cases ry; exact PySem.EqNone.ne_int_none (za3 I q (by simp))
  | int j=>obtain⟨t',rfl⟩:=ry; exact ne_int (za3 I q (congrArg not zpD))
  | str j=>obtain⟨t',rfl⟩:=ry; exact PySem.EqMixed.ne_int_str (za3 I q (by simp))
  | _=>exact absurd (show false=true from hs) Var
 | str i=>
  obtain⟨t,rfl⟩:=rx
  cases y with
  | non=>cases ry; exact PySem.EqNone.ne_str_none (za3 I q (by simp))
  | bl j=>cases ry; exact PySem.EqMixed.ne_str_bool (za3 I q (by simp))
  | int j=>obtain⟨t',rfl⟩:=ry; exact PySem.EqMixed.ne_str_int (za3 I q (by simp))
  | str j=>obtain⟨t',rfl⟩:=ry; exact ne_str (za3 I q (congrArg not zpP))
  | _=>exact absurd (show false=true from hs) Var
 | byt i=>
  obtain⟨t,rfl⟩:=rx
  cases y with
  | byt j=>obtain⟨t',rfl⟩:=ry; exact PySem.W.ne_bytes (za3 I q (congrArg not zre))
  | _=>exact absurd (show false=true from hs) Var
 | _=>cases y <;> exact absurd (show false=true from hs) Var
theorem op_lt:OpR X (compareOp .Lt) (rI0 λi j=>.bl (decide (i<j))):=zk0 λ_ _ _ _ _ _ _ q=>lt_int q
theorem op_le:OpR X (compareOp .LtE) (rI0 λi j=>.bl (decide (i≤j))):=zk0 λ_ _ _ _ _ _ _ q=>le_int q
theorem op_gt:OpR X (compareOp .Gt) (rI0 λi j=>.bl (decide (j<i))):=zk0 λ_ _ _ _ _ _ _ q=>gt_int q
theorem op_ge:OpR X (compareOp .GtE) (rI0 λi j=>.bl (decide (j≤i))):=zk0 λ_ _ _ _ _ _ _ q=>ge_int q
theorem zsG:OpR X (compareOp .Is) (λx y H Q=>y=.non∧Q (.bl (decide (x=.non))) H):=by
 intro pins s σ H x y v u Q I rx ry h
 obtain⟨rfl,q⟩:=h
 cases ry
 refine is_none_gen (za3 I q ?_)
 cases x <;> first
  | (cases rx; rfl)
  | (obtain⟨t,rfl⟩:=rx; rfl)
theorem zaE (b:Expr){op:CmpOp}(h:op≠.In:=by decide)(h2:op≠.NotIn:=by decide):behindInMarks op b=false:=by
 have e1:(op==CmpOp.In)=false:=by cases op <;> first | rfl | exact absurd rfl h
 have e2:(op==CmpOp.NotIn)=false:=by cases op <;> first | rfl | exact absurd rfl h2
 cases b <;> simp[behindInMarks,e1,e2]
theorem zwk {op:CmpOp}{r:R2}(ho:OpR X (compareOp op) r)(ha:PE X a ta)(hb:PE X b tb)(hm:behindInMarks op b=false):PE X (.Compare a [op] [b] pos) (tOp r ta tb):=by
 intro pins s σ H Q I h
 exact wpAny_Compare1 (binT ha hb I h λv u s2 x y H2 I2 rx ry q=>ho pins s2 σ H2 x y v u Q I2 rx ry q) hm
def zrx (t:TE):TT:=λσ H Q=>t σ H λx H'=>∃k,x=.bl k∧Q k H'
theorem zvg {op:CmpOp}{r:R2}(ho:OpR X (compareOp op) r)(ha:PE X a ta)(hb:PE X b tb)(hm:behindInMarks op b=false):PT X (.Compare a [op] [b] pos) (zrx (tOp r ta tb)):=by
 intro pins s σ H Q I h
 refine wpAny_isTrue_Compare1 (thn (ha pins s σ H _ I h) λv s1 ⟨x,H1,I1,r1,q1⟩=>thn (hb pins s1 σ H1 _ I1 q1) λu s2 ⟨y,H2,I2,r2,q2⟩=>
  thn (ho pins s2 σ H2 x y v u _ I2 r1 r2 q2) λc s3 ⟨z,H3,I3,r3,k,e,q3⟩=>?_) hm
 subst e
 cases r3
 exact wpAny_truthy_bool ⟨H3,I3,q3⟩
def zpM (r r':R2)(ta tb tc:TE):TE:=λσ H Q=>ta σ H λx H1=>tb σ H1 λy H2=>r x y H2 λz H3=>∃k,z=.bl k∧
 (if k=true then tc σ H3 λw' H4=>r' y w' H4 Q else Q (.bl false) H3)
theorem zy3 {op op':CmpOp}{r r':R2}(ho:OpR X (compareOp op) r)(ho':OpR X (compareOp op') r')(ha:PE X a ta)(hb:PE X b tb)(hc:PE X c tc)
  (hm:lastMarks [op,op'] [b,c]=false:=by with_unfolding_all rfl):PT X (.Compare a [op,op'] [b,c] pos) (zrx (zpM r r' ta tb tc)):=by
 intro pins s σ H Q I h
 refine isTrue_chain (thn (ha pins s σ H _ I h) λv s1 ⟨x,H1,I1,r1,q1⟩=>test_link (thn (hb pins s1 σ H1 _ I1 q1) λu s2 ⟨y,H2,I2,r2,q2⟩=>
  thn (ho pins s2 σ H2 x y v u _ I2 r1 r2 q2) λd s3 ⟨z,H3,I3,r3,k,e,q3⟩=>?_)) hm
 subst e
 cases r3
 refine wpAny_truthy_bool ?_
 cases k with
 | false=>
  obtain⟨k',e',q'⟩:=q3
  cases e'
  exact ite_ff ⟨H3,I3,q'⟩
 | true=>
  refine ite_tt (test_last (thn (hc pins s3 σ H3 _ I3 q3) λw' s4 ⟨z',H4,I4,r4,q4⟩=>thn (ho' pins s4 σ H4 y z' u w' _ I4 r2 r4 q4) λd' s5 ⟨z2,H5,I5,r5,k2,e2,q5⟩=>?_))
  subst e2
  cases r5
  exact wpAny_truthy_bool ⟨H5,I5,q5⟩
theorem zjn:(sizeLine:Nat)<2^63:=by rw[sizeLine_eq]; decide
theorem zdg {x:V}{us:List Value}(r:zaB [x] us):∃u,us=[u]∧zaA x u:=by
 cases r with
 | cons r1 r2=>cases r2; exact⟨_,rfl,r1⟩
theorem zn5 {x y:V}{us:List Value}(r:zaB [x,y] us):∃u w',us=[u,w']∧zaA x u∧zaA y w':=by
 cases r with
 | cons r1 r2=>
  cases r2 with
  | cons r3 r4=>cases r4; exact⟨_,_,rfl,r1,r3⟩
theorem zxX:zbo X (.builtin "abs") (λxs H Q=>∃i,xs=[.int i]∧Q (.int (if i<0 then -i else i)) H):=by
 intro pins s σ H xs us Q I r h
 obtain⟨i,rfl,q⟩:=h
 obtain⟨u,rfl,t,rfl⟩:=zdg r
 exact call_abs_int λu tk=>⟨.int (if i<0 then -i else i),H,I.tok _,⟨_,rfl⟩,q⟩
theorem zwa (hc:X.calm=true):zbo X (.builtin "max") (λxs H Q=>∃i j,xs=[.int i,.int j]∧Q (.int (if j > i then j else i)) H):=by
 intro pins s σ H xs us Q I r h
 obtain⟨i,j,rfl,q⟩:=h
 obtain⟨u,w',rfl,⟨t,rfl⟩,⟨t',rfl⟩⟩:=zn5 r
 refine max_two_ints (I.ok.hd hc) λh' tk k=>⟨_,H,I.kept k,?_,q⟩
 by_cases hj:j > i
 ·rw[if_pos hj,if_pos hj]; exact⟨_,rfl⟩
 ·rw[if_neg hj,if_neg hj]; exact⟨_,rfl⟩
theorem zvF (hc:X.calm=true):zbo X (.builtin "min") (λxs H Q=>∃i j,xs=[.int i,.int j]∧Q (.int (if j<i then j else i)) H):=by
 intro pins s σ H xs us Q I r h
 obtain⟨i,j,rfl,q⟩:=h
 obtain⟨u,w',rfl,⟨t,rfl⟩,⟨t',rfl⟩⟩:=zn5 r
 refine min_two_ints (I.ok.hd hc) λh' tk k=>⟨_,H,I.kept k,?_,q⟩
 by_cases hj:j<i
 ·rw[if_pos hj,if_pos hj]; exact⟨_,rfl⟩
 ·rw[if_neg hj,if_neg hj]; exact⟨_,rfl⟩
end
end L2
namespace L2
open PySem PySem.Spec PyProof.Rows
structure zes (h:Heap)(x dx C:Addr)(mA:Str→Option Value):Prop where
 obj:h.get? x=some (PySem.W.instObj C dx)
 ns:h.Ns1 dx mA
 ne:dx≠x
theorem zyL {h:Heap}{dx:Addr}{mA:Str→Option Value}(n:h.Ns1 dx mA):∃od,h.get? dx=some od∧∀name,PySem.W.lookIn name od=some (mA name):=by
 obtain⟨o,es,ep,ho,hd,hk,_,hm⟩:=n
 refine⟨o,ho,λname=>?_⟩
 have e:=hm name
 unfold nsFind findBy at e
 rw[← Array.find?_toList] at e
 unfold PySem.W.lookIn
 rw[hd]
 dsimp only
 split
 ·rename_i y q
  rw[q] at e
  exact congrArg some e
 ·rename_i q
  rw[q] at e
  have a:es.toList.any (·.refKey)=false:=by
   rw[List.any_eq_false]
   intro y hy
   obtain⟨z,t,hkey⟩:=hk y (Array.mem_toList_iff.mp hy)
   simp[DictEntry.refKey,hkey]
  have a':¬ es.toList.any (·.refKey)=true:=by rw[a]; exact Var
  rw[if_neg a']
  exact congrArg some e
theorem zes.look {h:Heap}{x dx C:Addr}{mA:Str→Option Value}(I:zes h x dx C mA):∃od,PySem.W.InstAt h x (PySem.W.instObj C dx) C (some od)∧∀name,PySem.W.lookIn name od=some (mA name):=
 let ⟨od,ho,hl⟩:=zyL I.ns
 ⟨od,⟨I.obj,rfl,rfl,ho⟩,hl⟩
section
variable {prog:Program}{w:World}{A:Around}{E:Value→Shared→Prop}{s:Shared}{K:PySem.W.Frag}{x dx C f:Addr}{mA:Str→Option Value}{name:Str}{v:Value}
theorem zvS {expr:Bool}{Q:Value→Shared→Prop}(X:K.In s.heap)(I:zes s.heap x dx C mA)(hg:PySem.W.plainGet K C name=true)(hh:PySem.W.hasDictIn K C=true)
  (ha:PySem.W.findIn K (.ref C) name=some none)(hv:mA name=some v)(hv':PySem.W.handedIn v=true)(h:Q v { s with toks:=s.toks+1 }):
  wpAny (model prog w) A (getAttr (.ref x) name expr) Q E s:=by
 obtain⟨od,J,hl⟩:=I.look
 exact PySem.W.get_value X J (PySem.W.plainGet_of hg).1 (PySem.W.findObj_own hh ha rfl (by rw[hl,hv])) hv' h
theorem zxS {pl:Sem Bool}{Q:Value×List Value→Shared→Prop}(X:K.In s.heap)(I:zes s.heap x dx C mA)(hg:PySem.W.plainGet K C name=true)
  (hf:PySem.W.findIn K (.ref C) name=some (some (.ref f)))(ht:PySem.W.isFn K (.ref f)=true)(hv:mA name=none)(h:Q (.ref f,[.ref x]) s):
  wpAny (model prog w) A (getMethod (.ref x) name pl) Q E s:=by
 obtain⟨od,J,hl⟩:=I.look
 exact PySem.W.method_fn X J (PySem.W.plainGet_of hg).1 (PySem.W.plainGet_of hg).2 hf (beq_iff_eq.mp ht) (by show (PySem.W.lookIn name od).map (·.isSome)=some false; rw[hl,hv]; rfl) h
theorem ztX {ns:List Str}{Q:Unit→Shared→Prop}(X:K.In s.heap)(I:zes s.heap x dx C mA)
  (hs:PySem.W.findIn K (.ref C) "__setattr__"=some (some (.builtin "object.__setattr__")))(hp:PySem.W.plainOver K C=true)(ht:PySem.W.takerIn K C name=some none)(hh:PySem.W.hasDictIn K C=true)
  (hw:PySem.Within mA ns)(hsz:ns.length≤sizeLine)
  (h:∀h',zes h' x dx C (λy=>if y=name then some v else mA y)→Heap.SameBut dx s.heap h'→Q () { s with heap:=h',toks:=s.toks+2 }):
  wpAny (model prog w) A (setAttr (.ref x) name v) Q E s:=by
 obtain⟨od,J,hl⟩:=I.look
 refine PySem.W.set_plain X J hs (PySem.W.osa_open (s:={ s with toks:=s.toks+1 }) (r:=none) X J hp ht λb=>?_)
 obtain⟨cd,hc,hd'⟩:=PySem.W.any_some hh
 have hx:s.heap.get? x=some ⟨.ref C,some dx,.plain,#[]⟩:=I.obj
 refine wpAny_bind (wpAny_pure (wpAny_bind (wpAny_bind (wpAny_loadPart hx (wpAny_bind (PySem.W.Looks.here (s:={ s with toks:=s.toks+1 }) (PySem.W.looks_clsIn X hc) ?_))))))
 rw[hd']
 refine wpAny_pure (a:=some dx) (wpAny_bind (wpAny_pure (wpAny_bind ?_)))
 refine wpAny_nsSet1 (s:={ s with toks:=s.toks+1 }) I.ns λh' hn2 hs2=>?_
 obtain⟨oD,esD,epD,hoD,hdD,hcD⟩:=hn2.count (PySem.Within.cons name v hw)
 refine wpAny_bind (wpAny_lookBehind hoD (by rw[hdD]; exact pastItsLine_dict (VaB hcD (by rw[VaC]; omega))) ?_)
 exact wpAny_pure (h _ ⟨(hs2.2 _ (Ne.symm I.ne)).trans I.obj,hn2,I.ne⟩ hs2)
theorem zt0 {R:Result→Shared→Prop}{vs:List Value}{kw:List (Str×Value)}(X:K.In s.heap)(hm:PySem.W.makesIn K C=true)
  (hi:PySem.W.findIn K (.ref C) "__init__"=some (some (.ref f)))(hf:PySem.W.typeIn K (.ref f)=some (.type "function"))
  (h:codeAny (model prog w) (A.under (.builtin "type.__call__" ⟨.ref C::vs,kw⟩)) (.call (.ref f) ⟨.ref (s.heap.objs.size+1)::vs,kw⟩) (PySem.W.InitBack (s.heap.objs.size+1) R)
   { s with heap:=(s.heap.push PySem.W.emptyDict).push (PySem.W.instObj C s.heap.objs.size) }):
  codeAny (model prog w) A (.call (.ref C) ⟨vs,kw⟩) R s:=by
 obtain⟨hh,g,d,t,os⟩:=s
 exact PySem.W.make_core (PySem.W.makes_of X hm) (PySem.W.looks_findIn X hi) (λself=>PySem.W.bind_fn X self hf) (.inl rfl) h
end
def zbC (f:Str)(v:V):List (Str×V)→List (Str×V)
 | []=>[(f,v)]
 | (g,x)::r=>if g=f then (g,v)::r else (g,x)::zbC f v r
theorem zqM (f g:Str)(v:V):∀fs:List (Str×V),(zbC f v fs).lookup g=if g=f then some v else fs.lookup g
 | []=>by
  show List.lookup g [(f,v)]=_
  by_cases h:g=f
  ·have hb:(g==f)=true:=beq_iff_eq.mpr h
   simp only[List.lookup,hb,if_pos h]
  ·have hb:(g==f)=false:=beq_eq_false_iff_ne.mpr h
   simp only[List.lookup,hb,if_neg h]
 | (k,x)::r=>by
  have ih:=zqM f g v r
  rw[show zbC f v ((k,x)::r)=(if k=f then (k,v)::r else (k,x)::zbC f v r) from rfl]
  by_cases hk:k=f
  ·rw[if_pos hk]
   by_cases h:g=k
   ·have hb:(g==k)=true:=beq_iff_eq.mpr h
    simp only[List.lookup,hb,if_pos (h.trans hk)]
   ·have hb:(g==k)=false:=beq_eq_false_iff_ne.mpr h
    simp only[List.lookup,hb,if_neg (λe:g=f=>h (e.trans hk.symm))]
  ·rw[if_neg hk]
   by_cases h:g=k
   ·have hb:(g==k)=true:=beq_iff_eq.mpr h
    simp only[List.lookup,hb,if_neg (λe:g=f=>hk (h.symm.trans e))]
   ·have hb:(g==k)=false:=beq_eq_false_iff_ne.mpr h
    simp only[List.lookup,hb]
    exact ih
theorem znp (f:Str)(v:V):∀fs:List (Str×V),f∈(zbC f v fs).map (·.1)∧∀g,g∈fs.map (·.1)→g∈(zbC f v fs).map (·.1)
 | []=>⟨by simp[zbC],λg h=>by simp at h⟩
 | (k,x)::r=>by
  obtain⟨i1,i2⟩:=znp f v r
  rw[show zbC f v ((k,x)::r)=(if k=f then (k,v)::r else (k,x)::zbC f v r) from rfl]
  by_cases hk:k=f
  ·rw[if_pos hk]
   subst hk
   exact⟨by simp,λg h=>by simpa using h⟩
  ·rw[if_neg hk]
   refine⟨?_,λg h=>?_⟩
   ·rw[VaX]
    exact VaR _ i1
   ·rw[VaX] at h ⊢
    rcases Vau.mp h with e | e
    ·exact Vau.mpr (.inl e)
    ·exact VaR _ (i2 g e)
theorem zqZ (f:Str)(v:V):∀fs:List (Str×V),(zbC f v fs).length≤fs.length+1
 | []=>by simp[zbC]
 | (k,x)::r=>by
  have ih:=zqZ f v r
  rw[show zbC f v ((k,x)::r)=(if k=f then (k,v)::r else (k,x)::zbC f v r) from rfl]
  by_cases hk:k=f
  ·rw[if_pos hk,VaC,VaC]; omega
  ·rw[if_neg hk,VaC,VaC]; omega
theorem zc1.some_of {v:V}{o:Option Value}(r:zc1 (some v) o):∃u,o=some u∧zaA v u:=by
 cases o with
 | none=>exact(show False from r).elim
 | some u=>exact⟨u,rfl,r⟩
theorem zc1.none_of {o:Option Value}(r:zc1 none o):o=none:=by
 cases o with
 | none=>rfl
 | some u=>exact(show False from r).elim
theorem zsr {v:V}{u:Value}(r:zaA v u):PySem.W.handedIn u=true:=by
 cases v with
 | non=>cases (show u=Value.none from r); rfl
 | bl b=>cases (show u=Value.bool b from r); rfl
 | int i=>obtain⟨t,e⟩:=(show ∃t,u=Value.int i t from r); cases e; rfl
 | str x=>obtain⟨t,e⟩:=(show ∃t,u=Value.str x t from r); cases e; rfl
 | byt b=>obtain⟨t,e⟩:=(show ∃t,u=Value.bytes b t from r); cases e; rfl
 | flt b=>obtain⟨t,e⟩:=(show ∃t,u=Value.float b t from r); cases e; rfl
 | ref a=>cases (show u=Value.ref a from r); rfl
 | ty n=>cases (show u=Value.type n from r); rfl
section
variable {P:Program}{w:World}{H H':Hp}{h h':Heap}{a C dx:Addr}{fs fs':List (Str×V)}
theorem zmS (hok:HOk P w H h)(e:H a=some (.ins C dx fs)):∃mA,zes h a dx C mA∧(∀f,zc1 (fs.lookup f) (mA f))∧PySem.Within mA (fs.map (·.1))∧fs.length≤1000∧H dx=some (.own a):=by
 obtain⟨d,z,ne,ob,mA,n,r,q⟩:=(show zbz P w H h a (.ins C dx fs) from hok a _ e)
 exact⟨mA,⟨ob,n,ne⟩,r,q,z,d⟩
end
structure Cls (K:PySem.W.Frag)(C:Addr):Prop where
 pg:PySem.W.plainGet K C Str.empty=true
 hd:PySem.W.hasDictIn K C=true
 po:PySem.W.plainOver K C=true
 sa:PySem.W.findIn K (.ref C) "__setattr__"=some (some (.builtin "object.__setattr__"))
theorem Cls.get {K:PySem.W.Frag}{C:Addr}(c:Cls K C)(f:Str):PySem.W.plainGet K C f=true:=c.pg
def zbB (K:PySem.W.Frag)(C:Addr)(f:Str):Prop:=PySem.W.findIn K (.ref C) f=some none
theorem zbB.taker {K:PySem.W.Frag}{C:Addr}{f:Str}(n:zbB K C f):PySem.W.takerIn K C f=some none:=by
 unfold PySem.W.takerIn
 rw[show PySem.W.findIn K (.ref C) f=some none from n]
 rfl
structure Con (K:PySem.W.Frag)(C:Addr)(f:Str)(v:V)(u:Value):Prop where
 at_:PySem.W.findIn K (.ref C) f=some (some u)
 rel:zaA v u
 get:PySem.W.specialIn K u "__get__"=some none
 cp:PySem.W.copiedNames.contains f=false
structure zfM (K:PySem.W.Frag)(C:Addr)(m:Str)(f:Addr):Prop where
 at_:PySem.W.findIn K (.ref C) m=some (some (.ref f))
 fn:PySem.W.isFn K (.ref f)=true
 kp:PySem.W.keepIn K (.ref f)=true
section
variable {X:Cx}{pins:List (Addr×Obj)}{σ:St}{H:Hp}{s:Shared}{a C dx:Addr}{fs:List (Str×V)}{f:Str}{v:V}{A:Around}{E:Value→Shared→Prop}
theorem zwZ {b:Bool}{Q:Value→Shared→Prop}(I:Inv X pins σ H s)(e:H a=some (.ins C dx fs))(c:Cls X.K C)(n:zbB X.K C f)(l:fs.lookup f=some v)
  (h:∀u s',Inv X pins σ H s'→zaA v u→Q u s'):wpAny (model X.prog X.w) A (getAttr (.ref a) f b) Q E s:=by
 obtain⟨mA,O,r,_,_,_⟩:=zmS I.hok e
 obtain⟨u,hu,ru⟩:=zc1.some_of (v:=v) (o:=mA f) (by rw[← l]; exact r f)
 exact zvS I.kIn O (c.get f) c.hd n hu (zsr ru) (h u _ (I.tok _) ru)
theorem zrk {m:Str}{g:Addr}{pl:Sem Bool}{Q:Value×List Value→Shared→Prop}(I:Inv X pins σ H s)(e:H a=some (.ins C dx fs))(c:Cls X.K C)(k:zfM X.K C m g)(l:fs.lookup m=none)
  (h:Q (.ref g,[.ref a]) s):wpAny (model X.prog X.w) A (getMethod (.ref a) m pl) Q E s:=by
 obtain⟨mA,O,r,_,_,_⟩:=zmS I.hok e
 have hn:mA m=none:=zc1.none_of (by rw[← l]; exact r m)
 exact zxS I.kIn O (c.get m) k.at_ k.fn hn h
theorem zwO {y:V}{u:Value}{Q:Unit→Shared→Prop}(I:Inv X pins σ H s)(e:H a=some (.ins C dx fs))(c:Cls X.K C)(n:zbB X.K C f)(hl:fs.length<1000)(ry:zaA y u)
  (h:∀s',Inv X pins σ (upd H a (.ins C dx (zbC f y fs))) s'→Q () s'):wpAny (model X.prog X.w) A (setAttr (.ref a) f u) Q E s:=by
 obtain⟨mA,O,r,wi,_,ho⟩:=zmS I.hok e
 have hz:(fs.map (·.1)).length≤sizeLine:=by rw[Vab,sizeLine_eq]; omega
 refine ztX I.kIn O c.sa c.po n.taker c.hd wi hz λh' O' sb=>h _ ?_
 have hd:∃o,h'.get? dx=some o:=let ⟨o,_,_,e',_⟩:=O'.ns; ⟨o,e'⟩
 refine I.write (x:=a) (e:=dx) (by rw[e]; exact True.intro) (.inr ho) (λb q hb z=>(sb.2 b hb).trans z) hd ?_
 refine⟨by rw[za6 O.ne]; exact ho,?_,O.ne,O'.obj,_,O'.ns,λg=>?_,λg hg=>?_⟩
 ·have:=zqZ f y fs; omega
 ·show zc1 ((zbC f y fs).lookup g) (if g=f then some u else mA g)
  rw[zqM]
  by_cases q:g=f
  ·rw[if_pos q,if_pos q]; exact ry
  ·rw[if_neg q,if_neg q]; exact r g
 ·by_cases q:g=f
  ·rw[q]; exact(znp f y fs).1
  ·refine(znp f y fs).2 g (wi g λz=>hg ?_)
   show (if g=f then some u else mA g)=none
   rw[if_neg q]; exact z
theorem Inv.made (I:Inv X pins σ H s):Inv X pins σ (upd (upd H s.heap.objs.size (.own (s.heap.objs.size+1))) (s.heap.objs.size+1) (.ins C s.heap.objs.size []))
  { s with heap:=(s.heap.push PySem.W.emptyDict).push (PySem.W.instObj C s.heap.objs.size) }:=by
 have e1:(s.heap.push PySem.W.emptyDict).get? s.heap.objs.size=some PySem.W.emptyDict:=Heap.get?_push_size s.heap rfl
 have e2:((s.heap.push PySem.W.emptyDict).push (PySem.W.instObj C s.heap.objs.size)).get? (s.heap.objs.size+1)=some (PySem.W.instObj C s.heap.objs.size):=by
  have:=Heap.get?_push_size (s.heap.push PySem.W.emptyDict) (o:=PySem.W.instObj C s.heap.objs.size) rfl
  rwa [Heap.size_push] at this
 have e3:(s.heap.push PySem.W.emptyDict).Ns s.heap.objs.size (λ_=>none):=⟨PySem.W.emptyDict,#[],_,e1,rfl,(λe he=>absurd he (by simp)),λ_=>rfl⟩
 have I1:=I.laid (a:=s.heap.objs.size) (o:=.own (s.heap.objs.size+1)) (h':=s.heap.push PySem.W.emptyDict) (t':=s.toks) (λb u q=>Heap.get?_push_of_some _ q) (Vaa _) ⟨_,e1⟩
 refine I1.laid (a:=s.heap.objs.size+1) (o:=.ins C s.heap.objs.size []) (t':=s.toks) (λb u q=>Heap.get?_push_of_some _ q) (Nat.le_of_eq (Heap.size_push _ _)) ?_
 have ne:s.heap.objs.size≠s.heap.objs.size+1:=Vaq (Nat.lt_succ_self _)
 refine⟨by rw[za6 ne,zcA],Vaj _,ne,e2,λ_=>none,(Heap.Ns1.of_empty e3).at λo q=>Heap.get?_push_of_some _ q,λ_=>True.intro,λy hy=>absurd rfl hy⟩
theorem zxl {prog:Program}{w:World}{env:Env}{e:Expr}{f:Str}{pos:Pos}{s:Shared}{Q:Value→Shared→Prop}(hb:attributeBase e f env (eval e env)=eval e env)
  (h:wpAny (model prog w) A (eval e env) (λo s₁=>wpAny (model prog w) A (getAttr o f true) Q E s₁) E s):wpAny (model prog w) A (eval (.Attribute e f pos) env) Q E s:=
 Attribute_any_ h (by rw[arm_eval_Attribute,hb])
end
def tFld (K:PySem.W.Frag)(ta:TE)(f:Str):TE:=λσ H Q=>ta σ H λx H1=>∃a C dx fs v,x=.ref a∧H1 a=some (.ins C dx fs)∧Cls K C∧zbB K C f∧fs.lookup f=some v∧Q v H1
def sFld (K:PySem.W.Frag)(ta tv:TE)(f:Str):TS:=λD σ H=>tv σ H λy H1=>ta σ H1 λx H2=>∃a C dx fs,x=.ref a∧H2 a=some (.ins C dx fs)∧Cls K C∧zbB K C f∧fs.length<1000∧
 D.nx σ (upd H2 a (.ins C dx (zbC f y fs)))
section
variable {X:Cx}{o e value:Expr}{f:Str}{pos pos' tpos:Pos}{ta tv:TE}
theorem zx2 (he:PE X e ta)(hb:attributeBase e f X.env (eval e X.env)=eval e X.env):PE X (.Attribute e f pos) (tFld X.K ta f):=by
 intro pins s σ H Q I h
 refine zxl hb (thn (he pins s σ H _ I h) λu s1 ⟨x,H1,I1,rx,a,C,dx,fs,v,ex,ea,c,n,l,q⟩=>?_)
 subst ex
 obtain rfl:u=Value.ref a:=rx
 exact zwZ I1 ea c n l λu' s2 I2 ru=>⟨v,H1,I2,ru,q⟩
theorem zui (ha:PE X o ta)(hv:PE X value tv)(hs:swapsWith value (some (.Attribute o f pos')) pos.line X.env=pure false):PS X (.Assign [.Attribute o f pos'] value pos) (sFld X.K ta tv f):=by
 intro pins s σ H D I h
 refine plainObj_wpAny_Assign_Attribute (thn (hv pins s σ H _ I h) λu s1 ⟨y,H1,I1,ry,q⟩=>thn (ha pins s1 σ H1 _ I1 q) λov s2 ⟨x,H2,I2,rx,a,C,dx,fs,ex,ea,c,n,l,q2⟩=>?_) hs
 subst ex
 obtain rfl:ov=Value.ref a:=rx
 exact zwO I2 ea c n l ry λs3 I3=>⟨σ,_,I3,q2⟩
end
section
variable {X:Cx}{pins:List (Addr×Obj)}{σ:St}{H:Hp}{s:Shared}{A:Around}{E:Value→Shared→Prop}{Q:Value→Shared→Prop}{c:Value}{b:Bool}
inductive zcn (K:PySem.W.Frag)(H:Hp):V→Value→Prop where
 | non:zcn K H .non (.type "NoneType")
 | bl (x:Bool):zcn K H (.bl x) (.type "bool")
 | int (i:Int):zcn K H (.int i) (.type "int")
 | str (x:Str):zcn K H (.str x) (.type "str")
 | flt (x:UInt64):zcn K H (.flt x) (.type "float")
 | lst {a:Addr} {xs:List V} (e:H a=some (.lst xs)):zcn K H (.ref a) (.type "list")
 | frz {a:Addr} {o:Obj} {xs:List V} (e:H a=some (.frz o (.lst xs))):zcn K H (.ref a) (.type "list")
 | tup {a:Addr} {xs:List V} (e:H a=some (.tup xs)):zcn K H (.ref a) (.type "tuple")
 | dK {a:Addr} {kvs:List (Key×V)} (e:H a=some (.dK kvs)):zcn K H (.ref a) (.type "dict")
 | dT {a:Addr} {kvs:List (List Key×V)} (e:H a=some (.dT kvs)):zcn K H (.ref a) (.type "dict")
 | ins {a C dx:Addr} {fs:List (Str×V)} (e:H a=some (.ins C dx fs)) (cl:Cls K C) (ha:PySem.W.findIn K (.ref C) "__class__"=some (some (.builtin "object.__class__")))
   (hn:PySem.W.specialIn K (.builtin "object.__class__") "__get__"=some (some (.builtin "getset_descriptor.__get__"))) (htk:PySem.W.takesIn K (.builtin "object.__class__")=some true)
   (hm:PySem.W.mroIn K C (.type "object")=some true):zcn K H (.ref a) (.ref C)
theorem zu9 {x:V}{u t:Value}(I:Inv X pins σ H s)(rx:zaA x u)(ty:zcn X.K H x t)(e:PySem.W.kitOne X.K t c=some b)(h:∀tk,Q (.bool b) { s with toks:=tk }):
  wpAny (model X.prog X.w) A (call (.builtin "isinstance") [u,c]) Q E s:=by
 cases ty with
 | non=>cases (show u=Value.none from rx); exact PySem.W.kia_one PySem.W.kitx_none I.kIn True.intro e (λz=>nomatch z) h
 | bl y=>cases (show u=Value.bool y from rx); exact PySem.W.kia_one PySem.W.kitx_bool I.kIn True.intro e (λz=>nomatch z) h
 | int i=>obtain⟨t,q⟩:=(show ∃t,u=Value.int i t from rx); cases q; exact PySem.W.kia_one PySem.W.kitx_int I.kIn True.intro e (λz=>nomatch z) h
 | str y=>obtain⟨t,q⟩:=(show ∃t,u=Value.str y t from rx); cases q; exact PySem.W.kia_one PySem.W.kitx_str I.kIn True.intro e (λz=>nomatch z) h
 | flt y=>obtain⟨t,q⟩:=(show ∃t,u=Value.float y t from rx); cases q; exact PySem.W.kia_one PySem.W.kitx_float I.kIn True.intro e (λz=>nomatch z) h
 | @lst a xs ea=>
  cases (show u=Value.ref a from rx)
  obtain⟨_,_,n,_,h1⟩:=(show zbz X.prog X.w H s.heap a (.lst xs) from I.hok a _ ea)
  exact PySem.W.kia_one PySem.W.kitx_list I.kIn ⟨_,h1,rfl⟩ e (λz=>nomatch z) h
 | @frz a ob xs ea=>
  cases (show u=Value.ref a from rx)
  obtain⟨_,_,_,n,_,h1⟩:=(show zbz X.prog X.w H s.heap a (.frz ob (.lst xs)) from I.hok a _ ea)
  exact PySem.W.kia_one PySem.W.kitx_list I.kIn ⟨_,h1,rfl⟩ e (λz=>nomatch z) h
 | @tup a xs ea=>
  cases (show u=Value.ref a from rx)
  obtain⟨_,_,_,p⟩:=(show zbz X.prog X.w H s.heap a (.tup xs) from I.hok a _ ea)
  obtain⟨o,h1,h2,_⟩:=p
  exact PySem.W.kia_one PySem.W.kitx_tuple I.kIn ⟨o,h1,h2⟩ e (λz=>nomatch z) h
 | @dK a kvs ea=>
  cases (show u=Value.ref a from rx)
  obtain⟨_,_,vs,_,p⟩:=(show zbz X.prog X.w H s.heap a (.dK kvs) from I.hok a _ ea)
  obtain⟨o,es,ep,h1,h2,_⟩:=p
  exact PySem.W.kia_one PySem.W.kitx_dict I.kIn ⟨o,h1,h2.1⟩ e (λz=>nomatch z) h
 | @dT a kvs ea=>
  cases (show u=Value.ref a from rx)
  obtain⟨_,_,xs,_,o,es,ep,h1,h2,_⟩:=(show zbz X.prog X.w H s.heap a (.dT kvs) from I.hok a _ ea)
  exact PySem.W.kia_one PySem.W.kitx_dict I.kIn ⟨o,h1,h2.1⟩ e (λz=>nomatch z) h
 | @ins a C dx fs ea cl ha hn htk hm=>
  cases (show u=Value.ref a from rx)
  obtain⟨mA,O,_⟩:=zmS I.hok ea
  obtain⟨od,J,_⟩:=O.look
  exact PySem.W.kia_one (PySem.W.kitx_own (cl.get _) cl.hd ha hn htk hm) I.kIn J e (λz=>nomatch z) h
end
end L2
namespace L2
open PySem PySem.Spec PyProof.Rows
structure zaT (k:Nat)(A:Around):Prop where
 hd:A.handled=none
 dp:A.depth+3*k+5<recursionLimit
 un:A.units+16*k+200<cLine
theorem zaT.mono {j k:Nat}{A:Around}(r:zaT k A)(h:j≤k):zaT j A:=⟨r.hd,by have:=r.dp; omega,by have:=r.un; omega⟩
theorem zaT.deeper {k:Nat}{A:Around}(r:zaT (k+1) A)(env:Env):zaT k (A.deeper env):=
 ⟨r.hd,by have:=r.dp; show A.depth+1+3*k+5<_; omega,by have:=r.un; show A.units+3+16*k+200<_; omega⟩
theorem zsk {A:Around}{C:Addr}{us:List Value}{kw:List (Str×Value)}:(A.under (.builtin "type.__call__" ⟨.ref C::us,kw⟩)).depth=A.depth+1:=by
 first | rfl | simp[Around.under,Code.weight,Code.isCreation,Code.isGuard,Code.isCaller,Code.frames,Code.isFrame,guardIds]
theorem zyF {A:Around}{C:Addr}{us:List Value}{kw:List (Str×Value)}:(A.under (.builtin "type.__call__" ⟨.ref C::us,kw⟩)).units=A.units+1:=by
 first | rfl | simp[Around.under,Code.cUnits,Code.frames,Code.isFrame]
theorem zaT.make {k:Nat}{A:Around}(r:zaT (k+1) A)(C:Addr)(us:List Value)(kw:List (Str×Value)):zaT k (A.under (.builtin "type.__call__" ⟨.ref C::us,kw⟩)):=
 ⟨r.hd,by have:=r.dp; rw[zsk]; omega,by have:=r.un; rw[zyF]; omega⟩
theorem zaT.depth {k:Nat}{A:Around}(r:zaT k A):A.depth<recursionLimit:=by have:=r.dp; omega
def tNil:TA:=λ_ H Q=>Q [] H
def tCons (ta:TE)(tr:TA):TA:=λσ H Q=>ta σ H λx H1=>tr σ H1 λxs H2=>Q (x::xs) H2
section
variable {X:Cx}{e:Expr}{es:List Expr}{te:TE}{t:TA}{pos:Pos}
theorem zl5:PA X [] tNil:=λ_ _ _ _ H Q I h=>Calls.spliced_nil ⟨[],H,I,.nil,h⟩
theorem zfe (ha:PE X e te)(hr:PA X es t)(hs:starEach (e::es) X.env=(false,eval e X.env)::starEach es X.env:=by rfl):PA X (e::es) (tCons te t):=by
 intro pos pins s σ H Q I h
 rw[hs]
 show wpAny _ _ (spliced ((false,eval e X.env)::backTo pos (starEach es X.env))) _ _ s
 refine Calls.spliced_cons (thn (ha pins s σ H _ I h) λu s1 ⟨x,H1,I1,r1,q1⟩=>?_)
 exact thn (hr pos pins s1 σ H1 _ I1 q1) λus s2 ⟨xs,H2,I2,r2,q2⟩=>⟨x::xs,H2,I2,.cons r1 r2,q2⟩
def tTup (t:TA):TE:=λσ H Q=>t σ H λxs H1=>xs.length≤sizeLine∧∀p,H1 p=none→Q (.ref p) (upd H1 p (.tup xs))
def tLst (t:TA):TE:=λσ H Q=>t σ H λxs H1=>xs.length≤sizeLine∧∀p,H1 p=none→Q (.ref p) (upd H1 p (.lst xs))
theorem zv8 {x1}(h:PA X es t):PE X (.Tuple es x1 pos) (tTup t):=by
 intro pins s σ H Q I hq
 refine wpAny_Tuple_spliced (thn (h pos pins s σ H _ I hq) λus s1 ⟨xs,H1,I1,r,z,q⟩=>⟨by rw[← r.length]; exact z,?_⟩)
 have hf:H1 s1.heap.objs.size=none:=I1.hok.fresh (Vaa _)
 refine⟨.ref s1.heap.objs.size,upd H1 s1.heap.objs.size (.tup xs),I1.laid (t':=s1.toks) (λb u e=>Heap.get?_push_of_some _ e) (Vaa _) ?_,rfl,q _ hf⟩
 exact⟨z,us,r,⟨_,Heap.get?_push_size _ rfl,rfl,_,rfl⟩⟩
theorem zwM (h:PA X es t):PE X (.List es pos) (tLst t):=by
 intro pins s σ H Q I hq
 refine wpAny_List_spliced (thn (h pos pins s σ H _ I hq) λus s1 ⟨xs,H1,I1,r,z,q⟩=>⟨by rw[← r.length]; exact z,?_⟩)
 have hf:H1 s1.heap.objs.size=none:=I1.hok.fresh (Vaa _)
 refine⟨.ref s1.heap.objs.size,upd H1 s1.heap.objs.size (.lst xs),I1.laid (t':=s1.toks) (λb u e=>Heap.get?_push_of_some _ e) (Vaa _) ?_,rfl,q _ hf⟩
 exact⟨z,us,0,r,Heap.get?_push_size _ rfl⟩
end
abbrev Sp:=List V→Hp→VK→XK→Prop
abbrev CXT:=List Env→Hp→Shared→XK→Value→Shared→Prop
structure zdN (P:Program)(w:World)(K:PySem.W.Frag)(mg:Str→Option Value)(base:Heap)(A:Around)(outer:List Env)(s:Shared)(H:Hp):Prop where
 frames:A.frames=some outer
 mod:Mod K mg base
 bs:∀b o,base.get? b=some o→s.heap.get? b=some o∧H b=none
 bsz:base.objs.size≤s.heap.objs.size
 funs:s.heap.FunFrames base outer
 frf:∀b∈frs outer,H b=none
 hok:HOk P w H s.heap
 bare:AllBare s.gens
def CE (outer:List Env)(P:Program)(w:World)(H:Hp)(s:Shared)(Q:VK)(u:Value)(s':Shared):Prop:=
 ∃v H',s'.os=s.os∧AllBare s'.gens∧Un (frs outer) [] H H' s.heap s'.heap∧HOk P w H' s'.heap∧zaA v u∧Q v H'
def CR (CX:CXT)(outer:List Env)(P:Program)(w:World)(H:Hp)(s:Shared)(Q:VK)(E:XK)(r:Result)(s':Shared):Prop:=
 match r with
 | .ok (.ret u)=>CE outer P w H s Q u s'
 | .ok _=>False
 | .error e=>CX outer H s E e s'
structure zbq (P:Program)(w:World)(K:PySem.W.Frag)(mg:Str→Option Value)(base:Heap)(CX:CXT)(k:Nat)(f:Addr)(fd:FuncData)(ps:List Str)(sp:Sp):Prop where
 len:∀vs H Q E,sp vs H Q E→vs.length=ps.length
 run:∀(A:Around) (outer:List Env) (s:Shared) (H:Hp) (args:Args) (us:List Value) (vs:List V) (Q:VK) (E:XK),zaT k A→zdN P w K mg base A outer s H→BindsTo s fd args (ps.zip us)→zaB vs us→sp vs H Q E→
  codeAny (model P w) A (.call (.ref f) args) (CR CX outer P w H s Q E) s
theorem zdN.make {P:Program}{w:World}{K:PySem.W.Frag}{mg:Str→Option Value}{base:Heap}{A:Around}{outer:List Env}{s:Shared}{H:Hp}(e:zdN P w K mg base A outer s H)(C:Addr)(us:List Value)(kw:List (Str×Value)):
  zdN P w K mg base (A.under (.builtin "type.__call__" ⟨.ref C::us,kw⟩)) outer s H:=⟨by first | exact e.frames | (simpa [Around.under,Code.envs,Code.isFrame,pushEnvs] using e.frames),e.mod,e.bs,e.bsz,e.funs,e.frf,e.hok,e.bare⟩
section
variable {X:Cx}{pins:List (Addr×Obj)}{σ:St}{H:Hp}{s s':Shared}
theorem Inv.env0 (I:Inv X pins σ H s):zdN X.prog X.w X.K X.mg X.base X.A X.stack s H:=
 ⟨I.ok.frames,I.ok.mod,I.bs,VaB I.ok.bsz I.sz,I.stack,I.stkFree,I.hok,I.bare⟩
theorem Inv.after {Q:VK}{u:Value}(I:Inv X pins σ H s)(h:CE X.stack X.prog X.w H s Q u s'):EP X pins σ Q u s':=by
 obtain⟨v,H',os,bare,un,hok,r,q⟩:=h
 obtain⟨hh,g,d,t,os'⟩:=s'
 obtain rfl:os'=s.os:=os
 exact⟨v,H',I.call (h':=hh) (g':=g) (d':=d) (t':=t) (ch:=[]) un hok bare (λb z=>absurd z (by simp)),r,q⟩
end
def tMake (C:Addr)(sp:Sp)(dvs:List V)(E:XK)(t:TA):TE:=λσ H Q=>t σ H λvs H1=>∀x dx,H1 x=none→H1 dx=none→dx≠x→
 sp (.ref x::(vs++dvs)) (upd (upd H1 dx (.own x)) x (.ins C dx [])) (λv H2=>v=.non∧Q (.ref x) H2) E
def zbQ (K:PySem.W.Frag)(fd:FuncData)(ps:List Str)(ds:List Value):Prop:=
 ∀(s:Shared) (us:List Value),K.In s.heap→(us++ds).length=ps.length→BindsTo s fd ⟨us,[]⟩ (ps.zip (us++ds))
theorem zbQ.all {K:PySem.W.Frag}{fd:FuncData}{ps:List Str}(h:∀us:List Value,us.length=ps.length→bindArgs fd ⟨us,[]⟩=pure (ps.zip us)):zbQ K fd ps []:=λs us _ hl=>by
 rw[Va2] at hl ⊢
 exact .of_eq (h us hl)
def zjc (CX:CXT)(X:Cx)(E:XK):Prop:=∀(pins:List (Addr×Obj)) (σ:St) (H:Hp) (s:Shared) (e:Value) (s':Shared),Inv X pins σ H s→CX X.stack H s E e s'→X.xe e s'
section
variable {X:Cx}{CX:CXT}{k:Nat}{f C:Addr}{fd:FuncData}{ps:List Str}{sp:Sp}{dvs:List V}{ds:List Value}{E:XK}{x m:Str}{p pos apos:Pos}{e o:Expr}{es:List Expr}{ta:TE}{t:TA}
structure Mk (K:PySem.W.Frag)(C f:Addr):Prop where
 makes:PySem.W.makesIn K C=true
 init:PySem.W.findIn K (.ref C) "__init__"=some (some (.ref f))
 fn:PySem.W.isFn K (.ref f)=true
 kp:PySem.W.keepIn K (.ref C)=true
theorem zwG {pins:List (Addr×Obj)}{σ:St}{H:Hp}{s:Shared}{Q:VK}{us:List Value}{vs:List V}(M:Mk X.K C f)(F:zbq X.prog X.w X.K X.mg X.base CX k f fd ps sp)(hr:zaT (k+1) X.A)(hb:zbQ X.K fd ps ds)(hd:zaB dvs ds)
  (hx:zjc CX X E)(I:Inv X pins σ H s)(r:zaB vs us)
  (h:∀x dx,H x=none→H dx=none→dx≠x→sp (.ref x::(vs++dvs)) (upd (upd H dx (.own x)) x (.ins C dx [])) (λv H2=>v=.non∧Q (.ref x) H2) E):
  wpAny (model X.prog X.w) X.A (call (.ref C) us) (EP X pins σ Q) X.xe s:=by
 have hq:=h (s.heap.objs.size+1) s.heap.objs.size (I.hok.fresh (Nat.le_succ _)) (I.hok.fresh (Vaa _)) (Vaq (Nat.lt_succ_self _))
 have I2:=Inv.made (C:=C) I
 have r2:zaB (V.ref (s.heap.objs.size+1)::(vs++dvs)) (Value.ref (s.heap.objs.size+1)::(us++ds)):=.cons rfl (r.append hd)
 have hl:(Value.ref (s.heap.objs.size+1)::us++ds).length=ps.length:=by
  have e:=r2.length
  rw[F.len _ _ _ _ hq] at e
  exact e.symm
 refine wpAny_call (zt0 (f:=f) I.kIn M.makes M.init (beq_iff_eq.mp M.fn) (codeAny_mono (F.run _ X.stack _ _ ⟨Value.ref (s.heap.objs.size+1)::us,[]⟩ (Value.ref (s.heap.objs.size+1)::(us++ds)) _ _ E (hr.make C us [])
  (I2.env0.make C us []) (hb _ (Value.ref (s.heap.objs.size+1)::us) I2.kIn hl) r2 hq) λr s' hq'=>?_))
 cases r with
 | error e=>exact hx pins σ _ _ e s' I2 hq'
 | ok fl=>
  cases fl with
  | ret u=>
   obtain⟨v,H',I3,rv,ev,q3⟩:=I2.after hq'
   subst ev
   exact⟨rv,⟨V.ref (s.heap.objs.size+1),H',I3,rfl,q3⟩⟩
  | next=>exact False.elim hq'
  | brk=>exact False.elim hq'
  | cont=>exact False.elim hq'
theorem ztQ (M:Mk X.K C f)(F:zbq X.prog X.w X.K X.mg X.base CX k f fd ps sp)(hr:zaT (k+1) X.A)(hg:Gl X x)(hm:X.mg x=some (.ref C))(hb:zbQ X.K fd ps ds)(hd:zaB dvs ds)(hx:zjc CX X E)
  (ha:PA X (e::es) t)(hdb:(x==("__debug__":Str))=false:=by decide)(he:starEach (e::es) X.env=(false,eval e X.env)::starEach es X.env:=by rfl)(hpl:(backTo pos (starEach es X.env)).any (·.1)=false:=by rfl):
  PE X (.Call (.Name x p) (e::es) [] pos) (tMake C sp dvs E t):=by
 intro pins s σ H Q I h
 refine wpAny_Call_Name_kw (zqS I hg hm ?_ hdb)
 refine PySem.W.callWith_K (h₀:=X.base) I.ok.mod.kin M.kp (thn (ha pos pins s σ H _ I h) λus s1 ⟨vs,H1,I1,r,q⟩=>⟨I1.kIn,?_⟩) he hpl
 exact zwG M F hr hb hd hx I1 r q
end
section
variable {X:Cx}{CX:CXT}{k:Nat}{f C:Addr}{fd:FuncData}{ps ks:List Str}{sp:Sp}{E:XK}{x m:Str}{p pos apos kpos:Pos}{e o:Expr}{es:List Expr}{kws:List Keyword}{te ta:TE}{t tk:TA}{nm:Option Str}
structure KBinds (K:PySem.W.Frag)(fd:FuncData)(ps ks:List Str)(g:List Value→List Value→List Value)(gV:List V→List V→List V):Prop where
 to:∀(s:Shared) (us ws:List Value),K.In s.heap→(g us ws).length=ps.length→BindsTo s fd ⟨us,ks.zip ws⟩ (ps.zip (g us ws))
 rel:∀ {vs:List V} {us:List Value} {zs:List V} {ws:List Value},zaB vs us→zaB zs ws→zaB (gV vs zs) (g us ws)
variable {g:List Value→List Value→List Value}{gV:List V→List V→List V}
end
structure zaw (N P:List Str)(sc:Scope):Prop where
 kind:sc.kind=.function
 co:sc.isCoroutine=false
 gen:sc.isGenerator=false
 nd:N.Nodup
 pre:N.take P.length=P
 par:∀x∈P,sc.names.lookup x=some .local∨sc.names.lookup x=some .cell
 nofree:∀y∈sc.names,y.2≠.free
theorem zry {kindOf:Str→Option NameKind}{x:Str}:∀ {binds:List (Str×Value)} {m:Str→Option Value},(∀v,(x,v) ∉ binds)→bindL kindOf binds m x=m x
 | [],_,_=>rfl
 | (n,v)::r,m,h=>by
  unfold bindL
  rw[zry λw hw=>h w (VaR _ hw)]
  split
  ·have:x≠n:=by rintro rfl; exact h v Va6
   simp[this]
  ·rfl
theorem zpK {kindOf:Str→Option NameKind}{x:Str}:∀ {binds:List (Str×Value)} {m:Str→Option Value},(∀v,(x,v) ∉ binds)→bindC kindOf binds m x=m x
 | [],_,_=>rfl
 | (n,v)::r,m,h=>by
  unfold bindC
  rw[zpK λw hw=>h w (VaR _ hw)]
  split
  ·rfl
  ·have:x≠n:=by rintro rfl; exact h v Va6
   simp[this]
theorem zpX {kindOf:Str→Option NameKind}{x:Str}{v:Value}:∀ {P:List Str} {vs:List Value} {i:Nat} {m:Str→Option Value},P.Nodup→P[i]?=some x→vs[i]?=some v→kindOf x=some .local→
  bindL kindOf (P.zip vs) m x=some v
 | [],_,_,_,_,h,_,_=>by simp at h
 | _::_,[],_,_,_,_,h,_=>by simp at h
 | p::P,w::vs,0,m,nd,h1,h2,hk=>by
  simp at h1 h2; subst h1; subst h2
  show bindL kindOf ((p,w)::P.zip vs) m p=_
  unfold bindL
  rw[zry λv hv=>(List.nodup_cons.mp nd).1 (List.of_mem_zip hv).1,if_pos hk]
  simp
 | p::P,w::vs,i+1,m,nd,h1,h2,hk=>by
  show bindL kindOf ((p,w)::P.zip vs) m x=_
  unfold bindL
  exact zpX (i:=i) (List.nodup_cons.mp nd).2 (by simpa using h1) (by simpa using h2) hk
theorem zrj {kindOf:Str→Option NameKind}{x:Str}{v:Value}:∀ {P:List Str} {vs:List Value} {i:Nat} {m:Str→Option Value},P.Nodup→P[i]?=some x→vs[i]?=some v→kindOf x≠some .local→
  bindC kindOf (P.zip vs) m x=some v
 | [],_,_,_,_,h,_,_=>by simp at h
 | _::_,[],_,_,_,_,h,_=>by simp at h
 | p::P,w::vs,0,m,nd,h1,h2,hk=>by
  simp at h1 h2; subst h1; subst h2
  show bindC kindOf ((p,w)::P.zip vs) m p=_
  unfold bindC
  rw[zpK λv hv=>(List.nodup_cons.mp nd).1 (List.of_mem_zip hv).1,if_neg hk]
  simp
 | p::P,w::vs,i+1,m,nd,h1,h2,hk=>by
  show bindC kindOf ((p,w)::P.zip vs) m x=_
  unfold bindC
  exact zrj (i:=i) (List.nodup_cons.mp nd).2 (by simpa using h1) (by simpa using h2) hk
def zc6 (N:List Str)(vs:List V):St:=vs.map some++List.replicate (N.length-vs.length) none
def zfy (CX:CXT)(P:Program)(w:World)(K:PySem.W.Frag)(mg:Str→Option Value)(base:Heap)(N:List Str)(qual:Str)(scope:Scope)(f:Addr)(cd:Value)(A:Around)(outer:List Env)(s:Shared)(H:Hp)(E:XK):Cx where
 prog:=P
 w:=w
 K:=K
 mg:=mg
 base:=base
 A:=A.deeper (envOfC qual scope s.heap.objs.size f cd)
 N:=N
 s₀:=s
 H₀:=H
 env:=envOfC qual scope s.heap.objs.size f cd
 outer:=outer
 stack:=envOfC qual scope s.heap.objs.size f cd::outer
 ex:=[]
 calm:=true
 fn:=λ_=>true
 pn:=[]
 xe:=λe s'=>wpAny (model P w) (A.deeper (envOfC qual scope s.heap.objs.size f cd)) (leaving (envOfC qual scope s.heap.objs.size f cd) e) (λ_ s''=>CX outer H s E e s'') (λe' s''=>CX outer H s E e' s'') s'
theorem zrF {sc:Scope}{n:Nat}{x:Str}(h:sc.names.lookup x=some .cell):∃c,(cellsFrom n sc.names []).lookup x=some c:=by
 have q:=PySem.W.cellsFrom_some sc.names n [] (.inl h)
 exact VaT.mp q
theorem zsx {CX:CXT}{P:Program}{w:World}{K:PySem.W.Frag}{mg:Str→Option Value}{base:Heap}{N ps:List Str}{qual:Str}{scope:Scope}{f:Addr}{cd:Value}{A:Around}{outer:List Env}{s s1:Shared}{H:Hp}{E:XK}{us:List Value}{vs:List V}
  (S:zaw N ps scope)(hd:A.handled=none)(e0:zdN P w K mg base A outer s H)(hl:vs.length=ps.length)(r:zaB vs us)
  (x:InCallC s s.heap.objs.size (bindL (envOfC qual scope s.heap.objs.size f cd).kindOf (ps.zip us) λ_=>none) (cellsFrom (s.heap.objs.size+1) scope.names []) (bindC (envOfC qual scope s.heap.objs.size f cd).kindOf (ps.zip us) λ_=>none) s1):
  Inv (zfy CX P w K mg base N qual scope f cd A outer s H E) [] (zc6 N vs) H s1:=by
 have hpl:ps.length≤N.length:=by have:=congrArg List.length S.pre; rw[Vao] at this; omega
 obtain⟨h1,tk,rfl,hk⟩:=x.done
 have noA:∀b:Addr,b ∉ (zfy CX P w K mg base N qual scope f cd A outer s H E).ex:=λb z=>absurd (show b∈([]:List Addr) from z) (by simp)
 refine⟨⟨e0.mod,S.kind,rfl,rfl,Vaa _,λy z c h1 h2=>?_,λy hy=>?_,λy c _ h=>?_,λ_=>hd,Around.frames_deeper e0.frames,.inr ⟨rfl,rfl⟩,λb z=>absurd z (noA b),e0.bs,e0.bsz,λb _ _=>noA b,λb z=>absurd z (noA b),e0.funs,e0.frf⟩,
  rfl,e0.bare,Un.kept hk,⟨_,x.toInCall.ns,λi y v h1 h2 h3=>?_⟩,λy c h=>⟨_,x.cell y c h⟩,e0.hok.fresh (Vaa _),λy c h=>?_,λp hp=>absurd (show p∈([]:List (Addr×Obj)) from hp) (by simp),e0.hok.kept hk,?_⟩
 ·exact name_of_addr x.apart (PySem.mem_of_lookup h1) (PySem.mem_of_lookup h2)
 ·have hy:scope.names.lookup y=some .cell∨scope.names.lookup y=some .free:=hy
  rcases hy with hy | hy
  ·exact zrF hy
  ·exact absurd rfl (S.nofree _ (PySem.mem_of_lookup hy))
 ·exact VaV (x.above y c (PySem.mem_of_lookup h))
 ·have hi:i<vs.length:=by
   unfold zc6 at h2
   by_cases hi:i<vs.length
   ·exact hi
   ·rw[VaF (by simpa using hi)] at h2
    rw[List.getElem?_replicate] at h2
    split at h2 <;> cases h2
  have ha:vs[i]?=some v:=by
   unfold zc6 at h2
   rw[Val (by simpa using hi),Vae] at h2
   cases e:vs[i]? with
   | none=>rw[e] at h2; cases h2
   | some a=>rw[e] at h2; cases h2; rfl
  obtain⟨u,hu,rv⟩:=r.get ha
  have hp:ps[i]?=some y:=by
   rw[← S.pre,List.getElem?_take_of_lt (by omega)]; exact h1
  have ndP:ps.Nodup:=by rw[← S.pre]; exact S.nd.sublist (List.take_sublist _ _)
  refine⟨u,rv,?_⟩
  rcases S.par y (Vai hp) with k | k
  ·exact .inl ⟨k,zpX ndP hp hu k⟩
  ·obtain⟨c,e⟩:=zrF (n:=s.heap.objs.size+1) k
   refine .inr ⟨.inl k,c,e,?_⟩
   have q:=x.cell y c e
   rw[zrj ndP hp hu (by show scope.names.lookup y≠_; rw[k]; decide)] at q
   exact q
 ·exact e0.hok.fresh (VaV (x.above y c (PySem.mem_of_lookup h)))
 ·unfold zc6
  show _=N.length
  rw[Vas,Vab,List.length_replicate]
  omega
theorem fn_of {CX:CXT}{P:Program}{w:World}{K:PySem.W.Frag}{mg:Str→Option Value}{base:Heap}{k:Nat}{f:Addr}{name qual:Str}{params:Arguments}{body:List Stmt}{scope:Scope}{dV kV doc pm cdv ct oc:Value}{an od:Option Addr}
  {osl:Array (Option Value)}{N ps:List Str}{sp:Sp}(lk:K.lookup f=some ⟨oc,od,.func (PySem.W.fnOf name qual params body scope dV kV doc pm an cdv ct),osl⟩)(hcd:PySem.W.codeIn K cdv qual=true)(S:zaw N ps scope)
  (len:∀vs H Q E,sp vs H Q E→vs.length=ps.length)
  (hbody:∀(A:Around) (outer:List Env) (s:Shared) (H:Hp) (vs:List V) (Q:VK) (E:XK),zaT k (A.deeper (envOfC qual scope s.heap.objs.size f cdv))→sp vs H Q E→
   ∃t,PSs (zfy CX P w K mg base N qual scope f cdv A outer s H E) body t∧t { nx:=λ_ H'=>Q .non H',rt:=Q } (zc6 N vs) H):
  zbq P w K mg base CX (k+1) f (PySem.W.fnOf name qual params body scope dV kV doc pm an cdv ct) ps sp:=by
 refine⟨len,λA outer s H args us vs Q E hr e0 hb r hsp=>?_⟩
 have hl:=len _ _ _ _ hsp
 have KX:K.In s.heap:=e0.mod.kin.keeps λb o e=>(e0.bs b o e).1
 have lim:s.heap.NoLimit:=e0.mod.nolimit.keeps λb o e=>(e0.bs b o e).1
 have hkind:∀y∈ps.zip us,scope.names.lookup y.1=some .local∨(scope.names.lookup y.1=some .cell∧((cellsFrom (s.heap.objs.size+1) scope.names []).lookup y.1).isSome=true):=λ⟨n,v⟩ hy=>by
  rcases S.par n (List.of_mem_zip hy).1 with q | q
  ·exact .inl q
  ·exact .inr ⟨q,PySem.W.cellsFrom_some _ _ _ (.inl q)⟩
 refine codeAny_call_function hr.depth (KX _ _ lk) rfl S.co S.gen rfl (PySem.W.codeRec_of KX hcd) (hb _ _ _ _ ?_)
 refine wpAny_newFunctionEnv_cells S.kind hkind λenv he s1 x=>?_
 subst he
 refine⟨lim.keeps x.toInCall.keep,codeAny_func ?_⟩
 obtain⟨t,ht,hq⟩:=hbody A outer s H vs Q E (hr.deeper _) hsp
 have I:Inv (zfy CX P w K mg base N qual scope f cdv A outer s H E) [] (zc6 N vs) H s1:=zsx S hr.hd e0 hl r x
 refine wpAny_mono (ht [] s1 (zc6 N vs) H _ I hq) (λfl s' hs=>?_) λe s' hs=>hs
 have fin:∀ {σ':St} {H':Hp} {v:V} {u:Value},Inv (zfy CX P w K mg base N qual scope f cdv A outer s H E) [] σ' H' s'→zaA v u→Q v H'→CE outer P w H s Q u s':=
  λ{σ' H' v u} J rv q=>⟨v,H',J.os,J.bare,J.base,J.hok,rv,q⟩
 cases fl with
 | ret u=>
  obtain⟨v,σ',H',J,rv,q⟩:=hs
  exact fin J rv q
 | next=>
  obtain⟨σ',H',J,q⟩:=hs
  exact fin (v:=V.non) (u:=Value.none) J rfl q
 | brk=>
  obtain⟨_,_,_,q⟩:=hs
  exact False.elim q
 | cont=>
  obtain⟨_,_,_,q⟩:=hs
  exact False.elim q
end L2
namespace L2
open PySem PySem.Spec PyProof.Rows
section
variable {X:Cx}{x:Str}{p pos:Pos}{e:Expr}{es:List Expr}{t:TA}{id T:String}{r:List V→Hp→VK→Prop}
def tCB (r:List V→Hp→VK→Prop)(t:TA):TE:=λσ H Q=>t σ H λvs H1=>r vs H1 Q
theorem zoj (hc:zbo X (.builtin id) r)(hg:Gl X x)(hm:X.mg x=none)(hv:bootBuiltins x=some (.builtin id))(ha:PA X (e::es) t)(hn:x≠"__name__":=by decide)(hdb:(x==("__debug__":Str))=false:=by decide)
  (he:starEach (e::es) X.env=(false,eval e X.env)::starEach es X.env:=by rfl)(hpl:(backTo pos (starEach es X.env)).any (·.1)=false:=by rfl):PE X (.Call (.Name x p) (e::es) [] pos) (tCB r t):=by
 intro pins s σ H Q I h
 refine wpAny_Call_Name_kw (zec I hg hm hv ?_ hn hdb)
 exact PyProof.Rows.callWith_builtin1 (thn (ha pos pins s σ H _ I h) λus s1 ⟨vs,H1,I1,r1,q1⟩=>hc pins s1 σ H1 vs us Q I1 r1 q1) he hpl
theorem zuT (hc:zbo X (.type T) r)(hg:Gl X x)(hm:X.mg x=none)(hv:bootBuiltins x=some (.type T))(ha:PA X (e::es) t)(hn:x≠"__name__":=by decide)(hdb:(x==("__debug__":Str))=false:=by decide)
  (he:starEach (e::es) X.env=(false,eval e X.env)::starEach es X.env:=by rfl)(hpl:(backTo pos (starEach es X.env)).any (·.1)=false:=by rfl):PE X (.Call (.Name x p) (e::es) [] pos) (tCB r t):=by
 intro pins s σ H Q I h
 refine wpAny_Call_Name_kw (zec I hg hm hv ?_ hn hdb)
 exact PyProof.Rows.callWith_type1 (thn (ha pos pins s σ H _ I h) λus s1 ⟨vs,H1,I1,r1,q1⟩=>hc pins s1 σ H1 vs us Q I1 r1 q1) he hpl
end
end L2
namespace HT
open PySem PyProof.Rows
section
open PySem.SeqAt
open PySem.AutoSeq1 (wpAny_loadPart')
open PySem.MeetsSeq PySem.MeetsSeq2 PySem.MeetsSeq3
end
section
variable {prog:Program}{w:World}{A:Around}{E:Value→Shared→Prop}{s:Shared}
def sIx (n d:Nat):Option Int→Nat
 | none=>d
 | some v=>if v<0 then (v+(n:Int)).toNat else min v.toNat n
theorem sIx_none (n d:Nat):sIx n d none=d:=rfl
theorem sIx_nat (n d k:Nat):sIx n d (some (k:Int))=min k n:=by
 show (if (k:Int)<0 then ((k:Int)+(n:Int)).toNat else min (k:Int).toNat n)=min k n
 rw[if_neg (by omega),Vah]
end
end HT
namespace L2
open PySem PySem.Spec PyProof.Rows
abbrev TO:=St→Hp→(Option Int→Hp→Prop)→Prop
def PO (X:Cx)(e:Option Expr)(t:TO):Prop:=
 ∀(pins:List (Addr×Obj)) (s:Shared) (σ:St) (H:Hp) (Q:Option Int→Hp→Prop),Inv X pins σ H s→t σ H Q→
  wpAny (model X.prog X.w) X.A (evalPart e X.env) (λu s'=>∃o H',Inv X pins σ H' s'∧IsPart u o∧Q o H') X.xe s
def zvY:TO:=λ_ H Q=>Q none H
def tPart (t:TE):TO:=λσ H Q=>t σ H λx H1=>∃i,x=.int i∧Q (some i) H1
section
variable {X:Cx}{e:Expr}{te:TE}{lo hi:Option Expr}{tl th:TO}{pos p2:Pos}
theorem zsf:PO X none zvY:=by
 intro pins s σ H Q I h
 rw[evalPart_none]
 exact wpAny_pure ⟨none,H,I,.none,h⟩
theorem zsZ (h:PE X e te):PO X (some e) (tPart te):=by
 intro pins s σ H Q I hw
 rw[evalPart_some]
 refine thn (h pins s σ H _ I hw) λu s1 ⟨x,H1,I1,r1,q1⟩=>?_
 obtain⟨i,rfl,q⟩:=q1
 obtain⟨t,rfl⟩:=r1
 exact⟨some i,H1,I1,.int i t,q⟩
def SlR (X:Cx)(r:V→Option Int→Option Int→Hp→VK→Prop):Prop:=
 ∀(pins:List (Addr×Obj)) (s:Shared) (σ:St) (H:Hp) (x:V) (v vl vu:Value) (lo hi:Option Int) (sl:Addr) (Q:VK),Inv X pins σ H s→zaA x v→s.heap.IsSliceOf sl vl vu .none→IsPart vl lo→IsPart vu hi→r x lo hi H Q→
  ∃T id,typeLookup (.type T) "__getitem__"=pure (some (.builtin id))∧s.TypeIs v T∧wpAny (model X.prog X.w) X.A (getItem v (.ref sl)) (EP X pins σ Q) X.xe s
def tSl (r:V→Option Int→Option Int→Hp→VK→Prop)(te:TE)(tl th:TO):TE:=λσ H Q=>te σ H λx H1=>tl σ H1 λl H2=>th σ H2 λu H3=>r x l u H3 Q
theorem zxz {r:V→Option Int→Option Int→Hp→VK→Prop}(hr:SlR X r)(he:PE X e te)(hl:PO X lo tl)(hu:PO X hi th):PE X (.Subscript e (.Slice lo hi none p2) pos) (tSl r te tl th):=by
 intro pins s σ H Q I h
 refine Subscript_ (thn (he pins s σ H _ I h) λv s1 ⟨x,H1,I1,r1,q1⟩=>?_)
 refine wpAny_Slice (thn (hl pins s1 σ H1 _ I1 q1) λvl s2 ⟨l,H2,I2,pl,q2⟩=>thn (hu pins s2 σ H2 _ I2 q2) λvu s3 ⟨u,H3,I3,pu,q3⟩=>?_)
 rw[evalPart_none]
 refine wpAny_pure ?_
 have I4:Inv X pins σ H3 { s3 with heap:=s3.heap.push { cls:=.type "slice",data:=.fields #[vl,vu,.none] } }:=I3.kept (t':=s3.toks) λb ob q=>Heap.get?_push_of_some _ q
 obtain⟨T,id,hT,ht,hg⟩:=hr pins { s3 with heap:=s3.heap.push { cls:=.type "slice",data:=.fields #[vl,vu,.none] } } σ H3 x v vl vu l u s3.heap.objs.size Q I4 r1 (Heap.IsSliceOf.new ..) pl pu q3
 show wpAny (model X.prog X.w) X.A (subscriptTail e (.Slice lo hi none p2) v (.ref s3.heap.objs.size)) (EP X pins σ Q) X.xe { s3 with heap:=s3.heap.push { cls:=.type "slice",data:=.fields #[vl,vu,.none] } }
 exact tail_any (ops:=[.ref s3.heap.objs.size,v]) ht hT hg (by with_unfolding_all rfl)
def ze9 (xs:List V)(lo hi:Option Int):List V:=(xs.drop (HT.sIx xs.length 0 lo)).take (HT.sIx xs.length xs.length hi-HT.sIx xs.length 0 lo)
theorem zwj (xs:List V)(lo hi:Option Int):(ze9 xs lo hi).length≤xs.length:=by
 unfold ze9
 rw[Vao,Va7]
 omega
end
end L2
namespace L2
open PySem PySem.Spec PyProof.Rows
def ixN (n:Nat)(i:Int):Option Nat:=if 0≤i then (if i<n then some i.toNat else none) else if -(n:Int)≤i then some (i+n).toNat else none
def atI {α:Type}(xs:List α)(i:Int):Option α:=(ixN xs.length i).bind λj=>xs[j]?
theorem zrX {n:Nat}{i:Int}{j:Nat}(h:ixN n i=some j):seqIndex? i n=some j∧j<n∧-(n:Int)≤i∧i<n:=by
 unfold ixN at h
 by_cases h0:0≤i
 ·rw[if_pos h0] at h
  by_cases h1:i<n
  ·rw[if_pos h1] at h
   have e:i.toNat=j:=Option.some.inj h
   exact⟨by rw[seqIndex_of h0 h1,e],by omega,by omega,h1⟩
  ·rw[if_neg h1] at h; cases h
 ·rw[if_neg h0] at h
  by_cases h1:-(n:Int)≤i
  ·rw[if_pos h1] at h
   have e:(i+n).toNat=j:=Option.some.inj h
   exact⟨by rw[seqIndex_neg (by omega) h1,e],by omega,h1,by omega⟩
  ·rw[if_neg h1] at h; cases h
theorem zqm {α:Type}{xs:List α}{i:Int}{v:α}(h:atI xs i=some v):∃j,seqIndex? i xs.length=some j∧xs[j]?=some v∧j<xs.length∧-(xs.length:Int)≤i∧i<xs.length:=by
 unfold atI at h
 cases e:ixN xs.length i with
 | none=>rw[e] at h; cases h
 | some j=>
  rw[e] at h
  obtain⟨h1,h2,h3,h4⟩:=zrX e
  exact⟨j,h1,h,h2,h3,h4⟩
theorem zd8 {α:Type}{xs:List α}{j:Nat}{v:α}(h:xs[j]?=some v):atI xs (j:Int)=some v:=by
 have hj:j<xs.length:=(Vad.mp h).1
 have e:ixN xs.length (j:Int)=some j:=by
  unfold ixN
  rw[if_pos (by omega),if_pos (by omega)]; simp
 unfold atI; rw[e]; exact h
def zoq (b:Expr):Prop:=∀o i,subscripted b false o i=operate [o,i] (getItem o i)
def IxR (X:Cx)(r:R2):Prop:=
 ∀(value slice:Expr) (pins:List (Addr×Obj)) (s:Shared) (σ:St) (H:Hp) (x y:V) (v u:Value) (Q:VK),Inv X pins σ H s→zaA x v→zaA y u→r x y H Q→
  subscripted slice false v u=operate [v,u] (getItem v u)→wpAny (model X.prog X.w) X.A (subscriptTail value slice v u) (EP X pins σ Q) X.xe s
def MtR (X:Cx)(id:String)(r:V→List V→Hp→VK→Prop):Prop:=
 ∀(pins:List (Addr×Obj)) (s:Shared) (σ:St) (H:Hp) (x:V) (xs:List V) (v:Value) (us:List Value) (Q:VK),Inv X pins σ H s→zaA x v→zaB xs us→r x xs H Q→
  wpAny (model X.prog X.w) X.A (call (.builtin id) (v::us)) (EP X pins σ Q) X.xe s
section
variable {X:Cx}{a b:Expr}{ta tb:TE}{pos:Pos}
theorem pe_ix {r:R2}(hr:IxR X r)(ha:PE X a ta)(hb:PE X b tb)(hs:zoq b):PE X (.Subscript a b pos) (tOp r ta tb):=by
 intro pins s σ H Q I h
 exact Subscript_ (binT ha hb I h λv u s2 x y H2 I2 rx ry q=>hr a b pins s2 σ H2 x y v u Q I2 rx ry q (hs _ _))
def rIxL (K:PySem.W.Frag):R2:=λx y H Q=>∃p xs i v,x=.ref p∧y=.int i∧SqL K H p xs∧atI xs i=some v∧Q v H
def rIxT (K:PySem.W.Frag):R2:=λx y H Q=>∃p xs i v,x=.ref p∧y=.int i∧SqT K H p xs∧atI xs i=some v∧Q v H
theorem ztB:IxR X (rIxL X.K):=by
 intro value slice pins s σ H x y v u Q I rx ry h hs
 obtain⟨p,xs,i,z,rfl,rfl,hq,he,q⟩:=h
 cases rx
 obtain⟨t,rfl⟩:=ry
 obtain⟨its,r,pl,hz⟩:=I.list hq
 obtain⟨j,h1,h2,h3,h4,h5⟩:=zqm he
 obtain⟨w,ew,rw'⟩:=r.get h2
 have hl:=r.length
 have hn:=zjn
 have fin:EP X pins σ Q w s:=⟨z,H,I,rw',q⟩
 by_cases h0:0≤i
 ·have hj:i.toNat=j:=by
   rw[seqIndex_of h0 h5] at h1
   exact Option.some.inj h1
  exact item_listR pl.isList h0 (by omega) (by rw[hj]; simpa using ew) fin hs
 ·have hj:(i+(its.toArray.size:Int)).toNat=j:=by
   rw[seqIndex_neg (by omega) h4] at h1
   rw[Vat,← hl]
   exact Option.some.inj h1
  exact subscriptTail_builtinR (x:=w) pl.isList.typeIs slot_list_getitem.lookup
   (wpAny_getItem_list_neg (Q:=λr s'=>r=w∧EP X pins σ Q r s') pl.isList (by omega) (by rw[Vat] <;> omega) (by omega) (by rw[hj]; simpa using ew) ⟨rfl,fin⟩) hs
theorem zux:IxR X (rIxT X.K):=by
 intro value slice pins s σ H x y v u Q I rx ry h hs
 obtain⟨p,xs,i,z,rfl,rfl,hq,he,q⟩:=h
 cases rx
 obtain⟨t,rfl⟩:=ry
 obtain⟨its,r,pl,hz⟩:=I.tuple hq
 obtain⟨j,h1,h2,h3,h4,h5⟩:=zqm he
 obtain⟨w,ew,rw'⟩:=r.get h2
 have hl:=r.length
 have hn:=zjn
 have fin:EP X pins σ Q w s:=⟨z,H,I,rw',q⟩
 exact subscriptTail_builtinR (x:=w) pl.typeIs slot_tuple_getitem.lookup
  (getItem_tuple (j:=j) (Q:=λr s'=>r=w∧EP X pins σ Q r s') pl (by omega) (by omega) (by rw[Vat,← hl]; exact h1) (by simpa using ew) ⟨rfl,fin⟩) hs
theorem ztk (lo hi:Option Int)(n:Nat):(sliceBounds lo hi none n).1=((HT.sIx n 0 lo:Nat):Int)∧(sliceBounds lo hi none n).2.1=((HT.sIx n n hi:Nat):Int)∧(sliceBounds lo hi none n).2.2=1:=by
 refine⟨?_,?_,rfl⟩
 ·cases lo with
  | none=>simp[sliceBounds,HT.sIx]
  | some i=>
   simp only[sliceBounds,HT.sIx,Option.getD_none,show (1:Int) > 0 by decide,if_true]
   by_cases h:i<0
   ·simp only[h,if_true] <;> omega
   ·simp only[h,if_false] <;> omega
 ·cases hi with
  | none=>simp[sliceBounds,HT.sIx]
  | some i=>
   simp only[sliceBounds,HT.sIx,Option.getD_none,show (1:Int) > 0 by decide,if_true]
   by_cases h:i<0
   ·simp only[h,if_true] <;> omega
   ·simp only[h,if_false] <;> omega
theorem ztp (its:List Value)(lo hi:Option Int):slicePick its.toArray lo hi none=((its.drop (HT.sIx its.length 0 lo)).take (HT.sIx its.length its.length hi-HT.sIx its.length 0 lo)).toArray:=by
 obtain⟨h1,h2,h3⟩:=ztk lo hi its.toArray.size
 unfold slicePick
 rw[h1,h2,h3]
 simp only[sliceRange_one,pick_run,Vat] <;> rfl
def rSlL (K:PySem.W.Frag):V→Option Int→Option Int→Hp→VK→Prop:=λx lo hi H Q=>∃a xs,x=.ref a∧SqL K H a xs∧∀p,H p=none→Q (.ref p) (upd H p (.lst (ze9 xs lo hi)))
theorem zwF:SlR X (rSlL X.K):=by
 intro pins s σ H x v vl vu lo hi sl Q I rx hs pl pu h
 obtain⟨a,xs,rfl,hx,q⟩:=h
 cases rx
 obtain⟨its,r,ht,hz⟩:=I.list hx
 have hlen:=r.length
 refine⟨"list",_,slot_list_getitem.lookup,ht.isList.typeIs,?_⟩
 refine wpAny_getItem_list_slice ht.isList hs pl pu .none (by simp) ?_ (by rw[Vat] <;> omega)
 rw[ztp,← hlen]
 refine⟨.ref s.heap.objs.size,_,I.laid (t':=s.toks) (o:=.lst (ze9 xs lo hi)) (λb ob q=>Heap.get?_push_of_some _ q) (Vaa _) ?_,rfl,q _ (I.hok.fresh (Vaa _))⟩
 exact⟨VaB (zwj xs lo hi) hz,_,0,(r.drop (HT.sIx xs.length 0 lo)).take (HT.sIx xs.length xs.length hi-HT.sIx xs.length 0 lo),Heap.get?_push_size _ rfl⟩
def zmx:V→Bool
 | .non=>true
 | .bl _=>true
 | .int _=>true
 | .str _=>true
 | _=>false
def eqV:V→V→Bool
 | .non,.non=>true
 | .bl a,.bl b=>a==b
 | .bl a,.int b=>(if a then 1 else 0)==b
 | .int a,.bl b=>a==(if b then 1 else 0)
 | .int a,.int b=>a==b
 | .str a,.str b=>a==b
 | _,_=>false
theorem zsJ {A:Around}{s:Shared}{y x:V}{u v:Value}(ry:zaA y u)(rx:zaA x v)(fy:zmx y=true)(fx:zmx x=true):SeqAt.EqAt A s u v (eqV y x):=by
 cases y with
 | non=>
  cases ry
  cases x with
  | non=>cases rx; exact SeqAt.EqAt.same _
  | bl b=>cases rx; exact SeqAt.EqAt.none_bool b
  | int b=>obtain⟨t,rfl⟩:=rx; exact SeqAt.EqAt.none_int b t
  | str b=>obtain⟨t,rfl⟩:=rx; exact SeqAt.EqAt.none_str b t
  | _=>exact absurd (show false=true from fx) Var
 | bl a=>
  cases ry
  cases x with
  | non=>cases rx; exact SeqAt.EqAt.bool_none a
  | bl b=>cases rx; exact SeqAt.EqAt.bool_bool a b
  | int b=>obtain⟨t,rfl⟩:=rx; exact SeqAt.EqAt.bool_int a b t
  | str b=>obtain⟨t,rfl⟩:=rx; exact SeqAt.EqAt.bool_str a b t
  | _=>exact absurd (show false=true from fx) Var
 | int a=>
  obtain⟨t',rfl⟩:=ry
  cases x with
  | non=>cases rx; exact SeqAt.EqAt.int_none a t'
  | bl b=>cases rx; exact SeqAt.EqAt.int_bool a t' b
  | int b=>obtain⟨t,rfl⟩:=rx; exact SeqAt.EqAt.int_int a t' b t
  | str b=>obtain⟨t,rfl⟩:=rx; exact SeqAt.EqAt.int_str a t' b t
  | _=>exact absurd (show false=true from fx) Var
 | str a=>
  obtain⟨t',rfl⟩:=ry
  cases x with
  | non=>cases rx; exact SeqAt.EqAt.str_none a t'
  | bl b=>cases rx; exact SeqAt.EqAt.str_bool a t' b
  | int b=>obtain⟨t,rfl⟩:=rx; exact SeqAt.EqAt.str_int a t' b t
  | str b=>obtain⟨t,rfl⟩:=rx; exact SeqAt.EqAt.str_str a t' b t
  | _=>exact absurd (show false=true from fx) Var
 | _=>exact absurd (show false=true from fy) Var
theorem zuY:zbo X (.builtin "len") (λxs H Q=>∃p ys,xs=[.ref p]∧(SqL X.K H p ys∨SqT X.K H p ys)∧Q (.int ys.length) H):=by
 intro pins s σ H xs us Q I r h
 obtain⟨p,ys,rfl,hq,q⟩:=h
 obtain⟨u,rfl,rx⟩:=zdg r
 cases rx
 have hn:=zjn
 rcases hq with hq | hq
 ·obtain⟨its,r',pl,hz⟩:=I.list hq
  have hlen:=r'.length
  exact Calls.call_len_list pl.isList (by simp only[Vat] <;> omega) ⟨.int ys.length,H,I.tok _,⟨s.toks+1,by rw[Vat,hlen]⟩,q⟩
 ·obtain⟨its,r',pl,hz⟩:=I.tuple hq
  have hlen:=r'.length
  exact len_tuple pl (by simp only[Vat] <;> omega) ⟨.int ys.length,H,I.tok _,⟨s.toks+1,by rw[Vat,hlen]⟩,q⟩
theorem zth:zbo X (.type "list") (λxs H Q=>∃p ys,xs=[.ref p]∧(SqL X.K H p ys∨SqT X.K H p ys)∧∀l,H l=none→Q (.ref l) (upd H l (.lst ys))):=by
 intro pins s σ H xs us Q I r h
 obtain⟨p,ys,rfl,hq,q⟩:=h
 obtain⟨u,rfl,rx⟩:=zdg r
 cases rx
 have fin:∀(its:List Value),zaB ys its→ys.length≤sizeLine→∀(h':Heap) (c':Nat),(∀b o',s.heap.get? b=some o'→h'.get? b=some o')→
   h'.get? s.heap.objs.size=some { cls:=.type "list",dict:=none,data:=.seq its.toArray c',slots:=#[] }→EP X pins σ Q (.ref s.heap.objs.size) { s with heap:=h' }:=λits r' hz h' c' kp e=>
  ⟨.ref s.heap.objs.size,_,I.laid (t':=s.toks) kp (Vaa _) (show zbz X.prog X.w _ h' _ (.lst ys) from ⟨hz,its,c',r',e⟩),rfl,q _ (I.hok.fresh (Vaa _))⟩
 rcases hq with hq | hq
 ·obtain⟨its,r',pl,hz⟩:=I.list hq
  have hlen:=r'.length
  obtain⟨o,ho,hc,n,hd⟩:=pl.isList
  exact call_list_seq p (.inl rfl) ho hc hd (λh' c' kp e=>fin its r' hz h' c' kp e) (by simp only[Vat] <;> omega)
 ·obtain⟨its,r',pl,hz⟩:=I.tuple hq
  have hlen:=r'.length
  obtain⟨o,ho,hc,n,hd⟩:=pl
  exact call_list_seq p (.inr rfl) ho hc hd (λh' c' kp e=>fin its r' hz h' c' kp e) (by simp only[Vat] <;> omega)
def tyV (K:PySem.W.Frag)(T:String)(x:V)(H:Hp):Prop:=match x with
 | .str _=>T="str"
 | .int _=>T="int"
 | .ref p=>(T="list"∧∃xs,SqL K H p xs)∨(T="tuple"∧∃o,K.lookup p=some o∧o.cls=.type "tuple"∧o.dict=none)∨
   (T="dict"∧((∃kvs,H p=some (.dK kvs))∨∃kvs,H p=some (.dT kvs)))∨(T="set"∧∃S n,H p=some (.set S n))
 | _=>False
theorem ztT {pins:List (Addr×Obj)}{σ:St}{H:Hp}{s:Shared}{T:String}{x:V}{v:Value}(I:Inv X pins σ H s)(r:zaA x v)(ty:tyV X.K T x H):
  s.TypeIs v T∧∀a,v=.ref a→∃ob,s.heap.get? a=some ob∧ob.dict=none:=by
 cases x with
 | str z=>
  obtain⟨t,rfl⟩:=r
  cases (show T="str" from ty)
  exact⟨typeIs_str s z t,λ_ e=>nomatch e⟩
 | int i=>
  obtain⟨t,rfl⟩:=r
  cases (show T="int" from ty)
  exact⟨typeIs_int s i t,λ_ e=>nomatch e⟩
 | ref p=>
  cases r
  rcases ty with ⟨rfl,xs,hq⟩ | ⟨rfl,o,hk,hc,hd⟩ | ⟨rfl,hk⟩ | ⟨rfl,S,n,hk⟩
  ·obtain⟨its,_,pl,_⟩:=I.list hq
   refine⟨pl.isList.typeIs,λa e=>?_⟩
   cases e
   obtain⟨o,n,e,c,hd,_⟩:=pl
   exact⟨o,e,hd⟩
  ·refine⟨⟨o,I.kIn p o hk,hc⟩,λa e=>?_⟩
   cases e
   exact⟨o,I.kIn _ o hk,hd⟩
  ·have z:∃o,s.heap.get? p=some o∧o.ExactDict:=by
    rcases hk with ⟨kvs,hk⟩ | ⟨kvs,hk⟩
    ·obtain⟨_,_,_,_,o,_,_,e,ex,_⟩:=I.hok p _ hk
     exact⟨o,e,ex⟩
    ·obtain⟨_,_,_,_,o,_,_,e,ex,_⟩:=I.hok p _ hk
     exact⟨o,e,ex⟩
   obtain⟨o,e,ex⟩:=z
   refine⟨⟨o,e,ex.1⟩,λa e2=>?_⟩
   cases e2
   exact⟨o,e,ex.2.1⟩
  ·obtain⟨o,_,_,_,e,ex,_⟩:=I.hok p _ hk
   refine⟨⟨o,e,ex.1⟩,λa e2=>?_⟩
   cases e2
   exact⟨o,e,ex.2.1⟩
 | _=>exact False.elim ty
def tBM (K:PySem.W.Frag)(T:String)(r:V→List V→Hp→VK→Prop)(to:TE)(t:TA):TE:=λσ H Q=>to σ H λx H1=>tyV K T x H1∧t σ H1 λxs H2=>r x xs H2 Q
variable {o e:Expr}{es:List Expr}{to:TE}{t:TA}{name:Str}{apos cpos:Pos}{T id:String}{r:V→List V→Hp→VK→Prop}
theorem zpe (pa:PlainAttrs T)(slot:Slot T name id)(hty:typeOf (.builtin id)=pure (.type "method_descriptor"))(hm:MtR X id r)(ho:PE X o to)(ha:PA X (e::es) t)
  (hbase:attributeBase o name X.env (eval o X.env)=eval o X.env:=by rfl)
  (hfew:((backTo cpos (starEach (e::es) X.env)).all (λx=>!x.1)&&(backToKw cpos (keywordEach [] X.env)).all (λx=>x.1.isSome)
  &&decide ((e::es).length+([]:List Keyword).length+(if ([]:List Keyword).isEmpty then 0 else 1)<30))=true:=by rfl)
  (hline:(apos.endLine==cpos.line)=true:=by rfl)(hs:starEach (e::es) X.env=(false,eval e X.env)::starEach es X.env:=by rfl)(hplain:(backTo cpos (starEach es X.env)).any (·.1)=false:=by rfl):
  PE X (.Call (.Attribute o name apos) (e::es) [] cpos) (tBM X.K T r to t):=by
 intro pins s σ H Q I h
 refine wpAny_Call_method_late hbase hfew hline rfl (thn (ho pins s σ H _ I h) λv s1 ⟨x,H1,I1,r1,ty,q1⟩=>?_)
 obtain⟨h1,h2⟩:=ztT I1 r1 ty
 refine⟨T,id,pa,slot,hty,h1,h2,?_⟩
 have hA:=ha cpos pins s1 σ H1 _ I1 q1
 rw[hs] at hA ⊢
 refine Calls.callWith_builtin (by show (false||(backTo cpos (starEach es X.env)).any (·.1))=false; rw[hplain] <;> rfl) (Calls.evalArgs_plain ?_)
 exact thn hA λus s2 ⟨vs,H2,I2,r2,q2⟩=>hm pins s2 σ H2 x vs v us Q I2 r1 r2 q2
end
end L2
namespace L2
open PySem PySem.Spec PyProof.Rows
def MtM (X:Cx)(id:String)(r:V→List V→Hp→VK→Prop):Prop:=
 ∀(pins:List (Addr×Obj)) (s:Shared) (σ:St) (H:Hp) (x:V) (xs:List V) (v:Value) (us:List Value) (Q:VK),Inv X pins σ H s→zaA x v→zaB xs us→r x xs H Q→
  wpAny (model X.prog X.w) X.A (call (.builtin id) (v::us)) (EP X pins σ Q) X.xe s
theorem zaB.one:∀ {x:V} {us:List Value},zaB [x] us→∃u,us=[u]∧zaA x u
 | _,_,.cons r .nil=>⟨_,rfl,r⟩
theorem zaB.rep {xs:List V}{us:List Value}(h:zaB xs us):∀k:Nat,zaB (List.replicate k xs).flatten (List.replicate k us).flatten
 | 0=>.nil
 | k+1=>by
  rw[Va8,Va8,Vbf,Vbf]
  exact zaB.append h (zaB.rep h k)
theorem zp8 (its:List Value):∀(k:Nat) (acc:List Value),
  List.foldl (λx1 x2=>x1++x2) acc.toArray (List.replicate k its.toArray)=(acc++(List.replicate k its).flatten).toArray
 | 0,acc=>by simp
 | k+1,acc=>by
  have e:acc.toArray++its.toArray=(acc++its).toArray:=by simp
  have e2:(acc++its)++(List.replicate k its).flatten=acc++(List.replicate (k+1) its).flatten:=by
   rw[Va8,Vbf,List.append_assoc]
  rw[← e2,← zp8 its k (acc++its),← e,Va8,List.foldl_cons]
section
variable {X:Cx}{pins:List (Addr×Obj)}{σ:St}{H:Hp}{s:Shared}{l b:Addr}{xs ys zs:List V}
theorem Inv.lset {its its':List Value}{n:Nat}{f:Array Value→Array Value}{t':Nat}(I:Inv X pins σ H s)(hH:H l=some (.lst xs))
  (e:s.heap.get? l=some { cls:=.type "list",data:=.seq its.toArray n })(hf:f its.toArray=its'.toArray)(hv:zaB ys its')(hz:ys.length≤sizeLine):
  Inv X pins σ (upd H l (.lst ys)) { s with heap:=s.heap.update l (Obj.mapSeq f),toks:=t' }:=by
 have q:=PySem.IsL.update e f
 rw[hf] at q
 refine I.write (x:=l) (e:=l) (by rw[hH]; exact trivial) (.inl rfl) (λb' u hb hu=>(Heap.get?_update_other s.heap (Obj.mapSeq f) (Ne.symm hb)).trans hu) ⟨_,q⟩ ?_
 exact⟨hz,its',_,hv,q⟩
theorem Inv.lnew {its:List Value}{t':Nat}(I:Inv X pins σ H s)(hv:zaB ys its)(hz:ys.length≤sizeLine):
  Inv X pins σ (upd H s.heap.objs.size (.lst ys)) { s with heap:=s.heap.push { cls:=.type "list",data:=.seq its.toArray },toks:=t' }:=
 I.laid (λ_ _ q=>Heap.get?_push_of_some _ q) (Vaa _) ⟨hz,its,0,hv,Heap.get?_push_size _ rfl⟩
theorem Inv.fresh (I:Inv X pins σ H s):H s.heap.objs.size=none:=I.hok.fresh (Vaa _)
theorem Inv.lstM (I:Inv X pins σ H s)(hH:H l=some (.lst xs)):xs.length≤sizeLine∧∃(its:List Value) (n:Nat),zaB xs its∧xs.length=its.length∧s.heap.get? l=some { cls:=.type "list",data:=.seq its.toArray n }:=by
 obtain⟨z,its,n,r,e⟩:=I.hok l _ hH
 exact⟨z,its,n,r,r.length,e⟩
theorem zuL {n:Nat}(h:n≤sizeLine):Builtin.List.listTooLong n=false:=by
 unfold Builtin.List.listTooLong
 exact decide_eq_false (by omega)
end
section
variable {X:Cx}
def zxw:V→List V→Hp→VK→Prop:=λx vs H Q=>∃l xs y,x=.ref l∧vs=[y]∧H l=some (.lst xs)∧xs.length<sizeLine∧Q .non (upd H l (.lst (xs++[y])))
theorem zoG:MtM X "list.append" zxw:=by
 intro pins s σ H x vs v us Q I rx rv h
 obtain⟨l,xs,y,rfl,rfl,hH,hz,q⟩:=h
 cases rx
 obtain⟨u,rfl,ru⟩:=rv.one
 obtain⟨z,its,n,r,hl,e⟩:=I.lstM hH
 refine call_meets F.slot_list_append ⟨_,e,rfl⟩ F.entry_list_append (F.args_list_append_2 _ _) (PySem.list_append l its.toArray n u (by rw[Vat]; omega)) ⟨e,?_⟩
 refine⟨.non,_,I.lset (its':=its++[u]) hH e (by simp) (r.append (.cons ru .nil)) ?_,rfl,q⟩
 rw[Vas,List.length_singleton]
 omega
def rCat:R2:=λx y H Q=>∃l b xs zs,x=.ref l∧y=.ref b∧H l=some (.lst xs)∧H b=some (.lst zs)∧xs.length+zs.length≤sizeLine∧∀p,H p=none→Q (.ref p) (upd H p (.lst (xs++zs)))
theorem ztr:OpR X (binaryOp .Add) rCat:=by
 intro pins s σ H x y v u Q I rx ry h
 obtain⟨l,b,xs,zs,rfl,rfl,hH,hB,hz,q⟩:=h
 cases rx
 cases ry
 obtain⟨z,its,n,r,hl,e⟩:=I.lstM hH
 obtain⟨z2,its2,n2,r2,hl2,e2⟩:=I.lstM hB
 refine PySem.P.add_list e e2 ?_ (by rw[Vat,Vat]; omega)
 have ea:its.toArray++its2.toArray=(its++its2).toArray:=by simp
 rw[ea]
 exact⟨.ref _,_,I.lnew (t':=s.toks) (r.append r2) (by rw[Vas]; omega),rfl,q _ I.fresh⟩
def rRep:R2:=λx y H Q=>∃l k xs,x=.ref l∧y=.int k∧H l=some (.lst xs)∧-(2^63)≤k∧k<2^63∧xs.length*k.toNat≤sizeLine∧
 ∀p,H p=none→Q (.ref p) (upd H p (.lst (List.replicate k.toNat xs).flatten))
theorem zyj {α:Type}(xs:List α)(k:Nat):(List.replicate k xs).flatten.length=k*xs.length:=by
 induction k with
 | zero=>simp
 | succ k ih=>rw[Va8,Vbf,Vas,ih,Nat.succ_mul,Nat.add_comm]
theorem ztd:OpR X (binaryOp .Mult) rRep:=by
 intro pins s σ H x y v u Q I rx ry h
 obtain⟨l,k,xs,rfl,rfl,hH,h1,h2,hz,q⟩:=h
 cases rx
 obtain⟨t,rfl⟩:=ry
 obtain⟨z,its,n,r,hl,e⟩:=I.lstM hH
 have hlen:its.toArray.size*k.toNat≤sizeLine:=by rw[Vat,← hl]; exact hz
 have hcap:¬ its.toArray.size*k.toNat > (2^63-1)/8:=by
  have:(sizeLine:Nat)≤(2^63-1)/8:=by decide
  omega
 have hfit:¬ (!Builtin.List.listFitsIndex k)=true:=by
  rw[fitsIndex_both h1 h2]
  exact Var
 have hlong:¬ Builtin.List.listTooLong (its.toArray.size*k.toNat)=true:=by
  rw[zuL hlen]
  exact Var
 have hnew:List.foldl (λx1 x2=>x1++x2) #[] (List.replicate (if its.toArray.isEmpty=true then 0 else k.toNat) its.toArray)=(List.replicate k.toNat its).flatten.toArray:=by
  have f0:∀m:Nat,List.foldl (λx1 x2=>x1++x2) #[] (List.replicate m its.toArray)=(List.replicate m its).flatten.toArray:=λm=>by
   have:=zp8 its m []
   rw[List.nil_append] at this
   exact this
  rw[f0]
  cases its with
  | nil=>simp
  | cons a r'=>rw[if_neg (by simp)]
 refine wpAny_binaryOp_repeat_ref (T:="list") (U:="int") (by decide) ⟨_,e,rfl⟩ (λs'=>typeIs_int s' k t) noFill_list_mul F.fills_int_mul F.slot_int_rmul repeat_list F.slot_int_index.lookup
  (call_meets F.slot_int_rmul (typeIs_int s k t) F.entry_int_rmul (F.args_int_rmul_2 _ _) (int___rmul___int_list k t l its.toArray n)
   ⟨e,rfl,⟨_,e,rfl⟩,call_meets F.slot_list_mul ⟨_,e,rfl⟩ F.entry_list_mul (F.args_list_mul_2 _ _) (AutoListH.list___mul___list_int_3 l its.toArray n k t hfit hcap hlong) ⟨e,?_⟩⟩)
 rw[hnew]
 exact⟨.ref _,_,I.lnew (t':=s.toks) (r.rep k.toNat) (by rw[zyj,Nat.mul_comm]; exact hz),rfl,q _ I.fresh⟩
end
section
variable {prog:Program}{w:World}{A:Around}{E:Value→Shared→Prop}{s:Shared}
set_option maxRecDepth 100000 in
end
section
variable {X:Cx}
end
end L2
namespace Att
open PySem PySem.W PySem.Calls PyProof.Rows
theorem zse {P:Params}{h:Heap}:∀(ns:List Int) (vs:List Value),WellAll P h vs (ns.map WData.int)→IntsAre vs ns:=by
 intro ns
 induction ns with
 | nil=>
  intro vs w
  rw[List.map_nil] at w
  cases w
  exact .nil
 | cons n ns ih=>
  intro vs w
  rw[VaX] at w
  cases w with
  | cons a b=>
   cases a
   exact .cons _ _ (ih _ b)
theorem zvL {l:OpenLaw}{n:Nat}(hn:l.most=some n){P:Params}{h:Heap}{args:List WData}{vals:List Value}
  (hpre:l.row.toRowW.claim.pre args=true)(hwl:WellAll P h vals args):
  ∃a vs ns,vals=[Value.ref a]∧args=[WData.list (ns.map WData.int)]∧h.get? a=some { cls:=.type "list",data:=.seq vs.toArray }∧IntsAre vs ns∧ns.length≤n:=by
 have hsh:WShape.hasAll [] args [.list .int]=true:=(pre_splitW hpre).1
 have hc:l.pre.holds [] { args:=args }=true:=(pre_splitW hpre).2
 obtain⟨d,r,rfl,h1,h2⟩:=hasAllW_cons hsh
 obtain rfl:=hasAllW_nil h2
 obtain⟨xs,rfl,h3⟩:=hasW_list h1
 obtain⟨ns,rfl⟩:=items_int h3
 have hlen:ns.length≤n:=by
  unfold OpenLaw.pre at hc
  have h4:(WTm.not (.lt (.lit (.int (n:Int))) (.len (.arg 0)))).holds [] { args:=[.list (ns.map .int)] }=true:=by
   have h4:=(holds_andW hc).1
   rw[hn] at h4
   exact h4
  have h5:=condW_of h4 (w_not (w_lt w_lit (w_len_list (w_arg rfl))))
  rw[Vab] at h5
  refine Nat.le_of_not_lt λq=>?_
  have q':(n:Int)<((ns.length:Nat):Int):=by omega
  first
   | (rw[decide_eq_true q'] at h5; exact absurd h5 (by decide))
   | (simp at h5; omega)
 cases hwl with
 | cons w1 w2=>
  cases w2
  cases w1 with
  | list ho hall=>exact⟨_,_,ns,rfl,rfl,ho,zse ns _ hall,hlen⟩
theorem zyH (l:OpenLaw)(args:List WData):l.row.toRowW.claim.post args (.bool true) args=true:=
 postW_of (r:=l.row.toRowW) (X:=(true==true))
  (show WShape.has [] (.bool true) .bool=true by first | rfl | decide | simp[WShape.has,WShape.arms,WShape.armsAll])
  (show (WTm.eq .res (.lit (.bool true))).value [] { args:=args,res:=some (.bool true),after:=args }=some (.bool (true==true)) from w_eq_bool (w_res rfl) w_lit) rfl
theorem attach_call {l:OpenLaw}{n:Nat}{q:Program}{loose:List Str}{XP:(Str→Option Value)→Heap→Prop}{YP:World→Heap→Prop}{d:DefRec}
  (hn:l.most=some n)(hdf:d.params.defaults=[])
  (call:∀(w:World) (s₀ s₁:Shared) (mg mb:Str→Option Value) (fa:Addr) (o:Obj) (pm cd doc:Value) (a:Addr) (vs:List Value) (ns:List Int),
   Ground q loose [] XP w s₀ mg mb s₁.heap→YP w s₁.heap→
   s₁.heap.get? fa=some o→o.data=.func (docDef d.name d.params d.body d.scope pm cd doc)→s₁.heap.CodeRec cd d.name→mg d.name=some (.ref fa)→
   s₁.heap.get? a=some { cls:=.type "list",data:=.seq vs.toArray }→IntsAre vs ns→ns.length≤n→s₁.gens=#[]→
   codeAny (model l.prog w) callerA (.call (.ref fa) ⟨[.ref a],[]⟩) (λr s'=>r=.ok (.ret (.bool true))∧OldK s₁.heap s'.heap∧s'.os=s₁.os∧AllBare s'.gens) s₁):
  WalkO q loose XP YP l.row.toRowW d [] (λf vs=>PySem.call f vs):=by
 intro w s₀ s₁ mg mb G Y fa o pm cd doc dV kV ho hd hcd hD hmg hg args vals as hpre hlay hrd hwl hlo
 obtain rfl:dV=.none:=Dflts.none hD hdf
 obtain rfl:kV=.none:=Dflts.noKw hD
 obtain⟨a,vs,ns,rfl,rfl,hobj,hints,hlen⟩:=zvL hn hpre hwl
 refine enter_call (codeAny_mono (call w s₀ s₁ mg mb fa o pm cd doc a vs ns G Y ho (fd_plain hd) hcd hmg hobj hints hlen hg) λr s' hq=>?_)
 obtain⟨rfl,h2,h3,h4⟩:=hq
 exact⟨.inl ⟨.bool true,.bool true,[],rfl,λ_=>rfl,.bool true,zyH l _,λ_=>⟨List.Pairwise.nil,λ_ hm=>(nomatch hm)⟩⟩,h2,h3,h4⟩
section
variable {prog:Program}{w:World}{A:Around}{E:Value→Shared→Prop}{s:Shared}{K:Frag}
end
end Att
namespace L2
open PySem PySem.Spec PyProof.Rows
theorem zkG:∀ {vs:List Value} {ns:List Int},IntsAre vs ns→zaB (ns.map V.int) vs
 | _,_,.nil=>.nil
 | _,_,.cons n t h=>.cons ⟨t,rfl⟩ (zkG h)
def zgO (H:Hp):Prop:=∀b,H b=none∨∃o xs,H b=some (.frz o (.lst xs))
theorem zu2 {P:Program}{w:World}{K:PySem.W.Frag}{mg mb:Str→Option Value}{CX:CXT}{k:Nat}{fa a:Addr}{fd:FuncData}{x:Str}{sp:Sp}{s₁:Shared}{vs:List Value}{ns:List Int}
  (KX:K.In s₁.heap)(hns:s₁.heap.Ns mainGlobals mg)(hb:s₁.heap.Ns builtinsNs mb)(hbb:∀x:Str,x≠"__name__"→mb x=bootBuiltins x)(hlim:s₁.heap.NoLimit)(hg:s₁.gens=#[])
  (ha:s₁.heap.get? a=some { cls:=.type "list",data:=.seq vs.toArray })(hi:IntsAre vs ns)(hl:ns.length≤sizeLine)(hr:zaT k callerA)
  (F:∀base:Heap,K.In base→base.Ns mainGlobals mg→zbq P w K mg base CX k fa fd [x] sp)(hbind:∀(s:Shared) (u:Value),BindsTo s fd ⟨[u],[]⟩ [(x,u)])
  (hsp:∀H:Hp,zgO H→SqL K H a (ns.map V.int)→sp [.ref a] H (λv _=>v=.bl true) λ_ _ _=>False)
  (hCX:∀H e s',CX [] H s₁ (λ_ _ _=>False) e s'→False):
  codeAny (model P w) callerA (.call (.ref fa) ⟨[.ref a],[]⟩) (λr s'=>r=.ok (.ret (.bool true))∧OldK s₁.heap s'.heap∧s'.os=s₁.os∧AllBare s'.gens) s₁:=by
 have rv:=zkG hi
 have lenV:=hi.length
 have core:∀H:Hp,zgO H→SqL K H a (ns.map V.int)→HOk P w H s₁.heap→(∀b,H b≠none→b=a)→(H a≠none→K.lookup a=none)→
   codeAny (model P w) callerA (.call (.ref fa) ⟨[.ref a],[]⟩) (λr s'=>r=.ok (.ret (.bool true))∧OldK s₁.heap s'.heap∧s'.os=s₁.os∧AllBare s'.gens) s₁:=by
  intro H hO hS hok hA hK
  have base_of:∀ {b:Addr} {o:Obj},s₁.heap.get? b=some o→H b=none→(zdc s₁.heap H).get? b=some o:=λe n=>zv4 e n
  have noA:∀ {b:Addr} {o:Obj} {es:Array DictEntry} {ep:Nat},s₁.heap.get? b=some o→o.data=.dict es ep→H b=none:=λ{b o es ep} e d=>by
   cases q:H b with
   | none=>rfl
   | some u=>
    have e':b=a:=hA b (by rw[q]; simp)
    subst e'
    rw[ha] at e; cases e
    have d':Data.seq vs.toArray _=Data.dict es ep:=d
    cases d'
  have nsK:∀ {b:Addr} {m:Str→Option Value},s₁.heap.Ns b m→(zdc s₁.heap H).Ns b m:=λ{b m} ⟨o,es,ep,e,d,r⟩=>⟨o,es,ep,base_of e (noA e d),d,r⟩
  have hKb:K.In (zdc s₁.heap H):=λb o e=>base_of (KX b o e) (by
   cases q:H b with
   | none=>rfl
   | some u=>
    have e':b=a:=hA b (by rw[q]; simp)
    subst e'
    rw[hK (by rw[q]; simp)] at e; cases e)
  have hM:Mod K mg (zdc s₁.heap H):=⟨hKb,nsK hns,⟨mb,nsK hb,hbb⟩,let ⟨mc,h1,h2⟩:=hlim; ⟨mc,nsK h1,h2⟩⟩
  have e0:zdN P w K mg (zdc s₁.heap H) callerA [] s₁ H:=⟨rfl,hM,λb o e=>ztc e,Nat.le_of_eq (zuP _ _),trivial,λb hb=>absurd (show b∈([]:List Addr) from hb) (by simp),hok,.of_eq hg⟩
  refine codeAny_mono ((F _ hKb (nsK hns)).run callerA [] s₁ H ⟨[.ref a],[]⟩ [.ref a] [.ref a] _ _ hr e0 (hbind s₁ (.ref a)) (.cons rfl .nil) (hsp H hO hS)) λr s' h=>?_
  cases r with
  | error e=>exact(hCX H e s' h).elim
  | ok fl=>
   cases fl with
   | next=>exact False.elim h
   | brk=>exact False.elim h
   | cont=>exact False.elim h
   | ret u=>
    obtain⟨v,H',os,bare,un,hok',r',q⟩:=h
    have q':v=.bl true:=q
    subst q'
    obtain rfl:u=Value.bool true:=r'
    refine⟨rfl,OldK.of_keep λb o e=>?_,os,bare⟩
    cases q:H b with
    | none=>exact un.keep b o e q (by intro z; exact absurd (show b∈([]:List Addr) from z) (by simp)) (by simp)
    | some u=>
     rcases hO b with z | ⟨ob,xs,z⟩
     ·rw[q] at z; cases z
     ·have z2:=un.frzs b ob _ z
      obtain⟨e1,_⟩:=hok b _ z
      obtain⟨e2,_⟩:=hok' b _ z2
      rw[e] at e1; cases e1
      exact e2
 cases hk:K.lookup a with
 | some o=>
  have e:=KX a o hk
  rw[ha] at e
  cases e
  refine core (λ_=>none) (λ_=>.inl rfl) (.inr ⟨_,vs.toArray,_,hk,rfl,rfl,rfl,by rw[Vat,lenV]; exact hl,by simpa using rv⟩) (λb u z=>by have z':(none:Option HO)=some u:=z; cases z') (λb z=>absurd rfl z) λz=>absurd rfl z
 | none=>
  refine core (λb=>if b=a then some (.frz { cls:=.type "list",data:=.seq vs.toArray } (.lst (ns.map V.int))) else none) (λb=>?_) (.inl (.inr ⟨{ cls:=.type "list",data:=.seq vs.toArray },if_pos rfl⟩)) (λb u z=>?_) (λb z=>?_) λ_=>hk
  ·by_cases hb:b=a
   ·exact .inr ⟨_,_,if_pos hb⟩
   ·exact .inl (if_neg hb)
  ·by_cases hb:b=a
   ·have z':=(if_pos hb).symm.trans z
    cases z'
    subst hb
    exact⟨ha,by rw[Vab]; exact hl,vs,_,rv,ha⟩
   ·have z':=(if_neg hb).symm.trans z
    cases z'
  ·by_cases hb:b=a
   ·exact hb
   ·exact absurd (if_neg hb) z
end L2
namespace L2
open PySem PySem.Spec PyProof.Rows
theorem zso {l:PySem.W.OpenLaw}{n k:Nat}{q:Program}{loose:List Str}{XP:(Str→Option Value)→Heap→Prop}{YP:World→Heap→Prop}{d:DefRec}{K:Params→PySem.W.Frag}{CX:World→CXT}{sp:World→Sp}{x:Str}
  (hn:l.most=some n)(hn2:n≤sizeLine)(hdf:d.params.defaults=[])(hr:zaT k callerA)
  (hY:∀(w:World) (h:Heap),YP w h→(K w.params).In h)
  (F:∀(w:World) (mg:Str→Option Value) (fa:Addr) (h:Heap),(K w.params).In h→h.Ns mainGlobals mg→mg d.name=some (.ref fa)→
   ∃fd:FuncData,(∀(s:Shared) (u:Value),BindsTo s fd ⟨[u],[]⟩ [(x,u)])∧
    ∀base:Heap,(K w.params).In base→base.Ns mainGlobals mg→zbq l.prog w (K w.params) mg base (CX w) k fa fd [x] (sp w))
  (hsp:∀(w:World) (H:Hp) (a:Addr) (ns:List Int),ns.length≤n→zgO H→SqL (K w.params) H a (ns.map V.int)→sp w [.ref a] H (λv _=>v=.bl true) λ_ _ _=>False)
  (hCX:∀(w:World) (H:Hp) (s:Shared) (e:Value) (s':Shared),CX w [] H s (λ_ _ _=>False) e s'→False):
  PySem.W.WalkO q loose XP YP l.row.toRowW d [] (λf vs=>PySem.call f vs):=by
 refine Att.attach_call hn hdf λw s₀ s₁ mg mb fa o pm cd doc a vs ns G Y ho hd hcd hmg hobj hints hlen hg=>?_
 have KX:=hY w _ Y
 obtain⟨fd,hb,hF⟩:=F w mg fa _ KX G.T.g hmg
 exact zu2 KX G.T.g G.T.b G.T.builtins G.T.nolimit hg hobj hints (VaB hlen hn2) hr hF hb (λH hO hS=>hsp w H a ns hlen hO hS) λH e s'=>hCX w H s₁ e s'
end L2
namespace L2
open PySem PySem.Spec PyProof.Rows
structure Fun (K:PySem.W.Frag)(x qual:Str)(st:Stmt)(f:Addr)(fd:FuncData):Prop where
 ex:∃(oc:Value) (od:Option Addr) (kV doc pm:Value) (an:Option Addr) (cdv ct:Value) (osl:Array (Option Value)),
  fd=PySem.W.fnOf x qual (zer st) (zd2 st) (zam st) .none kV doc pm an cdv ct∧K.lookup f=some ⟨oc,od,.func fd,osl⟩∧PySem.W.codeIn K cdv qual=true
 kp:PySem.W.keepIn K (.ref f)=true
section
variable {P:Program}{w:World}{K:PySem.W.Frag}{mg:Str→Option Value}{base:Heap}
theorem Fun.binds {x qual:Str}{st:Stmt}{f:Addr}{fd:FuncData}{ps:List Str}(F:Fun K x qual st f fd)
  (h:∀(kV doc pm:Value) (an:Option Addr) (cdv ct:Value) (us:List Value),us.length=ps.length→bindArgs (PySem.W.fnOf x qual (zer st) (zd2 st) (zam st) .none kV doc pm an cdv ct) ⟨us,[]⟩=pure (ps.zip us)):zbQ K fd ps []:=by
 obtain⟨oc,od,kV,doc,pm,an,cdv,ct,osl,rfl,lk,hcd⟩:=F.ex
 exact .all (h kV doc pm an cdv ct)
theorem zkW {x qual:Str}{st:Stmt}{f:Addr}{oc:Value}{od an:Option Addr}{osl:Array (Option Value)}{kV doc pm cdv ct:Value}(l:K.lookup f=some ⟨oc,od,.func (PySem.W.fnOf x qual (zer st) (zd2 st) (zam st) .none kV doc pm an cdv ct),osl⟩)
  (c:PySem.W.codeIn K cdv qual=true)(k:PySem.W.keepIn K (.ref f)=true):Fun K x qual st f (PySem.W.fnOf x qual (zer st) (zd2 st) (zam st) .none kV doc pm an cdv ct):=⟨⟨oc,od,kV,doc,pm,an,cdv,ct,osl,rfl,l,c⟩,k⟩
end
theorem zhq {n:Nat}(h:n≤1000):n<sizeLine:=Nat.lt_of_le_of_lt h (by decide)
section
variable {X:Cx}
end
theorem zbm {A B:Prop}(h:B):if false=true then A else B:=by
 rw[if_neg Var]
 exact h
theorem zbM {A B:Prop}(h:A):if true=true then A else B:=by
 rw[if_pos rfl]
 exact h
theorem zcx {c A B:Prop} [Decidable c] (h1:c→A)(h2:¬ c→B):if c then A else B:=by
 by_cases h:c
 ·rw[if_pos h]
  exact h1 h
 ·rw[if_neg h]
  exact h2 h
end L2
namespace L2
open PySem PySem.Spec PyProof.Rows
section
variable {κ:Type} [DecidableEq κ]
end
abbrev KT (H:Hp):List (List Key×V)→List (List Key×Addr×Value)→Prop:=Paired λp q=>p.1=q.1∧H q.2.1=some (.tup (p.1.map kV))∧zaA p.2 q.2.2
section
variable {P:Program}{w:World}{H:Hp}{h:Heap}{a:Addr}
end
section
variable {X:Cx}{pins:List (Addr×Obj)}{σ:St}{H:Hp}{s:Shared}{a:Addr}{y v:V}{u r:Value}{o:Option V}{A:Around}{E:Value→Shared→Prop}
end
section
variable {X:Cx}{pins:List (Addr×Obj)}{σ:St}{H:Hp}{s:Shared}{a:Addr}{kvs:List (Key×V)}{k:Key}{u:Value}{A:Around}{E:Value→Shared→Prop}
end
section
variable {X:Cx}{o i e value:Expr}{pos pos' tpos:Pos}{td ty tv:TE}
end
section
variable {X:Cx}{pos:Pos}
end
structure M1 (X:Cx)(o:Expr)(m:Str)(apos:Pos)(e:Expr)(cpos:Pos):Prop where
 base:attributeBase o m X.env (eval o X.env)=eval o X.env
 few:((backTo cpos (starEach [e] X.env)).all (λx=>!x.1)&&(backToKw cpos (keywordEach [] X.env)).all (λx=>x.1.isSome)
 &&decide (([e]:List Expr).length+([]:List Keyword).length+(if ([]:List Keyword).isEmpty then 0 else 1)<30))=true
 line:(apos.endLine==cpos.line)=true
 trees:backTo cpos (starEach [e] X.env)=[(false,eval e X.env)]
structure M2 (X:Cx)(o:Expr)(m:Str)(apos:Pos)(e f:Expr)(cpos:Pos):Prop where
 base:attributeBase o m X.env (eval o X.env)=eval o X.env
 few:((backTo cpos (starEach [e,f] X.env)).all (λx=>!x.1)&&(backToKw cpos (keywordEach [] X.env)).all (λx=>x.1.isSome)
 &&decide (([e,f]:List Expr).length+([]:List Keyword).length+(if ([]:List Keyword).isEmpty then 0 else 1)<30))=true
 line:(apos.endLine==cpos.line)=true
 trees:backTo cpos (starEach [e,f] X.env)=[(false,eval e X.env),(false,eval f X.env)]
section
variable {X:Cx}{pins:List (Addr×Obj)}{σ:St}{H:Hp}{s:Shared}{a:Addr}{y d:V}{u r:Value}{o:Option V}{A:Around}{E:Value→Shared→Prop}
end
section
variable {X:Cx}{o e f:Expr}{apos cpos:Pos}{td ty tx:TE}
end
section
variable {X:Cx}{pins:List (Addr×Obj)}{σ:St}{H:Hp}{s:Shared}{a:Addr}{kvs:List (Key×V)}{A:Around}{E:Value→Shared→Prop}
end
section
variable {X:Cx}{pins:List (Addr×Obj)}{σ:St}{H:Hp}{s:Shared}{a:Addr}{y:V}{u:Value}{A:Around}{E:Value→Shared→Prop}
end
end L2
namespace L3
open PySem PySem.Spec PyProof.Rows L2
abbrev St:=L2.St
inductive D where
 | non | bl (b:Bool) | int (i:Int) | str (x:Str) | tup (xs:List D) | ref (n:Nat) | exc (c:Addr)
inductive Ob where
 | lst (xs:List D) | frz (xs:List D)
  | ins (C:Addr) (fs:List (Str×D))
  | dct (kvs:List (List Key×D))
abbrev Sto:=List Ob
abbrev Ev:=List (Option D)
abbrev DK:=D→Sto→Prop
abbrev TDE:=Ev→Sto→DK→Prop
abbrev TDT:=Ev→Sto→(Bool→Sto→Prop)→Prop
abbrev TDA:=Ev→Sto→(List D→Sto→Prop)→Prop
structure zdh where
 nx:Ev→Sto→Prop
 rt:DK
 bk:Ev→Sto→Prop:=λ_ _=>False
 ct:Ev→Sto→Prop:=λ_ _=>False
abbrev TDS:=zdh→Ev→Sto→Prop
def isX (a c:Addr):HO:=.ext λh=>∃o,h.get? a=some o∧o.cls=.ref c
inductive Rp (r:List Addr)(H:Hp):D→V→Prop
 | non:Rp r H .non .non
 | bl (b:Bool):Rp r H (.bl b) (.bl b)
 | int (i:Int):Rp r H (.int i) (.int i)
 | str (x:Str):Rp r H (.str x) (.str x)
 | tup {ds:List D} {xs:List V} {a:Addr}:H a=some (.tup xs)→ds.length=xs.length→(∀(i:Nat) (d:D) (v:V),ds[i]?=some d→xs[i]?=some v→Rp r H d v)→Rp r H (.tup ds) (.ref a)
 | ref {n:Nat} {a:Addr}:r[n]?=some a→Rp r H (.ref n) (.ref a)
 | exc {c a:Addr}:H a=some (isX a c)→Rp r H (.exc c) (.ref a)
def Rps (r:List Addr)(H:Hp)(ds:List D)(vs:List V):Prop:=ds.length=vs.length∧∀(i:Nat) (d:D) (v:V),ds[i]?=some d→vs[i]?=some v→Rp r H d v
structure Ext (r r':List Addr)(H H':Hp):Prop where
 adr:∀(n:Nat) (a:Addr),r[n]?=some a→r'[n]?=some a
 tup:∀a xs,H a=some (.tup xs)→H' a=some (.tup xs)
 xc:∀a c,H a=some (isX a c)→H' a=some (isX a c)
section
variable {r r' r2:List Addr}{H H' H2:Hp}{d:D}{v:V}{ds:List D}{vs:List V}
theorem Ext.refl:Ext r r H H:=⟨λ_ _ h=>h,λ_ _ h=>h,λ_ _ h=>h⟩
theorem Ext.trans (a:Ext r r' H H')(b:Ext r' r2 H' H2):Ext r r2 H H2:=⟨λn x h=>b.adr n x (a.adr n x h),λx y h=>b.tup x y (a.tup x y h),λx y h=>b.xc x y (a.xc x y h)⟩
theorem Rp.ext (h:Rp r H d v)(e:Ext r r' H H'):Rp r' H' d v:=by
 induction h with
 | non=>exact .non
 | bl b=>exact .bl b
 | int i=>exact .int i
 | str x=>exact .str x
 | tup h l _ ih=>exact .tup (e.tup _ _ h) l ih
 | ref h=>exact .ref (e.adr _ _ h)
 | exc h=>exact .exc (e.xc _ _ h)
theorem Rps.ext (h:Rps r H ds vs)(e:Ext r r' H H'):Rps r' H' ds vs:=⟨h.1,λi d v h1 h2=>(h.2 i d v h1 h2).ext e⟩
theorem Rps.nil:Rps r H [] []:=⟨rfl,λi d v h=>by simp at h⟩
theorem Rps.cons (h:Rp r H d v)(t:Rps r H ds vs):Rps r H (d::ds) (v::vs):=by
 refine⟨by simp[t.1],λi x y h1 h2=>?_⟩
 cases i with
 | zero=>
  simp at h1 h2
  subst h1; subst h2
  exact h
 | succ i=>exact t.2 i x y (by simpa using h1) (by simpa using h2)
theorem Rps.tail {y:V}(h:Rps r H (d::ds) (y::vs)):Rp r H d y∧Rps r H ds vs:=
 ⟨h.2 0 d y rfl rfl,by simpa using h.1,λi a b h1 h2=>h.2 (i+1) a b (by simpa using h1) (by simpa using h2)⟩
theorem Rps.uncons (h:Rps r H (d::ds) vs):∃v vs',vs=v::vs'∧Rp r H d v∧Rps r H ds vs':=by
 cases vs with
 | nil=>exact absurd h.1 (by simp)
 | cons v vs'=>exact⟨v,vs',rfl,h.tail⟩
theorem Rps.unnil (h:Rps r H [] vs):vs=[]:=by
 cases vs with
 | nil=>rfl
 | cons v vs'=>exact absurd h.1 (by simp)
theorem Rps.get {i:Nat}(h:Rps r H ds vs)(e:ds[i]?=some d):∃v,vs[i]?=some v∧Rp r H d v:=by
 have hi:i<ds.length:=(Vad.mp e).1
 have hv:i<vs.length:=by rw[← h.1]; exact hi
 exact⟨vs[i],by simp[hv],h.2 i d vs[i] e (by simp[hv])⟩
theorem Rps.get' {i:Nat}(h:Rps r H ds vs)(e:vs[i]?=some v):∃d,ds[i]?=some d∧Rp r H d v:=by
 have hv:i<vs.length:=(Vad.mp e).1
 have hi:i<ds.length:=by rw[h.1]; exact hv
 exact⟨ds[i],by simp[hi],h.2 i ds[i] v (by simp[hi]) e⟩
theorem Rps.snoc (h:Rps r H ds vs)(t:Rp r H d v):Rps r H (ds++[d]) (vs++[v]):=by
 refine⟨by simp[h.1],λi x y h1 h2=>?_⟩
 by_cases hi:i<ds.length
 ·rw[Val hi] at h1
  rw[Val (by rw[← h.1]; exact hi)] at h2
  exact h.2 i x y h1 h2
 ·have hl:i<(ds++[d]).length:=(Vad.mp h1).1
  have e:i=ds.length:=by simp at hl; omega
  subst e
  rw[VaF (Vaa _)] at h1
  rw[h.1,VaF (Vaa _)] at h2
  simp at h1 h2
  subst h1; subst h2
  exact t
theorem Rps.tupR {a:Addr}(h:Rps r H ds vs)(e:H a=some (.tup vs)):Rp r H (.tup ds) (.ref a):=.tup e h.1 h.2
theorem Rp.untup {vs:V}(h:Rp r H (.tup ds) vs):∃a xs,vs=.ref a∧H a=some (.tup xs)∧Rps r H ds xs:=by
 cases h with
 | tup e l f=>exact⟨_,_,rfl,e,l,f⟩
end
def SqF (K:PySem.W.Frag)(H:Hp)(a:Addr)(xs:List V):Prop:=
 (∃o,H a=some (.frz o (.lst xs)))∨
  ∃(o:Obj) (its:Array Value) (n:Nat),K.lookup a=some o∧o.cls=.type "list"∧o.dict=none∧o.data=.seq its n∧its.size≤sizeLine∧zaB xs its.toList
theorem SqF.sql {K:PySem.W.Frag}{H:Hp}{a:Addr}{xs:List V}(h:SqF K H a xs):SqL K H a xs:=by
 rcases h with ⟨o,h⟩ | h
 ·exact .inl (.inr ⟨o,h⟩)
 ·exact .inr h
def FR {α:Type}(r:List Addr)(H:Hp)(fs:List (α×D))(fs':List (α×V)):Prop:=fs.map (·.1)=fs'.map (·.1)∧Rps r H (fs.map (·.2)) (fs'.map (·.2))
theorem FR.ext {α:Type}{r r':List Addr}{H H':Hp}{fs:List (α×D)}{fs':List (α×V)}(h:FR r H fs fs')(e:Ext r r' H H'):FR r' H' fs fs':=⟨h.1,h.2.ext e⟩
theorem FR.nil {α:Type}{r:List Addr}{H:Hp}:FR (α:=α) r H [] []:=⟨rfl,Rps.nil⟩
def ObR (K:PySem.W.Frag)(r:List Addr)(H:Hp)(a:Addr):Ob→Prop
 | .lst ds=>∃xs,H a=some (.lst xs)∧Rps r H ds xs
 | .frz ds=>∃xs,SqF K H a xs∧Rps r H ds xs
 | .ins C fs=>∃dx fs',H a=some (.ins C dx fs')∧FR r H fs fs'
 | .dct kvs=>∃kvs',H a=some (.dT kvs')∧FR r H kvs kvs'
def zd1:Ob→Bool
 | .frz _=>false
 | _=>true
structure za0 (K:PySem.W.Frag)(r:List Addr)(S:Sto)(H:Hp):Prop where
 len:r.length=S.length
 ob:∀(n:Nat) (a:Addr) (o:Ob),r[n]?=some a→S[n]?=some o→ObR K r H a o
 nd:∀(n m:Nat) (a:Addr) (o u:Ob),r[n]?=some a→r[m]?=some a→S[n]?=some o→S[m]?=some u→zd1 o=true→zd1 u=true→n=m
def zao:Ob→List D
 | .lst ds=>ds
 | .frz ds=>ds
 | _=>[.exc 0]
def zbX:Ob→Option Ob
 | .lst ds=>some (.lst ds)
 | .frz ds=>some (.frz ds)
 | _=>none
def lAt (S:Sto)(n:Nat):Option Ob:=(S[n]?).bind zbX
theorem zwL {o u:Ob}(h:zbX o=some u):u=o:=by
 cases o <;> simp[zbX] at h <;> exact h.symm
theorem zbx {S:Sto}{n:Nat}{o:Ob}(h:lAt S n=some o):S[n]?=some o∧zbX o=some o:=by
  unfold lAt at h
  cases q:S[n]? with
  | none=>
   rw[q] at h
   cases h
  | some u=>
    rw[q] at h
    have h':zbX u=some o:=h
    have e:=zwL h'
    subst e
    exact⟨rfl,h'⟩
theorem zaU {S:Sto}{n:Nat}{o:Ob}(h:S[n]?=some o)(hL:zbX o=some o):lAt S n=some o:=by
 unfold lAt
 rw[h]
 exact hL
section
variable {K:PySem.W.Frag}{r r':List Addr}{S:Sto}{H H':Hp}{n:Nat}{a p:Addr}
theorem za0.at {o:Ob}(h:za0 K r S H)(e:S[n]?=some o):∃a,r[n]?=some a∧ObR K r H a o:=by
 have hn:n<S.length:=(Vad.mp e).1
 have hr:n<r.length:=by rw[h.len]; exact hn
 exact⟨r[n],by simp[hr],h.ob n r[n] o (by simp[hr]) e⟩
theorem ObR.list {o:Ob}(h:ObR K r H a o)(hL:zbX o=some o):∃xs,SqL K H a xs∧Rps r H (zao o) xs:=by
 cases o with
 | lst ds=>obtain⟨xs,e,q⟩:=h; exact⟨xs,SqL.of e,q⟩
 | frz ds=>obtain⟨xs,e,q⟩:=h; exact⟨xs,e.sql,q⟩
 | ins C fs=>cases hL
 | dct kvs=>cases hL
theorem ObR.keep {o:Ob}(q:ObR K r H a o)(x:Ext r r' H H')(ha:∀u,H a=some u→H' a=some u):ObR K r' H' a o:=by
 cases o with
 | lst ds=>obtain⟨xs,h3,h4⟩:=q; exact⟨xs,ha _ h3,h4.ext x⟩
 | frz ds=>
  obtain⟨xs,h3,h4⟩:=q
  refine⟨xs,?_,h4.ext x⟩
  rcases h3 with ⟨o,h3⟩ | h3
  ·exact .inl ⟨o,ha _ h3⟩
  ·exact .inr h3
 | ins C fs=>obtain⟨dx,fs',h3,h4⟩:=q; exact⟨dx,fs',ha _ h3,h4.ext x⟩
 | dct kvs=>obtain⟨ks,h3,h4⟩:=q; exact⟨ks,ha _ h3,h4.ext x⟩
theorem ObR.own {o:Ob}(q:ObR K r H a o)(h:zd1 o=true):∃u,H a=some u∧(∀xs,u≠HO.tup xs)∧(∀b c,u≠isX b c)∧∀z y,u≠HO.frz z y:=by
 cases o with
 | lst ds=>obtain⟨xs,h3,h4⟩:=q; exact⟨_,h3,(λ_ z=>by cases z),(λ_ _ z=>by cases z),(λ_ _ z=>by cases z)⟩
 | frz ds=>cases h
 | ins C fs=>obtain⟨dx,fs',h3,h4⟩:=q; exact⟨_,h3,(λ_ z=>by cases z),(λ_ _ z=>by cases z),(λ_ _ z=>by cases z)⟩
 | dct kvs=>obtain⟨ks,h3,h4⟩:=q; exact⟨_,h3,(λ_ z=>by cases z),(λ_ _ z=>by cases z),(λ_ _ z=>by cases z)⟩
theorem za0.same (h:za0 K r S H)(e:∀b o,H b=some o→H' b=some o):za0 K r S H':=
 ⟨h.len,λn a o h1 h2=>(h.ob n a o h1 h2).keep ⟨λ_ _ q=>q,λa xs q=>e _ _ q,λa c q=>e _ _ q⟩ (e a),h.nd⟩
theorem zda {o:HO}(h:H p=none):∀b u,H b=some u→(upd H p o) b=some u:=λb u q=>by rw[za6 (zdI q h)]; exact q
theorem zjJ {n:Nat}{b:Addr}(e:(r++[p])[n]?=some b):(n<r.length∧r[n]?=some b)∨(n=r.length∧b=p):=by
 by_cases hn:n<r.length
 ·rw[Val hn] at e; exact .inl ⟨hn,e⟩
 ·have hl:n<(r++[p]).length:=(Vad.mp e).1
  have en:n=r.length:=by simp at hl; omega
  subst en
  rw[VaF (Vaa _)] at e
  simp at e
  exact .inr ⟨rfl,e.symm⟩
theorem za0.pushO {o:Ob}(h:za0 K r S H)(hp:H p=none)(keep:∀b u,H b=some u→H' b=some u)(q:Ext r (r++[p]) H H'→ObR K (r++[p]) H' p o):za0 K (r++[p]) (S++[o]) H'∧Ext r (r++[p]) H H':=by
 have x:Ext r (r++[p]) H H':=⟨λn a e=>by
  have hn:n<r.length:=(Vad.mp e).1
  rw[Val hn]; exact e,λa ys e=>keep _ _ e,λa c e=>keep _ _ e⟩
 have sS:∀ {n:Nat} {u:Ob},n<r.length→(S++[o])[n]?=some u→S[n]?=some u:=λ{n u} hn e=>by
  rw[Val (by rw[← h.len]; exact hn)] at e; exact e
 refine⟨⟨by simp[h.len],λn a u h1 h2=>?_,λn m a u w h1 h2 h3 h4 o1 o2=>?_⟩,x⟩
 ·rcases zjJ h1 with ⟨hn,e⟩ | ⟨rfl,rfl⟩
  ·exact(h.ob n a u e (sS hn h2)).keep x (keep a)
  ·rw[h.len,VaF (Vaa _)] at h2
   simp at h2
   subst h2
   exact q x
 ·rcases zjJ h1 with ⟨hn,e⟩ | ⟨rfl,rfl⟩
  ·rcases zjJ h2 with ⟨hm,e'⟩ | ⟨rfl,rfl⟩
   ·exact h.nd n m a u w e e' (sS hn h3) (sS hm h4) o1 o2
   ·obtain⟨zs,h5,_⟩:=(h.ob n _ _ e (sS hn h3)).own o1
    rw[hp] at h5; cases h5
  ·rcases zjJ h2 with ⟨hm,e'⟩ | ⟨rfl,_⟩
   ·obtain⟨zs,h5,_⟩:=(h.ob m _ _ e' (sS hm h4)).own o2
    rw[hp] at h5; cases h5
   ·rfl
theorem za0.push {ds:List D}{xs:List V}(h:za0 K r S H)(hp:H p=none)(q:Rps r H ds xs):za0 K (r++[p]) (S++[.lst ds]) (upd H p (.lst xs))∧Ext r (r++[p]) H (upd H p (.lst xs)):=
 h.pushO hp (zda hp) λx=>⟨xs,zcA,q.ext x⟩
theorem za0.setO {o o':Ob}{u:HO}(h:za0 K r S H)(hn:r[n]?=some a)(hS:S[n]?=some o)(ho:zd1 o=true)(ho':zd1 o'=true)(q:Ext r r H (upd H a u)→ObR K r (upd H a u) a o'):za0 K r (S.set n o') (upd H a u)∧Ext r r H (upd H a u):=by
 obtain⟨u0,h0,t1,t2,t3⟩:=(h.ob n a _ hn hS).own ho
 have x:Ext r r H (upd H a u):=⟨λ_ _ e=>e,λb zs e=>by
  rw[za6 (zn8 e h0 (λz=>t1 zs z.symm))]; exact e,λb c e=>by
  rw[za6 (zn8 e h0 (λz=>t2 b c z.symm))]; exact e⟩
 have hlt:n<S.length:=(Vad.mp hS).1
 have off:∀ {m:Nat} {w:Ob},m≠n→(S.set n o')[m]?=some w→S[m]?=some w:=λ{m w} hm e=>by
  rw[VaP (Ne.symm hm)] at e; exact e
 refine⟨⟨by simp[h.len],λm b w h1 h2=>?_,λm k b w y h1 h2 h3 h4 o1 o2=>?_⟩,x⟩
 ·by_cases hm:m=n
  ·subst hm
   rw[hn] at h1; cases h1
   rw[List.getElem?_set_self hlt] at h2
   cases h2
   exact q x
  ·have h2':=off hm h2
   have q':=h.ob m b w h1 h2'
   by_cases hw:zd1 w=true
   ·have hb:b≠a:=λz=>hm (by subst z; exact h.nd m n b w o h1 hn h2' hS hw ho)
    exact q'.keep x λz e=>by rw[za6 hb]; exact e
   ·cases w with
    | frz es=>
     obtain⟨zs,h3,h4⟩:=q'
     refine⟨zs,?_,h4.ext x⟩
     rcases h3 with ⟨z,h3⟩ | h3
     ·exact .inl ⟨z,by rw[za6 (zn8 h3 h0 (λy=>t3 _ _ y.symm))]; exact h3⟩
     ·exact .inr h3
    | _=>exact absurd rfl hw
 ·have back:∀ {j:Nat} {w:Ob},(S.set n o')[j]?=some w→zd1 w=true→∃y,S[j]?=some y∧zd1 y=true:=λ{j w} e ow=>by
   by_cases hj:j=n
   ·subst hj; exact⟨o,hS,ho⟩
   ·exact⟨w,off hj e,ow⟩
  obtain⟨us',h3',q3⟩:=back h3 o1
  obtain⟨ws',h4',q4⟩:=back h4 o2
  exact h.nd m k b us' ws' h1 h2 h3' h4' q3 q4
theorem za0.set {ds ds':List D}{xs:List V}(h:za0 K r S H)(hn:r[n]?=some a)(hS:S[n]?=some (.lst ds))(q:Rps r H ds' xs):za0 K r (S.set n (.lst ds')) (upd H a (.lst xs))∧Ext r r H (upd H a (.lst xs)):=
 h.setO hn hS rfl rfl λx=>⟨xs,zcA,q.ext x⟩
end
def Rs (r:List Addr)(H:Hp)(dl:Ev)(σ:St):Prop:=dl.length=σ.length∧∀(i:Nat) (d:D),dl[i]?=some (some d)→∃v,σ[i]?=some (some v)∧Rp r H d v
theorem Rs.ext {r r':List Addr}{H H':Hp}{dl:Ev}{σ:St}(h:Rs r H dl σ)(e:Ext r r' H H'):Rs r' H' dl σ:=⟨h.1,λi d q=>by
 obtain⟨v,h1,h2⟩:=h.2 i d q
 exact⟨v,h1,h2.ext e⟩⟩
theorem Rs.set {r:List Addr}{H:Hp}{dl:Ev}{σ:St}{d:D}{v:V}(i:Nat)(h:Rs r H dl σ)(q:Rp r H d v):Rs r H (dl.set i (some d)) (σ.set i (some v)):=by
 refine⟨by simp[h.1],λj e hj=>?_⟩
 by_cases hij:i=j
 ·subst hij
  have hl:i<dl.length:=by
   have:=(Vad.mp hj).1
   simpa using this
  rw[List.getElem?_set_self hl] at hj
  cases hj
  exact⟨v,by rw[List.getElem?_set_self (by rw[← h.1]; exact hl)],q⟩
 ·rw[VaP hij] at hj
  obtain⟨v',h1,h2⟩:=h.2 j e hj
  exact⟨v',by rw[VaP hij]; exact h1,h2⟩
structure Zx where
 ex:Ev→Addr→Sto→Prop
 w:St→XK
abbrev Zc (ex:Addr→Sto→Prop)(E:XK):Zx:=⟨λ_=>ex,λ_=>E⟩
def zen (K:PySem.W.Frag)(Z:Zx)(r:List Addr)(H:Hp):Prop:=∀(dl:Ev) (σ:St) (c:Addr) (H':Hp) (r':List Addr) (S':Sto),Ext r r' H H'→Rs r' H' dl σ→za0 K r' S' H'→Z.ex dl c S'→Z.w σ (.ref c) none H'
theorem zen.ext {K:PySem.W.Frag}{Z:Zx}{r r':List Addr}{H H':Hp}(h:zen K Z r H)(e:Ext r r' H H'):zen K Z r' H':=λdl σ c H2 r2 S2 x=>h dl σ c H2 r2 S2 (e.trans x)
structure Rel (K:PySem.W.Frag)(Z:Zx)(r:List Addr)(S:Sto)(H:Hp):Prop where
 b:za0 K r S H
 xw:zen K Z r H
section
variable {K:PySem.W.Frag}{Z:Zx}{r r':List Addr}{S:Sto}{H H':Hp}{n:Nat}{a p:Addr}
theorem Rel.len (h:Rel K Z r S H):r.length=S.length:=h.b.len
theorem Rel.at {o:Ob}(h:Rel K Z r S H)(e:S[n]?=some o):∃a,r[n]?=some a∧ObR K r H a o:=h.b.at e
theorem Rel.same (h:Rel K Z r S H)(e:∀b o,H b=some o→H' b=some o):Rel K Z r S H':=⟨h.b.same e,h.xw.ext ⟨λ_ _ q=>q,λa xs q=>e _ _ q,λa c q=>e _ _ q⟩⟩
theorem Rel.push {ds:List D}{xs:List V}(h:Rel K Z r S H)(hp:H p=none)(q:Rps r H ds xs):Rel K Z (r++[p]) (S++[.lst ds]) (upd H p (.lst xs))∧Ext r (r++[p]) H (upd H p (.lst xs)):=by
 obtain⟨h1,h2⟩:=h.b.push hp q
 exact⟨⟨h1,h.xw.ext h2⟩,h2⟩
theorem Rel.set {ds ds':List D}{xs:List V}(h:Rel K Z r S H)(hn:r[n]?=some a)(hS:S[n]?=some (.lst ds))(q:Rps r H ds' xs):Rel K Z r (S.set n (.lst ds')) (upd H a (.lst xs))∧Ext r r H (upd H a (.lst xs)):=by
 obtain⟨h1,h2⟩:=h.b.set hn hS q
 exact⟨⟨h1,h.xw.ext h2⟩,h2⟩
end
def Ret (K:PySem.W.Frag)(Z:Zx)(r:List Addr)(H:Hp)(Q:DK)(Qv:VK):Prop:=∀v H' r' d S',Ext r r' H H'→Rel K Z r' S' H'→Rp r' H' d v→Q d S'→Qv v H'
theorem Ret.ext {K:PySem.W.Frag}{Z:Zx}{r r':List Addr}{H H':Hp}{Q:DK}{Qv:VK}(h:Ret K Z r H Q Qv)(e:Ext r r' H H'):Ret K Z r' H' Q Qv:=λv H2 r2 d S2 x=>h v H2 r2 d S2 (e.trans x)
def up (K:PySem.W.Frag)(Z:Zx)(t:TDE):TE:=λσ H Qv=>∃r dl S Q,Rs r H dl σ∧Rel K Z r S H∧t dl S Q∧Ret K Z r H Q Qv
def upT (K:PySem.W.Frag)(Z:Zx)(t:TDT):TT:=λσ H Qb=>∃r dl S Q,Rs r H dl σ∧Rel K Z r S H∧t dl S Q∧∀b H' r' S',Ext r r' H H'→Rel K Z r' S' H'→Q b S'→Qb b H'
def upA (K:PySem.W.Frag)(Z:Zx)(t:TDA):TA:=λσ H Qv=>∃r dl S Q,Rs r H dl σ∧Rel K Z r S H∧t dl S Q∧∀vs H' r' ds S',Ext r r' H H'→Rel K Z r' S' H'→Rps r' H' ds vs→Q ds S'→Qv vs H'
structure zjV (K:PySem.W.Frag)(Z:Zx)(r:List Addr)(H:Hp)(E:zdh)(F:zdX):Prop where
 nx:∀σ' H' r' dl' S',Ext r r' H H'→Rs r' H' dl' σ'→Rel K Z r' S' H'→E.nx dl' S'→F.nx σ' H'
 bk:∀σ' H' r' dl' S',Ext r r' H H'→Rs r' H' dl' σ'→Rel K Z r' S' H'→E.bk dl' S'→F.bk σ' H'
 ct:∀σ' H' r' dl' S',Ext r r' H H'→Rs r' H' dl' σ'→Rel K Z r' S' H'→E.ct dl' S'→F.ct σ' H'
 rt:Ret K Z r H E.rt F.rt
theorem zjV.ext {K:PySem.W.Frag}{Z:Zx}{r r':List Addr}{H H':Hp}{E:zdh}{F:zdX}(h:zjV K Z r H E F)(e:Ext r r' H H'):zjV K Z r' H' E F:=
 ⟨λa b c d f x=>h.nx a b c d f (e.trans x),λa b c d f x=>h.bk a b c d f (e.trans x),λa b c d f x=>h.ct a b c d f (e.trans x),h.rt.ext e⟩
def upS (K:PySem.W.Frag)(Z:Zx)(t:TDS):TS:=λF σ H=>∃r dl S E,Rs r H dl σ∧Rel K Z r S H∧t E dl S∧zjV K Z r H E F
def PD (X:Cx)(Z:Zx)(e:Expr)(t:TDE):Prop:=PE X e (up X.K Z t)
def PDT (X:Cx)(Z:Zx)(e:Expr)(t:TDT):Prop:=PT X e (upT X.K Z t)
def PDW (X:Cx)(Z:Zx)(e:Expr)(t:TDT):Prop:=PW X e (upT X.K Z t)
def PDA (X:Cx)(Z:Zx)(es:List Expr)(t:TDA):Prop:=PA X es (upA X.K Z t)
def PDS (X:Cx)(Z:Zx)(st:Stmt)(t:TDS):Prop:=PS X st (upS X.K Z t)
def zcI (X:Cx)(Z:Zx)(st:List Stmt)(t:TDS):Prop:=PSs X st (upS X.K Z t)
section
variable {X:Cx}{Z:Zx}
theorem zbc {e:Expr}{t t':TE}(h:PE X e t)(f:∀σ H Q,t' σ H Q→t σ H Q):PE X e t':=λpins s σ H Q I q=>h pins s σ H Q I (f σ H Q q)
theorem zlA {e:Expr}{t t':TT}(h:PT X e t)(f:∀σ H Q,t' σ H Q→t σ H Q):PT X e t':=λpins s σ H Q I q=>h pins s σ H Q I (f σ H Q q)
theorem zpE {e:Expr}{t t':TT}(h:PW X e t)(f:∀σ H Q,t' σ H Q→t σ H Q):PW X e t':=λwh pins s σ H Q I q=>h wh pins s σ H Q I (f σ H Q q)
theorem zpU {e:List Expr}{t t':TA}(h:PA X e t)(f:∀σ H Q,t' σ H Q→t σ H Q):PA X e t':=λpos pins s σ H Q I q=>h pos pins s σ H Q I (f σ H Q q)
theorem zb0 {e:Stmt}{t t':TS}(h:PS X e t)(f:∀F σ H,t' F σ H→t F σ H):PS X e t':=λpins s σ H F I q=>h pins s σ H F I (f F σ H q)
theorem zrK {e:List Stmt}{t t':TS}(h:PSs X e t)(f:∀F σ H,t' F σ H→t F σ H):PSs X e t':=λpins s σ H F I q=>h pins s σ H F I (f F σ H q)
theorem PDW.pt {e:Expr}{t:TDT}(h:PDW X Z e t):PDT X Z e t:=PW.pt h
def zcC (i:Nat):TDE:=λdl S Q=>match dl[i]? with
 | some (some d)=>Q d S
 | _=>False
def dC (d:D):TDE:=λ_ S Q=>Q d S
theorem ztJ {e:Expr}{i:Nat}(h:PE X e (tVar i)):PD X Z e (zcC i):=zbc h λσ H Qv ⟨r,dl,S,Q,rs,rel,q,ret⟩=>by
 unfold zcC at q
 split at q
 ·rename_i d e
  obtain⟨v,h1,h2⟩:=rs.2 i d e
  exact⟨v,h1,ret v H r d S Ext.refl rel h2 q⟩
 ·exact q.elim
theorem dv (i:Nat){x:Str}{pos:Pos}(hN:X.N[i]?=some x:=by rfl)(hv:Vis X.env.scope x:=by first | exact Or.inl rfl | exact Or.inr (Or.inl rfl) | exact Or.inr (Or.inr rfl))(hd:(x==("__debug__":Str))=false:=by decide)
  (hcd:(x==("__classdict__":Str))=false:=by decide):PD X Z (.Name x pos) (zcC i):=ztJ (zwC hN hv hd hcd)
theorem znc {e:Expr}{d:D}{v:V}(h:PE X e (tC v))(q:∀r H,Rp r H d v):PD X Z e (dC d):=zbc h λσ H Qv ⟨r,dl,S,Q,rs,rel,h,ret⟩=>ret v H r d S Ext.refl rel (q r H) h
theorem zab {i j pos}:PD X Z (.Constant (.int i) j pos) (dC (.int i)):=znc zwp λ_ _=>.int i
theorem zb7 {b j pos}:PD X Z (.Constant (.bool b) j pos) (dC (.bl b)):=znc pe_bl λ_ _=>.bl b
theorem zfb {j pos}:PD X Z (.Constant .none j pos) (dC .non):=znc zyk λ_ _=>.non
theorem za1 {x j pos}:PD X Z (.Constant (.str x) j pos) (dC (.str x)):=znc zub λ_ _=>.str x
abbrev W2:=D→D→Sto→DK→Prop
abbrev W1:=D→Sto→DK→Prop
def upO (K:PySem.W.Frag)(Z:Zx)(w:W2):R2:=λx y H Qv=>∃r S dx dy Q,Rel K Z r S H∧Rp r H dx x∧Rp r H dy y∧w dx dy S Q∧Ret K Z r H Q Qv
def upU (K:PySem.W.Frag)(Z:Zx)(w:W1):V→Hp→VK→Prop:=λx H Qv=>∃r S dx Q,Rel K Z r S H∧Rp r H dx x∧w dx S Q∧Ret K Z r H Q Qv
def dOp (w:W2)(ta tb:TDE):TDE:=λdl S Q=>ta dl S λx S1=>tb dl S1 λy S2=>w x y S2 Q
def dUn (w:W1)(ta:TDE):TDE:=λdl S Q=>ta dl S λx S1=>w x S1 Q
variable {a b c:Expr}{ta tb tc:TDE}{pos:Pos}
theorem zjq {w:W2}{σ:St}{H:Hp}{Qv:VK}(h:up X.K Z (dOp w ta tb) σ H Qv):tOp (upO X.K Z w) (up X.K Z ta) (up X.K Z tb) σ H Qv:=by
 obtain⟨r,dl,S,Q,rs,rel,h,ret⟩:=h
 exact⟨r,dl,S,_,rs,rel,h,λv H1 r1 dx S1 e1 rel1 p1 h1=>⟨r1,dl,S1,_,rs.ext e1,rel1,h1,λv2 H2 r2 dy S2 e2 rel2 p2 h2=>⟨r2,S2,dx,dy,Q,rel2,p1.ext e2,p2,h2,ret.ext (e1.trans e2)⟩⟩⟩
theorem zad {op:Operator}{w:W2}(ho:OpR X (binaryOp op) (upO X.K Z w))(ha:PD X Z a ta)(hb:PD X Z b tb):PD X Z (.BinOp a op b pos) (dOp w ta tb):=zbc (pe_op ho ha hb) λ_ _ _ h=>zjq h
theorem zgB {op:UnaryOp}{w:W1}(ho:UnR X (unaryOp op) (upU X.K Z w))(ha:PD X Z a ta):PD X Z (.UnaryOp op a pos) (dUn w ta):=zbc (pe_un ho ha) λσ H Qv ⟨r,dl,S,Q,rs,rel,h,ret⟩=>
 ⟨r,dl,S,_,rs,rel,h,λv H1 r1 dx S1 e1 rel1 p1 h1=>⟨r1,S1,dx,Q,rel1,p1,h1,ret.ext e1⟩⟩
theorem zcU {op:CmpOp}{w:W2}(ho:OpR X (compareOp op) (upO X.K Z w))(ha:PD X Z a ta)(hb:PD X Z b tb)(hm:behindInMarks op b=false):PD X Z (.Compare a [op] [b] pos) (dOp w ta tb):=zbc (zwk ho ha hb hm) λ_ _ _ h=>zjq h
theorem zeS {f:Value→Value→Sem Value}{r r':R2}(h:OpR X f r)(g:∀x y H Q,r' x y H Q→r x y H Q):OpR X f r':=λpins s σ H x y v u Q I rx ry q=>h pins s σ H x y v u Q I rx ry (g x y H Q q)
theorem zv2 {f:Value→Sem Value}{r r':V→Hp→VK→Prop}(h:UnR X f r)(g:∀x H Q,r' x H Q→r x H Q):UnR X f r':=λpins s σ H x v Q I rx q=>h pins s σ H x v Q I rx (g x H Q q)
theorem zoI {f:Value}{r r':List V→Hp→VK→Prop}(h:zbo X f r)(g:∀x H Q,r' x H Q→r x H Q):zbo X f r':=λpins s σ H xs us Q I rx q=>h pins s σ H xs us Q I rx (g xs H Q q)
def wI (C:Int→Int→Prop)(g:Int→Int→D):W2:=λx y S Q=>match x,y with
 | .int i,.int j=>C i j∧Q (g i j) S
 | _,_=>False
def wI0 (g:Int→Int→D):W2:=λx y S Q=>match x,y with
 | .int i,.int j=>Q (g i j) S
 | _,_=>False
theorem opD {f:Value→Value→Sem Value}{C:Int→Int→Prop}{g:Int→Int→V}{g':Int→Int→D}(h:OpR X f (rI C g))(hg:∀r H i j,Rp r H (g' i j) (g i j)):OpR X f (upO X.K Z (wI C g')):=
 zeS h λx y H Qv ⟨r,S,dx,dy,Q,rel,px,py,q,ret⟩=>by
  cases px <;> cases py <;> first
   | exact⟨_,_,rfl,rfl,q.1,ret _ _ _ _ _ Ext.refl rel (hg _ _ _ _) q.2⟩
   | exact(show False from q).elim
theorem zfE {f:Value→Value→Sem Value}{g:Int→Int→V}{g':Int→Int→D}(h:OpR X f (rI0 g))(hg:∀r H i j,Rp r H (g' i j) (g i j)):OpR X f (upO X.K Z (wI0 g')):=
 zeS h λx y H Qv ⟨r,S,dx,dy,Q,rel,px,py,q,ret⟩=>by
  cases px <;> cases py <;> first
   | exact⟨_,_,rfl,rfl,ret _ _ _ _ _ Ext.refl rel (hg _ _ _ _) q⟩
   | exact(show False from q).elim
abbrev wAdd:W2:=wI0 λi j=>.int (i+j)
abbrev wSub:W2:=wI0 λi j=>.int (i-j)
abbrev ziE:W2:=wI IntMulOk λi j=>.int (i*j)
def CFd (_ j:Int):Prop:=0<j∧j.natAbs.log2<9000
abbrev wFdiv:W2:=wI CFd λi j=>.int (i/j)
def CFn (_ j:Int):Prop:=j≠0∧j.natAbs.log2<9000
abbrev zyf:W2:=wI CFn λi j=>.int (i.fdiv j)
abbrev wMod:W2:=wI (λ_ j=>0<j) λi j=>.int (i%j)
abbrev wPow:W2:=wI CPow λi j=>.int (i^j.toNat)
theorem zaO:OpR X (binaryOp .Add) (upO X.K Z wAdd):=zfE ztx λ_ _ _ _=>.int _
theorem zcg:OpR X (binaryOp .Sub) (upO X.K Z wSub):=zfE zwv λ_ _ _ _=>.int _
theorem zaJ:OpR X (binaryOp .Mult) (upO X.K Z ziE):=opD (opI λ_ _ _ _ _ _ _ hc q=>mul_int q hc) λ_ _ _ _=>.int _
theorem zdr:OpR X (binaryOp .FloorDiv) (upO X.K Z wFdiv):=opD (opI λi j _ _ _ _ _ hc q=>floordiv_int (by have h:0<j:=hc.1; omega) (by have h:0<j:=hc.1; rw[Int.fdiv_eq_ediv_of_nonneg i (by omega)]; exact q) (.inl (PyProof.noPylong_of_log2 hc.2))) λ_ _ _ _=>.int _
theorem zuN:OpR X (binaryOp .FloorDiv) (upO X.K Z zyf):=opD (opI λ_ _ _ _ _ _ _ hc q=>floordiv_int hc.1 q (.inl (PyProof.noPylong_of_log2 hc.2))) λ_ _ _ _=>.int _
theorem zbs:OpR X (binaryOp .Mod) (upO X.K Z wMod):=opD zr3 λ_ _ _ _=>.int _
theorem zuF:OpR X (binaryOp .Pow) (upO X.K Z wPow):=opD zrS λ_ _ _ _=>.int _
abbrev wLt:W2:=wI0 λi j=>.bl (decide (i<j))
abbrev wLe:W2:=wI0 λi j=>.bl (decide (i≤j))
abbrev wGt:W2:=wI0 λi j=>.bl (decide (j<i))
abbrev wGe:W2:=wI0 λi j=>.bl (decide (j≤i))
theorem zdZ:OpR X (compareOp .Lt) (upO X.K Z wLt):=zfE op_lt λ_ _ _ _=>.bl _
theorem zn3:OpR X (compareOp .LtE) (upO X.K Z wLe):=zfE op_le λ_ _ _ _=>.bl _
theorem zqp:OpR X (compareOp .Gt) (upO X.K Z wGt):=zfE op_gt λ_ _ _ _=>.bl _
theorem do_ge:OpR X (compareOp .GtE) (upO X.K Z wGe):=zfE op_ge λ_ _ _ _=>.bl _
def wNeg:W1:=λx S Q=>match x with
 | .int i=>Q (.int (-i)) S
 | _=>False
theorem zgb:UnR X (unaryOp .USub) (upU X.K Z wNeg):=zv2 zss λx H Qv ⟨r,S,dx,Q,rel,px,q,ret⟩=>by
 cases px <;> first
  | exact⟨_,rfl,ret _ _ _ _ _ Ext.refl rel (.int _) q⟩
  | exact(show False from q).elim
end
def eqF:D→D→Option Bool
 | .non,.non=>some true
 | .bl i,.bl j=>some (i==j)
 | .int i,.int j=>some (decide (i=j))
 | .str i,.str j=>some (decide (i=j))
 | .non,.int _=>some false | .int _,.non=>some false | .non,.bl _=>some false | .bl _,.non=>some false | .non,.str _=>some false | .str _,.non=>some false
 | .int _,.str _=>some false | .str _,.int _=>some false | .bl _,.str _=>some false | .str _,.bl _=>some false
 | _,_=>none
def eqL (f:D→D→Option Bool):List D→List D→Option Bool
 | [],[]=>some true
 | x::xs,y::ys=>match f x y,eqL f xs ys with
  | some b,some c=>some (b&&c)
  | _,_=>none
 | _,_=>some false
def eqT (f:D→D→Option Bool):D→D→Option Bool
 | .tup xs,.tup ys=>eqL f xs ys
 | x,y=>eqF x y
abbrev eq1:D→D→Option Bool:=eqT eqF
abbrev eq2:D→D→Option Bool:=eqT eq1
def zdx (n:Nat)(f:D→D→Option Bool):Prop:=∀(X:Cx) (pins:List (Addr×Obj)) (σ:St) (H:Hp) (s:Shared) (r:List Addr) (A:Around) (dx dy:D) (x y:V) (u v:Value) (b:Bool),
 Inv X pins σ H s→A.units+n<cLine→Rp r H dx x→Rp r H dy y→zaA x u→zaA y v→f dx dy=some b→SeqAt.EqAt A s u v b
def zfQ (f:D→D→Option Bool):Prop:=∀(r:List Addr) (H:Hp) (dx dy:D) (x:V) (b:Bool),Rp r H dx x→Rp r H dy x→f dx dy=some b→b=true
theorem ze5:zfQ eqF:=by
 intro r H dx dy x b px py e
 cases px <;> cases py <;> simp[eqF] at e <;> first | exact e.symm | exact e
theorem zqx {f:D→D→Option Bool}(hf:zfQ f){r:List Addr}{H:Hp}:∀ {xs ys:List D} {vs:List V} {b:Bool},Rps r H xs vs→Rps r H ys vs→eqL f xs ys=some b→b=true
 | [],[],_,b,_,_,e=>by simp[eqL] at e; exact e
 | [],y::ys,vs,b,p,q,e=>by
  have h1:=p.unnil
  subst h1
  exact absurd q.1 (by simp)
 | x::xs,[],vs,b,p,q,e=>by
  have h1:=q.unnil
  subst h1
  exact absurd p.1 (by simp)
 | x::xs,y::ys,vs,b,p,q,e=>by
  obtain⟨v,vs',rfl,p1,p2⟩:=p.uncons
  obtain⟨q1,q2⟩:=q.tail
  unfold eqL at e
  split at e
  ·rename_i b1 c1 e1 e2
   have h1:=hf r H x y v b1 p1 q1 e1
   have h2:=zqx hf p2 q2 e2
   subst h1; subst h2
   simp at e
   exact e
  ·cases e
theorem zpT {f:D→D→Option Bool}(hf:zfQ f):zfQ (eqT f):=by
 intro r H dx dy x b px py e
 cases px with
 | tup e1 l1 f1=>
  cases py with
  | tup e2 l2 f2=>
   rw[e1] at e2; cases e2
   exact zqx hf ⟨l1,f1⟩ ⟨l2,f2⟩ e
  | ref h=>simp[eqT,eqF] at e
  | exc h=>simp[eqT,eqF] at e
 | non=>exact ze5 r H _ _ _ b .non py (by cases py <;> exact e)
 | bl i=>exact ze5 r H _ _ _ b (.bl i) py (by cases py <;> exact e)
 | int i=>exact ze5 r H _ _ _ b (.int i) py (by cases py <;> exact e)
 | str i=>exact ze5 r H _ _ _ b (.str i) py (by cases py <;> exact e)
 | ref h=>cases py <;> simp[eqT,eqF] at e
 | exc h=>cases py <;> simp[eqT,eqF] at e
theorem zou (n:Nat):zdx n eqF:=by
 intro X pins σ H s r A dx dy x y u v b I hu px py rx ry e
 have fin:∀ {x y:V},zaA x u→zaA y v→zmx x=true→zmx y=true→eqV x y=b→SeqAt.EqAt A s u v b:=λrx ry fx fy e'=>by
  subst e'; exact zsJ rx ry fx fy
 cases px <;> cases py <;> simp[eqF] at e <;> refine fin rx ry rfl rfl ?_ <;> simp[eqV,e] <;> first | exact e | (subst e; simp) | skip
theorem zfT {X:Cx}{pins:List (Addr×Obj)}{σ:St}{H:Hp}{s:Shared}{a:Addr}{xs:List V}(I:Inv X pins σ H s)(h:H a=some (.tup xs)):∃its:List Value,zaB xs its∧IsTup s.heap a its.toArray∧xs.length≤sizeLine:=I.tuple (SqT.of h)
def zcD (f:D→D→Option Bool)(xs ys:List D)(j:Nat):Bool:=match xs[j]?,ys[j]? with
 | some x,some y=>(f x y).getD false
 | _,_=>false
theorem zrz {f:D→D→Option Bool}:∀ {xs ys:List D} {b:Bool},eqL f xs ys=some b→(∀(j:Nat) (x y:D),xs[j]?=some x→ys[j]?=some y→∃c,f x y=some c)∧((List.range (min xs.length ys.length)).all (zcD f xs ys)&&xs.length==ys.length)=b
 | [],[],b,e=>by simp[eqL] at e; subst e; simp
 | [],y::ys,b,e=>by simp[eqL] at e; subst e; simp
 | x::xs,[],b,e=>by simp[eqL] at e; subst e; simp
 | x::xs,y::ys,b,e=>by
  unfold eqL at e
  split at e
  ·rename_i b1 c1 e1 e2
   obtain⟨h1,h2⟩:=zrz e2
   refine⟨λj p q hp hq=>?_,?_⟩
   ·cases j with
    | zero=>simp at hp hq; subst hp; subst hq; exact⟨b1,e1⟩
    | succ j=>exact h1 j p q (by simpa using hp) (by simpa using hq)
   ·have z:min (x::xs).length (y::ys).length=min xs.length ys.length+1:=by simp[Nat.succ_min_succ]
    rw[z,List.range_succ_eq_map,List.all_cons,List.all_map]
    have e0:zcD f (x::xs) (y::ys) 0=b1:=by simp[zcD,e1]
    have es:(zcD f (x::xs) (y::ys) ∘ Nat.succ)=zcD f xs ys:=by funext j; simp[zcD]
    rw[e0,es]
    have e3:((x::xs).length==(y::ys).length)=(xs.length==ys.length):=by simp
    rw[e3,Bool.and_assoc,h2]
    simp at e
    exact e
  ·cases e
theorem zf5 {n:Nat}{f:D→D→Option Bool}(hf:zdx n f){X:Cx}{pins:List (Addr×Obj)}{σ:St}{H:Hp}{s:Shared}{r:List Addr}{A:Around}{xs ys:List D}{us vs:List V}{is js:List Value}{b:Bool}
  (I:Inv X pins σ H s)(hu:A.units+n<cLine)(p:Rps r H xs us)(q:Rps r H ys vs)(ri:zaB us is)(rj:zaB vs js)(e:eqL f xs ys=some b):
  (∀j (h1:j<is.toArray.size) (h2:j<js.toArray.size),SeqAt.EqAt A s is.toArray[j] js.toArray[j] (zcD f xs ys j))∧((List.range (min is.toArray.size js.toArray.size)).all (zcD f xs ys)&&is.toArray.size==js.toArray.size)=b:=by
 obtain⟨h1,h2⟩:=zrz e
 have l1:is.toArray.size=xs.length:=by rw[Vat,← ri.length,p.1]
 have l2:js.toArray.size=ys.length:=by rw[Vat,← rj.length,q.1]
 refine⟨λj hj1 hj2=>?_,by rw[l1,l2]; exact h2⟩
 have k1:j<xs.length:=by omega
 have k2:j<ys.length:=by omega
 have g1:xs[j]?=some xs[j]:=by simp[k1]
 have g2:ys[j]?=some ys[j]:=by simp[k2]
 obtain⟨x,gx,px⟩:=p.get g1
 obtain⟨y,gy,py⟩:=q.get g2
 obtain⟨u,gu,ru⟩:=ri.get gx
 obtain⟨v,gv,rv⟩:=rj.get gy
 obtain⟨c,hc⟩:=h1 j _ _ g1 g2
 have eu:is.toArray[j]=u:=by
  have z:=Vad.mp gu
  simpa using z.2
 have ev:js.toArray[j]=v:=by
  have z:=Vad.mp gv
  simpa using z.2
 have ec:zcD f xs ys j=c:=by simp[zcD,g1,g2,hc]
 rw[eu,ev,ec]
 exact hf X pins σ H s r A _ _ x y u v c I hu px py ru rv hc
theorem zrt {n:Nat}{f:D→D→Option Bool}(hf:zdx n f)(hs:zfQ f):zdx (n+1) (eqT f):=by
 intro X pins σ H s r A dx dy x y u v b I hu px py rx ry e
 have flat:∀ {dx dy:D} {x y:V},Rp r H dx x→Rp r H dy y→zaA x u→zaA y v→eqF dx dy=some b→SeqAt.EqAt A s u v b:=λpx py rx ry e=>zou (n+1) X pins σ H s r A _ _ _ _ u v b I hu px py rx ry e
 cases px with
 | @tup ds xs a e1 l1 f1=>
  cases py with
  | @tup es ys a' e2 l2 f2=>
   cases rx
   cases ry
   by_cases z:a=a'
   ·subst z
    have hb:=zpT hs r H _ _ _ b (.tup e1 l1 f1) (.tup e2 l2 f2) e
    subst hb
    exact SeqAt.EqAt.same _
   ·obtain⟨is,ri,ti,_⟩:=zfT I e1
    obtain⟨js,rj,tj,_⟩:=zfT I e2
    obtain⟨g1,g2⟩:=zf5 (A:=A.in1) hf I (by show A.units+1+n<_; omega) ⟨l1,f1⟩ ⟨l2,f2⟩ ri rj e
    have q:=SeqAt.RcAt.tuples (A:=A) ti tj (by omega) g1
    rw[g2] at q
    exact SeqAt.EqAt.of_refs z q
  | ref h=>simp[eqT,eqF] at e
  | _=>simp[eqT,eqF] at e
 | non=>exact flat .non py rx ry (by cases py <;> exact e)
 | bl i=>exact flat (.bl i) py rx ry (by cases py <;> exact e)
 | int i=>exact flat (.int i) py rx ry (by cases py <;> exact e)
 | str i=>exact flat (.str i) py rx ry (by cases py <;> exact e)
 | ref h=>cases py <;> simp[eqT,eqF] at e
 | exc h=>cases py <;> simp[eqT,eqF] at e
theorem zrr (n:Nat):zdx (n+1) eq1:=zrt (zou n) ze5
def wEq (f:D→D→Option Bool):W2:=λx y S Q=>match f x y with
 | some b=>Q (.bl b) S
 | none=>False
def wNe (f:D→D→Option Bool):W2:=λx y S Q=>match f x y with
 | some b=>Q (.bl (!b)) S
 | none=>False
section
variable {X:Cx}{Z:Zx}
theorem zrm {r:List Addr}{H:Hp}{dx dy:D}{x y:V}{b:Bool}(px:Rp r H dx x)(py:Rp r H dy y)(e:eqF dx dy=some b):zlv x y=true∧decide (x=y)=b:=by
 cases px <;> cases py <;> simp[eqF] at e <;> simp[zlv] <;> first | exact e | (subst e; simp) | skip
theorem zqk {n:Nat}{f:D→D→Option Bool}(hf:zdx n f)(hu:X.A.units+1+n<cLine):OpR X (compareOp .Eq) (upO X.K Z (wEq (eqT f))):=by
 intro pins s σ H x y v u Qv I rx ry h
 obtain⟨r,S,dx,dy,Q,rel,px,py,q,ret⟩:=h
 unfold wEq at q
 split at q
 ·rename_i b e
  have flat:∀ {dx dy:D} {x y:V},Rp r H dx x→Rp r H dy y→zaA x v→zaA y u→eqF dx dy=some b→wpAny (model X.prog X.w) X.A (compareOp .Eq v u) (EP X pins σ Qv) X.xe s:=λpx py rx ry e=>by
   obtain⟨h1,h2⟩:=zrm px py e
   refine znI pins s σ H _ _ v u Qv I rx ry ⟨h1,?_⟩
   rw[h2]
   exact ret _ _ _ _ _ Ext.refl rel (.bl b) q
  cases px with
  | @tup ds xs a e1 l1 f1=>
   cases py with
   | @tup es ys a' e2 l2 f2=>
    cases rx
    cases ry
    obtain⟨is,ri,ti,_⟩:=zfT I e1
    obtain⟨js,rj,tj,_⟩:=zfT I e2
    obtain⟨g1,g2⟩:=zf5 (A:=X.A.in1) hf I (by show X.A.units+1+n<_; omega) ⟨l1,f1⟩ ⟨l2,f2⟩ ri rj e
    refine SeqAt.eq_tupleAt (A:=X.A) ti tj (by omega) g1 ?_
    rw[g2]
    exact⟨.bl b,H,I,rfl,ret _ _ _ _ _ Ext.refl rel (.bl b) q⟩
   | _=>simp[eqT,eqF] at e
  | non=>exact flat .non py rx ry (by cases py <;> exact e)
  | bl i=>exact flat (.bl i) py rx ry (by cases py <;> exact e)
  | int i=>exact flat (.int i) py rx ry (by cases py <;> exact e)
  | str i=>exact flat (.str i) py rx ry (by cases py <;> exact e)
  | ref h=>cases py <;> simp[eqT,eqF] at e
  | exc h=>cases py <;> simp[eqT,eqF] at e
 ·exact q.elim
theorem zut {n:Nat}{f:D→D→Option Bool}(hf:zdx n f)(hu:X.A.units+1+n<cLine):OpR X (compareOp .NotEq) (upO X.K Z (wNe (eqT f))):=by
 intro pins s σ H x y v u Qv I rx ry h
 obtain⟨r,S,dx,dy,Q,rel,px,py,q,ret⟩:=h
 unfold wNe at q
 split at q
 ·rename_i b e
  have flat:∀ {dx dy:D} {x y:V},Rp r H dx x→Rp r H dy y→zaA x v→zaA y u→eqF dx dy=some b→wpAny (model X.prog X.w) X.A (compareOp .NotEq v u) (EP X pins σ Qv) X.xe s:=λpx py rx ry e=>by
   obtain⟨h1,h2⟩:=zrm px py e
   refine op_ne pins s σ H _ _ v u Qv I rx ry ⟨h1,?_⟩
   rw[h2]
   exact ret _ _ _ _ _ Ext.refl rel (.bl (!b)) q
  cases px with
  | @tup ds xs a e1 l1 f1=>
   cases py with
   | @tup es ys a' e2 l2 f2=>
    cases rx
    cases ry
    obtain⟨is,ri,ti,_⟩:=zfT I e1
    obtain⟨js,rj,tj,_⟩:=zfT I e2
    obtain⟨g1,g2⟩:=zf5 (A:=X.A.in1) hf I (by show X.A.units+1+n<_; omega) ⟨l1,f1⟩ ⟨l2,f2⟩ ri rj e
    refine SeqAt.RcNeAt.tuples (A:=X.A) ti tj (by omega) g1 X.prog X.w _ _ ?_
    rw[g2]
    exact⟨.bl (!b),H,I,rfl,ret _ _ _ _ _ Ext.refl rel (.bl (!b)) q⟩
   | _=>simp[eqT,eqF] at e
  | non=>exact flat .non py rx ry (by cases py <;> exact e)
  | bl i=>exact flat (.bl i) py rx ry (by cases py <;> exact e)
  | int i=>exact flat (.int i) py rx ry (by cases py <;> exact e)
  | str i=>exact flat (.str i) py rx ry (by cases py <;> exact e)
  | ref h=>cases py <;> simp[eqT,eqF] at e
  | exc h=>cases py <;> simp[eqT,eqF] at e
 ·exact q.elim
theorem zaZ {k:Nat}(hr:zaT k X.A):OpR X (compareOp .Eq) (upO X.K Z (wEq eq2)):=zqk (zrr 0) (by have:=hr.un; omega)
theorem zfj {k:Nat}(hr:zaT k X.A):OpR X (compareOp .NotEq) (upO X.K Z (wNe eq2)):=zut (zrr 0) (by have:=hr.un; omega)
end
section
variable {X:Cx}{Z:Zx}{a b c:Expr}{ta tb tc:TDE}{pos:Pos}{rest:List Expr}
def zph (t:TDE):TDT:=λdl S Q=>t dl S λd S'=>match d with
 | .bl k=>Q k S'
 | _=>False
theorem znx {K:PySem.W.Frag}{Z:Zx}{r:List Addr}{H:Hp}{Q:Bool→Sto→Prop}{Qb:Bool→Hp→Prop}(h:∀b H' r' S',Ext r r' H H'→Rel K Z r' S' H'→Q b S'→Qb b H'):
  Ret K Z r H (λd S'=>match d with | .bl k=>Q k S' | _=>False) (λx H'=>∃k,x=.bl k∧Qb k H'):=λv H' r' d S' e rel p q=>by
 cases p with
 | bl k=>exact⟨k,rfl,h k H' r' S' e rel q⟩
 | _=>exact(show False from q).elim
theorem zaK {op:CmpOp}{w:W2}(ho:OpR X (compareOp op) (upO X.K Z w))(ha:PD X Z a ta)(hb:PD X Z b tb)(hm:behindInMarks op b=false):PDT X Z (.Compare a [op] [b] pos) (zph (dOp w ta tb)):=
 zlA (zvg ho ha hb hm) λσ H Qb ⟨r,dl,S,Q,rs,rel,h,ret⟩=>zjq ⟨r,dl,S,_,rs,rel,h,znx ret⟩
theorem zce {e:Expr}{t:TDE}(h:PD X Z e t)(he:∀whole,isTrue e X.env whole=(do let v ← whole; standAt e.pos; holding [v] (truthy v)):=by intro _; rfl):PDT X Z e (zph t):=
 zlA (zuR h he) λσ H Qb ⟨r,dl,S,Q,rs,rel,h,ret⟩=>⟨r,dl,S,_,rs,rel,h,znx ret⟩
def dNot (t:TDT):TDT:=λdl S Q=>t dl S λk S'=>Q (!k) S'
theorem zcY {t:TDT}(ha:PDT X Z a t):PDT X Z (.UnaryOp .Not a pos) (dNot t):=
 zlA (zzq ha) λσ H Qb ⟨r,dl,S,Q,rs,rel,h,ret⟩=>⟨r,dl,S,_,rs,rel,h,λk H' r' S' e rel' q=>ret (!k) H' r' S' e rel' q⟩
def dAnd (t u:TDT):TDT:=λdl S Q=>t dl S λk S1=>if k=true then u dl S1 Q else Q false S1
def dOr (t u:TDT):TDT:=λdl S Q=>t dl S λk S1=>if k=true then Q true S1 else u dl S1 Q
theorem zyO {t:TDT}(ha:PDT X Z a t):PDW X Z (.BoolOp .And [a] pos) t:=zsd ha
theorem zit {t:TDT}(ha:PDT X Z a t):PDW X Z (.BoolOp .Or [a] pos) t:=zzr ha
theorem zvv {t u:TDT}(ha:PDT X Z a t)(hb:PDW X Z (.BoolOp .And (b::rest) pos) u):PDW X Z (.BoolOp .And (a::b::rest) pos) (dAnd t u):=
 zpE (zsT ha hb) λσ H Qb ⟨r,dl,S,Q,rs,rel,h,ret⟩=>⟨r,dl,S,_,rs,rel,h,λk H1 r1 S1 e1 rel1 q1=>by
  cases k with
  | true=>exact zbM ⟨r1,dl,S1,Q,rs.ext e1,rel1,(by simpa using q1),λk' H2 r2 S2 e2=>ret k' H2 r2 S2 (e1.trans e2)⟩
  | false=>exact zbm (ret false H1 r1 S1 e1 rel1 (by simpa using q1))⟩
theorem zfA {t u:TDT}(ha:PDT X Z a t)(hb:PDW X Z (.BoolOp .Or (b::rest) pos) u):PDW X Z (.BoolOp .Or (a::b::rest) pos) (dOr t u):=
 zpE (pw_or ha hb) λσ H Qb ⟨r,dl,S,Q,rs,rel,h,ret⟩=>⟨r,dl,S,_,rs,rel,h,λk H1 r1 S1 e1 rel1 q1=>by
  cases k with
  | true=>exact zbM (ret true H1 r1 S1 e1 rel1 (by simpa using q1))
  | false=>exact zbm ⟨r1,dl,S1,Q,rs.ext e1,rel1,(by simpa using q1),λk' H2 r2 S2 e2=>ret k' H2 r2 S2 (e1.trans e2)⟩⟩
def dAndV (ta tb:TDE):TDE:=λdl S Q=>ta dl S λx S1=>match x with
 | .bl k=>if k=true then tb dl S1 Q else Q (.bl false) S1
 | _=>False
def dNotV (ta:TDE):TDE:=λdl S Q=>ta dl S λx S1=>match x with
 | .bl k=>Q (.bl (!k)) S1
 | _=>False
theorem zgr {op}{t:TDE}(h:PD X Z a t):PD X Z (.BoolOp op [a] pos) t:=zyd h
theorem zeT (ha:PD X Z a ta)(hb:PD X Z (.BoolOp .And (b::rest) pos) tb):PD X Z (.BoolOp .And (a::b::rest) pos) (dAndV ta tb):=
 zbc (zsp ha hb) λσ H Qv ⟨r,dl,S,Q,rs,rel,h,ret⟩=>⟨r,dl,S,_,rs,rel,h,λv H1 r1 d S1 e1 rel1 p q1=>by
  cases p with
  | bl k=>
   refine⟨k,rfl,?_⟩
   cases k with
   | true=>exact zbM ⟨r1,dl,S1,Q,rs.ext e1,rel1,(by simpa using q1),ret.ext e1⟩
   | false=>exact zbm (ret _ H1 r1 (.bl false) S1 e1 rel1 (.bl false) (by simpa using q1))
  | _=>exact(show False from q1).elim⟩
theorem zxh (ha:PD X Z a ta):PD X Z (.UnaryOp .Not a pos) (dNotV ta):=
 zbc (zsB ha) λσ H Qv ⟨r,dl,S,Q,rs,rel,h,ret⟩=>⟨r,dl,S,_,rs,rel,h,λv H1 r1 d S1 e1 rel1 p q1=>by
  cases p with
  | bl k=>exact⟨k,rfl,ret _ H1 r1 (.bl (!k)) S1 e1 rel1 (.bl (!k)) q1⟩
  | _=>exact(show False from q1).elim⟩
def dIfE (t:TDT)(ta tb:TDE):TDE:=λdl S Q=>t dl S λk S1=>if k=true then ta dl S1 Q else tb dl S1 Q
theorem zo2 {t:TDT}(hc:PDT X Z c t)(ha:PD X Z a ta)(hb:PD X Z b tb):PD X Z (.IfExp c a b pos) (dIfE t ta tb):=
 zbc (ztv hc ha hb) λσ H Qv ⟨r,dl,S,Q,rs,rel,h,ret⟩=>⟨r,dl,S,_,rs,rel,h,λk H1 r1 S1 e1 rel1 q1=>by
  cases k with
  | true=>exact zbM ⟨r1,dl,S1,Q,rs.ext e1,rel1,(by simpa using q1),ret.ext e1⟩
  | false=>exact zbm ⟨r1,dl,S1,Q,rs.ext e1,rel1,(by simpa using q1),ret.ext e1⟩⟩
def zra (w w':W2)(ta tb tc:TDE):TDE:=λdl S Q=>ta dl S λx S1=>tb dl S1 λy S2=>w x y S2 λz S3=>match z with
 | .bl k=>if k=true then tc dl S3 λu S4=>w' y u S4 Q else Q (.bl false) S3
 | _=>False
theorem zwm {w w':W2}{σ:St}{H:Hp}{Qv:VK}(h:up X.K Z (zra w w' ta tb tc) σ H Qv):zpM (upO X.K Z w) (upO X.K Z w') (up X.K Z ta) (up X.K Z tb) (up X.K Z tc) σ H Qv:=by
 obtain⟨r,dl,S,Q,rs,rel,h,ret⟩:=h
 refine⟨r,dl,S,_,rs,rel,h,λv H1 r1 dx S1 e1 rel1 p1 h1=>⟨r1,dl,S1,_,rs.ext e1,rel1,h1,λv2 H2 r2 dy S2 e2 rel2 p2 h2=>⟨r2,S2,dx,dy,_,rel2,p1.ext e2,p2,h2,λv3 H3 r3 dz S3 e3 rel3 p3 h3=>?_⟩⟩⟩
 cases p3 with
 | bl k=>
  refine⟨k,rfl,?_⟩
  cases k with
  | true=>exact zbM ⟨r3,dl,S3,_,rs.ext (e1.trans (e2.trans e3)),rel3,(by simpa using h3),λv4 H4 r4 du S4 e4 rel4 p4 h4=>⟨r4,S4,dy,du,Q,rel4,(p2.ext e3).ext e4,p4,h4,ret.ext (e1.trans (e2.trans (e3.trans e4)))⟩⟩
  | false=>exact zbm (ret _ H3 r3 (.bl false) S3 (e1.trans (e2.trans e3)) rel3 (.bl false) (by simpa using h3))
 | _=>exact(show False from h3).elim
theorem zvV {op op':CmpOp}{w w':W2}(ho:OpR X (compareOp op) (upO X.K Z w))(ho':OpR X (compareOp op') (upO X.K Z w'))(ha:PD X Z a ta)(hb:PD X Z b tb)(hc:PD X Z c tc)
  (hm:lastMarks [op,op'] [b,c]=false:=by with_unfolding_all rfl):PDT X Z (.Compare a [op,op'] [b,c] pos) (zph (zra w w' ta tb tc)):=
 zlA (zy3 ho ho' ha hb hc hm) λσ H Qb ⟨r,dl,S,Q,rs,rel,h,ret⟩=>zwm ⟨r,dl,S,_,rs,rel,h,znx ret⟩
def znv:D→Bool
 | .non=>true
 | _=>false
def wIsN:W2:=λx y S Q=>match y with
 | .non=>Q (.bl (znv x)) S
 | _=>False
theorem zr8 {r:List Addr}{H:Hp}{d:D}{x:V}(p:Rp r H d x):decide (x=.non)=znv d:=by
 cases p <;> simp[znv]
theorem zq6:OpR X (compareOp .Is) (upO X.K Z wIsN):=zeS zsG λx y H Qv ⟨r,S,dx,dy,Q,rel,px,py,q,ret⟩=>by
 cases py with
 | non=>exact⟨rfl,by rw[zr8 px]; exact ret _ _ _ _ _ Ext.refl rel (.bl _) q⟩
 | _=>exact(show False from q).elim
variable {e:Expr}{es:List Expr}
def dNil:TDA:=λ_ S Q=>Q [] S
def dCons (ta:TDE)(tr:TDA):TDA:=λdl S Q=>ta dl S λx S1=>tr dl S1 λxs S2=>Q (x::xs) S2
theorem zac:PDA X Z [] dNil:=zpU zl5 λσ H Qv ⟨r,dl,S,Q,rs,rel,h,ret⟩=>ret [] H r [] S Ext.refl rel Rps.nil h
theorem zaa {te:TDE}{t:TDA}(ha:PD X Z e te)(hr:PDA X Z es t)(hs:starEach (e::es) X.env=(false,eval e X.env)::starEach es X.env:=by rfl):PDA X Z (e::es) (dCons te t):=
 zpU (zfe ha hr hs) λσ H Qv ⟨r,dl,S,Q,rs,rel,h,ret⟩=>⟨r,dl,S,_,rs,rel,h,λv H1 r1 d S1 e1 rel1 p1 h1=>⟨r1,dl,S1,_,rs.ext e1,rel1,h1,λvs H2 r2 ds S2 e2 rel2 p2 h2=>
  ret (v::vs) H2 r2 (d::ds) S2 (e1.trans e2) rel2 (Rps.cons (p1.ext e2) p2) h2⟩⟩
def dTup (t:TDA):TDE:=λdl S Q=>t dl S λds S1=>if ds.length≤1000 then Q (.tup ds) S1 else False
def dLst (t:TDA):TDE:=λdl S Q=>t dl S λds S1=>if ds.length≤1000 then Q (.ref S1.length) (S1++[.lst ds]) else False
theorem zkh {A:Prop}{p:Prop} [Decidable p] (h:if p then A else False):p∧A:=by
 split at h
 ·exact⟨by assumption,h⟩
 ·exact h.elim
theorem zej {n:Nat}(h:n≤1000):n≤sizeLine:=VaV (zhq h)
theorem zaR {x1}{t:TDA}(h:PDA X Z es t):PD X Z (.Tuple es x1 pos) (dTup t):=
 zbc (zv8 h) λσ H Qv ⟨r,dl,S,Q,rs,rel,h,ret⟩=>⟨r,dl,S,_,rs,rel,h,λvs H1 r1 ds S1 e1 rel1 p1 h1=>by
  obtain⟨hl,h1⟩:=zkh h1
  refine⟨by rw[← p1.1]; exact zej hl,λp hp=>?_⟩
  have x:Ext r1 r1 H1 (upd H1 p (.tup vs)):=⟨λ_ _ q=>q,λa xs q=>zda hp _ _ q,λa c q=>zda hp _ _ q⟩
  exact ret _ _ r1 (.tup ds) S1 (e1.trans x) (rel1.same (zda hp)) ((p1.ext x).tupR zcA) h1⟩
theorem zeg {r:List Addr}{p:Addr}{H:Hp}{n:Nat}(h:r.length=n):Rp (r++[p]) H (.ref n) (.ref p):=.ref (by subst h; simp)
theorem zb2 {t:TDA}(h:PDA X Z es t):PD X Z (.List es pos) (dLst t):=
 zbc (zwM h) λσ H Qv ⟨r,dl,S,Q,rs,rel,h,ret⟩=>⟨r,dl,S,_,rs,rel,h,λvs H1 r1 ds S1 e1 rel1 p1 h1=>by
  obtain⟨hl,h1⟩:=zkh h1
  refine⟨by rw[← p1.1]; exact zej hl,λp hp=>?_⟩
  obtain⟨rel2,x⟩:=rel1.push hp p1
  exact ret _ _ _ (.ref S1.length) _ (e1.trans x) rel2 (zeg rel1.len) h1⟩
def wIx:W2:=λx y S Q=>match x,y with
 | .tup xs,.int i=>match atI xs i with
  | some d=>Q d S
  | none=>False
 | .ref n,.int i=>match lAt S n with
  | some o=>match atI (zao o) i with
   | some d=>Q d S
   | none=>False
  | none=>False
 | _,_=>False
theorem zpw {r:List Addr}{H:Hp}{ds:List D}{vs:List V}{i:Int}{d:D}(h:Rps r H ds vs)(e:atI ds i=some d):∃v,atI vs i=some v∧Rp r H d v:=by
  unfold atI at e ⊢
  rw[← h.1]
  cases q:ixN ds.length i with
  | none=>
   rw[q] at e
   cases e
  | some j=>
    rw[q] at e
    exact h.get e
theorem do_ix:IxR X (upO X.K Z wIx):=by
 intro value slice pins s σ H x y v u Qv I rx ry h hs
 obtain⟨r,S,dx,dy,Q,rel,px,py,q,ret⟩:=h
 cases px with
 | @tup ds xs a e1 l1 f1=>
  cases py with
  | int i=>
   have q':(match atI ds i with | some d=>Q d S | none=>False):=q
   split at q'
   ·rename_i d e
    obtain⟨w,hw,pw⟩:=zpw ⟨l1,f1⟩ e
    exact zux value slice pins s σ H _ _ v u Qv I rx ry ⟨a,xs,i,w,rfl,rfl,SqT.of e1,hw,ret w H r d S Ext.refl rel pw q'⟩ hs
   ·exact q'.elim
  | _=>exact(show False from q).elim
 | @ref n a e1=>
  cases py with
  | int i=>
   have q':(match lAt S n with | some o=>(match atI (zao o) i with | some d=>Q d S | none=>False) | none=>False):=q
   split at q'
   ·rename_i o eo
    obtain⟨eo,eL⟩:=zbx eo
    obtain⟨a',ha,ob⟩:=rel.at eo
    rw[e1] at ha; cases ha
    obtain⟨xs,sq,pr⟩:=ob.list eL
    split at q'
    ·rename_i d e
     obtain⟨w,hw,pw⟩:=zpw pr e
     exact ztB value slice pins s σ H _ _ v u Qv I rx ry ⟨a,xs,i,w,rfl,rfl,sq,hw,ret w H r d S Ext.refl rel pw q'⟩ hs
    ·exact q'.elim
   ·exact q'.elim
  | _=>exact(show False from q).elim
 | _=>exact(show False from q).elim
theorem zap (ha:PD X Z a ta)(hb:PD X Z b tb)(hs:zoq b):PD X Z (.Subscript a b pos) (dOp wIx ta tb):=zbc (pe_ix do_ix ha hb hs) λ_ _ _ h=>zjq h
end
structure Bk (fs:List Addr)(H H':Hp)(B h:Heap)(ea:Addr):Prop where
 trk:∀b u,H' b=some u→∃o,B.get? b=some o
 old:∀b o,h.get? b=some o→H b=none→b ∉ fs→B.get? b=some o
 all:∀b o,h.get? b=some o→b ∉ fs→∃o',B.get? b=some o'
 new:H' ea=none
def CXE (P:Program)(w:World):CXT:=λouter H s E e s'=>∃(ea c:Addr) (a0:Value) (B:Heap) (H':Hp),e=.ref ea∧s'.os=s.os∧AllBare s'.gens∧Un (frs outer) [] H H' s.heap s'.heap∧HOk P w H' s'.heap∧
 Heap.FlyingW B outer ea (.ref c) a0 s'.heap∧Bk (frs outer) H H' B s.heap ea∧E (.ref c) none H'
section
variable {X:Cx}{pins:List (Addr×Obj)}{σ:St}{H:Hp}{s:Shared}
end
section
variable {P:Program}{w:World}{K:PySem.W.Frag}{mg:Str→Option Value}{base:Heap}{N:List Str}{qual:Str}{scope:Scope}{f:Addr}{cdv:Value}{A:Around}{outer:List Env}{s0:Shared}{H0:Hp}{E:XK}
end
structure Xc (K:PySem.W.Frag)(mg:Str→Option Value)(x:Str)(C:Addr)(bm:List Value)(nid:String):Prop where
 bound:mg x=some (.ref C)
 ex:PySem.W.excIn K C bm nid=true
abbrev WC:=List D→Sto→DK→Prop
abbrev Sd:=List D→Sto→DK→(Addr→Sto→Prop)→Prop
def upC (K:PySem.W.Frag)(Z:Zx)(w:WC):List V→Hp→VK→Prop:=λxs H Qv=>∃r S ds Q,Rel K Z r S H∧Rps r H ds xs∧w ds S Q∧Ret K Z r H Q Qv
def upF (K:PySem.W.Frag)(sd:Sd):Sp:=λvs H Qv E=>∃ex:Addr→Sto→Prop,upC K (Zc ex E) (λds S Q=>sd ds S Q ex) vs H Qv
def zog (w:WC)(t:TDA):TDE:=λdl S Q=>t dl S λds S1=>w ds S1 Q
def zow (ex:Ev→Addr→Sto→Prop)(sd:Sd)(t:TDA):TDE:=λdl S Q=>t dl S λds S1=>sd ds S1 Q (ex dl)
def zdo (X:Cx)(W:St→XK):Prop:=∀(pins:List (Addr×Obj)) (σ:St) (H:Hp) (s:Shared) (e:Value) (s':Shared),Inv X pins σ H s→CXE X.prog X.w X.stack H s (W σ) e s'→X.xe e s'
section
variable {X:Cx}{k:Nat}{f:Addr}{fd:FuncData}{ps:List Str}{sp:Sp}{W:St→XK}{x:Str}{p pos:Pos}{e:Expr}{es:List Expr}{t:TA}
theorem znS {pins:List (Addr×Obj)}{σ:St}{H:Hp}{s:Shared}{Q:VK}{us:List Value}{vs:List V}(F:zbq X.prog X.w X.K X.mg X.base (CXE X.prog X.w) k f fd ps sp)(hr:zaT k X.A)(hb:zbQ X.K fd ps [])(hx:zdo X W)
  (I:Inv X pins σ H s)(r:zaB vs us)(h:sp vs H Q (W σ)):wpAny (model X.prog X.w) X.A (call (.ref f) us) (EP X pins σ Q) X.xe s:=by
 have hl:us.length=ps.length:=by rw[← r.length]; exact F.len _ _ _ _ h
 have hb':=hb s us I.kIn (by rw[Va2]; exact hl)
 rw[Va2] at hb'
 refine wpAny_call (codeAny_mono (F.run X.A X.stack s H ⟨us,[]⟩ us vs Q (W σ) hr I.env0 hb' r h) λz s' hq=>?_)
 cases z with
 | error ev=>exact hx pins σ H s ev s' I hq
 | ok fl=>
  cases fl with
  | ret u=>exact I.after hq
  | _=>exact False.elim hq
theorem zxp (F:zbq X.prog X.w X.K X.mg X.base (CXE X.prog X.w) k f fd ps sp)(hr:zaT k X.A)(hg:Gl X x)(hm:X.mg x=some (.ref f))(hk:PySem.W.keepIn X.K (.ref f)=true)(hb:zbQ X.K fd ps [])(hx:zdo X W)
  (ha:PA X (e::es) t)(hdb:(x==("__debug__":Str))=false)(he:starEach (e::es) X.env=(false,eval e X.env)::starEach es X.env)(hpl:(backTo pos (starEach es X.env)).any (·.1)=false):
  PE X (.Call (.Name x p) (e::es) [] pos) (λσ H Q=>t σ H λvs H1=>sp vs H1 Q (W σ)):=by
 intro pins s σ H Q I h
 refine wpAny_Call_Name_kw (zqS I hg hm ?_ hdb)
 exact PySem.W.callWith_K (h₀:=X.base) I.ok.mod.kin hk (thn (ha pos pins s σ H _ I h) λus s1 ⟨vs,H1,I1,r,q⟩=>⟨I1.kIn,znS F hr hb hx I1 r q⟩) he hpl
end
section
variable {X:Cx}{Z:Zx}{x:Str}{p pos:Pos}{e:Expr}{es:List Expr}{t:TDA}{id T:String}{w:WC}
theorem zpB {σ:St}{H:Hp}{Qv:VK}(h:up X.K Z (zog w t) σ H Qv):upA X.K Z t σ H λvs H1=>upC X.K Z w vs H1 Qv:=by
 obtain⟨r,dl,S,Q,rs,rel,h,ret⟩:=h
 exact⟨r,dl,S,_,rs,rel,h,λvs H1 r1 ds S1 e1 rel1 p1 h1=>⟨r1,S1,ds,Q,rel1,p1,h1,ret.ext e1⟩⟩
theorem zaM (hc:zbo X (.builtin id) (upC X.K Z w))(hg:Gl X x)(hm:X.mg x=none)(hv:bootBuiltins x=some (.builtin id))(ha:PDA X Z (e::es) t)(hn:x≠"__name__":=by decide)(hdb:(x==("__debug__":Str))=false:=by decide)
  (he:starEach (e::es) X.env=(false,eval e X.env)::starEach es X.env:=by rfl)(hpl:(backTo pos (starEach es X.env)).any (·.1)=false:=by rfl):PD X Z (.Call (.Name x p) (e::es) [] pos) (zog w t):=
 zbc (zoj hc hg hm hv ha hn hdb he hpl) λ_ _ _ h=>zpB h
theorem zf2 (hc:zbo X (.type T) (upC X.K Z w))(hg:Gl X x)(hm:X.mg x=none)(hv:bootBuiltins x=some (.type T))(ha:PDA X Z (e::es) t)(hn:x≠"__name__":=by decide)(hdb:(x==("__debug__":Str))=false:=by decide)
  (he:starEach (e::es) X.env=(false,eval e X.env)::starEach es X.env:=by rfl)(hpl:(backTo pos (starEach es X.env)).any (·.1)=false:=by rfl):PD X Z (.Call (.Name x p) (e::es) [] pos) (zog w t):=
 zbc (zuT hc hg hm hv ha hn hdb he hpl) λ_ _ _ h=>zpB h
theorem znF {sd:Sd}{r:List Addr}{S:Sto}{H:Hp}{dl:Ev}{σ:St}{ds:List D}{vs:List V}{Q:DK}{Qv:VK}(rs:Rs r H dl σ)(rel:Rel X.K Z r S H)(p:Rps r H ds vs)(h:sd ds S Q (Z.ex dl))(ret:Ret X.K Z r H Q Qv):upF X.K sd vs H Qv (Z.w σ):=
 ⟨Z.ex dl,r,S,ds,Q,⟨rel.b,λ_ _ c H' r' S' x _ rb q=>rel.xw dl σ c H' r' S' x (rs.ext x) rb q⟩,p,h,λv H' r' d S' x rel' pv q=>ret v H' r' d S' x ⟨rel'.b,rel.xw.ext x⟩ pv q⟩
theorem ztF {k:Nat}{f:Addr}{fd:FuncData}{ps:List Str}{sd:Sd}(F:zbq X.prog X.w X.K X.mg X.base (CXE X.prog X.w) k f fd ps (upF X.K sd))(hr:zaT k X.A)(hg:Gl X x)(hm:X.mg x=some (.ref f))(hk:PySem.W.keepIn X.K (.ref f)=true)
  {ex:Ev→Addr→Sto→Prop}{W:St→XK}(hb:zbQ X.K fd ps [])(hx:zdo X W)(ha:PDA X ⟨ex,W⟩ (e::es) t)(hdb:(x==("__debug__":Str))=false:=by decide)(he:starEach (e::es) X.env=(false,eval e X.env)::starEach es X.env:=by rfl)
  (hpl:(backTo pos (starEach es X.env)).any (·.1)=false:=by rfl):PD X ⟨ex,W⟩ (.Call (.Name x p) (e::es) [] pos) (zow ex sd t):=
 zbc (zxp F hr hg hm hk hb hx ha hdb he hpl) λσ H Qv ⟨r,dl,S,Q,rs,rel,h,ret⟩=>⟨r,dl,S,_,rs,rel,h,λvs H1 r1 ds S1 e1 rel1 p1 h1=>znF (Z:=⟨ex,W⟩) (rs.ext e1) rel1 p1 h1 (ret.ext e1)⟩
def wAbs:WC:=λds S Q=>match ds with
 | [.int i]=>Q (.int (if i<0 then -i else i)) S
 | _=>False
theorem zte:zbo X (.builtin "abs") (upC X.K Z wAbs):=zoI zxX λxs H Qv ⟨r,S,ds,Q,rel,ps,q,ret⟩=>by
 unfold wAbs at q
 split at q
 ·rename_i i
  obtain⟨v,vs,rfl,p1,p2⟩:=ps.uncons
  have z:=p2.unnil
  subst z
  cases p1
  exact⟨i,rfl,ret _ _ _ _ _ Ext.refl rel (.int _) q⟩
 ·exact q.elim
def zct:List D→Option (List Int)
 | []=>some []
 | .int i::r=>(zct r).map (i::·)
 | _::_=>none
def zfB (le:Int→Int→Prop)(two:Int→Int→Int):WC:=λds S Q=>match ds with
 | [.int i,.int j]=>Q (.int (two i j)) S
 | [.ref n]=>match lAt S n with
  | some o=>match zct (zao o) with
   | some xs=>xs≠[]∧∀m,m∈xs→(∀y∈xs,le y m)→Q (.int m) S
   | none=>False
  | none=>False
 | _=>False
abbrev wMax:WC:=zfB (λy m=>y≤m) λi j=>if j > i then j else i
abbrev wMin:WC:=zfB (λy m=>m≤y) λi j=>if j<i then j else i
theorem zmI {r:List Addr}{H:Hp}:∀ {ds:List D} {ns:List Int} {vs:List V} {us:List Value},zct ds=some ns→Rps r H ds vs→zaB vs us→∃xs:List (Int×Tok),us.toArray=intItems xs.toArray∧xs.map (·.1)=ns
 | [],ns,vs,us,e,p,q=>by
  have z:=p.unnil
  subst z
  cases q
  simp[zct] at e
  subst e
  exact⟨[],by simp[intItems],rfl⟩
 | d::ds,ns,vs,us,e,p,q=>by
  obtain⟨v,vs',rfl,p1,p2⟩:=p.uncons
  cases d with
  | int i=>
   cases p1
   cases q with
   | cons q1 q2=>
    obtain⟨t,rfl⟩:=q1
    simp only[zct,Van] at e
    obtain⟨ms,e1,rfl⟩:=e
    obtain⟨xs,h1,h2⟩:=zmI e1 p2 q2
    refine⟨(i,t)::xs,?_,by simp[h2]⟩
    simp[intItems] at h1 ⊢
    exact h1
  | _=>simp[zct] at e
theorem zpS (f:Nat→Int):∀k j,j≤k→f j≤f (argBest (λi j=>decide (f i > f j)) k)
 | 0,j,h=>by
  have z:j=0:=by omega
  subst z
  exact Vav _
 | k+1,j,h=>by
  have ih:=zpS f k
  unfold argBest
  split
  ·rename_i hb
   have hb':f (k+1) > f (argBest (λi j=>decide (f i > f j)) k):=of_decide_eq_true hb
   by_cases z:j=k+1
   ·subst z; exact Vav _
   ·have:=ih j (by omega); omega
  ·rename_i hb
   have hb':¬ f (k+1) > f (argBest (λi j=>decide (f i > f j)) k):=λq=>hb (decide_eq_true q)
   by_cases z:j=k+1
   ·subst z; omega
   ·exact ih j (by omega)
theorem zpA (f:Nat→Int):∀k j,j≤k→f (argBest (λi j=>decide (f i<f j)) k)≤f j
 | 0,j,h=>by
  have z:j=0:=by omega
  subst z
  exact Vav _
 | k+1,j,h=>by
  have ih:=zpA f k
  unfold argBest
  split
  ·rename_i hb
   have hb':f (k+1)<f (argBest (λi j=>decide (f i<f j)) k):=of_decide_eq_true hb
   by_cases z:j=k+1
   ·subst z; exact Vav _
   ·have:=ih j (by omega); omega
  ·rename_i hb
   have hb':¬ f (k+1)<f (argBest (λi j=>decide (f i<f j)) k):=λq=>hb (decide_eq_true q)
   by_cases z:j=k+1
   ·subst z; omega
   ·exact ih j (by omega)
theorem zoS (bt:Nat→Nat→Bool):∀k,argBest bt k≤k
 | 0=>Vaa _
 | k+1=>by
  unfold argBest
  split
  ·exact Vaa _
  ·exact Nat.le_succ_of_le (zoS bt k)
theorem zoH {xs:List (Int×Tok)}{ns:List Int}(h:xs.map (·.1)=ns){j:Nat}{y:Int}(e:ns[j]?=some y):numAt xs.toArray j=y:=by
  subst h
  unfold numAt
  rw[Vae] at e
  simp only[List.getElem?_toArray]
  cases q:xs[j]? with
  | none=>
   rw[q] at e
   cases e
  | some z=>rw[q] at e; simpa using e
theorem zqu {xs:List (Int×Tok)}{ns:List Int}(h:xs.map (·.1)=ns){j:Nat}(hj:j<ns.length):numAt xs.toArray j∈ns:=by
 have e:ns[j]?=some ns[j]:=by simp[hj]
 rw[zoH h e]
 exact VaM hj
theorem zoX (hc:X.calm=true):zbo X (.builtin "max") (upC X.K Z wMax):=by
 intro pins s σ H xs us Qv I rv h
 obtain⟨r,S,ds,Q,rel,ps,q,ret⟩:=h
 unfold wMax zfB at q
 split at q
 ·rename_i i j
  obtain⟨v,vs,rfl,p1,p2⟩:=ps.uncons
  obtain⟨v2,vs2,rfl,p3,p4⟩:=p2.uncons
  have z:=p4.unnil
  subst z
  cases p1
  cases p3
  exact zwa hc pins s σ H _ us Qv I rv ⟨i,j,rfl,ret _ _ _ _ _ Ext.refl rel (.int _) q⟩
 ·rename_i n
  obtain⟨v,vs,rfl,p1,p2⟩:=ps.uncons
  have z:=p2.unnil
  subst z
  split at q
  ·rename_i o eo
   split at q
   ·rename_i ns en
    obtain⟨hne,q⟩:=q
    obtain⟨eo,eL⟩:=zbx eo
    obtain⟨a,ha,ob⟩:=rel.at eo
    cases p1 with
    | ref h1=>
     rw[h1] at ha; cases ha
     obtain⟨ys,sq,pr⟩:=ob.list eL
     obtain⟨u,rfl,ru⟩:=zdg rv
     cases ru
     obtain⟨its,ri,pl,hz⟩:=I.list sq
     obtain⟨zs,hz1,hz2⟩:=zmI en pr ri
     have hl:zs.length=ns.length:=by rw[← hz2,Vab]
     have hpos:0<ns.length:=List.length_pos_iff.mpr hne
     have isl:=pl.isList
     rw[hz1] at isl
     refine max_intList (I.ok.hd hc) isl (by simp; omega) λv h' tk hv hk=>?_
     have hvi:=intItems_at hv
     obtain⟨t,rfl⟩:=hvi
     have hb:=zoS (λi j=>decide (numAt zs.toArray i > numAt zs.toArray j)) (zs.toArray.size-1)
     have hsz:zs.toArray.size=ns.length:=by simp[hl]
     refine⟨.int _,H,I.kept hk,⟨_,rfl⟩,ret _ _ _ _ _ Ext.refl rel (.int _) (q _ (zqu hz2 (by omega)) λy hy=>?_)⟩
     obtain⟨j,hj,ej⟩:=VaS.mp hy
     have e1:=zoH hz2 (show ns[j]?=some y by simp[hj,ej])
     rw[← e1]
     exact zpS _ _ j (by omega)
   ·exact q.elim
  ·exact q.elim
 ·exact q.elim
theorem zku (hc:X.calm=true):zbo X (.builtin "min") (upC X.K Z wMin):=by
 intro pins s σ H xs us Qv I rv h
 obtain⟨r,S,ds,Q,rel,ps,q,ret⟩:=h
 unfold wMin zfB at q
 split at q
 ·rename_i i j
  obtain⟨v,vs,rfl,p1,p2⟩:=ps.uncons
  obtain⟨v2,vs2,rfl,p3,p4⟩:=p2.uncons
  have z:=p4.unnil
  subst z
  cases p1
  cases p3
  exact zvF hc pins s σ H _ us Qv I rv ⟨i,j,rfl,ret _ _ _ _ _ Ext.refl rel (.int _) q⟩
 ·rename_i n
  obtain⟨v,vs,rfl,p1,p2⟩:=ps.uncons
  have z:=p2.unnil
  subst z
  split at q
  ·rename_i o eo
   split at q
   ·rename_i ns en
    obtain⟨hne,q⟩:=q
    obtain⟨eo,eL⟩:=zbx eo
    obtain⟨a,ha,ob⟩:=rel.at eo
    cases p1 with
    | ref h1=>
     rw[h1] at ha; cases ha
     obtain⟨ys,sq,pr⟩:=ob.list eL
     obtain⟨u,rfl,ru⟩:=zdg rv
     cases ru
     obtain⟨its,ri,pl,hz⟩:=I.list sq
     obtain⟨zs,hz1,hz2⟩:=zmI en pr ri
     have hl:zs.length=ns.length:=by rw[← hz2,Vab]
     have hpos:0<ns.length:=List.length_pos_iff.mpr hne
     have isl:=pl.isList
     rw[hz1] at isl
     refine min_intList (I.ok.hd hc) isl (by simp; omega) λv h' tk hv hk=>?_
     have hvi:=intItems_at hv
     obtain⟨t,rfl⟩:=hvi
     have hb:=zoS (λi j=>decide (numAt zs.toArray i<numAt zs.toArray j)) (zs.toArray.size-1)
     have hsz:zs.toArray.size=ns.length:=by simp[hl]
     refine⟨.int _,H,I.kept hk,⟨_,rfl⟩,ret _ _ _ _ _ Ext.refl rel (.int _) (q _ (zqu hz2 (by omega)) λy hy=>?_)⟩
     obtain⟨j,hj,ej⟩:=VaS.mp hy
     have e1:=zoH hz2 (show ns[j]?=some y by simp[hj,ej])
     rw[← e1]
     exact zpA _ _ j (by omega)
   ·exact q.elim
  ·exact q.elim
 ·exact q.elim
def zea:WC:=λds S Q=>match ds with
 | [.tup xs]=>Q (.int xs.length) S
 | [.ref n]=>match lAt S n with
  | some o=>Q (.int (zao o).length) S
  | none=>False
 | _=>False
theorem za5:zbo X (.builtin "len") (upC X.K Z zea):=zoI zuY λxs H Qv ⟨r,S,ds,Q,rel,ps,q,ret⟩=>by
 unfold zea at q
 split at q
 ·rename_i ys
  obtain⟨v,vs,rfl,p1,p2⟩:=ps.uncons
  have z:=p2.unnil
  subst z
  obtain⟨a,zs,rfl,h1,h2⟩:=p1.untup
  exact⟨a,zs,rfl,.inr (SqT.of h1),by rw[← h2.1]; exact ret _ _ _ _ _ Ext.refl rel (.int _) q⟩
 ·rename_i n
  obtain⟨v,vs,rfl,p1,p2⟩:=ps.uncons
  have z:=p2.unnil
  subst z
  split at q
  ·rename_i o eo
   obtain⟨eo,eL⟩:=zbx eo
   obtain⟨a,ha,ob⟩:=rel.at eo
   cases p1 with
   | ref h1=>
    rw[h1] at ha; cases ha
    obtain⟨ys,sq,pr⟩:=ob.list eL
    exact⟨_,ys,rfl,.inl sq,by rw[← pr.1]; exact ret _ _ _ _ _ Ext.refl rel (.int _) q⟩
  ·exact q.elim
 ·exact q.elim
def zdu (t T:String):Bool:=t==T||(t == "bool"&&T == "int")
def dInst (T:String)(te:TDE):TDE:=λdl S Q=>te dl S λd S1=>match d with
 | .ref _=>False
 | .exc _=>False
 | .non=>Q (.bl (zdu "NoneType" T)) S1
 | .bl _=>Q (.bl (zdu "bool" T)) S1
 | .int _=>Q (.bl (zdu "int" T)) S1
 | .str _=>Q (.bl (zdu "str" T)) S1
 | .tup _=>Q (.bl (zdu "tuple" T)) S1
def Kit (K:PySem.W.Frag)(T:String):Prop:=∀t∈["NoneType","bool","int","str","tuple"],PySem.W.kitOne K (.type t) (.type T)=some (zdu t T)
def rInst (K:PySem.W.Frag):List V→Hp→VK→Prop:=λxs H Qv=>∃x T t b,xs=[x,.ty T]∧zcn K H x t∧PySem.W.kitOne K t (.type T)=some b∧Qv (.bl b) H
theorem zqa:zbo X (.builtin "isinstance") (rInst X.K):=by
 intro pins s σ H xs us Q I r h
 obtain⟨x,T,t,b,rfl,ty,e,q⟩:=h
 obtain⟨u,w',rfl,r1,r2⟩:=zn5 r
 cases r2
 exact zu9 I r1 ty e λtk=>⟨.bl b,H,I.tok tk,rfl,q⟩
theorem zmz {T:String}{te:TDE}{y:Str}{p2:Pos}(KT:Kit X.K T)(hg:Gl X "isinstance")(hm:X.mg "isinstance"=none)(hg2:Gl X y)(hm2:X.mg y=none)(hv2:bootBuiltins y=some (.type T))(ha:PD X Z e te)
  (hv:bootBuiltins "isinstance"=some (.builtin "isinstance"):=by exact PyProof.Rows.Boot.«isinstance»)
  (hn2:y≠"__name__":=by decide)(hd2:(y==("__debug__":Str))=false:=by decide)(he2:starEach [e,.Name y p2] X.env=(false,eval e X.env)::starEach [.Name y p2] X.env:=by rfl)
  (he3:starEach [.Name y p2] X.env=(false,eval (.Name y p2) X.env)::starEach [] X.env:=by rfl)(hpl:(backTo pos (starEach [.Name y p2] X.env)).any (·.1)=false:=by rfl):
  PD X Z (.Call (.Name "isinstance" p) [e,.Name y p2] [] pos) (dInst T te):=
 zbc (zoj zqa hg hm hv (zfe ha (zfe (zqF (v:=.ty T) hg2 hm2 hv2 rfl hn2 hd2) zl5 he3) he2) (by decide) (by decide) he2 hpl) λσ H Qv ⟨r,dl,S,Q,rs,rel,h,ret⟩=>
  ⟨r,dl,S,_,rs,rel,h,λv H1 r1 d S1 e1 rel1 p1 h1=>by
   cases p1 with
   | non=>exact⟨_,T,_,_,rfl,.non,KT _ (by simp),ret _ _ _ _ _ e1 rel1 (.bl _) h1⟩
   | bl b=>exact⟨_,T,_,_,rfl,.bl b,KT _ (by simp),ret _ _ _ _ _ e1 rel1 (.bl _) h1⟩
   | int b=>exact⟨_,T,_,_,rfl,.int b,KT _ (by simp),ret _ _ _ _ _ e1 rel1 (.bl _) h1⟩
   | str b=>exact⟨_,T,_,_,rfl,.str b,KT _ (by simp),ret _ _ _ _ _ e1 rel1 (.bl _) h1⟩
   | tup e2 _ _=>exact⟨_,T,_,_,rfl,.tup e2,KT _ (by simp),ret _ _ _ _ _ e1 rel1 (.bl _) h1⟩
   | ref _=>exact(show False from h1).elim
   | exc _=>exact(show False from h1).elim⟩
end
section
variable {X:Cx}{Z:Zx}{st:Stmt}{rest:List Stmt}{t u:TDS}{e:Expr}{te:TDE}{pos:Pos}
def zj2:TDS:=λE dl S=>E.nx dl S
def zcJ (t u:TDS):TDS:=λE dl S=>t { nx:=λdl' S'=>u E dl' S',rt:=E.rt,bk:=E.bk,ct:=E.ct } dl S
theorem zaN:zcI X Z [] zj2:=zrK zxL λF σ H ⟨r,dl,S,E,rs,rel,h,ret⟩=>ret.nx σ H r dl S Ext.refl rs rel h
theorem zaf (h1:PDS X Z st t)(h2:zcI X Z rest u):zcI X Z (st::rest) (zcJ t u):=
 zrK (zx0 h1 h2) λF σ H ⟨r,dl,S,E,rs,rel,h,ret⟩=>⟨r,dl,S,_,rs,rel,h,λσ' H' r' dl' S' x rs' rel' q=>⟨r',dl',S',E,rs',rel',q,ret.ext x⟩,ret.bk,ret.ct,ret.rt⟩
theorem zae (h1:PDS X Z st t):zcI X Z [st] t:=zwK h1
def zqC (te:TDE):TDS:=λE dl S=>te dl S λ_ S1=>E.nx dl S1
theorem zbr (he:PD X Z e te)(hs:swapsWith e none pos.line X.env=pure false:=by rfl):PDS X Z (.Expr e pos) (zqC te):=
 zb0 (zrV he hs) λF σ H ⟨r,dl,S,E,rs,rel,h,ret⟩=>⟨r,dl,S,_,rs,rel,h,λv H1 r1 d S1 x rel1 p q=>ret.nx σ H1 r1 dl S1 x (rs.ext x) rel1 q⟩
def dRet (te:TDE):TDS:=λE dl S=>te dl S E.rt
theorem zaq (he:PD X Z e te):PDS X Z (.Return (some e) pos) (dRet te):=
 zb0 (zsX he) λF σ H ⟨r,dl,S,E,rs,rel,h,ret⟩=>⟨r,dl,S,_,rs,rel,h,ret.rt⟩
def dIf (c:TDT)(t u:TDS):TDS:=λE dl S=>c dl S λk S1=>if k=true then t E dl S1 else u E dl S1
theorem zaI {c:Expr}{a b:List Stmt}{tc:TDT}(hc:PDT X Z c tc)(ha:zcI X Z a t)(hb:zcI X Z b u):PDS X Z (.If c a b pos) (dIf tc t u):=
 zb0 (ps_if hc ha hb) λF σ H ⟨r,dl,S,E,rs,rel,h,ret⟩=>⟨r,dl,S,_,rs,rel,h,λk H1 r1 S1 x rel1 q=>by
  cases k with
  | true=>exact zbM ⟨r1,dl,S1,E,rs.ext x,rel1,(by simpa using q),ret.ext x⟩
  | false=>exact zbm ⟨r1,dl,S1,E,rs.ext x,rel1,(by simpa using q),ret.ext x⟩⟩
def zmJ (i:Nat)(te:TDE):TDS:=λE dl S=>te dl S λd S1=>E.nx (dl.set i (some d)) S1
theorem zax {i:Nat}{x:Str}{pos':Pos}(hN:X.N.Nodup)(hi:X.N[i]?=some x)(hx:Loc X.env.scope x)(he:PD X Z e te)(hs:swapsWith e (some (.Name x pos')) pos.line X.env=pure false:=by rfl)
  (hf:X.fn x=true∨X.env.scope.names.lookup x=some .local:=by first | exact .inl rfl | exact .inr rfl | assumption):PDS X Z (.Assign [.Name x pos'] e pos) (zmJ i te):=
 zb0 (zwx hN hi hx he hs hf) λF σ H ⟨r,dl,S,E,rs,rel,h,ret⟩=>⟨r,dl,S,_,rs,rel,h,λv H1 r1 d S1 x rel1 p q=>ret.nx _ H1 r1 _ S1 x ((rs.ext x).set i p) rel1 q⟩
def zuX (c:TDT)(tb:TDS):TDS:=λE dl S=>∃W:Nat→Ev→Sto→Prop,(∃m,W m dl S)∧∀m dl S,W m dl S→
 c dl S λk S1=>if k=true then tb { nx:=λdl' S'=>∃m',m'<m∧W m' dl' S',rt:=E.rt,bk:=E.nx,ct:=λdl' S'=>∃m',m'<m∧W m' dl' S' } dl S1 else E.nx dl S1
theorem zvC {c:Expr}{body:List Stmt}{tc:TDT}{tb:TDS}(hp:PassesOwn (model X.prog X.w) X.A X.env X.xe)(hc:PDT X Z c tc)(hb:zcI X Z body tb):PDS X Z (.While c body [] pos) (zuX tc tb):=
 zb0 (zyN hp hc hb) λF σ H ⟨r,dl,S,E,rs,rel,⟨W,⟨m0,w0⟩,turn⟩,ret⟩=>by
  refine⟨λm σ' H'=>∃r' dl' S',Ext r r' H H'∧Rs r' H' dl' σ'∧Rel X.K Z r' S' H'∧W m dl' S',⟨m0,r,dl,S,Ext.refl,rs,rel,w0⟩,?_⟩
  rintro m σ1 H1 ⟨r1,dl1,S1,x1,rs1,rel1,w1⟩
  refine⟨r1,dl1,S1,_,rs1,rel1,turn m dl1 S1 w1,λk H2 r2 S2 x2 rel2 q2=>?_⟩
  cases k with
  | true=>
   refine zbM ⟨λσ' H'=>∃m',m'<m∧∃r' dl' S',Ext r r' H H'∧Rs r' H' dl' σ'∧Rel X.K Z r' S' H'∧W m' dl' S',λ_ _ z=>z,r2,dl1,S2,_,rs1.ext x2,rel2,(by simpa using q2),?_⟩
   have go:∀σ' H' r' dl' S',Ext r2 r' H2 H'→Rs r' H' dl' σ'→Rel X.K Z r' S' H'→(∃m',m'<m∧W m' dl' S')→∃m',m'<m∧∃r' dl' S',Ext r r' H H'∧Rs r' H' dl' σ'∧Rel X.K Z r' S' H'∧W m' dl' S':=
    λσ' H' r' dl' S' x rs' rel' ⟨m',hm,w'⟩=>⟨m',hm,r',dl',S',x1.trans (x2.trans x),rs',rel',w'⟩
   exact⟨go,λσ' H' r' dl' S' x rs' rel' q=>ret.nx σ' H' r' dl' S' (x1.trans (x2.trans x)) rs' rel' q,go,ret.rt.ext (x1.trans x2)⟩
  | false=>exact zbm (ret.nx σ1 H2 r2 dl1 S2 (x1.trans x2) (rs1.ext x2) rel2 (by simpa using q2))
def dFor (i:Nat)(tl:TDE)(tb:TDS):TDS:=λE dl S=>tl dl S λd S1=>match d with
 | .ref n=>(lAt S1 n).isSome=true∧∃W:Nat→Nat→Ev→Sto→Prop,(∃m,W 0 m dl S1)∧∀k m dl S,W k m dl S→match lAt S n with
  | some o=>match (zao o)[k]? with
   | some x=>tb { nx:=λdl' S'=>∃m',m'<m∧W (k+1) m' dl' S',rt:=E.rt,bk:=E.nx,ct:=λdl' S'=>∃m',m'<m∧W (k+1) m' dl' S' } (dl.set i (some x)) S
   | none=>E.nx dl S
  | none=>False
 | _=>False
theorem ze8 {i:Nat}{x:Str}{pos':Pos}{iter:Expr}{body:List Stmt}{tl:TDE}{tb:TDS}(hp:PassesOwn (model X.prog X.w) X.A X.env X.xe)(hc:X.calm=true)(hN:X.N.Nodup)(hi:X.N[i]?=some x)(hx:Loc X.env.scope x)
  (hl:PD X Z iter tl)(hb:zcI X Z body tb)(hf:X.fn x=true∨X.env.scope.names.lookup x=some .local:=by first | exact .inl rfl | exact .inr rfl | assumption)
  (hs:∀y,foldedSetIterable iter X.env y=pure y:=by intro _; rfl):PDS X Z (.For (.Name x pos') iter body [] pos) (dFor i tl tb):=
 zb0 (znj hp hc (zpd hl) (zgo hN hi hx hf) hb hs) λF σ H ⟨r,dl,S,E,rs,rel,h,ret⟩=>by
  refine⟨r,dl,S,_,rs,rel,h,λv H1 r1 d S1 x1 rel1 p1 q1=>?_⟩
  cases p1 with
  | @ref n a hn=>
   obtain⟨hsome,W,⟨m0,w0⟩,turn⟩:=q1
   have sql:∀ {r':List Addr} {S':Sto} {H':Hp} {o:Ob},Ext r1 r' H1 H'→Rel X.K Z r' S' H'→lAt S' n=some o→∃xs,SqL X.K H' a xs∧Rps r' H' (zao o) xs:=λ{r' S' H' o} x' rel' eo=>by
    obtain⟨eo,eL⟩:=zbx eo
    obtain⟨a',ha,ob⟩:=rel'.at eo
    rw[x'.adr n a hn] at ha; cases ha
    exact ob.list eL
   obtain⟨o1,eo1⟩:=VaT.mp hsome
   obtain⟨xs1,sq1,_⟩:=sql Ext.refl rel1 eo1
   refine⟨a,rfl,⟨xs1,sq1⟩,λk m σ' H'=>∃r' dl' S',Ext r1 r' H1 H'∧Rs r' H' dl' σ'∧Rel X.K Z r' S' H'∧W k m dl' S',⟨m0,r1,dl,S1,Ext.refl,rs.ext x1,rel1,w0⟩,?_⟩
   rintro k m σ2 H2 ⟨r2,dl2,S2,x2,rs2,rel2,w2⟩
   have q:=turn k m dl2 S2 w2
   split at q
   ·rename_i o eo
    obtain⟨xs,sq,pr⟩:=sql x2 rel2 eo
    split at q
    ·rename_i y ey
     obtain⟨v,hv,pv⟩:=pr.get ey
     have go:∀ {r3:List Addr} {H3:Hp},Ext r2 r3 H2 H3→∀σ' H' r' dl' S',Ext r3 r' H3 H'→Rs r' H' dl' σ'→Rel X.K Z r' S' H'→(∃m',m'<m∧W (k+1) m' dl' S')→∃m',m'<m∧∃r' dl' S',Ext r1 r' H1 H'∧Rs r' H' dl' σ'∧Rel X.K Z r' S' H'∧W (k+1) m' dl' S':=
      λ{r3 H3} x3 σ' H' r' dl' S' x rs' rel' ⟨m',hm,w'⟩=>⟨m',hm,r',dl',S',x2.trans (x3.trans x),rs',rel',w'⟩
     refine .inr ⟨⟨xs,v,sq,hv⟩,λσ' H'=>∃m',m'<m∧∃r' dl' S',Ext r1 r' H1 H'∧Rs r' H' dl' σ'∧Rel X.K Z r' S' H'∧W (k+1) m' dl' S',λ_ _ z=>z,λv' H' y'=>?_⟩
     obtain⟨eH,y'⟩:=y'
     subst eH
     have ev:v'=v:=by
      have z:=y' xs sq
      rw[hv] at z; exact(Option.some.inj z).symm
     subst ev
     exact⟨r2,_,S2,_,rs2.set i pv,rel2,q,go Ext.refl,λσ' H' r' dl' S' x rs' rel' z=>ret.nx σ' H' r' dl' S' (x1.trans (x2.trans x)) rs' rel' z,go Ext.refl,ret.rt.ext (x1.trans x2)⟩
    ·rename_i ey
     have hlen:(zao o).length≤k:=Va3.mp ey
     exact .inl ⟨⟨xs,sq,by rw[← pr.1]; exact hlen⟩,ret.nx σ2 H2 r2 dl2 S2 (x1.trans x2) rs2 rel2 q⟩
   ·exact q.elim
  | _=>exact(show False from q1).elim
def dForR (i:Nat)(ta:TDA)(tb:TDS):TDS:=λE dl S=>ta dl S λds S1=>match ds with
 | [.int j]=>(-(2^62)≤j∧j<2^62)∧∃W:Nat→Ev→Sto→Prop,W 0 dl S1∧∀k dl S,W k dl S→
   if k<j.toNat then tb { nx:=λdl' S'=>W (k+1) dl' S',rt:=E.rt,bk:=E.nx,ct:=λdl' S'=>W (k+1) dl' S' } (dl.set i (some (.int k))) S else E.nx dl S
 | _=>False
theorem zdp {i:Nat}{x:Str}{pos2 pos' p:Pos}{a:Expr}{body:List Stmt}{ta:TDA}{tb:TDS}(hp:PassesOwn (model X.prog X.w) X.A X.env X.xe)(hc:X.calm=true)(hN:X.N.Nodup)(hi:X.N[i]?=some x)(hx:Loc X.env.scope x)
  (hg:Gl X "range")(hm:X.mg "range"=none)(ha:PDA X Z [a] ta)(hb:zcI X Z body tb)(hf:X.fn x=true∨X.env.scope.names.lookup x=some .local:=by first | exact .inl rfl | exact .inr rfl | assumption)
  (hs:∀y,foldedSetIterable (.Call (.Name "range" p) [a] [] pos) X.env y=pure y:=by intro _; rfl)(hst:starEach [a] X.env=[(false,eval a X.env)]:=by rfl):
  PDS X Z (.For (.Name x pos') (.Call (.Name "range" p) [a] [] pos) body [] pos2) (dForR i ta tb):=
 zb0 (znj hp hc (zol hg hm ha hst) (zgo hN hi hx hf) hb hs) λF σ H ⟨r,dl,S,E,rs,rel,h,ret⟩=>by
  refine⟨r,dl,S,_,rs,rel,h,λvs H1 r1 ds S1 x1 rel1 p1 q1=>?_⟩
  split at q1
  ·rename_i j
   obtain⟨v,vs',rfl,p2,p3⟩:=p1.uncons
   have z:=p3.unnil
   subst z
   cases p2
   obtain⟨⟨b1,b2⟩,W,w0,turn⟩:=q1
   refine⟨j,rfl,b1,b2,λk m σ' H'=>m=j.toNat-k∧∃r' dl' S',Ext r1 r' H1 H'∧Rs r' H' dl' σ'∧Rel X.K Z r' S' H'∧W k dl' S',⟨j.toNat,by simp,r1,dl,S1,Ext.refl,rs.ext x1,rel1,w0⟩,?_⟩
   rintro k m σ2 H2 ⟨em,r2,dl2,S2,x2,rs2,rel2,w2⟩
   have q:=turn k dl2 S2 w2
   split at q
   ·rename_i hk
    have go:∀σ' H' r' dl' S',Ext r2 r' H2 H'→Rs r' H' dl' σ'→Rel X.K Z r' S' H'→W (k+1) dl' S'→∃r' dl' S',Ext r1 r' H1 H'∧Rs r' H' dl' σ'∧Rel X.K Z r' S' H'∧W (k+1) dl' S':=
     λσ' H' r' dl' S' x rs' rel' w'=>⟨r',dl',S',x2.trans x,rs',rel',w'⟩
    have pk:Rp r2 H2 (.int (k:Int)) (.int (0+(k:Int))):=by rw[Int.zero_add]; exact .int _
    refine .inr ⟨hk,λσ' H'=>∃r' dl' S',Ext r1 r' H1 H'∧Rs r' H' dl' σ'∧Rel X.K Z r' S' H'∧W (k+1) dl' S',λσ' H' z=>⟨j.toNat-(k+1),by omega,rfl,z⟩,λv' H' y'=>?_⟩
    obtain⟨eH,y'⟩:=y'
    subst eH
    subst y'
    exact⟨r2,_,S2,_,rs2.set i pk,rel2,q,go,λσ' H' r' dl' S' x rs' rel' z=>ret.nx σ' H' r' dl' S' (x1.trans (x2.trans x)) rs' rel' z,go,ret.rt.ext (x1.trans x2)⟩
   ·rename_i hk
    exact .inl ⟨by show j.toNat≤k; omega,ret.nx σ2 H2 r2 dl2 S2 (x1.trans x2) rs2 rel2 q⟩
  ·exact q1.elim
end
def zhy (N:List Str)(ds:List D):Ev:=ds.map some++List.replicate (N.length-ds.length) none
theorem zxC {r:List Addr}{H:Hp}{N:List Str}{ds:List D}{vs:List V}(h:Rps r H ds vs):Rs r H (zhy N ds) (L2.zc6 N vs):=by
  refine⟨by simp[zhy,L2.zc6,h.1],λi d e=>?_⟩
  unfold zhy at e
  by_cases hi:i<ds.length
  · rw[Val (by simpa using hi),Vae] at e
    cases q:ds[i]? with
    | none=>
   rw[q] at e
   cases e
    | some z=>
      rw[q] at e
      cases e
      obtain⟨v,hv,pv⟩:=h.get q
      refine⟨v,?_,pv⟩
      unfold L2.zc6
      rw[Val (by simpa [h.1] using hi),Vae,hv]
      rfl
  · rw[VaF (by simpa using hi),List.getElem?_replicate] at e
    split at e <;> cases e
section
variable {P:Program}{w:World}{K:PySem.W.Frag}{mg:Str→Option Value}{base:Heap}
abbrev Z0:Zx:=Zc (λ_ _=>False) (λ_ _ _=>False)
theorem zfD {X:Cx}:zdo X Z0.w:=λ_ _ _ _ _ _ _ h=>by
 obtain⟨_,_,_,_,_,_,_,_,_,_,_,_,q⟩:=h
 exact q.elim
theorem zat {x qual:Str}{st:Stmt}{f:Addr}{fd:FuncData}{N ps:List Str}{k:Nat}{sd:Sd}(F:Fun K x qual st f fd)(Sc:zaw N ps (zam st))(len:∀ds S Q ex,sd ds S Q ex→ds.length=ps.length)
  (hbody:∀(cdv:Value) (A:Around) (outer:List Env) (s:Shared) (H:Hp) (E:XK),zaT k (A.deeper (envOfC qual (zam st) s.heap.objs.size f cdv))→
   ∃t,zcI (zfy (CXE P w) P w K mg base N qual (zam st) f cdv A outer s H E).nox Z0 (zd2 st) t∧∀ds S Q ex,sd ds S Q ex→t { nx:=λ_ S'=>Q .non S',rt:=Q } (zhy N ds) S):zbq P w K mg base (CXE P w) (k+1) f fd ps (upF K sd):=by
 obtain⟨oc,od,kV,doc,pm,an,cdv,ct,osl,rfl,lk,hcd⟩:=F.ex
 refine fn_of lk hcd Sc (λvs H Q E h=>?_) λA outer s H vs Q E hr h=>?_
 ·obtain⟨ex,r,S,ds,Q',rel,p,q,ret⟩:=h
  rw[← p.1]
  exact len ds S Q' ex q
 ·obtain⟨ex,r,S,ds,Q',rel,p,q,ret⟩:=h
  obtain⟨t,ht,hq⟩:=hbody cdv A outer s H E hr
  have back:∀ {H':Hp} {r':List Addr} {S':Sto},Ext r r' H H'→Rel K Z0 r' S' H'→Rel K (Zc ex E) r' S' H':=λx rel'=>⟨rel'.b,rel.xw.ext x⟩
  refine⟨upS K Z0 t,ht.nox,r,zhy N ds,S,_,zxC p,⟨rel.b,λ_ _ _ _ _ _ _ _ _ z=>z.elim⟩,hq ds S Q' ex q,?_,?_,?_,?_⟩
  ·intro σ' H' r' dl' S' x _ rel' z
   exact ret .non H' r' .non S' x (back x rel') .non z
  ·intro σ' H' r' dl' S' x _ rel' z
   exact z
  ·intro σ' H' r' dl' S' x _ rel' z
   exact z
  ·intro v H' r' d S' x rel' p' z
   exact ret v H' r' d S' x (back x rel') p' z
end
open PySem
def Sz (n:Nat)(i:Int):Prop:=i.natAbs<2^n
theorem Sz.mono {m n:Nat}{i:Int}(h:Sz m i)(hn:m≤n):Sz n i:=Vax h (Nat.pow_le_pow_right (by decide) hn)
theorem Sz.bits {n:Nat}{i:Int}(h:Sz n i):Builtin.Int.intBits i≤n:=by
 unfold Builtin.Int.intBits
 split
 ·exact Vaj _
 ·rename_i hz
  have hp:i.natAbs≠0:=by
   intro z
   have z2:i=0:=by omega
   simp[z2] at hz
  have:=(Nat.log2_lt hp).mpr h
  omega
theorem zaF {m n:Nat}{i j:Int}(hi:Sz m i)(hj:Sz n j)(hm:m≤1048576:=by decide)(hn:n≤1048576:=by decide):IntMulOk i j:=by
 have e20:(2:Nat)^20=1048576:=by decide
 exact IntMulOk.of_bits (VaB hi.bits (by omega)) (VaB hj.bits (by omega))
theorem Sz.of {n:Nat}{i:Int}(m:Nat)(h:i.natAbs≤m)(hm:m<2^n:=by decide):Sz n i:=Nat.lt_of_le_of_lt h hm
theorem Sz.mul {m n:Nat}{i j:Int}(hi:Sz m i)(hj:Sz n j):Sz (m+n) (i*j):=by
 unfold Sz at *
 rw[Nat.pow_add,VaY]
 exact Nat.mul_lt_mul'' hi hj
theorem Sz.add {m n:Nat}{i j:Int}(hi:Sz m i)(hj:Sz n j):Sz (max m n+1) (i+j):=by
 have h1:Sz (max m n) i:=hi.mono (Nat.le_max_left _ _)
 have h2:Sz (max m n) j:=hj.mono (Nat.le_max_right _ _)
 unfold Sz at *
 have e:(2:Nat)^(max m n+1)=2^max m n+2^max m n:=by rw[Nat.pow_succ]; omega
 rw[e]
 have:=Int.natAbs_add_le i j
 omega
theorem Sz.neg {m:Nat}{i:Int}(hi:Sz m i):Sz m (-i):=by
 unfold Sz at *
 rw[Int.natAbs_neg]; exact hi
theorem Sz.sub {m n:Nat}{i j:Int}(hi:Sz m i)(hj:Sz n j):Sz (max m n+1) (i-j):=by
 rw[Int.sub_eq_add_neg]; exact hi.add hj.neg
theorem Sz.log {n:Nat}{i:Int}(h:Sz n i)(hi:i≠0)(hn:n≤9000:=by decide):i.natAbs.log2<9000:=by
 have:=(Nat.log2_lt (by omega:i.natAbs≠0)).mpr h
 omega
theorem Sz.fd {n:Nat}{i:Int}(h:Sz n i)(hi:0<i)(hn:n≤9000:=by decide):0<i∧i.natAbs.log2<9000:=⟨hi,h.log (by omega) hn⟩
theorem zbj {a b:Int}(hb:0<b):0≤a%b∧a%b<b:=⟨Int.emod_nonneg _ (by omega),Int.emod_lt_of_pos _ hb⟩
example (x:Int):-(10^40)≤x%(2*10^40+1)-10^40:=by omega
example (x:Int):x%(2*10^40+1)-10^40≤10^40:=by omega
example (x:Int) (h:-(10^40)≤x) (h2:x≤2*10^41):Sz 140 x:=Sz.of (2*10^41) (by omega)
theorem zsz (a b:Int):Int.gcd b (a%b)=Int.gcd a b:=by
 rw[Int.emod_def,show a-b*(a/b)=a-(a/b)*b by rw[Va4],Int.gcd_sub_mul_right_right,Int.gcd_comm]
def zc2 (i:Int):Int:=if i<0 then -i else i
theorem zxe (i:Int):0≤zc2 i:=by unfold zc2; split <;> omega
theorem zw8 (a b:Int):Int.gcd (zc2 a) (zc2 b)=Int.gcd a b:=by
 have h:∀i:Int,(zc2 i).natAbs=i.natAbs:=λi=>by unfold zc2; split <;> omega
 unfold Int.gcd
 rw[h,h]
theorem zzk {T B d:Int}(hB:B≠0)(hd:d=(if B<0 then -((Int.gcd T B:Nat):Int) else ((Int.gcd T B:Nat):Int))):
  d≠0∧T.fdiv d*d=T∧B.fdiv d*d=B∧1≤B.fdiv d∧Int.gcd (T.fdiv d) (B.fdiv d)=1∧T.fdiv d*B=T*B.fdiv d:=by
 have g0:0<Int.gcd T B:=Nat.pos_of_ne_zero λz=>hB (Int.gcd_eq_zero_iff.mp z).2
 have dT:((Int.gcd T B:Nat):Int) ∣ T:=Int.gcd_dvd_left T B
 have dB:((Int.gcd T B:Nat):Int) ∣ B:=Int.gcd_dvd_right T B
 have hne:d≠0:=by
  rw[hd]; split <;> omega
 have eT:d ∣ T:=by rw[hd]; split <;> first | exact Int.neg_dvd.mpr dT | exact dT
 have eB:d ∣ B:=by rw[hd]; split <;> first | exact Int.neg_dvd.mpr dB | exact dB
 have fT:T.fdiv d=T/d:=Int.fdiv_eq_ediv_of_dvd eT
 have fB:B.fdiv d=B/d:=Int.fdiv_eq_ediv_of_dvd eB
 have mT:T.fdiv d*d=T:=by rw[fT]; exact Int.ediv_mul_cancel eT
 have mB:B.fdiv d*d=B:=by rw[fB]; exact Int.ediv_mul_cancel eB
 have gg:Int.gcd (T.fdiv d) (B.fdiv d)=1:=by
  have z:=Int.gcd_ediv_gcd_ediv_gcd g0
  rw[fT,fB,hd]
  split
  ·rw[Int.ediv_neg,Int.ediv_neg,Int.neg_gcd,Int.gcd_neg]; exact z
  ·exact z
 have pos:1≤B.fdiv d:=by
  by_cases hb:B<0
  ·have dn:d<0:=by rw[hd,if_pos hb]; omega
   by_cases q:B.fdiv d≤0
   ·have:=Int.mul_nonneg_of_nonpos_of_nonpos q (Int.le_of_lt dn)
    omega
   ·omega
  ·have dp:0<d:=by rw[hd,if_neg hb]; omega
   by_cases q:B.fdiv d≤0
   ·have:=Vaw (show 0≤-(B.fdiv d) by omega) (Int.le_of_lt dp)
    rw[VaU] at this
    omega
   ·omega
 refine⟨hne,mT,mB,pos,gg,?_⟩
 calc T.fdiv d*B=T.fdiv d*(B.fdiv d*d):=by rw[mB]
  _=T.fdiv d*d*B.fdiv d:=by grind
  _=T*B.fdiv d:=by rw[mT]
theorem zro {T d:Int}(hne:d≠0)(mT:T.fdiv d*d=T):(T.fdiv d).natAbs≤T.natAbs:=by
 have h:(T.fdiv d).natAbs*d.natAbs=T.natAbs:=by rw[← VaY,mT]
 have hd:1≤d.natAbs:=by omega
 calc (T.fdiv d).natAbs=(T.fdiv d).natAbs*1:=by omega
  _≤(T.fdiv d).natAbs*d.natAbs:=Nat.mul_le_mul_left _ hd
  _=T.natAbs:=h
theorem zeY (m:Int){g:Int}(hg:0<g):m/g*g≤m∧m<(m/g+1)*g:=by
 have h1:=Int.emod_add_mul_ediv m g
 have h2:=Int.emod_nonneg m (show g≠0 by omega)
 have h3:=Int.emod_lt_of_pos m hg
 have e:(m/g+1)*g=g*(m/g)+g:=by grind
 have e2:m/g*g=g*(m/g):=Va4 _ _
 omega
theorem zi7 (m:Int){g:Int}(hg:0<g):m≤-(-m/g)*g∧(-(-m/g)-1)*g<m:=by
 obtain⟨h1,h2⟩:=zeY (-m) hg
 have e1:-(-m/g)*g=-(-m/g*g):=by rw[VaU]
 have e2:(-(-m/g)-1)*g=-((-m/g+1)*g):=by grind
 omega
section
variable {X:Cx}{Z:Zx}
def wIf (C:Int→Int→Bool)(g:Int→Int→D):W2:=λx y S Q=>match x,y with
 | .int i,.int j=>if C i j=true then Q (g i j) S else False
 | _,_=>False
theorem opIf {f:Value→Value→Sem Value}{C:Int→Int→Prop}{C':Int→Int→Bool}{g:Int→Int→D}(h:OpR X f (upO X.K Z (wI C g)))(hc:∀i j,C' i j=true→C i j):OpR X f (upO X.K Z (wIf C' g)):=
 zeS h λx y H Qv ⟨r,S,dx,dy,Q,rel,px,py,q,ret⟩=>⟨r,S,dx,dy,Q,rel,px,py,by
  unfold wIf at q
  split at q
  ·obtain⟨h1,h2⟩:=zkh q
   exact⟨hc _ _ h1,h2⟩
  ·exact q.elim,ret⟩
def zko (_ j:Int):Bool:=decide (0<j)&&decide (j<1073741824)
abbrev zu4:W2:=wIf zko λi j=>.int (i/j)
abbrev wModL:W2:=wIf zko λi j=>.int (i%j)
def powB (i j:Int):Bool:=decide (0≤j)&&decide (j≤1000)&&decide (-1000<i)&&decide (i<1000)
abbrev wPowL:W2:=wIf powB λi j=>.int (i^j.toNat)
theorem zqv {i j:Int}(h:zko i j=true):0<j∧j<1073741824:=by
 unfold zko at h
 simpa using h
theorem zbD:OpR X (binaryOp .FloorDiv) (upO X.K Z zu4):=opIf zdr λi j h=>by
 obtain⟨h1,h2⟩:=zqv h
 refine⟨h1,?_⟩
 have:j.natAbs.log2<30:=(Nat.log2_lt (by omega)).mpr (by omega)
 omega
theorem zbf:OpR X (binaryOp .Mod) (upO X.K Z wModL):=opIf zbs λi j h=>(zqv h).1
theorem zhx:OpR X (binaryOp .Pow) (upO X.K Z wPowL):=opIf zuF λi j h=>by
 unfold powB at h
 simp at h
 refine⟨h.1.1.1,by have:=h.1.1.2; omega,?_⟩
 have h3:=h.1.2
 have h4:=h.2
 have big:(18446744073709551616:Nat)=2^64:=by decide
 omega
structure Df (K:PySem.W.Frag)(mg:Str→Option Value)(x:Str)(st:Stmt)(ps:List Str) where
 f:Addr
 fd:FuncData
 F:Fun K x x st f fd
 m:mg x=some (.ref f)
 b:zbQ K fd ps []
structure Fk (P:Program)(w:World)(K:PySem.W.Frag)(mg:Str→Option Value)(base:Heap)(k:Nat)(x:Str)(ps:List Str)(sd:Sd) where
 f:Addr
 fd:FuncData
 ok:zbq P w K mg base (CXE P w) k f fd ps (upF K sd)
 m:mg x=some (.ref f)
 kp:PySem.W.keepIn K (.ref f)=true
 b:zbQ K fd ps []
def Df.mk' {P:Program}{w:World}{K:PySem.W.Frag}{mg:Str→Option Value}{base:Heap}{k:Nat}{x:Str}{st:Stmt}{ps:List Str}{sd:Sd}(d:Df K mg x st ps)(h:zbq P w K mg base (CXE P w) k d.f d.fd ps (upF K sd)):Fk P w K mg base k x ps sd:=
 ⟨d.f,d.fd,h,d.m,d.F.kp,d.b⟩
theorem zxs {x:Str}{p pos:Pos}{e:Expr}{es:List Expr}{t:TDA}{k:Nat}{ps:List Str}{sd:Sd}{ex:Ev→Addr→Sto→Prop}{W:St→XK}(G:Fk X.prog X.w X.K X.mg X.base k x ps sd)(hr:zaT k X.A)(hx:zdo X W)(hg:Gl X x)(ha:PDA X ⟨ex,W⟩ (e::es) t)
  (hdb:(x==("__debug__":Str))=false:=by decide)(he:starEach (e::es) X.env=(false,eval e X.env)::starEach es X.env:=by rfl)(hpl:(backTo pos (starEach es X.env)).any (·.1)=false:=by rfl):
  PD X ⟨ex,W⟩ (.Call (.Name x p) (e::es) [] pos) (zow ex sd t):=ztF G.ok hr hg G.m G.kp G.b hx ha hdb he hpl
theorem zwB {st:Stmt}:PDS X Z st (λ_ _ _=>False):=zb0 zyb λF σ H ⟨_,_,_,_,_,_,h,_⟩=>h
end
def zfI:Sd:=λds S Q _=>∃ns:List Int,ds=[.ref 0]∧S=[.frz (ns.map D.int)]∧ns.length≤63∧∀S',Q (.bl true) S'
theorem zst:∀ds S Q ex,zfI ds S Q ex→ds.length=1:=λds S Q ex h=>by
 obtain⟨ns,rfl,_⟩:=h
 rfl
theorem zww {K:PySem.W.Frag}{H:Hp}{a:Addr}{xs:List V}(hO:zgO H)(h:SqL K H a xs):SqF K H a xs:=by
 rcases h with (h | ⟨o,h⟩) | h
 ·rcases hO a with z | ⟨o,ys,z⟩
  ·rw[h] at z; cases z
  ·rw[h] at z; cases z
 ·exact .inl ⟨o,h⟩
 ·exact .inr h
theorem zvi {r:List Addr}{H:Hp}(ns:List Int):Rps r H (ns.map D.int) (ns.map V.int):=by
 refine⟨by simp,λi d v h1 h2=>?_⟩
 rw[Vae] at h1 h2
 cases q:ns[i]? with
 | none=>rw[q] at h1; cases h1
 | some z=>
  rw[q] at h1 h2
  cases h1
  cases h2
  exact .int z
theorem zuk {K:PySem.W.Frag}{H:Hp}{a:Addr}{ns:List Int}(hl:ns.length≤63)(hO:zgO H)(hS:SqL K H a (ns.map V.int)):upF K zfI [.ref a] H (λv _=>v=.bl true) λ_ _ _=>False:=by
 refine⟨λ_ _=>False,[a],[.frz (ns.map D.int)],[.ref 0],λd _=>d=.bl true,⟨⟨rfl,λn b o h1 h2=>?_,λn m b xs ys h1 h2 h3 h4 o1 o2=>?_⟩,λ_ _ _ _ _ _ _ _ _ z=>z.elim⟩,Rps.cons (.ref rfl) Rps.nil,⟨ns,rfl,rfl,hl,λ_=>rfl⟩,λv H' r' d S' e rel p q=>?_⟩
 ·cases n with
  | zero=>
   simp at h1 h2
   subst h1; subst h2
   exact⟨_,zww hO hS,zvi ns⟩
  | succ n=>simp at h1
 ·cases n with
  | zero=>
   simp at h3
   subst h3
   cases o1
  | succ n=>simp at h1
 ·subst q
  cases p
  rfl
theorem zy6 {l:PySem.W.OpenLaw}{q:Program}{loose:List Str}{XP:(Str→Option Value)→Heap→Prop}{YP:World→Heap→Prop}{d:DefRec}{K:Params→PySem.W.Frag}{x:Str}(k:Nat)(hn:l.most=some 63)(hdf:d.params.defaults=[])(hr:zaT k callerA)
  (hY:∀(w:World) (h:Heap),YP w h→(K w.params).In h)
  (F:∀(w:World) (mg:Str→Option Value) (fa:Addr) (h:Heap),(K w.params).In h→h.Ns mainGlobals mg→mg d.name=some (.ref fa)→
   ∃fd:FuncData,(∀(s:Shared) (u:Value),BindsTo s fd ⟨[u],[]⟩ [(x,u)])∧∀base:Heap,(K w.params).In base→base.Ns mainGlobals mg→zbq l.prog w (K w.params) mg base (CXE l.prog w) k fa fd [x] (upF (K w.params) zfI)):
  PySem.W.WalkO q loose XP YP l.row.toRowW d [] (λf vs=>PySem.call f vs):=
 L2.zso (n:=63) (k:=k) (x:=x) (CX:=λw=>CXE l.prog w) (sp:=λw=>upF (K w.params) zfI) hn (by decide) hdf hr hY F (λ_ _ a ns hl hO hS=>zuk hl hO hS) λ_ _ _ _ _ ⟨_,_,_,_,_,_,_,_,_,_,_,_,z⟩=>z
theorem zoo (K:PySem.W.Frag)(T:String)(h:T∈["int","bool","tuple","str"]):Kit K T:=by
 intro t ht
 simp only[Vau,List.not_mem_nil,or_false] at h ht
 rcases h with rfl | rfl | rfl | rfl <;> rcases ht with rfl | rfl | rfl | rfl | rfl <;> kernel_rfl
theorem ifF {c:Bool}{A B:Prop}(h:c=false)(b:B):if c=true then A else B:=by rw[h]; exact zbm b
theorem ifP {c A B:Prop} [Decidable c] (h:c)(a:A):if c then A else B:=by rw[if_pos h]; exact a
theorem ifD {c:Prop} [Decidable c] {A B:Prop}(h1:c→A)(h2:¬ c→B):if decide c=true then A else B:=by
 by_cases h:c
 ·rw[decide_eq_true h]; exact zbM (h1 h)
 ·rw[decide_eq_false h]; exact zbm (h2 h)
open PySem L2
open PySem L2
theorem Sz.pow {n:Nat}{i:Int}(h:Sz n i)(k:Nat):Sz (n*k+1) (i^k):=by
 unfold Sz at *
 rw[Int.natAbs_pow,Nat.pow_succ,Nat.pow_mul]
 have h1:i.natAbs^k≤(2^n)^k:=Nat.pow_le_pow_left (VaV h) k
 have h2:0<(2^n)^k:=VaN (VaN (by decide))
 omega
theorem ifN {c:Prop} [Decidable c] {A B:Prop}(h1:¬ c→A)(h2:c→B):if (!decide c)=true then A else B:=by
 by_cases h:c
 ·rw[decide_eq_true h]; exact L2.zbm (h2 h)
 ·rw[decide_eq_false h]; exact L2.zbM (h1 h)
section
variable {X:Cx}{Z:Zx}
end
structure RoomN (k:Nat)(A:Around):Prop where
 dp:A.depth+3*k+5<recursionLimit
 un:A.units+16*k+200<cLine
structure FnOkN (P:Program)(w:World)(K:PySem.W.Frag)(mg:Str→Option Value)(base:Heap)(k:Nat)(f:Addr)(fd:FuncData)(ps:List Str)(sp:Sp):Prop where
 len:∀vs H Q E,sp vs H Q E→vs.length=ps.length
 run:∀(A:Around) (outer:List Env) (s:Shared) (H:Hp) (args:Args) (us:List Value) (vs:List V) (Q:VK) (E:XK),RoomN k A→zdN P w K mg base A outer s H→BindsTo s fd args (ps.zip us)→zaB vs us→sp vs H Q E→
  codeAny (model P w) A (.call (.ref f) args) (CR (CXE P w) outer P w H s Q E) s
section
variable {X:Cx}{k:Nat}{f:Addr}{fd:FuncData}{ps:List Str}{sp:Sp}{W:St→XK}{x:Str}{p pos:Pos}{e:Expr}{es:List Expr}{t:TA}
end
section
variable {X:Cx}{Z:Zx}{x:Str}{p pos:Pos}{e:Expr}{es:List Expr}{t:TDA}
end
section
variable {P:Program}{w:World}{K:PySem.W.Frag}{mg:Str→Option Value}{base:Heap}
end
structure FkN (P:Program)(w:World)(K:PySem.W.Frag)(mg:Str→Option Value)(base:Heap)(k:Nat)(x:Str)(ps:List Str)(sd:Sd) where
 f:Addr
 fd:FuncData
 ok:FnOkN P w K mg base k f fd ps (upF K sd)
 m:mg x=some (.ref f)
 kp:PySem.W.keepIn K (.ref f)=true
 b:zbQ K fd ps []
section
variable {X:Cx}{Z:Zx}
theorem znX {r:List Addr}{H:Hp}{a:Addr}{o:HO}(h:H a=none):Ext r r H (upd H a o):=⟨λ_ _ q=>q,λ_ _ q=>zda h _ _ q,λ_ _ q=>zda h _ _ q⟩
open PySem.W in
end
abbrev VE:List Value:=[.type "ValueError",.type "Exception",.type "BaseException",.type "object"]
structure Ec (K:PySem.W.Frag)(mg:Str→Option Value)(x:Str) where
 c:Addr
 xc:Xc K mg x c VE "ValueError.__new__"
theorem qt {Q:DK}{S:Sto}{b:Bool}(e:b=true)(h:Q (.bl true) S):Q (.bl b) S:=by rw[e]; exact h
theorem Sz.div {n:Nat}{i j:Int}(h:Sz n i)(hj:1≤j):Sz n (i/j):=by
 refine Nat.lt_of_le_of_lt ?_ h
 obtain⟨h1,h2⟩:=zeY i (show 0<j by omega)
 by_cases q:0≤i/j
 ·have:=Int.mul_le_mul_of_nonneg_left hj q
  omega
 ·have:=Int.mul_le_mul_of_nonneg_left hj (show 0≤-(i/j+1) by omega)
  have e:-(i/j+1)*j=-((i/j+1)*j):=VaU _ _
  omega
inductive Sco (n:Nat):D→Prop
 | non:Sco n .non
 | bl (b:Bool):Sco n (.bl b)
 | int (i:Int):Sco n (.int i)
 | str (x:Str):Sco n (.str x)
 | tup {ds:List D}:(∀d∈ds,Sco n d)→Sco n (.tup ds)
 | ref {m:Nat}:m<n→Sco n (.ref m)
 | exc (c:Addr):Sco n (.exc c)
theorem Rp.sco {r:List Addr}{H:Hp}{d:D}{v:V}(h:Rp r H d v):Sco r.length d:=by
 induction h with
 | non=>exact .non
 | bl b=>exact .bl b
 | int i=>exact .int i
 | str x=>exact .str x
 | @tup ds xs a _ l _ ih=>
  refine .tup λd hd=>?_
  obtain⟨i,hi,e⟩:=VaS.mp hd
  exact ih i d xs[i] (by simp[hi,e]) (by simp[l ▸ hi])
 | ref h=>exact .ref (Vad.mp h).1
 | exc _=>exact .exc _
theorem Rp.low {r r':List Addr}{H:Hp}{d:D}{v:V}(h:Rp r' H d v)(low:∀m a,m<r.length→r'[m]?=some a→r[m]?=some a)(s:Sco r.length d):Rp r H d v:=by
 induction h with
 | non=>exact .non
 | bl b=>exact .bl b
 | int i=>exact .int i
 | str x=>exact .str x
 | tup e l f ih=>
  cases s with
  | tup s=>exact .tup e l λi d v h1 h2=>ih i d v h1 h2 (s d (Vai h1))
 | ref h=>
  cases s with
  | ref s=>exact .ref (low _ _ s h)
 | exc h=>exact .exc h
def Pre (S S':Sto):Prop:=∀(n:Nat) (o:Ob),S[n]?=some o→S'[n]?=some o
theorem Pre.refl {S:Sto}:Pre S S:=λ_ _ h=>h
theorem Pre.push {S S':Sto}{o:Ob}(h:Pre S S'):Pre S (S'++[o]):=λn u e=>by
 have z:=h n u e
 rw[Val (Vad.mp z).1]; exact z
theorem Pre.trans {S S' S2:Sto}(h:Pre S S')(k:Pre S' S2):Pre S S2:=λn o e=>k n o (h n o e)
theorem zpG {r r':List Addr}{H H':Hp}(e:Ext r r' H H'):∀m a,m<r.length→r'[m]?=some a→r[m]?=some a:=λm a hm h=>by
 have z:r[m]?=some r[m]:=by simp[hm]
 rw[e.adr _ _ z] at h
 rw[z]; exact h
theorem za0.low {K:PySem.W.Frag}{r r':List Addr}{S S':Sto}{H H':Hp}(h:za0 K r S H)(e:Ext r r' H H')(h':za0 K r' S' H')(p:Pre S S'):za0 K r S H':=by
 have rl:∀ {ds:List D} {xs ys:List V},Rps r H ds xs→Rps r' H' ds ys→Rps r H' ds ys:=λ{ds xs ys} a b=>⟨b.1,λi d v h1 h2=>by
  obtain⟨v0,_,q⟩:=a.get h1
  exact(b.2 i d v h1 h2).low (zpG e) q.sco⟩
 refine⟨h.len,λn a o h1 h2=>?_,λn m a xs ys h1 h2 h3 h4 o1 o2=>h'.nd n m a xs ys (e.adr _ _ h1) (e.adr _ _ h2) (p _ _ h3) (p _ _ h4) o1 o2⟩
 have q:=h.ob n a o h1 h2
 have q':=h'.ob n a o (e.adr _ _ h1) (p _ _ h2)
 cases o with
 | lst ds=>
  obtain⟨xs,_,a1⟩:=q
  obtain⟨ys,b0,b1⟩:=q'
  exact⟨ys,b0,rl a1 b1⟩
 | frz ds=>
  obtain⟨xs,_,a1⟩:=q
  obtain⟨ys,b0,b1⟩:=q'
  exact⟨ys,b0,rl a1 b1⟩
 | ins C fs=>
  obtain⟨_,_,_,a1⟩:=q
  obtain⟨dx,fs',b0,b1⟩:=q'
  exact⟨dx,fs',b0,b1.1,rl a1.2 b1.2⟩
 | dct kvs=>
  obtain⟨_,_,a1⟩:=q
  obtain⟨ks,b0,b1⟩:=q'
  exact⟨ks,b0,b1.1,rl a1.2 b1.2⟩
def Gc (S:Sto)(Q:DK):DK:=λd S'=>Pre S S'∧Sco S.length d∧Q d S
def GcX (S:Sto)(ex:Addr→Sto→Prop):Addr→Sto→Prop:=λc S'=>Pre S S'∧ex c S
theorem Ret.gc {K:PySem.W.Frag}{Z Z':Zx}{r:List Addr}{S:Sto}{H:Hp}{Q:DK}{Qv:VK}(h:Ret K Z r H Q Qv)(rel:Rel K Z r S H):Ret K Z' r H (Gc S Q) Qv:=λv H' r' d S' e rel' p q=>by
 obtain⟨pre,sc,q⟩:=q
 have e':Ext r r H H':=⟨λ_ _ z=>z,e.tup,e.xc⟩
 rw[← rel.len] at sc
 exact h v H' r d S e' ⟨rel.b.low e rel'.b pre,rel.xw.ext e'⟩ (p.low (zpG e) sc) q
theorem zen.gc {K:PySem.W.Frag}{ex:Addr→Sto→Prop}{E:XK}{r:List Addr}{S:Sto}{H:Hp}(rel:Rel K (Zc ex E) r S H):zen K (Zc (GcX S ex) E) r H:=λdl σ c H' r' S' e _ rb q=>by
 obtain⟨pre,q⟩:=q
 have e':Ext r r H H':=⟨λ_ _ z=>z,e.tup,e.xc⟩
 exact rel.xw [] [] c H' r S e' ⟨rfl,λi d z=>by simp at z⟩ (rel.b.low e rb pre) q
section
variable {P:Program}{w:World}{K:PySem.W.Frag}{mg:Str→Option Value}{base:Heap}
def gcS (sd:Sd):Sd:=λds S Q ex=>∃Q0 ex0,Q=Gc S Q0∧ex=GcX S ex0∧sd ds S Q0 ex0
theorem zb9 {CX:CXT}{k:Nat}{f:Addr}{fd:FuncData}{ps:List Str}{sd:Sd}(h:zbq P w K mg base CX k f fd ps (upF K (gcS sd))):zbq P w K mg base CX k f fd ps (upF K sd):=by
 have imp:∀vs H Q E,upF K sd vs H Q E→upF K (gcS sd) vs H Q E:=λvs H Qv E ⟨ex,r,S,ds,Q,rel,p,q,ret⟩=>
  ⟨GcX S ex,r,S,ds,Gc S Q,⟨rel.b,zen.gc rel⟩,p,⟨Q,ex,rfl,rfl,q⟩,ret.gc rel⟩
 obtain⟨h1,h2⟩:=h
 exact⟨λvs H Q E q=>h1 vs H Q E (imp vs H Q E q),λA outer s H args us vs Q E hr e0 hb rv q=>h2 A outer s H args us vs Q E hr e0 hb rv (imp vs H Q E q)⟩
end
theorem zcd {sd:Sd}{n:Nat}(len:∀ds S Q ex,sd ds S Q ex→ds.length=n):∀ds S Q ex,gcS sd ds S Q ex→ds.length=n:=λds S Q ex h=>by
 obtain⟨Q0,ex0,_,_,h⟩:=h
 exact len _ _ _ _ h
structure zdq (sc around:Scope)(x:Str)(caps:List Str):Prop where
 kind:sc.kind=.function
 nocell:∀y∈sc.names,y.2≠.cell
 own:∀y∈sc.names,y.2=.local→sc.names.lookup y.1=some .local
 loc:sc.names.lookup x=some .local
 cap:∀y∈caps,sc.names.lookup y=some .free
 out:∀y∈sc.names,y.2=.free→around.names.lookup y.1=some .cell
theorem zhZ {α:Type}{y:Str}{v:α}:∀ {l:List (Str×α)},l.lookup y=some v→(y,v)∈l
 | [],h=>by simp at h
 | (n,k)::r,h=>by
  cases e:y==n with
  | true=>
   rw[Vay,e] at h
   have z:k=v:=Option.some.inj h
   have z2:y=n:=by simpa using e
   rw[z,z2]; exact Va6
  | false=>
   rw[Vay,e] at h
   exact VaR _ (zhZ h)
theorem zov {env:Env}:∀(l:List (Str×NameKind)) (acc:List (Str×Addr)),(∀y∈l,y.2=.free→∃c,env.cells.lookup y.1=some c)→(∀x c,acc.lookup x=some c→env.cells.lookup x=some c)→
  ∃cl,(forIn l acc λx r=>(if (x.2==NameKind.free)=true then do let a ← cellOf env x.1; pure (ForInStep.yield ((x.1,a)::r)) else pure (ForInStep.yield r):Sem (ForInStep (List (Str×Addr)))))=pure cl∧
   (∀x c,cl.lookup x=some c→env.cells.lookup x=some c)∧(∀y∈l,y.2=.free→cl.lookup y.1=env.cells.lookup y.1)∧∀x c,acc.lookup x=some c→∃c',cl.lookup x=some c'
 | [],acc,_,ha=>⟨acc,by simp,ha,λy hy=>(by cases hy),λx c e=>⟨c,e⟩⟩
 | (n,k)::r,acc,h,ha=>by
  cases hk:(k==NameKind.free) with
  | false=>
   obtain⟨cl,h1,h2,h3,h4⟩:=zov r acc (λy hy=>h y (VaR _ hy)) ha
   refine⟨cl,?_,h2,λy hy hf=>?_,h4⟩
   ·rw[List.forIn_cons]; simp[hk]; simpa using h1
   ·have hy':=Vau.mp hy
    rcases hy' with rfl | hy
    ·rw[show k=NameKind.free from hf] at hk; exact absurd hk (by decide)
    ·exact h3 y hy hf
  | true=>
   have hf:k=NameKind.free:=by simpa using hk
   obtain⟨c,hc⟩:=h (n,k) Va6 hf
   obtain⟨cl,h1,h2,h3,h4⟩:=zov r ((n,c)::acc) (λy hy=>h y (VaR _ hy)) (λx c' e=>by
    cases q:x==n with
    | true=>
     rw[Vay,q] at e
     have z:x=n:=by simpa using q
     rw[z,hc]; exact e
    | false=>
     rw[Vay,q] at e
     exact ha x c' e)
   refine⟨cl,?_,h2,λy hy hf=>?_,λx c' e=>?_⟩
   ·have ec:cellOf env n=pure c:=by unfold cellOf; rw[hc]
    rw[List.forIn_cons]; simp[hk,ec]; simpa using h1
   ·have hy':=Vau.mp hy
    rcases hy' with rfl | hy
    ·obtain⟨c',e⟩:=h4 n c (by simp)
     rw[e]; exact(h2 _ _ e).symm
    ·exact h3 y hy hf
   ·refine h4 x (if x==n then c else c') ?_
    cases q:x==n with
    | true=>simp[Vay,q]
    | false=>simp[Vay,q,e]
theorem zqR {sc:Scope}{env:Env}(h:∀y∈sc.names,y.2=.free→∃c,env.cells.lookup y.1=some c):
  ∃cl,closureFor sc env=pure cl∧(∀x c,cl.lookup x=some c→env.cells.lookup x=some c)∧∀y∈sc.names,y.2=.free→cl.lookup y.1=env.cells.lookup y.1:=by
 obtain⟨cl,h1,h2,h3,_⟩:=zov sc.names [] h (λx c e=>by simp at e)
 refine⟨cl,?_,h2,h3⟩
 unfold closureFor
 simp only[bind_pure]
 exact h1
theorem zoK {env:Env}:∀ {names:List (Str×NameKind)} {x:Str},names.lookup x=some .free→
  (names.map λ(n,k)=>if (k==NameKind.free&&env.scope.kind==.function&&env.kindOf n==some .cell) then (n,NameKind.cell) else (n,k)).lookup x=some .cell∨
  (names.map λ(n,k)=>if (k==NameKind.free&&env.scope.kind==.function&&env.kindOf n==some .cell) then (n,NameKind.cell) else (n,k)).lookup x=some .free
 | [],_,h=>by simp at h
 | (n,k)::r,x,h=>by
  have ih:=@zoK env r x
  rw[VaX]
  cases hx:x==n with
  | true=>
   rw[Vay,hx] at h
   have hk:k=.free:=Option.some.inj h
   subst hk
   dsimp only
   split
   ·left; simp[Vay,hx]
   ·right; simp[Vay,hx]
  | false=>
   rw[Vay,hx] at h
   dsimp only
   split
   ·simp only[Vay,hx]; exact ih h
   ·simp only[Vay,hx]; exact ih h
theorem zoC {env:Env}:∀ {names:List (Str×NameKind)} {x:Str},(∀y∈names,y.2≠.cell)→
  ((names.map λ(n,k)=>if (k==NameKind.free&&env.scope.kind==.function&&env.kindOf n==some .cell) then (n,NameKind.cell) else (n,k)).lookup x=some .cell∨
  (names.map λ(n,k)=>if (k==NameKind.free&&env.scope.kind==.function&&env.kindOf n==some .cell) then (n,NameKind.cell) else (n,k)).lookup x=some .free)→names.lookup x=some .free
 | [],_,_,h=>by simp at h
 | (n,k)::r,x,hc,h=>by
  have ih:=@zoC env r x λy hy=>hc y (VaR _ hy)
  rw[VaX] at h
  cases hx:x==n with
  | true=>
   rw[Vay,hx]
   dsimp only at h
   split at h
   ·rename_i q
    simp only[Bool.and_eq_true] at q
    have hk:k=.free:=by simpa using q.1.1
    rw[hk]
   ·simp only[Vay,hx] at h
    rcases h with h | h
    ·exact absurd (Option.some.inj h) (hc (n,k) Va6)
    ·exact h
  | false=>
   rw[Vay,hx]
   dsimp only at h
   split at h
   ·simp only[Vay,hx] at h; exact ih h
   ·simp only[Vay,hx] at h; exact ih h
abbrev Cx.comp (X:Cx)(sc:Scope)(N:List Str)(cl:List (Str×Addr))(C:Addr)(s0:Shared)(H0:Hp)(fp:List Addr)(pn:List (Addr×Obj)):Cx:=
 { X with N:=N,env:=compEnvC sc cl C X.env,s₀:=s0,H₀:=H0,outer:=X.stack,stack:=X.stack,ex:=fp,fn:=λ_=>false,pn:=pn,xe:=λ_ _=>False }
def zbe (caps:List Nat)(σ:St):St:=caps.map λj=>(σ[j]?).join
def zbv (caps:List Nat)(dl:Ev):Ev:=caps.map λj=>(dl[j]?).join
def zik (caps:List Nat)(wi:TI)(tc:TT)(te:TE):TE:=λσ H Q=>wi σ H λJ H1=>∀D,H1 D=none→∃W:Nat→Nat→Hp→Prop,(∃m,W 0 m (upd H1 D (.lst [])))∧∀i m H,W i m H→
 (J.stop i H∧Q (.ref D) H)∨(J.go i H∧∀x H',J.yld i H x H'→tc (some x::zbe caps σ) H' λb H2=>if b=true then te (some x::zbe caps σ) H2 λy H3=>∃ys,H3 D=some (.lst ys)∧ys.length<sizeLine∧∃m',m'<m∧W (i+1) m' (upd H3 D (.lst (ys++[y])))
  else ∃m',m'<m∧W (i+1) m' H2)
def PTs (Y:Cx)(ifs:List Expr)(tc:TT):Prop:=∀(pins:List (Addr×Obj)) (s:Shared) (σ:St) (H:Hp) (Q:Bool→Hp→Prop),Inv Y pins σ H s→tc σ H Q→
 wpAny (model Y.prog Y.w) Y.A (forIn ifs true λc r=>if r=true then do let ok ← isTrue c Y.env (eval c Y.env); pure (ForInStep.yield ok) else pure (ForInStep.yield r)) (TP Y pins σ Q) Y.xe s
theorem zuj {Y:Cx}:PTs Y [] (λ_ H Q=>Q true H):=λ_ _ _ H _ I h=>wpAny_tests_nil ⟨H,I,h⟩
theorem zyo {Y:Cx}{c:Expr}{tc:TT}(h:PT Y c tc):PTs Y [c] tc:=λpins s σ H Q I q=>wpAny_tests_one (h pins s σ H Q I q)
section
variable {X:Cx}{pins:List (Addr×Obj)}{σ:St}{H:Hp}{s:Shared}
theorem zzo {sc:Scope}{x:Str}{N:List Str}{caps:List Nat}{cl:List (Str×Addr)}{fp:List Addr}{h1:Heap}{m:Str→Option Value}{tk:Nat}(I:Inv X pins σ H s)(cs:zdq sc X.env.scope x N)
  (hN:∀(j:Nat) (y:Str),N[j]?=some y→∃i,caps[j]?=some i∧X.N[i]?=some y)(hlen:caps.length=N.length)
  (c1:∀x c,cl.lookup x=some c→X.env.cells.lookup x=some c)(c2:∀y∈sc.names,y.2=.free→cl.lookup y.1=X.env.cells.lookup y.1)
  (hf:∀b∈fp,zbL X pins H b)(hfo:∀b∈fp,b<s.heap.objs.size)(hns:h1.Ns s.heap.objs.size m)(hk:∀b o,s.heap.get? b=some o→h1.get? b=some o):
  Inv (Cx.comp X sc (x::N) cl s.heap.objs.size s H fp (X.pn++pins)) [] (none::zbe caps σ) H { s with heap:=h1,toks:=tk }:=by
 have stk:∀b∈frs X.stack,b=X.env.locals∨b∈X.fs:=λb hb=>Vau.mp (I.stkSub b hb)
 refine⟨⟨I.ok.mod,cs.kind,I.ok.glob,I.ok.blt,Vaa _,λa b c h1 h2=>I.ok.inj a b c (c1 _ _ h1) (c1 _ _ h2),λy hy=>?_,λ_ _ z=>Bool.noConfusion z,I.ok.hd,I.ok.frames,.inl rfl,λb hb=>⟨Vaq (hfo b hb),λy c e=>(hf b hb).2.2.2.2.1 y c (c1 _ _ e)⟩,
  I.bs,VaB I.ok.bsz I.sz,λb o e hb=>?_,λb hb z=>?_,I.stack,I.stkFree⟩,rfl,I.bare,Un.kept hk,⟨m,hns,λi y v e1 e2 e3=>?_⟩,λy c e=>?_,I.hok.fresh (Vaa _),λy c e=>I.freeC y c (c1 _ _ e),λp hp=>?_,I.hok.kept hk,?_⟩
 ·have hfr:sc.names.lookup y=some .free:=zoC cs.nocell hy
  have hm:=zhZ hfr
  obtain⟨c,e⟩:=I.ok.has y (.inl (cs.out _ hm rfl))
  exact⟨c,(c2 _ hm rfl).trans e⟩
 ·rcases (hf b hb).2.2.2.1 with z | z
  ·exact I.ok.noex b o e z
  ·exact absurd (Vax (Heap.lt_size (I.ok.bs b o e).1) z) (VaG _)
 ·rcases stk b z with z | z
  ·exact(hf b hb).2.1 z
  ·exact(hf b hb).2.2.1 z
 ·cases i with
  | zero=>simp at e2
  | succ i=>
   have e1':N[i]?=some y:=by simpa using e1
   obtain⟨j,hj,hy⟩:=hN i y e1'
   have e2':σ[j]?=some (some v):=by
    simp only[List.getElem?_cons_succ,zbe,Vae,hj,Option.map_some,Option.some.injEq] at e2
    cases q:σ[j]? with
    | none=>rw[q] at e2; cases e2
    | some o=>rw[q] at e2; simp at e2; rw[e2]
   have hfr:sc.names.lookup y=some .free:=cs.cap y (Vai e1')
   have hm:=zhZ hfr
   have hce:X.env.scope.names.lookup y=some .cell:=cs.out _ hm rfl
   obtain⟨m0,_,hl⟩:=I.loc
   obtain⟨u,r,l⟩:=hl j y v hy e2' (.inr (.inl hce))
   refine⟨u,r,.inr ⟨zoK hfr,?_⟩⟩
   rcases l with ⟨k,_⟩ | ⟨_,c,ec,hcell⟩
   ·rw[show X.env.kindOf y=some .cell from hce] at k; cases k
   ·exact⟨c,(c2 _ hm rfl).trans ec,hcell.keeps hk⟩
 ·obtain⟨v,z⟩:=I.cell y c (c1 _ _ e)
  exact⟨v,z.keeps hk⟩
 ·have hp':p∈X.pn++pins:=by simpa using hp
  obtain⟨p1,p2,p3,p4,p5⟩:=I.pin p hp'
  refine⟨hk _ _ p1,p2,Vaq (Heap.lt_size p1),λz=>?_,p5⟩
  rcases stk _ z with z | z
  ·exact p3 z
  ·exact p4 z
 ·simp[zbe,hlen]
end
section
variable {X:Cx}{elt iter:Expr}{x:Str}{px pos:Pos}{ifs:List Expr}{sc:Scope}{N:List Str}{caps:List Nat}{wi:TI}{tc:TT}{te:TE}
structure zpq (X:Cx)(pins:List (Addr×Obj))(σ:St)(C:Addr)(Q:VK)(D:Addr)(s':Shared):Prop where
 q:∃H',Inv X pins σ H' s'∧Q (.ref D) H'∧H' C=none
 ns:∃m,s'.heap.Ns C m
 loc:C≠X.env.locals
 old:X.s₀.heap.objs.size≤C
 cell:∀x c,X.env.cells.lookup x=some c→c≠C
 pin:∀p∈X.pn++pins,p.1≠C
theorem zqV {use:Option (Value→Sem Unit)}{Qr:Value→Shared→Prop}(hc:X.calm=true)(cs:zdq sc X.env.scope x N)(hN:∀(j:Nat) (y:Str),N[j]?=some y→∃i,caps[j]?=some i∧X.N[i]?=some y)(hlen:caps.length=N.length)(hnd:(x::N).Nodup)
  (hi:PI X (.Name x px) iter wi)(ht:∀cl C s0 H0 fp pn,PTs (Cx.comp X sc (x::N) cl C s0 H0 fp pn) ifs tc)(he:∀cl C s0 H0 fp pn,PE (Cx.comp X sc (x::N) cl C s0 H0 fp pn) elt te)
  (hs:∀y,foldedSetIterable iter X.env y=pure y)
  {pins:List (Addr×Obj)}{s:Shared}{σ:St}{H:Hp}{Q:VK}{p2:Pos}(I:Inv X pins σ H s)(h:zik caps wi tc te σ H Q)
  (fin:∀D C s',zpq X pins σ C Q D s'→compPost (model X.prog X.w) X.A X.xe use Qr (.ref D) C (.ok .next) s'):
  wpAny (model X.prog X.w) X.A (comprehension (.ListComp elt [⟨.Name x px,iter,ifs,0⟩] sc pos) sc X.env p2 (newList []) false (eval iter X.env) use) Qr X.xe s:=by
 obtain⟨cl,k1,k2,k3⟩:=zqR (sc:=sc) (env:=X.env) λy hy hf=>I.ok.has y.1 (.inl (cs.out y hy hf))
 refine wpAny_comprehension_free rfl hs k1 cs.kind cs.own (thn (hi pins s σ H _ I h) λv s1 h1=>thn h1 λitv s2 h2=>?_)
 obtain⟨it,fp,tn,J,H2,e,I2,T,st2,f2,body⟩:=h2
 subst e
 have hfo:∀b∈fp,b<s2.heap.objs.size:=λb hb=>by
  obtain⟨o,e,_⟩:=T.obj _ _ st2 b hb
  exact Heap.lt_size e
 have hD:H2 s2.heap.objs.size=none:=I2.hok.fresh (Vaa _)
 obtain⟨W,⟨m0,w0⟩,turn⟩:=body _ hD
 refine wpAny_newObj_type ?_
 have I3:Inv X pins σ (upd H2 s2.heap.objs.size (.lst [])) { s2 with heap:=s2.heap.push { cls:=.type "list",dict:=none,data:=.seq ([]:List Value).toArray },toks:=s2.toks }:=
  I2.laid (t':=s2.toks) (λb u e=>Heap.get?_push_of_some _ e) (Vaa _) ⟨Vaj _,[],0,.nil,Heap.get?_push_size _ rfl⟩
 generalize hs3:({ s2 with heap:=s2.heap.push { cls:=.type "list",dict:=none,data:=.seq ([]:List Value).toArray },toks:=s2.toks }:Shared)=s3 at I3
 have es3:({ s2 with heap:=s2.heap.push { cls:=.type "list",dict:=none,data:=.seq ([]:List Value).toArray } }:Shared)=s3:=hs3
 try rw[es3]
 have f3:∀b∈fp,zbL X pins (upd H2 s2.heap.objs.size (.lst [])) b:=λb hb=>⟨by rw[za6 (Vaq (hfo b hb))]; exact(f2 b hb).1,(f2 b hb).2⟩
 have up3:∀b o,s2.heap.get? b=some o→s3.heap.get? b=some o:=λb o e=>by rw[← hs3]; exact Heap.get?_push_of_some _ e
 have st3:tn 0 s3.heap:=T.keep _ _ _ st2 λb _ o e=>up3 b o e
 have hfo3:∀b∈fp,b<s3.heap.objs.size:=λb hb=>by
  obtain⟨o,e,_⟩:=T.obj _ _ st3 b hb
  exact Heap.lt_size e
 refine wpAny_newFunctionEnv cs.nocell (λy hy=>by simp at hy) (λh4 ns4 sb4=>?_) cs.kind
 have hk4:∀b o,s3.heap.get? b=some o→h4.get? b=some o:=λb o e=>(sb4.2 b (Vaq (Heap.lt_size e))).trans (Heap.get?_push_of_some _ e)
 have I4:=zzo (tk:=s3.toks+([]:List (Str×Value)).length) I3 cs hN hlen k2 k3 f3 hfo3 ns4 hk4
 generalize hs4:({ s3 with heap:=h4,toks:=s3.toks+([]:List (Str×Value)).length }:Shared)=s4 at I4 ⊢
 have eh4:s4.heap=h4:=by rw[← hs4]
 have st4:tn 0 s4.heap:=by rw[eh4]; exact T.keep _ _ _ st3 λb _ o e=>hk4 b o e
 have fY:∀ {H':Hp},(∀b∈fp,H' b=none)→∀b∈fp,zbL (Cx.comp X sc (x::N) cl s3.heap.objs.size s3 (upd H2 s2.heap.objs.size (.lst [])) fp (X.pn++pins)) [] H' b:=λhn b hb=>by
  obtain⟨_,z2,z3,z4,z5,z6⟩:=f3 b hb
  refine⟨hn b hb,Vaq (hfo3 b hb),λz=>?_,.inl hb,λy c e=>z5 y c (k2 _ _ e),λp hp=>z6 p (by simpa using hp)⟩
  rcases Vau.mp (I3.stkSub b z) with z | z
  ·exact z2 z
  ·exact z3 z
 have locY:(Cx.comp X sc (x::N) cl s3.heap.objs.size s3 (upd H2 s2.heap.objs.size (.lst [])) fp (X.pn++pins)).env.scope.names.lookup x=some .local:=lookup_relabel_local cs.loc
 have loop:codeAny (model X.prog X.w) X.A (.compLoop (.ListComp elt [⟨.Name x px,iter,ifs,0⟩] sc pos) 0 (.ref it) (.ref s2.heap.objs.size) (compEnvC sc cl s3.heap.objs.size X.env))
   (compPost (model X.prog X.w) X.A X.xe use Qr (.ref s2.heap.objs.size) s3.heap.objs.size) s4:=by
  refine codeAny_compLoop_tests (λn s'=>∃i o H',Inv (Cx.comp X sc (x::N) cl s3.heap.objs.size s3 (upd H2 s2.heap.objs.size (.lst [])) fp (X.pn++pins)) [] (o::zbe caps σ) H' s'∧tn i s'.heap∧(∀b∈fp,H' b=none)∧W i n H') ?_ m0
   ⟨0,none,_,I4,st4,λb hb=>(f3 b hb).1,w0⟩
  rintro n s5 ⟨i,o,H5,I5,st5,fr5,w5⟩
  rcases turn i n H5 w5 with ⟨stop,q⟩ | ⟨go,step⟩
  ·refine thn (T.done (Cx.comp X sc (x::N) cl s3.heap.objs.size s3 (upd H2 s2.heap.objs.size (.lst [])) fp (X.pn++pins)) rfl rfl rfl hc i [] s5 _ H5 _ I5 (fY fr5) st5 stop) λr s6 ⟨hr,I6⟩=>?_
   subst hr
   refine fin _ _ _ ⟨⟨H5,I3.call' I6.os I6.base I6.hok I6.bare (λb hb=>?_),q,I6.free⟩,?_,Nat.ne_of_gt I3.lt,I3.sz,λy c e z=>?_,λp hp z=>?_⟩
   ·obtain⟨_,z2,z3,z4,z5,z6⟩:=f3 b hb
    exact⟨z4,z2,z5,z6⟩
   ·obtain⟨m,hm,_⟩:=I6.loc
    exact⟨m,hm⟩
   ·obtain⟨v,hv⟩:=I3.cell y c e
    exact absurd (z ▸ hv.lt) (VaG _)
   ·exact absurd (z ▸ Heap.lt_size (I3.pin p hp).1) (VaG _)
  ·refine thn (T.item (Cx.comp X sc (x::N) cl s3.heap.objs.size s3 (upd H2 s2.heap.objs.size (.lst [])) fp (X.pn++pins)) rfl rfl rfl hc i [] s5 _ H5 _ I5 (fY fr5) st5 go) λr s6 ⟨u,hr,h6⟩=>?_
   subst hr
   show wpAny _ _ (letOwnedTupleGo (.Name x px) (.ref it) u >>= λ_=>assign (.Name x px) (compEnvC sc cl s3.heap.objs.size X.env) u) _ _ s6
   refine wpAny_bind (thn h6 λ_ s7 ⟨y,H7,I7,r7,y7,st7,fr7⟩=>?_)
   have I7':=I7.pinned (fY fr7) (T.obj _ _ st7)
   refine wpAny_mono (zgo (X:=Cx.comp X sc (x::N) cl s3.heap.objs.size s3 (upd H2 s2.heap.objs.size (.lst [])) fp (X.pn++pins)) (pos:=px) hnd (i:=0) rfl (.inl locY) (.inr locY) _ s7 _ H7 y u (λσ8 H8=>σ8=some y::zbe caps σ∧H8=H7) I7' r7 ⟨rfl,rfl⟩) (λ_ s8 ⟨σ8,H8,I8,e8,e8'⟩=>?_) λ_ _ z=>z.elim
   subst e8
   subst e8'
   have stay:∀ {H':Hp} {s':Shared},Inv (Cx.comp X sc (x::N) cl s3.heap.objs.size s3 (upd H2 s2.heap.objs.size (.lst [])) fp (X.pn++pins)) ([]++zfG fp s7.heap) (some y::zbe caps σ) H' s'→∀m',m'<n→W (i+1) m' H'→
     ∃m,m<n∧∃i o H',Inv (Cx.comp X sc (x::N) cl s3.heap.objs.size s3 (upd H2 s2.heap.objs.size (.lst [])) fp (X.pn++pins)) [] (o::zbe caps σ) H' s'∧tn i s'.heap∧(∀b∈fp,H' b=none)∧W i m H':=λ{H' s'} J m' hm w'=>by
    refine⟨m',hm,i+1,some y,H',J.unpinned,T.keep _ _ _ st7 λb hb o e=>(J.pin (b,o) (VaH _ (VaH _ (zeH hb e)))).1,λb hb=>?_,w'⟩
    obtain⟨o,e,d⟩:=T.obj _ _ st7 b hb
    exact(J.pin (b,o) (VaH _ (VaH _ (zeH hb e)))).2.1
   refine wpAny_mono (ht _ _ _ _ _ _ _ s8 _ H8 _ I8 (step y H8 y7)) (λb s9 ⟨H9,I9,q9⟩=>?_) λ_ _ z=>z.elim
   cases b with
   | false=>
    rw[if_neg Var] at q9 ⊢
    obtain⟨m',hm,w9⟩:=q9
    exact stay I9 m' hm w9
   | true=>
    rw[if_pos rfl] at q9 ⊢
    refine wpAny_mono (he _ _ _ _ _ _ _ s9 _ H9 _ I9 q9) (λu2 s10 ⟨z,H10,I10,r10,q10⟩=>?_) λ_ _ z=>z.elim
    obtain⟨ys,hD10,hlt,m',hm,w10⟩:=q10
    refine wpAny_mono (zoG (X:=(Cx.comp X sc (x::N) cl s3.heap.objs.size s3 (upd H2 s2.heap.objs.size (.lst [])) fp (X.pn++pins))) _ s10 _ H10 (.ref s2.heap.objs.size) [z] (.ref s2.heap.objs.size) [u2] (λ_ H'=>H'=upd H10 s2.heap.objs.size (.lst (ys++[z]))) I10 rfl (.cons r10 .nil) ⟨_,ys,z,rfl,rfl,hD10,hlt,rfl⟩) (λ_ s11 ⟨_,H11,I11,_,e11⟩=>?_) λ_ _ z=>z.elim
    subst e11
    exact stay I11 m' hm w10
 exact codeAny_compStart_list loop (T.self _ 0 s4 _ _ st4 loop)
theorem zdG {X:Cx}{caps:List Nat}{N:List Str}(h:caps.map (λi=>X.N[i]?)=N.map some):(∀(j:Nat) (y:Str),N[j]?=some y→∃i,caps[j]?=some i∧X.N[i]?=some y)∧caps.length=N.length:=by
 refine⟨λj y e=>?_,by simpa using congrArg List.length h⟩
 have z:(caps.map (λi=>X.N[i]?))[j]?=some (some y):=by rw[h,Vae,e]; rfl
 rw[Vae] at z
 cases q:caps[j]? with
 | none=>rw[q] at z; cases z
 | some i=>rw[q] at z; exact⟨i,rfl,by simpa using z⟩
theorem zqX (hc:X.calm=true)(cs:zdq sc X.env.scope x N)(hN:caps.map (λi=>X.N[i]?)=N.map some)(hnd:(x::N).Nodup)
  (hi:PI X (.Name x px) iter wi)(ht:∀cl C s0 H0 fp pn,PTs (Cx.comp X sc (x::N) cl C s0 H0 fp pn) ifs tc)(he:∀cl C s0 H0 fp pn,PE (Cx.comp X sc (x::N) cl C s0 H0 fp pn) elt te)
  (hs:∀y,foldedSetIterable iter X.env y=pure y:=by intro _; rfl):PE X (.ListComp elt [⟨.Name x px,iter,ifs,0⟩] sc pos) (zik caps wi tc te):=by
 intro pins s σ H Q I h
 rw[eval_ListComp]
 refine zqV (use:=none) hc cs (zdG hN).1 (zdG hN).2 hnd hi ht he hs I h λD C s' f=>?_
 obtain⟨⟨H',I',q,hC⟩,⟨m,ns⟩,l,o,c,p⟩:=f
 exact⟨m,ns,λh' sb=>⟨.ref D,H',I'.turned (t':=s'.toks) (λb ob hb e=>(sb.2 b hb).trans e) hC l (.inr o) c p,rfl,q⟩⟩
theorem zrb {i:Nat}{y:Str}{py spos:Pos}(hc:X.calm=true)(cs:zdq sc X.env.scope x N)(hN:caps.map (λi=>X.N[i]?)=N.map some)(hnd:(x::N).Nodup)
  (hi:PI X (.Name x px) iter wi)(ht:∀cl C s0 H0 fp pn,PTs (Cx.comp X sc (x::N) cl C s0 H0 fp pn) ifs tc)(he:∀cl C s0 H0 fp pn,PE (Cx.comp X sc (x::N) cl C s0 H0 fp pn) elt te)
  (hNd:X.N.Nodup)(hy:X.N[i]?=some y)(hl:X.env.scope.names.lookup y=some .local)
  (hsw:swapsWith (.ListComp elt [⟨.Name x px,iter,ifs,0⟩] sc pos) (some (.Name y py)) spos.line X.env=pure true)
  (hs:∀y,foldedSetIterable iter X.env y=pure y:=by intro _; rfl):PS X (.Assign [.Name y py] (.ListComp elt [⟨.Name x px,iter,ifs,0⟩] sc pos) spos) (λE σ H=>zik caps wi tc te σ H λv H1=>E.nx (σ.set i (some v)) H1):=by
 intro pins s σ H E I h
 rw[exec_Assign_Name_used (hs:=hsw)]
 refine wpAny_bind (wpAny_standAt ?_); refine wpAny_bind ?_; show wpAny _ _ (comprehension _ sc X.env _ (newList []) false (eval iter X.env) (some (assign (.Name y py) X.env)) >>= λ_=>pure ()) _ _ s
 refine wpAny_bind (thn (zqV (use:=some (assign (.Name y py) X.env)) (Qr:=λ_ s'=>SP X pins E .next s') hc cs (zdG hN).1 (zdG hN).2 hnd hi ht he hs I h λD C s' f=>?_) λ_ s' hq=>wpAny_pure (wpAny_pure hq))
 obtain⟨⟨H',I',q,hC⟩,⟨m,ns⟩,l,o,c,p⟩:=f
 refine wpAny_assign_Name (zn4 (v:=.ref D) I' hNd hy (.inl hl) rfl (λs'' I'' ⟨a,sb,ha⟩=>⟨m,ns.sameBut sb ?_,λh' sb'=>⟨_,H',I''.turned (t':=s''.toks) (λb ob hb e=>(sb'.2 b hb).trans e) hC l (.inr o) c p,q⟩⟩) (.inr hl))
 rcases ha with rfl | ha
 ·exact l
 ·exact Ne.symm (c _ _ ha)
end
section
variable {X:Cx}{Z:Zx}{elt iter:Expr}{x:Str}{px pos:Pos}{ifs:List Expr}{sc ar:Scope}{N:List Str}{caps:List Nat}
theorem zqs {r:List Addr}{H:Hp}{dl:Ev}{σ:St}{d:D}{v:V}(h:Rs r H dl σ)(p:Rp r H d v):Rs r H (some d::zbv caps dl) (some v::zbe caps σ):=by
 refine⟨by simp[zbv,zbe],λi e hi=>?_⟩
 cases i with
 | zero=>simp at hi; subst hi; exact⟨v,rfl,p⟩
 | succ i=>
  simp only[List.getElem?_cons_succ,zbv,Vae] at hi
  cases q:caps[i]? with
  | none=>rw[q] at hi; cases hi
  | some j=>
   rw[q] at hi
   simp only[Option.map_some,Option.some.injEq] at hi
   have hj:dl[j]?=some (some e):=by
    cases q2:dl[j]? with
    | none=>rw[q2] at hi; cases hi
    | some o=>rw[q2] at hi; simp at hi; rw[hi]
   obtain⟨w,h1,h2⟩:=h.2 j e hj
   refine⟨w,?_,h2⟩
   simp only[List.getElem?_cons_succ,zbe,Vae,q,Option.map_some,h1,Option.join_some]
def zfr (Y:Cx)(ifs:List Expr)(t:TDT):Prop:=PTs Y ifs (upT Y.K Z0 t)
def zb6:TDT:=λ_ S Q=>Q true S
theorem zbu {Y:Cx}:zfr Y [] zb6:=λpins s σ H Qb I ⟨r,dl,S,Q,rs,rel,q,ret⟩=>zuj pins s σ H Qb I (ret true H r S Ext.refl rel q)
theorem zop {Y:Cx}{c:Expr}{t:TDT}(h:PDT Y Z0 c t):zfr Y [c] t:=zyo h
def zc7 (caps:List Nat)(tc:TDT)(te:TDE)(k:Nat)(dl:Ev)(d:D)(S:Sto)(nx:Sto→Prop):Prop:=
 tc (some d::zbv caps dl) S λb S1=>if b=true then te (some d::zbv caps dl) S1 λy S2=>match S2[k]? with
  | some (.lst ys)=>ys.length<1000∧nx (S2.set k (.lst (ys++[y])))
  | _=>False
 else nx S1
@[irreducible] def zcy (caps:List Nat)(tl:TDE)(tc:TDT)(te:TDE):TDE:=λdl S Q=>tl dl S λd S1=>match d with
 | .ref n=>(lAt S1 n).isSome=true∧∃W:Nat→Nat→Sto→Prop,(∃m,W 0 m (S1++[.lst []]))∧∀k m S2,W k m S2→match lAt S2 n with
  | some o=>match (zao o)[k]? with
   | some y=>zc7 caps tc te S1.length dl y S2 λS3=>∃m',m'<m∧W (k+1) m' S3
   | none=>Q (.ref S1.length) S2
  | none=>False
 | _=>False
@[irreducible] def zcX (caps:List Nat)(ta:TDA)(tc:TDT)(te:TDE):TDE:=λdl S Q=>ta dl S λds S1=>match ds with
 | [.int j]=>(-(2^62)≤j∧j<2^62)∧∃W:Nat→Sto→Prop,W 0 (S1++[.lst []])∧∀k S2,W k S2→
   if k<j.toNat then zc7 caps tc te S1.length dl (.int k) S2 λS3=>W (k+1) S3 else Q (.ref S1.length) S2
 | _=>False
theorem zqc {tc:TDT}{te:TDE}{r2:List Addr}{H2:Hp}{S1 S2:Sto}{dl:Ev}{σ:St}{D0:Addr}{d:D}{v:V}{nx:Sto→Prop}{Nx:Hp→Prop}(rs:Rs r2 H2 dl σ)(ha:r2[S1.length]?=some D0)(rb:za0 X.K r2 S2 H2)(p:Rp r2 H2 d v)
  (h:zc7 caps tc te S1.length dl d S2 nx)(hn:∀r' S' H',Ext r2 r' H2 H'→za0 X.K r' S' H'→nx S'→Nx H'):
  upT X.K Z0 tc (some v::zbe caps σ) H2 λb H3=>if b=true then up X.K Z0 te (some v::zbe caps σ) H3 λy H4=>∃ys,H4 D0=some (.lst ys)∧ys.length<sizeLine∧Nx (upd H4 D0 (.lst (ys++[y]))) else Nx H3:=by
 have rsY:Rs r2 H2 (some d::zbv caps dl) (some v::zbe caps σ):=zqs rs p
 refine⟨r2,_,S2,_,rsY,⟨rb,λ_ _ _ _ _ _ _ _ _ z=>z.elim⟩,h,λb H3 r3 S3 x3 rel3 q3=>?_⟩
 cases b with
 | false=>rw[if_neg Var] at q3 ⊢; exact hn r3 S3 H3 x3 rel3.b q3
 | true=>
  rw[if_pos rfl] at q3 ⊢
  refine⟨r3,_,S3,_,rsY.ext x3,rel3,q3,λz H4 r4 dz S4 x4 rel4 p4 q4=>?_⟩
  split at q4
  ·rename_i ys eys
   obtain⟨hl,q4⟩:=q4
   have ha4:r4[S1.length]?=some D0:=x4.adr _ _ (x3.adr _ _ ha)
   obtain⟨zs,hD4,pz⟩:=rel4.b.ob _ _ _ ha4 eys
   obtain⟨rel5,x5⟩:=rel4.b.set ha4 eys (pz.snoc p4)
   exact⟨zs,hD4,by rw[← pz.1]; exact zhq (VaV hl),hn r4 _ _ (x3.trans (x4.trans x5)) rel5 q4⟩
  ·exact q4.elim
theorem zhJ {r:List Addr}{D0:Addr}{n:Nat}(h:r.length=n):(r++[D0])[n]?=some D0:=by subst h; simp
theorem zp9 {tl:TDE}{tc:TDT}{te:TDE}{σ:St}{H:Hp}{Qv:VK}(h:up X.K Z (zcy caps tl tc te) σ H Qv):zik caps (zqH X.K (up X.K Z tl)) (upT X.K Z0 tc) (up X.K Z0 te) σ H Qv:=by
 obtain⟨r,dl,S,Q,rs,rel,h,ret⟩:=h
 unfold zcy at h
 refine⟨r,dl,S,_,rs,rel,h,λv H1 r1 d S1 x1 rel1 p1 q1=>?_⟩
 cases p1 with
 | @ref n a hn=>
  obtain⟨hsome,W,⟨m0,w0⟩,turn⟩:=q1
  have sql:∀ {r':List Addr} {S':Sto} {H':Hp} {o:Ob},Ext r1 r' H1 H'→za0 X.K r' S' H'→lAt S' n=some o→∃xs,SqL X.K H' a xs∧Rps r' H' (zao o) xs:=λ{r' S' H' o} x' rel' eo=>by
   obtain⟨eo,eL⟩:=zbx eo
   obtain⟨a',ha,ob⟩:=rel'.at eo
   rw[x'.adr n a hn] at ha; cases ha
   exact ob.list eL
  obtain⟨o1,eo1⟩:=VaT.mp hsome
  obtain⟨xs1,sq1,_⟩:=sql Ext.refl rel1.b eo1
  refine⟨a,rfl,⟨xs1,sq1⟩,λD0 hD=>?_⟩
  obtain⟨rel2,x2⟩:=rel1.b.push (ds:=[]) (xs:=[]) hD Rps.nil
  refine⟨λk m H'=>∃r' S',Ext (r1++[D0]) r' (upd H1 D0 (.lst [])) H'∧za0 X.K r' S' H'∧W k m S',⟨m0,_,_,Ext.refl,rel2,w0⟩,?_⟩
  rintro k m H2 ⟨r2,S2,x3,rb2,w2⟩
  have ha2:r2[S1.length]?=some D0:=x3.adr _ _ (zhJ rel1.len)
  have q:=turn k m S2 w2
  split at q
  ·rename_i o eo
   obtain⟨xs,sq,pr⟩:=sql (x2.trans x3) rb2 eo
   split at q
   ·rename_i y ey
    obtain⟨v,hv,pv⟩:=pr.get ey
    refine .inr ⟨⟨xs,v,sq,hv⟩,λv' H' y'=>?_⟩
    obtain⟨eH,y'⟩:=y'
    subst eH
    have ev:v'=v:=by
     have z:=y' xs sq
     rw[hv] at z; exact(Option.some.inj z).symm
    subst ev
    have z:=zqc (Nx:=λH'=>∃m',m'<m∧∃r' S',Ext (r1++[D0]) r' (upd H1 D0 (.lst [])) H'∧za0 X.K r' S' H'∧W (k+1) m' S') (rs.ext (x1.trans (x2.trans x3))) ha2 rb2 pv q λr' S' H' x' rb' ⟨m',hm,w'⟩=>⟨m',hm,r',S',x3.trans x',rb',w'⟩
    exact z
   ·rename_i ey
    have hlen:(zao o).length≤k:=Va3.mp ey
    exact .inl ⟨⟨xs,sq,by rw[← pr.1]; exact hlen⟩,ret _ H2 r2 _ S2 (x1.trans (x2.trans x3)) ⟨rb2,rel.xw.ext (x1.trans (x2.trans x3))⟩ (.ref ha2) q⟩
  ·exact q.elim
 | _=>exact(show False from q1).elim
theorem zp5 {ta:TDA}{tc:TDT}{te:TDE}{σ:St}{H:Hp}{Qv:VK}(h:up X.K Z (zcX caps ta tc te) σ H Qv):zik caps (zrI (upA X.K Z ta)) (upT X.K Z0 tc) (up X.K Z0 te) σ H Qv:=by
 obtain⟨r,dl,S,Q,rs,rel,h,ret⟩:=h
 unfold zcX at h
 refine⟨r,dl,S,_,rs,rel,h,λvs H1 r1 ds S1 x1 rel1 p1 q1=>?_⟩
 split at q1
 ·rename_i j
  obtain⟨v,vs',rfl,p2,p3⟩:=p1.uncons
  have z:=p3.unnil
  subst z
  cases p2
  obtain⟨⟨b1,b2⟩,W,w0,turn⟩:=q1
  refine⟨j,rfl,b1,b2,λD0 hD=>?_⟩
  obtain⟨rel2,x2⟩:=rel1.b.push (ds:=[]) (xs:=[]) hD Rps.nil
  refine⟨λk m H'=>m=j.toNat-k∧∃r' S',Ext (r1++[D0]) r' (upd H1 D0 (.lst [])) H'∧za0 X.K r' S' H'∧W k S',⟨j.toNat,by simp,_,_,Ext.refl,rel2,w0⟩,?_⟩
  rintro k m H2 ⟨em,r2,S2,x3,rb2,w2⟩
  have ha2:r2[S1.length]?=some D0:=x3.adr _ _ (zhJ rel1.len)
  have q:=turn k S2 w2
  split at q
  ·rename_i hk
   refine .inr ⟨hk,λv' H' y'=>?_⟩
   obtain⟨eH,y'⟩:=y'
   subst eH
   subst y'
   have pk:Rp r2 H' (.int (k:Int)) (.int (0+(k:Int))):=by rw[Int.zero_add]; exact .int _
   have z:=zqc (Nx:=λH'=>∃m',m'<m∧m'=j.toNat-(k+1)∧∃r' S',Ext (r1++[D0]) r' (upd H1 D0 (.lst [])) H'∧za0 X.K r' S' H'∧W (k+1) S') (rs.ext (x1.trans (x2.trans x3))) ha2 rb2 pk q
    λr' S' H' x' rb' w'=>⟨j.toNat-(k+1),by omega,rfl,r',S',x3.trans x',rb',w'⟩
   exact z
  ·rename_i hk
   exact .inl ⟨by show j.toNat≤k; omega,ret _ H2 r2 _ S2 (x1.trans (x2.trans x3)) ⟨rb2,rel.xw.ext (x1.trans (x2.trans x3))⟩ (.ref ha2) q⟩
 ·exact q1.elim
theorem zc3 {tl:TDE}{tc:TDT}{te:TDE}(har:X.env.scope=ar)(hc:X.calm=true)(cs:zdq sc ar x N)(hN:caps.map (λi=>X.N[i]?)=N.map some)(hnd:(x::N).Nodup)(hl:PD X Z iter tl)
  (ht:∀cl C s0 H0 fp pn,zfr (Cx.comp X sc (x::N) cl C s0 H0 fp pn) ifs tc)(he:∀cl C s0 H0 fp pn,PD (Cx.comp X sc (x::N) cl C s0 H0 fp pn) Z0 elt te)
  (hs:∀y,foldedSetIterable iter X.env y=pure y:=by intro _; rfl):PD X Z (.ListComp elt [⟨.Name x px,iter,ifs,0⟩] sc pos) (zcy caps tl tc te):=by
 subst har
 exact zbc (zqX hc cs hN hnd (tc:=upT X.K Z0 tc) (te:=up X.K Z0 te) (zpd hl) ht he hs) λ_ _ _ h=>zp9 h
theorem zpc {ta:TDA}{tc:TDT}{te:TDE}{a:Expr}{p pos2:Pos}(har:X.env.scope=ar)(hc:X.calm=true)(cs:zdq sc ar x N)(hN:caps.map (λi=>X.N[i]?)=N.map some)(hnd:(x::N).Nodup)(hg:Gl X "range")(hm:X.mg "range"=none)(ha:PDA X Z [a] ta)
  (ht:∀cl C s0 H0 fp pn,zfr (Cx.comp X sc (x::N) cl C s0 H0 fp pn) ifs tc)(he:∀cl C s0 H0 fp pn,PD (Cx.comp X sc (x::N) cl C s0 H0 fp pn) Z0 elt te)
  (hs:∀y,foldedSetIterable (.Call (.Name "range" p) [a] [] pos2) X.env y=pure y:=by intro _; rfl)(hst:starEach [a] X.env=[(false,eval a X.env)]:=by rfl):
  PD X Z (.ListComp elt [⟨.Name x px,.Call (.Name "range" p) [a] [] pos2,ifs,0⟩] sc pos) (zcX caps ta tc te):=by
 subst har
 exact zbc (zqX hc cs hN hnd (tc:=upT X.K Z0 tc) (te:=up X.K Z0 te) (zol hg hm ha hst) ht he hs) λ_ _ _ h=>zp5 h
theorem zpf {t:TE}{td:TDE}{i:Nat}{F:zdX}{σ:St}{H:Hp}(imp:∀Qv,up X.K Z td σ H Qv→t σ H Qv)(h:upS X.K Z (λE dl S=>td dl S λd S1=>E.nx (dl.set i (some d)) S1) F σ H):t σ H λv H1=>F.nx (σ.set i (some v)) H1:=by
 obtain⟨r,dl,S,E,rs,rel,h,ret⟩:=h
 exact imp _ ⟨r,dl,S,_,rs,rel,h,λv H1 r1 d S1 x rel1 p q=>ret.nx _ H1 r1 _ S1 x ((rs.ext x).set i p) rel1 q⟩
theorem zkl {tl:TDE}{tc:TDT}{te:TDE}{i:Nat}{y:Str}{py spos:Pos}(har:X.env.scope=ar)(hc:X.calm=true)(cs:zdq sc ar x N)(hN:caps.map (λi=>X.N[i]?)=N.map some)(hnd:(x::N).Nodup)(hNd:X.N.Nodup)(hy:X.N[i]?=some y)(hlo:ar.names.lookup y=some .local)
  (hl:PD X Z iter tl)(ht:∀cl C s0 H0 fp pn,zfr (Cx.comp X sc (x::N) cl C s0 H0 fp pn) ifs tc)(he:∀cl C s0 H0 fp pn,PD (Cx.comp X sc (x::N) cl C s0 H0 fp pn) Z0 elt te)
  (hsw:swapsWith (.ListComp elt [⟨.Name x px,iter,ifs,0⟩] sc pos) (some (.Name y py)) spos.line X.env=pure true:=by rfl)
  (hs:∀y,foldedSetIterable iter X.env y=pure y:=by intro _; rfl):PDS X Z (.Assign [.Name y py] (.ListComp elt [⟨.Name x px,iter,ifs,0⟩] sc pos) spos) (zmJ i (zcy caps tl tc te)):=by
 subst har
 exact zb0 (zrb hc cs hN hnd (tc:=upT X.K Z0 tc) (te:=up X.K Z0 te) (zpd hl) ht he hNd hy hlo hsw hs) λF σ H h=>zpf (λ_ h=>zp9 h) h
theorem zfw {ta:TDA}{tc:TDT}{te:TDE}{a:Expr}{p pos2:Pos}{i:Nat}{y:Str}{py spos:Pos}(har:X.env.scope=ar)(hc:X.calm=true)(cs:zdq sc ar x N)(hN:caps.map (λi=>X.N[i]?)=N.map some)(hnd:(x::N).Nodup)(hNd:X.N.Nodup)(hy:X.N[i]?=some y)
  (hlo:ar.names.lookup y=some .local)(hg:Gl X "range")(hm:X.mg "range"=none)(ha:PDA X Z [a] ta)
  (ht:∀cl C s0 H0 fp pn,zfr (Cx.comp X sc (x::N) cl C s0 H0 fp pn) ifs tc)(he:∀cl C s0 H0 fp pn,PD (Cx.comp X sc (x::N) cl C s0 H0 fp pn) Z0 elt te)
  (hsw:swapsWith (.ListComp elt [⟨.Name x px,.Call (.Name "range" p) [a] [] pos2,ifs,0⟩] sc pos) (some (.Name y py)) spos.line X.env=pure true:=by rfl)
  (hs:∀y,foldedSetIterable (.Call (.Name "range" p) [a] [] pos2) X.env y=pure y:=by intro _; rfl)(hst:starEach [a] X.env=[(false,eval a X.env)]:=by rfl):
  PDS X Z (.Assign [.Name y py] (.ListComp elt [⟨.Name x px,.Call (.Name "range" p) [a] [] pos2,ifs,0⟩] sc pos) spos) (zmJ i (zcX caps ta tc te)):=by
 subst har
 exact zb0 (zrb hc cs hN hnd (tc:=upT X.K Z0 tc) (te:=up X.K Z0 te) (zol hg hm ha hst) ht he hNd hy hlo hsw hs) λF σ H h=>zpf (λ_ h=>zp5 h) h
@[irreducible] def zdk (to te:TDE):TDE:=λdl S Q=>to dl S λx S1=>match x with
 | .ref n=>match S1[n]? with
  | some (.lst _)=>te dl S1 λy S2=>match S2[n]? with
   | some (.lst xs)=>if xs.length<1000 then Q .non (S2.set n (.lst (xs++[y]))) else False
   | _=>False
  | _=>False
 | _=>False
theorem zca {o e:Expr}{to te:TDE}{apos cpos:Pos}(ho:PD X Z o to)(he:PD X Z e te)(hbase:attributeBase o "append" X.env (eval o X.env)=eval o X.env:=by rfl)
  (hfew:((backTo cpos (starEach [e] X.env)).all (λx=>!x.1)&&(backToKw cpos (keywordEach [] X.env)).all (λx=>x.1.isSome)
  &&decide (([e]:List Expr).length+([]:List Keyword).length+(if ([]:List Keyword).isEmpty then 0 else 1)<30))=true:=by rfl)
  (hline:(apos.endLine==cpos.line)=true:=by rfl)(hst:starEach [e] X.env=[(false,eval e X.env)]:=by rfl):
  PD X Z (.Call (.Attribute o "append" apos) [e] [] cpos) (zdk to te):=
 zbc (zpe PySem.F.plainAttrs_list PySem.F.slot_list_append PySem.F.type_list_append zoG ho (zfe he zl5 hst) hbase hfew hline hst rfl) λσ H Qv h=>by
  obtain⟨r,dl,S,Q,rs,rel,h,ret⟩:=h
  unfold zdk at h
  refine⟨r,dl,S,_,rs,rel,h,λv H1 r1 d S1 x1 rel1 p1 h1=>?_⟩
  cases p1 with
  | @ref n a hn=>
   dsimp only at h1
   split at h1
   ·rename_i xs0 e0
    obtain⟨a',ha,ob⟩:=rel1.at e0
    rw[hn] at ha; cases ha
    obtain⟨ys,hH,_⟩:=ob
    refine⟨.inl ⟨rfl,ys,SqL.of hH⟩,r1,dl,S1,_,rs.ext x1,rel1,h1,λv2 H2 r2 d2 S2 x2 rel2 p2 h2=>?_⟩
    split at h2
    ·rename_i xs1 e1
     obtain⟨hlt,h2⟩:=zkh h2
     have ha2:=x2.adr n a hn
     obtain⟨zs,hH2,pz⟩:=rel2.b.ob n a _ ha2 e1
     obtain⟨rel3,x3⟩:=rel2.set ha2 e1 (pz.snoc p2)
     exact⟨a,zs,v2,rfl,rfl,hH2,by rw[← pz.1]; exact zhq (VaV hlt),ret .non _ r2 .non _ (x1.trans (x2.trans x3)) rel3 .non h2⟩
    ·exact h2.elim
   ·exact h1.elim
  | _=>exact(show False from h1).elim
def zl8:WC:=λds S Q=>match ds with
 | [.tup xs]=>Q (.ref S.length) (S++[.lst xs])
 | [.ref n]=>match lAt S n with
  | some o=>Q (.ref S.length) (S++[.lst (zao o)])
  | none=>False
 | _=>False
theorem zoE:zbo X (.type "list") (upC X.K Z zl8):=zoI zth λxs H Qv ⟨r,S,ds,Q,rel,ps,q,ret⟩=>by
 unfold zl8 at q
 split at q
 ·rename_i ys
  obtain⟨v,vs,rfl,p1,p2⟩:=ps.uncons
  have z:=p2.unnil
  subst z
  obtain⟨a,zs,rfl,h1,h2⟩:=p1.untup
  refine⟨a,zs,rfl,.inr (SqT.of h1),λl hl=>?_⟩
  obtain⟨rel2,x⟩:=rel.push hl h2
  exact ret _ _ _ (.ref S.length) _ x rel2 (zeg rel.len) q
 ·rename_i n
  obtain⟨v,vs,rfl,p1,p2⟩:=ps.uncons
  have z:=p2.unnil
  subst z
  split at q
  ·rename_i o eo
   obtain⟨eo,eL⟩:=zbx eo
   obtain⟨a,ha,ob⟩:=rel.at eo
   cases p1 with
   | ref h1=>
    rw[h1] at ha; cases ha
    obtain⟨ys,sq,pr⟩:=ob.list eL
    refine⟨_,ys,rfl,.inl sq,λl hl=>?_⟩
    obtain⟨rel2,x⟩:=rel.push hl pr
    exact ret _ _ _ (.ref S.length) _ x rel2 (zeg rel.len) q
  ·exact q.elim
 ·exact q.elim
def zch:List D→Option (List Bool)
 | []=>some []
 | .bl b::r=>(zch r).map (b::·)
 | _::_=>none
def zhe (g:List Bool→Bool):WC:=λds S Q=>match ds with
 | [.ref n]=>match lAt S n with
  | some o=>match zch (zao o) with
   | some bs=>Q (.bl (g bs)) S
   | none=>False
  | none=>False
 | _=>False
theorem zp0 {r:List Addr}{H:Hp}:∀ {ds:List D} {bs:List Bool} {vs:List V} {us:List Value},zch ds=some bs→Rps r H ds vs→zaB vs us→us=bs.map Value.bool
 | [],bs,vs,us,e,p,q=>by
  have z:=p.unnil
  subst z
  cases q
  simp[zch] at e
  subst e
  rfl
 | d::ds,bs,vs,us,e,p,q=>by
  obtain⟨v,vs',rfl,p1,p2⟩:=p.uncons
  cases d with
  | bl b=>
   cases p1
   cases q with
   | cons q1 q2=>
    have q1':_=Value.bool b:=q1
    subst q1'
    simp only[zch,Van] at e
    obtain⟨ms,e1,rfl⟩:=e
    rw[zp0 e1 p2 q2]
    rfl
  | _=>simp[zch] at e
theorem zzn {bs:List Bool}:(List.range bs.length).all (λi=>bs.getD i false)=bs.all id:=by
 rw[Vbe]
 rw[List.all_eq_true,List.all_eq_true]
 refine⟨λh b hb=>?_,λh i hi=>?_⟩
 ·obtain⟨i,hi,e⟩:=VaS.mp hb
  have hb':=h i (Va1.mpr hi)
  simpa [hi,e] using hb'
 ·have hi':i<bs.length:=Va1.mp hi
  have:=h bs[i] (VaM hi')
  simpa [hi'] using this
theorem zxH {prog:Program}{w:World}{A:Around}{bs:List Bool}:TruthOf prog w A (λi v=>(bs.map Value.bool).toArray[i]?=some v) λi=>bs.getD i false:=λi v s Q E hP hQ=>by
  have e:(bs.map Value.bool)[i]?=some v:=by simpa using hP
  rw[Vae] at e
  cases q:bs[i]? with
  | none=>
   rw[q] at e
   cases e
  | some b=>
    rw[q] at e
    have z:Value.bool b=v:=by simpa using e
    subst z
    have z2:bs.getD i false=b:=by simp[Vak,q]
    have hQ':Q (bs.getD i false) s:=hQ
    rw[z2] at hQ'
    exact wpAny_truthy_bool hQ'
theorem zyn {n:Nat}{a:Addr}{o:Ob}{bs:List Bool}{pins:List (Addr×Obj)}{σ:St}{H:Hp}{s:Shared}{r:List Addr}{S:Sto}{Q:DK}{Qv:VK}{E:Value→Shared→Prop}{g:List Bool→Bool}(G:List Nat→(Nat→Bool)→Bool)
  (hG:G (List.range bs.length) (λi=>bs.getD i false)=g bs)(hc:X.calm=true)(I:Inv X pins σ H s)(rel:Rel X.K Z r S H)(hn:r[n]?=some a)(eo:lAt S n=some o)(eb:zch (zao o)=some bs)(q:Q (.bl (g bs)) S)(ret:Ret X.K Z r H Q Qv):
  wpAny (model X.prog X.w) X.A.in1 (pyIter (.ref a)) (λit s₂=>∃I fp wr n P' St tr,it=.ref I∧Walks X.prog X.w X.A.in1 I fp wr n P' St∧St 0 s₂.heap∧TruthOf X.prog X.w X.A.in1 P' tr∧
   ∀h' tk,(∀b o,b ∉ wr→s₂.heap.get? b=some o→h'.get? b=some o)→EP X pins σ Qv (.bool (G (List.range n) tr)) { s₂ with heap:=h',toks:=tk }) E s:=by
 obtain⟨eo,eL⟩:=zbx eo
 obtain⟨a',ha,ob⟩:=rel.at eo
 rw[hn] at ha; cases ha
 obtain⟨ys,sq,pr⟩:=ob.list eL
 obtain⟨its,ri,pl,hz⟩:=I.list sq
 have eits:=zp0 eb pr ri
 subst eits
 refine wpAny_pyIter_list pl.isList ?_
 have hne:a≠s.heap.objs.size:=Vaq (by
  obtain⟨ob,e,_⟩:=pl.isList
  exact Heap.lt_size e)
 refine⟨s.heap.objs.size,_,_,_,_,_,λi=>bs.getD i false,rfl,Walks.list (show X.A.in1.handled=none from I.ok.hd hc) _ a hne (bs.map Value.bool).toArray,⟨⟨_,Heap.get?_push_size _ rfl,rfl,rfl⟩,pl.isList.at λo e=>Heap.get?_push_of_some _ e⟩,zxH,λh' tk hk=>?_⟩
 have ez:(bs.map Value.bool).toArray.size=bs.length:=by simp
 rw[ez,hG]
 refine⟨.bl (g bs),H,I.kept λb o e=>hk b o (λz=>?_) (Heap.get?_push_of_some _ e),rfl,ret _ _ _ _ _ Ext.refl rel (.bl _) q⟩
 have z':b=s.heap.objs.size:=by simpa using z
 exact absurd (z' ▸ Heap.lt_size e) (VaG _)
theorem ztW {id:String}{g:List Bool→Bool}(rule:∀(pins:List (Addr×Obj)) (σ:St) (H:Hp) (s:Shared) (r:List Addr) (S:Sto) (Q:DK) (Qv:VK) (n:Nat) (a:Addr) (o:Ob) (bs:List Bool),Inv X pins σ H s→Rel X.K Z r S H→r[n]?=some a→lAt S n=some o→zch (zao o)=some bs→
   Q (.bl (g bs)) S→Ret X.K Z r H Q Qv→wpAny (model X.prog X.w) X.A (call (.builtin id) [.ref a]) (EP X pins σ Qv) X.xe s):zbo X (.builtin id) (upC X.K Z (zhe g)):=by
 intro pins s σ H xs us Qv I rv h
 obtain⟨r,S,ds,Q,rel,ps,q,ret⟩:=h
 unfold zhe at q
 split at q
 ·rename_i n
  obtain⟨v,vs,rfl,p1,p2⟩:=ps.uncons
  have z:=p2.unnil
  subst z
  split at q
  ·rename_i o eo
   split at q
   ·rename_i bs eb
    cases p1 with
    | ref h1=>
     obtain⟨u,rfl,ru⟩:=zdg rv
     cases ru
     exact rule pins σ H s r S Q Qv n _ o bs I rel h1 eo eb q ret
   ·exact q.elim
  ·exact q.elim
 ·exact q.elim
theorem zqL (hc:X.calm=true):zbo X (.builtin "all") (upC X.K Z (zhe λbs=>bs.all id)):=
 ztW λ_ _ _ _ _ _ _ _ _ _ _ _ I rel h1 eo eb q ret=>call_all_walk (zyn (g:=λbs=>bs.all id) (λl f=>l.all f) zzn hc I rel h1 eo eb q ret)
@[irreducible] def irr (w:WC):WC:=w
@[irreducible] def zbN (w:W2):W2:=w
theorem zdU (w:WC):irr w=w:=by unfold irr; rfl
theorem zb8 (w:W2):zbN w=w:=by unfold zbN; rfl
theorem zaQ {f:Value}{w:WC}(h:zbo X f (upC X.K Z w)):zbo X f (upC X.K Z (irr w)):=by rw[zdU]; exact h
theorem zaD {a b:Expr}{ta tb:TDE}(ha:PD X Z a ta)(hb:PD X Z b tb)(hs:zoq b):PD X Z (.Subscript a b pos) (dOp (zbN wIx) ta tb):=by rw[zb8]; exact zap ha hb hs
theorem zav (S:Sto)(o:Ob):(S++[o])[S.length]?=some o:=by simp
theorem zcV {S:Sto}{o u:Ob}{n:Nat}(h:S[n]?=some o):(S++[u])[n]?=some o:=by
 rw[Val (Vad.mp h).1]; exact h
theorem zcZ {tl te:TDE}{dl:Ev}{S S1:Sto}{Q:DK}{n:Nat}{o:Ob}(g:D→D)(htl:∀K:DK,K (.ref n) S1→tl dl S K)(h1:S1[n]?=some o)(hl:(zao o).length≤1000)
  (ht:∀x∈zao o,∀(S2:Sto) (K:DK),Pre S1 S2→K (g x) S2→te (some x::zbv caps dl) S2 K)(hq:Q (.ref S1.length) (S1++[.lst ((zao o).map g)]))(hL:zbX o=some o:=by rfl):zcy caps tl zb6 te dl S Q:=by
 unfold zcy
 refine htl _ ⟨by rw[zaU h1 hL]; rfl,λk m S2=>S2=S1++[.lst (((zao o).take k).map g)]∧m+k=(zao o).length,⟨(zao o).length,by simp,by omega⟩,?_⟩
 rintro k m S2 ⟨rfl,hm⟩
 rw[zaU (zcV h1) hL]
 dsimp only
 split
 ·rename_i x hx
  have hk:k<(zao o).length:=(Vad.mp hx).1
  unfold zc7 zb6
  simp only[if_true]
  refine ht x (Vai hx) _ _ Pre.refl.push ?_
  rw[zav]
  refine⟨by simp; omega,m-1,by omega,?_,by omega⟩
  have e:(zao o).take (k+1)=(zao o).take k++[x]:=by rw[Va9,hx]; rfl
  rw[e,VaD,List.set_append_right _ _ (Vaa _)]
  simp
 ·rename_i hx
  have hk:(zao o).length≤k:=Va3.mp hx
  rw[Vaz hk]
  exact hq
theorem ztG {o:Ob}{bs:List Bool}(h:zch (zao o)=some bs):zbX o=some o:=by
 cases o <;> first | rfl | cases h
theorem zqN {o:Ob}{xs:List Int}(h:zct (zao o)=some xs):zbX o=some o:=by
 cases o <;> first | rfl | cases h
theorem zqj {g:List Bool→Bool}{n:Nat}{S:Sto}{o:Ob}{bs:List Bool}{Q:DK}(h:S[n]?=some o)(hb:zch (zao o)=some bs)(hq:Q (.bl (g bs)) S):irr (zhe g) [.ref n] S Q:=by
 rw[zdU]
 unfold zhe
 simp only[zaU h (ztG hb),hb]
 exact hq
theorem zdW {le:Int→Int→Prop}{two:Int→Int→Int}{n:Nat}{S:Sto}{o:Ob}{xs:List Int}{Q:DK}(h:S[n]?=some o)(hb:zct (zao o)=some xs)(hne:xs≠[])(hq:∀m,m∈xs→(∀y∈xs,le y m)→Q (.int m) S):irr (zfB le two) [.ref n] S Q:=by
 rw[zdU]
 unfold zfB
 simp only[zaU h (zqN hb),hb]
 exact⟨hne,hq⟩
theorem zof {n:Nat}{S:Sto}{o:Ob}{Q:DK}(h:lAt S n=some o)(hq:Q (.ref S.length) (S++[.lst (zao o)])):irr zl8 [.ref n] S Q:=by
 rw[zdU]
 unfold zl8
 simp only[h]
 exact hq
theorem zd6 {to te:TDE}{dl:Ev}{S S1:Sto}{Q:DK}{n:Nat}{xs:List D}{y:D}(hto:∀K:DK,K (.ref n) S1→to dl S K)(h:S1[n]?=some (.lst xs))(hte:∀K:DK,K y S1→te dl S1 K)(hl:xs.length<1000)(hq:Q .non (S1.set n (.lst (xs++[y])))):zdk to te dl S Q:=by
 unfold zdk
 refine hto _ ?_
 simp only[h]
 refine hte _ ?_
 simp only[h]
 exact ifP hl hq
end
theorem zf0 {n:Nat}{x y:Int}:Sco n (.tup [.int x,.int y]):=.tup λd hd=>by
 have z:d=.int x∨d=.int y:=by simpa using hd
 rcases z with rfl | rfl <;> exact .int _
open PySem PySem.Spec PyProof.Rows L2 PySem.W Builtin Builtin.ObjectAttr Builtin.Getset_descriptor
structure Nx (K:Frag)(D:Addr):Prop where
 ga:findIn K (.ref D) "__getattribute__"=some (some (.builtin "BaseException.__getattribute__"))
 hk:findIn K (.ref D) "__getattr__"=some none
 ha:findIn K (.ref D) "__class__"=some (some (.builtin "object.__class__"))
 hn:specialIn K (.builtin "object.__class__") "__get__"=some (some (.builtin "getset_descriptor.__get__"))
 ht:takesIn K (.builtin "object.__class__")=some true
 hm:mroIn K D (.type "object")=some true
 hb:mroIn K D (.type "BaseException")=some true
section
variable {X:Cx}{Z:Zx}
end
def eqN:Nat→D→D→Option Bool
 | 0=>eqF
 | k+1=>eqT (eqN k)
theorem zpJ:∀k,zfQ (eqN k)
 | 0=>ze5
 | k+1=>zpT (zpJ k)
theorem zeW:∀k,zdx k (eqN k)
 | 0=>zou 0
 | k+1=>zrt (zeW k) (zpJ k)
def zll (k:Nat)(S:Sto):D→D→Option Bool
 | .ref n,.ref m=>match lAt S n,lAt S m with
  | some o,some o'=>eqL (eqN k) (zao o) (zao o')
  | _,_=>none
 | x,y=>eqN (k+1) x y
def zef (k:Nat):W2:=λx y S Q=>match zll k S x y with
 | some b=>Q (.bl b) S
 | none=>False
section
variable {X:Cx}{Z:Zx}
theorem ztN {k n m:Nat}{a a':Addr}{o o':Ob}{b:Bool}{pins:List (Addr×Obj)}{σ:St}{H:Hp}{s:Shared}{r:List Addr}{S:Sto}(I:Inv X pins σ H s)(rel:Rel X.K Z r S H)(hn:r[n]?=some a)(hm:r[m]?=some a')(eo:lAt S n=some o)(eo':lAt S m=some o')
  (e:eqL (eqN k) (zao o) (zao o')=some b)(hu:X.A.units+1+k<cLine):SeqAt.RcAt X.A s (.ref a) (.ref a') b:=by
 obtain⟨eo,eL⟩:=zbx eo
 obtain⟨eo',eL'⟩:=zbx eo'
 obtain⟨z,hz,ob⟩:=rel.at eo
 rw[hn] at hz; cases hz
 obtain⟨z,hz,ob'⟩:=rel.at eo'
 rw[hm] at hz; cases hz
 obtain⟨xs,sq,pr⟩:=ob.list eL
 obtain⟨ys,sq',pr'⟩:=ob'.list eL'
 obtain⟨is,ri,pl,_⟩:=I.list sq
 obtain⟨js,rj,pl',_⟩:=I.list sq'
 obtain⟨g1,g2⟩:=zf5 (A:=X.A.in1) (zeW k) I (by show X.A.units+1+k<_; omega) pr pr' ri rj e
 by_cases hs:is.toArray.size=js.toArray.size
 ·have q:=SeqAt.RcAt.lists (A:=X.A) pl.isList pl'.isList hs (by omega) g1
  have e2:(List.range is.toArray.size).all (zcD (eqN k) (zao o) (zao o'))=b:=by
   rw[← g2,← hs,Nat.min_self]; simp
  rw[e2] at q
  exact q
 ·have q:=SeqAt.RcAt.lists_lengths (A:=X.A) pl.isList pl'.isList (by simpa using hs) (by omega)
  have e2:b=false:=by
   rw[← g2,show (is.toArray.size==js.toArray.size)=false by simpa using hs,Bool.and_false]
  rw[e2]
  exact q
theorem zuf (k:Nat){j:Nat}(hr:zaT j X.A)(hu:X.A.units+1+k<cLine):OpR X (compareOp .Eq) (upO X.K Z (zef k)):=by
 intro pins s σ H x y v u Qv I rx ry h
 obtain⟨r,S,dx,dy,Q,rel,px,py,q,ret⟩:=h
 have flat:∀ {dx dy:D} {x y:V},Rp r H dx x→Rp r H dy y→zaA x v→zaA y u→zll k S dx dy=eqN (k+1) dx dy→zef k dx dy S Q→wpAny (model X.prog X.w) X.A (compareOp .Eq v u) (EP X pins σ Qv) X.xe s:=λpx py rx ry e q=>by
  refine zqk (Z:=Z) (zeW k) hu pins s σ H _ _ v u Qv I rx ry ⟨r,S,_,_,Q,rel,px,py,?_,ret⟩
  unfold zef at q
  rw[e] at q
  exact q
 cases px with
 | @ref n a hn=>
  cases py with
  | @ref m a' hm=>
   cases rx
   cases ry
   unfold zef zll at q
   dsimp only at q
   split at q
   ·rename_i b e
    split at e
    ·rename_i o o' eo eo'
     exact ztN I rel hn hm eo eo' e hu X.prog X.w X.xe _ ⟨.bl b,H,I,rfl,ret _ _ _ _ _ Ext.refl rel (.bl b) q⟩
    ·cases e
   ·exact q.elim
  | non=>exact flat (.ref hn) .non rx ry rfl q
  | bl i=>exact flat (.ref hn) (.bl i) rx ry rfl q
  | int i=>exact flat (.ref hn) (.int i) rx ry rfl q
  | str i=>exact flat (.ref hn) (.str i) rx ry rfl q
  | tup a b c=>exact flat (.ref hn) (.tup a b c) rx ry rfl q
  | exc a=>exact flat (.ref hn) (.exc a) rx ry rfl q
 | non=>exact flat .non py rx ry rfl q
 | bl i=>exact flat (.bl i) py rx ry rfl q
 | int i=>exact flat (.int i) py rx ry rfl q
 | str i=>exact flat (.str i) py rx ry rfl q
 | tup a b c=>exact flat (.tup a b c) py rx ry rfl q
 | exc a=>exact flat (.exc a) py rx ry rfl q
def zbY (f:D→D→Option Bool):List D→D→Option Bool
 | [],_=>some false
 | y::ys,x=>match f y x,zbY f ys x with
  | some b,some c=>some (b||c)
  | _,_=>none
def wIn (k:Nat)(neg:Bool):W2:=λx y S Q=>match y with
 | .ref n=>match lAt S n with
  | some o=>match zbY (eqN k) (zao o) x with
   | some b=>Q (.bl (if neg then !b else b)) S
   | none=>False
  | none=>False
 | _=>False
theorem zpO {v v':V}{u:Value}(h:zaA v u)(h':zaA v' u):v=v':=by
 cases v <;> cases v' <;> simp[L2.zaA] at h h' <;> first
  | rfl
  | (subst h; simp at h'; subst h'; rfl)
  | (obtain⟨t,rfl⟩:=h; simp at h'; subst h'; rfl)
  | (obtain⟨t,rfl⟩:=h; simp at h')
  | (subst h; simp at h')
  | skip
theorem zgZ {r:List Addr}{H:Hp}{d d' x:D}{v:V}{b b':Bool}(p:Rp r H d v)(p':Rp r H d' v)(e:eqF d x=some b)(e':eqF d' x=some b'):b=b':=by
 have z:d=d':=by
  cases p <;> cases p' <;> first
   | rfl
   | (cases x <;> simp[eqF] at e)
   | (cases x <;> simp[eqF] at e')
 subst z
 rw[e] at e'
 exact Option.some.inj e'
theorem zrH {f:D→D→Option Bool}{r:List Addr}{H:Hp}(hf:∀(d d' x:D) (v:V) (b b':Bool),Rp r H d v→Rp r H d' v→f d x=some b→f d' x=some b'→b=b'):
  ∀ {ds ds' zs:List D} {vs:List V} {b b':Bool},Rps r H ds vs→Rps r H ds' vs→eqL f ds zs=some b→eqL f ds' zs=some b'→b=b'
 | [],ds',zs,vs,b,b',p,p',e,e'=>by
  have z:=p.unnil
  subst z
  cases ds' with
  | nil=>rw[e] at e'; exact Option.some.inj e'
  | cons y ys=>exact absurd p'.1 (by simp)
 | d::ds,ds',zs,vs,b,b',p,p',e,e'=>by
  obtain⟨v,vs',rfl,p1,p2⟩:=p.uncons
  cases ds' with
  | nil=>exact absurd p'.1 (by simp)
  | cons d' ds'=>
   obtain⟨q1,q2⟩:=p'.tail
   cases zs with
   | nil=>
    simp only[eqL,Option.some.injEq] at e e'
    exact e.symm.trans e'
   | cons z zs=>
    unfold eqL at e e'
    split at e
    ·rename_i b1 c1 a1 a2
     split at e'
     ·rename_i b2 c2 a3 a4
      have h1:=hf d d' z v b1 b2 p1 q1 a1 a3
      have h2:=zrH hf p2 q2 a2 a4
      subst h1 h2
      simp only[Option.some.injEq] at e e'
      exact e.symm.trans e'
     ·cases e'
    ·cases e
theorem zoF:∀(k:Nat) {r:List Addr} {H:Hp} (d d' x:D) (v:V) (b b':Bool),Rp r H d v→Rp r H d' v→eqN k d x=some b→eqN k d' x=some b'→b=b'
 | 0,r,H,d,d',x,v,b,b',p,p',e,e'=>zgZ p p' e e'
 | k+1,r,H,d,d',x,v,b,b',p,p',e,e'=>by
  cases p with
  | tup h1 l1 f1=>
   cases p' with
   | tup h2 l2 f2=>
    rw[h1] at h2; cases h2
    cases x with
    | tup zs=>exact zrH (λd d' x v b b'=>zoF k d d' x v b b') ⟨l1,f1⟩ ⟨l2,f2⟩ e e'
    | _=>simp[eqN,eqT,eqF] at e
   | ref h=>cases x <;> simp[eqN,eqT,eqF] at e'
   | exc h=>cases x <;> simp[eqN,eqT,eqF] at e'
  | non=>exact zgZ (x:=x) .non p' (by cases x <;> exact e) (by cases p' <;> cases x <;> exact e')
  | bl i=>exact zgZ (x:=x) (.bl i) p' (by cases x <;> exact e) (by cases p' <;> cases x <;> exact e')
  | int i=>exact zgZ (x:=x) (.int i) p' (by cases x <;> exact e) (by cases p' <;> cases x <;> exact e')
  | str i=>exact zgZ (x:=x) (.str i) p' (by cases x <;> exact e) (by cases p' <;> cases x <;> exact e')
  | ref h=>cases x <;> simp[eqN,eqT,eqF] at e
  | exc h=>cases x <;> simp[eqN,eqT,eqF] at e
theorem zqz {f:D→D→Option Bool}{x:D}:∀ {ys:List D} {b:Bool},zbY f ys x=some b→(∀y∈ys,∃c,f y x=some c)∧(b=true↔∃y∈ys,f y x=some true)
 | [],b,e=>by
  simp only[zbY,Option.some.injEq] at e
  subst e
  simp
 | y::ys,b,e=>by
  unfold zbY at e
  split at e
  ·rename_i b1 c1 e1 e2
   obtain⟨h1,h2⟩:=zqz e2
   simp only[Option.some.injEq] at e
   subst e
   refine⟨λz hz=>?_,?_⟩
   ·rcases Vau.mp hz with rfl | hz'
    ·exact⟨b1,e1⟩
    ·exact h1 z hz'
   ·rw[Bool.or_eq_true,h2]
    refine⟨λq=>?_,λ⟨z,hz,q⟩=>?_⟩
    ·rcases q with q | ⟨z,hz,q⟩
     ·exact⟨y,Va6,by rw[e1,q]⟩
     ·exact⟨z,VaR _ hz,q⟩
    ·rcases Vau.mp hz with rfl | hz'
     ·left
      rw[e1] at q
      exact Option.some.inj q
     ·exact .inr ⟨z,hz',q⟩
  ·cases e
theorem zqG {k:Nat}{pins:List (Addr×Obj)}{σ:St}{H:Hp}{s:Shared}{r:List Addr}{A:Around}{ds:List D}{vs:List V}{us:List Value}{dx:D}{x:V}{u:Value}{b:Bool}(I:Inv X pins σ H s)(hu:A.units+k<cLine)
  (p:Rps r H ds vs)(rv:zaB vs us)(px:Rp r H dx x)(rx:zaA x u)(e:zbY (eqN k) ds dx=some b):∃g:Value→Bool,(∀y,y∈us.toArray→SeqAt.EqAt A s y u (g y))∧us.toArray.any g=b:=by
 obtain⟨h1,h2⟩:=zqz e
 have at_:∀y∈us,∃d v,d∈ds∧Rp r H d v∧zaA v y:=λy hy=>by
  obtain⟨j,hj,ej⟩:=VaS.mp hy
  have hv:j<vs.length:=by rw[rv.length]; exact hj
  have gv:vs[j]?=some vs[j]:=by simp[hv]
  obtain⟨w,gw,rw'⟩:=rv.get gv
  obtain⟨d,gd,pd⟩:=p.get' gv
  have ew:w=y:=by
   rw[Vac hj,ej] at gw
   exact(Option.some.inj gw).symm
  subst ew
  exact⟨d,_,Vai gd,pd,rw'⟩
 classical
 refine⟨λy=>decide (∃d v,d∈ds∧Rp r H d v∧zaA v y∧eqN k d dx=some true),λy hy=>?_,?_⟩
 ·obtain⟨d,v,hd,pd,rd⟩:=at_ y (by simpa using hy)
  obtain⟨c,hc⟩:=h1 d hd
  have same:decide (∃d v,d∈ds∧Rp r H d v∧zaA v y∧eqN k d dx=some true)=c:=by
   cases c with
   | true=>exact decide_eq_true ⟨d,v,hd,pd,rd,hc⟩
   | false=>
    refine decide_eq_false λ⟨d',v',_,pd',rd',hc'⟩=>?_
    have ev:=zpO rd rd'
    subst ev
    exact absurd (zoF k d d' dx v false true pd pd' hc hc') (by decide)
  show SeqAt.EqAt A s y u (decide _)
  rw[same]
  exact zeW k X pins σ H s r A d dx v x y u c I hu pd px rd rx hc
 ·rw[Vbe,h2,List.any_toArray,List.any_eq_true]
  refine⟨λ⟨y,hy,q⟩=>?_,λ⟨d,hd,q⟩=>?_⟩
  ·obtain⟨d,v,hd,_,_,q'⟩:=of_decide_eq_true q
   exact⟨d,hd,q'⟩
  ·obtain⟨j,hj,ej⟩:=VaS.mp hd
   have gd:ds[j]?=some d:=by simp[hj,ej]
   obtain⟨v,gv,pv⟩:=p.get gd
   obtain⟨w,gw,rw'⟩:=rv.get gv
   exact⟨w,Vai gw,decide_eq_true ⟨d,v,hd,pv,rw',q⟩⟩
theorem do_in (k:Nat)(hu:X.A.units+1+k<cLine):OpR X (compareOp .In) (upO X.K Z (wIn k false)):=by
 intro pins s σ H x y v u Qv I rx ry h
 obtain⟨r,S,dx,dy,Q,rel,px,py,q,ret⟩:=h
 cases py with
 | @ref n a hn=>
  unfold wIn at q
  dsimp only at q
  split at q
  ·rename_i o eo
   split at q
   ·rename_i b eb
    cases ry
    obtain⟨eo,eL⟩:=zbx eo
    obtain⟨a',ha,ob⟩:=rel.at eo
    rw[hn] at ha; cases ha
    obtain⟨ys,sq,pr⟩:=ob.list eL
    obtain⟨us,ru,pl,_⟩:=I.list sq
    obtain⟨g,g1,g2⟩:=zqG (A:=X.A.in1) I (by show X.A.units+1+k<_; omega) pr ru px rx eb
    refine SeqAt.in_listAt g pl.isList g1 ?_
    rw[g2]
    exact⟨.bl b,H,I,rfl,ret _ _ _ _ _ Ext.refl rel (.bl b) q⟩
   ·exact q.elim
  ·exact q.elim
 | _=>exact(show False from q).elim
theorem zzi (k:Nat)(hu:X.A.units+1+k<cLine):OpR X (compareOp .NotIn) (upO X.K Z (wIn k true)):=by
 intro pins s σ H x y v u Qv I rx ry h
 obtain⟨r,S,dx,dy,Q,rel,px,py,q,ret⟩:=h
 cases py with
 | @ref n a hn=>
  unfold wIn at q
  dsimp only at q
  split at q
  ·rename_i o eo
   split at q
   ·rename_i b eb
    cases ry
    obtain⟨eo,eL⟩:=zbx eo
    obtain⟨a',ha,ob⟩:=rel.at eo
    rw[hn] at ha; cases ha
    obtain⟨ys,sq,pr⟩:=ob.list eL
    obtain⟨us,ru,pl,_⟩:=I.list sq
    obtain⟨g,g1,g2⟩:=zqG (A:=X.A.in1) I (by show X.A.units+1+k<_; omega) pr ru px rx eb
    refine SeqAt.notIn_listAt g pl.isList g1 ?_
    rw[g2]
    exact⟨.bl (!b),H,I,rfl,ret _ _ _ _ _ Ext.refl rel (.bl (!b)) q⟩
   ·exact q.elim
  ·exact q.elim
 | _=>exact(show False from q).elim
end
section
variable {X:Cx}{Z:Zx}{pos:Pos}
def zfF:List Nat→List D→Ev→Ev
 | i::is,d::ds,dl=>zfF is ds (dl.set i (some d))
 | _,_,dl=>dl
def zmZ:List Nat→List V→St→St
 | i::is,v::vs,σ=>zmZ is vs (σ.set i (some v))
 | _,_,σ=>σ
theorem zo0 {r:List Addr}{H:Hp}:∀ {is:List Nat} {ds:List D} {vs:List V} {dl:Ev} {σ:St},Rs r H dl σ→Rps r H ds vs→Rs r H (zfF is ds dl) (zmZ is vs σ)
 | [],ds,vs,dl,σ,h,p=>by cases ds <;> cases vs <;> exact h
 | i::is,[],vs,dl,σ,h,p=>by
  have z:=p.unnil
  subst z
  exact h
 | i::is,d::ds,vs,dl,σ,h,p=>by
  obtain⟨v,vs',rfl,p1,p2⟩:=p.uncons
  show Rs r H (zfF is ds (dl.set i (some d))) (zmZ is vs' (σ.set i (some v)))
  exact zo0 (Rs.set i h p1) p2
inductive Nms (X:Cx):List Expr→List Nat→Prop
 | nil:Nms X [] []
 | cons {x:Str} {p:Pos} {i:Nat} {es:List Expr} {is:List Nat}:X.N[i]?=some x→Loc X.env.scope x→(X.fn x=true∨X.env.scope.names.lookup x=some .local)→Nms X es is→Nms X (.Name x p::es) (i::is)
def zfW (is:List Nat):TGs:=λvs σ H Q=>vs.length=is.length∧Q (zmZ is vs σ) H
theorem zfs (hN:X.N.Nodup):∀ {es:List Expr} {is:List Nat},Nms X es is→PGs X es (zfW is)
 | _,_,.nil=>λpins s σ H vs us Q I r h=>by
  obtain⟨e,h⟩:=h
  have z:vs=[]:=by simpa using e
  subst z
  exact zvd pins s σ H [] us Q I r ⟨rfl,h⟩
 | _,_,.cons (x:=x) (p:=p) (es:=es) (is:=is) h1 h2 h3 t=>λpins s σ H vs us Q I r h=>by
  obtain⟨e,h⟩:=h
  cases vs with
  | nil=>simp at e
  | cons v vs=>exact ztl (zgo hN h1 h2 h3) (zfs hN t) rfl pins s σ H (v::vs) us Q I r ⟨v,vs,rfl,by simpa using e,h⟩
def dSetT (is:List Nat)(te:TDE):TDS:=λE dl S=>te dl S λd S1=>match d with
 | .tup xs=>xs.length=is.length∧E.nx (zfF is xs dl) S1
 | _=>False
theorem ztb {es:List Expr}{e:Expr}{te:TDE}{k:Nat}{p:Pos}{is:List Nat}(hc:X.calm=true)(hN:X.N.Nodup)(hn:Nms X es is)(he:PD X Z e te)(hlen:(assignEach es X.env).length=is.length:=by rfl)(hst:(assignEach es X.env).findIdx? (·.1)=none:=by rfl)
  (hs:swapsWithSole [.Tuple es k p] e pos.line X.env=pure false:=by rfl)(hw:swappedStores [.Tuple es k p] e X.env=pure none:=by rfl)
  (h1:(assignEach [.Tuple es k p] X.env).map (·.2)=[assign (.Tuple es k p) X.env]:=by rfl):PDS X Z (.Assign [.Tuple es k p] e pos) (dSetT is te):=
 zb0 (zt9 he (zhQ hc (zfs hN hn) hlen hst) hs hw h1) λF σ H ⟨r,dl,S,E,rs,rel,h,ret⟩=>by
  refine⟨r,dl,S,_,rs,rel,h,λv H1 r1 d S1 x1 rel1 p1 q1=>?_⟩
  cases p1 with
  | @tup ds xs a e1 l1 f1=>
   obtain⟨hl,q⟩:=q1
   exact⟨a,xs,rfl,SqT.of e1,by rw[← l1]; exact hl,by rw[← l1]; exact hl,ret.nx _ H1 r1 _ S1 x1 (zo0 (rs.ext x1) ⟨l1,f1⟩) rel1 q⟩
  | _=>exact(show False from q1).elim
end
open PySem L2
theorem zgl (S:Sto)(o u:Ob):(S++[o]).set S.length u=S++[u]:=by simp
section
variable {X:Cx}{Z:Zx}
end
def zrG:Sd:=λ_ _ _ _=>False
def Df.never {P:Program}{w:World}{K:PySem.W.Frag}{mg:Str→Option Value}{base:Heap}{x:Str}{st:Stmt}{ps:List Str}(k:Nat)(d:Df K mg x st ps):Fk P w K mg base k x ps zrG:=
 ⟨d.f,d.fd,⟨λ_ _ _ _ ⟨_,_,_,_,_,_,_,z,_⟩=>z.elim,λ_ _ _ _ _ _ _ _ _ _ _ _ _ ⟨_,_,_,_,_,_,_,z,_⟩=>z.elim⟩,d.m,d.F.kp,d.b⟩
section
variable {X:Cx}{Z:Zx}{pos:Pos}
end
section
variable {X:Cx}{Z:Zx}{elt iter:Expr}{x:Str}{px pos:Pos}{ifs:List Expr}{sc ar:Scope}{N:List Str}{caps:List Nat}
theorem zif {ta:TDA}{te:TDE}{dl:Ev}{S S1:Sto}{Q:DK}{j:Int}(g:Nat→D)(hta:∀K:List D→Sto→Prop,K [.int j] S1→ta dl S K)(hj:0≤j∧j≤1000)
  (ht:∀k:Nat,k<j.toNat→∀(S2:Sto) (K:DK),Pre S1 S2→K (g k) S2→te (some (.int k)::zbv caps dl) S2 K)(hq:Q (.ref S1.length) (S1++[.lst ((List.range j.toNat).map g)])):zcX caps ta zb6 te dl S Q:=by
 unfold zcX
 refine hta _ ⟨⟨by omega,by omega⟩,λk S2=>S2=S1++[.lst ((List.range k).map g)]∧k≤j.toNat,⟨by simp,by omega⟩,?_⟩
 rintro k S2 ⟨rfl,hk⟩
 split
 ·rename_i hk'
  unfold zc7 zb6
  simp only[if_true]
  refine ht k hk' _ _ Pre.refl.push ?_
  rw[zav]
  refine⟨by simp; omega,?_,by omega⟩
  rw[List.range_succ,VaD,List.set_append_right _ _ (Vaa _)]
  simp
 ·have e:k=j.toNat:=by omega
  subst e
  exact hq
end
section
variable {X:Cx}{Z:Zx}{pos:Pos}
abbrev TDO:=Ev→Sto→(Option Int→Sto→Prop)→Prop
def upP (K:PySem.W.Frag)(Z:Zx)(t:TDO):TO:=λσ H Q=>∃(r:List Addr) (dl:Ev) (S:Sto) (Q':Option Int→Sto→Prop),Rs r H dl σ∧Rel K Z r S H∧t dl S Q'∧∀o H' r' S',Ext r r' H H'→Rel K Z r' S' H'→Q' o S'→Q o H'
def PDO (X:Cx)(Z:Zx)(e:Option Expr)(t:TDO):Prop:=PO X e (upP X.K Z t)
def zoh:TDO:=λ_ S Q=>Q none S
def zoY (t:TDE):TDO:=λdl S Q=>t dl S λd S1=>match d with
 | .int i=>Q (some i) S1
 | _=>False
theorem zp1 {e:Option Expr}{t t':TO}(h:PO X e t)(g:∀σ H Q,t' σ H Q→t σ H Q):PO X e t':=λpins s σ H Q I q=>h pins s σ H Q I (g σ H Q q)
theorem ziW:PDO X Z none zoh:=zp1 zsf λσ H Q ⟨r,dl,S,Q',rs,rel,h,ret⟩=>ret none H r S Ext.refl rel h
theorem ziH {e:Expr}{t:TDE}(he:PD X Z e t):PDO X Z (some e) (zoY t):=zp1 (zsZ he) λσ H Q ⟨r,dl,S,Q',rs,rel,h,ret⟩=>⟨r,dl,S,_,rs,rel,h,λv H1 r1 d S1 e1 rel1 p1 q1=>by
 cases p1 with
 | int i=>exact⟨i,rfl,ret (some i) H1 r1 S1 e1 rel1 q1⟩
 | _=>exact(show False from q1).elim⟩
end
section
variable {X:Cx}{Z:Zx}
end
section
variable {X:Cx}{Z:Zx}
end
theorem zaC {n:Nat}{S:Sto}{o:Ob}{Q:DK}{i:Int}{d:D}(ho:S[n]?=some o)(hd:atI (zao o) i=some d)(hq:Q d S)(hL:zbX o=some o:=by rfl):zbN wIx (.ref n) (.int i) S Q:=by
 rw[zb8]
 unfold wIx
 simp only[zaU ho hL,hd]
 exact hq
def ze2 (f:Str)(v:D):List (Str×D)→List (Str×D)
 | []=>[(f,v)]
 | p::r=>if p.1=f then (f,v)::r else p::ze2 f v r
theorem FR.lookup {r:List Addr}{H:Hp}{f:Str}:∀ {fs:List (Str×D)} {fs':List (Str×V)},FR r H fs fs'→(∀d,fs.lookup f=some d→∃v,fs'.lookup f=some v∧Rp r H d v)∧(fs.lookup f=none→fs'.lookup f=none)
 | [],fs',h=>by
  have e:fs'=[]:=by
   have:=h.1
   simpa using this.symm
  subst e
  exact⟨λd z=>by simp at z,λ_=>rfl⟩
 | p::fs,[],h=>by
  have:=h.1
  simp at this
 | p::fs,q::fs',h=>by
  obtain⟨h1,h2⟩:=h
  simp only[VaX,List.cons.injEq] at h1
  obtain⟨p1,p2⟩:=h2.tail
  obtain⟨i1,i2⟩:=FR.lookup (f:=f) (fs:=fs) (fs':=fs') ⟨h1.2,p2⟩
  obtain⟨pk,pv⟩:=p
  obtain⟨qk,qv⟩:=q
  have ek:pk=qk:=h1.1
  subst ek
  by_cases z:f=pk
  ·subst z
   simp only[List.lookup_cons_self]
   exact⟨λd hd=>⟨qv,rfl,by cases hd; exact p1⟩,λhd=>by cases hd⟩
  ·have zb:(f==pk)=false:=by simpa using z
   simp only[Vay,zb]
   exact⟨i1,i2⟩
theorem FR.put {r:List Addr}{H:Hp}{f:Str}{d:D}{v:V}(q:Rp r H d v):∀ {fs:List (Str×D)} {fs':List (Str×V)},FR r H fs fs'→FR r H (ze2 f d fs) (zbC f v fs')
 | [],fs',h=>by
  have e:fs'=[]:=by
   have:=h.1
   simpa using this.symm
  subst e
  exact⟨rfl,Rps.cons q Rps.nil⟩
 | p::fs,[],h=>by
  have:=h.1
  simp at this
 | p::fs,p'::fs',h=>by
  obtain⟨h1,h2⟩:=h
  simp only[VaX,List.cons.injEq] at h1
  obtain⟨p1,p2⟩:=h2.tail
  have ih:=FR.put (f:=f) q (fs:=fs) (fs':=fs') ⟨h1.2,p2⟩
  obtain⟨pk,pv⟩:=p
  obtain⟨qk,qv⟩:=p'
  have ek:pk=qk:=h1.1
  subst ek
  unfold ze2 zbC
  by_cases z:pk=f
  ·rw[if_pos z,if_pos z]
   exact⟨by simp[h1.2,z],Rps.cons q p2⟩
  ·rw[if_neg z,if_neg z]
   exact⟨by simp[ih.1],Rps.cons p1 ih.2⟩
section
variable {X:Cx}{Z:Zx}{pos:Pos}
def zc4 (C:Addr)(S:Sto):D→Option (Nat×List (Str×D))
 | .ref n=>match S[n]? with
  | some (.ins C' fs)=>if C'=C then some (n,fs) else none
  | _=>none
 | _=>none
theorem znA {C:Addr}{S:Sto}{d:D}{n:Nat}{fs:List (Str×D)}(h:zc4 C S d=some (n,fs)):d=.ref n∧S[n]?=some (.ins C fs):=by
 unfold zc4 at h
 split at h
 ·split at h
  ·rename_i m _ C' fs' e
   split at h
   ·rename_i ec
    subst ec
    simp only[Option.some.injEq,Prod.mk.injEq] at h
    obtain⟨rfl,rfl⟩:=h
    exact⟨rfl,e⟩
   ·cases h
  ·cases h
 ·cases h
@[irreducible] def zjU (C:Addr)(f:Str)(to:TDE):TDE:=λdl S Q=>to dl S λd S1=>match zc4 C S1 d with
 | some (_,fs)=>match fs.lookup f with
  | some v=>Q v S1
  | none=>False
 | none=>False
theorem za9 {C:Addr}{f:Str}{o:Expr}{to:TDE}(c:Cls X.K C)(n:zbB X.K C f)(ho:PD X Z o to)(hb:attributeBase o f X.env (eval o X.env)=eval o X.env:=by rfl):PD X Z (.Attribute o f pos) (zjU C f to):=
 zbc (zx2 ho hb) λσ H Qv ⟨r,dl,S,Q,rs,rel,h,ret⟩=>by unfold zjU at h; exact⟨r,dl,S,_,rs,rel,h,λv H1 r1 d S1 e1 rel1 p1 q1=>by
  split at q1
  ·rename_i m fs ei
   obtain⟨rfl,eS⟩:=znA ei
   split at q1
   ·rename_i w ew
    obtain⟨a,ha,ob⟩:=rel1.at eS
    obtain⟨dx,fs',eH,fr⟩:=ob
    cases p1 with
    | ref hr=>
     rw[hr] at ha; cases ha
     obtain⟨u,hu,pu⟩:=fr.lookup.1 w ew
     exact⟨a,C,dx,fs',u,rfl,eH,c,n,hu,ret u H1 r1 w S1 e1 rel1 pu q1⟩
   ·exact q1.elim
  ·exact q1.elim⟩
@[irreducible] def zmK (C:Addr)(f:Str)(to te:TDE):TDS:=λE dl S=>te dl S λv S1=>to dl S1 λd S2=>match zc4 C S2 d with
 | some (n,fs)=>fs.length<1000∧E.nx dl (S2.set n (.ins C (ze2 f v fs)))
 | none=>False
theorem zcM {C:Addr}{f:Str}{o e:Expr}{to te:TDE}{p2:Pos}(c:Cls X.K C)(n:zbB X.K C f)(ho:PD X Z o to)(he:PD X Z e te)
  (hs:swapsWith e (some (.Attribute o f p2)) pos.line X.env=pure false:=by rfl):PDS X Z (.Assign [.Attribute o f p2] e pos) (zmK C f to te):=
 zb0 (zui ho he hs) λF σ H ⟨r,dl,S,E,rs,rel,h,ret⟩=>by unfold zmK at h; exact⟨r,dl,S,_,rs,rel,h,λv H1 r1 dv S1 e1 rel1 p1 q1=>⟨r1,dl,S1,_,rs.ext e1,rel1,q1,λw H2 r2 d S2 e2 rel2 p2' q2=>by
  split at q2
  ·rename_i m fs ei
   obtain⟨rfl,eS⟩:=znA ei
   obtain⟨hl,q2⟩:=q2
   obtain⟨a,ha,ob⟩:=rel2.at eS
   obtain⟨dx,fs',eH,fr⟩:=id ob
   cases p2' with
   | ref hr=>
    rw[hr] at ha; cases ha
    have hlen:fs'.length=fs.length:=by
     have:=congrArg List.length fr.1
     simpa using this.symm
    obtain⟨rb,x⟩:=rel2.b.setO (o':=.ins C (ze2 f dv fs)) (u:=.ins C dx (zbC f v fs')) hr eS rfl rfl λx=>⟨dx,_,zcA,(fr.put (p1.ext e2)).ext x⟩
    exact⟨a,C,dx,fs',rfl,eH,c,n,by omega,ret.nx _ _ r2 _ _ (e1.trans (e2.trans x)) (rs.ext (e1.trans (e2.trans x))) ⟨rb,rel2.xw.ext x⟩ q2⟩
  ·exact q2.elim⟩⟩
@[irreducible] def zma (C:Addr)(m:Str)(ex:Ev→Addr→Sto→Prop)(sd:Sd)(to:TDE)(t:TDA):TDE:=λdl S Q=>to dl S λd S1=>match zc4 C S1 d with
 | some (_,fs)=>fs.lookup m=none∧t dl S1 λds S2=>sd (d::ds) S2 Q (ex dl)
 | none=>False
theorem zua {C:Addr}{m:Str}{f:Addr}{fd:FuncData}{k:Nat}{ps:List Str}{sp:Sp}{W:St→XK}{o e:Expr}{es:List Expr}{ta:TE}{t:TA}{apos:Pos}{pl:Sem Bool}(he:PE X o ta)(c:Cls X.K C)(hm:zfM X.K C m f)
  (F:zbq X.prog X.w X.K X.mg X.base (CXE X.prog X.w) k f fd ps sp)(hr:zaT k X.A)(hb:zbQ X.K fd ps [])(hx:zdo X W)(ha:PA X (e::es) t)(hst:starEach (e::es) X.env=(false,eval e X.env)::starEach es X.env)(hpl:(backTo pos (starEach es X.env)).any (·.1)=false)
  (ht:eval (.Call (.Attribute o m apos) (e::es) [] pos) X.env=(do
   let ov ← eval o X.env
   standAt apos.atName
   let (f,first) ← holding [ov] (getMethod ov m pl)
   callWith pos f first (backTo pos (starEach (e::es) X.env)) (backToKw pos (keywordEach [] X.env)))):
  PE X (.Call (.Attribute o m apos) (e::es) [] pos) (λσ H Q=>ta σ H λx H1=>∃a dx fs,x=.ref a∧H1 a=some (.ins C dx fs)∧fs.lookup m=none∧t σ H1 λvs H2=>sp (x::vs) H2 Q (W σ)):=by
 intro pins s σ H Q I h
 refine PySem.W.methodCall_KW (pl:=pl) (thn (he pins s σ H _ I h) λu s1 ⟨x,H1,I1,rx,a,dx,fs,ex,ea,l,q⟩=>?_) ht
 subst ex
 obtain rfl:u=Value.ref a:=rx
 refine zrk I1 ea c hm l ?_
 exact PySem.W.callWith_K (first:=[.ref a]) (h₀:=X.base) I.ok.mod.kin hm.kp (thn (ha pos pins s1 σ H1 _ I1 q) λus s2 ⟨vs,H2,I2,r,q2⟩=>⟨I2.kIn,znS (us:=.ref a::us) (vs:=.ref a::vs) F hr hb hx I2 (.cons rfl r) q2⟩) hst hpl
theorem zps {C:Addr}{r:List Addr}{S:Sto}{H:Hp}{d:D}{v:V}{n:Nat}{fs:List (Str×D)}(rel:za0 X.K r S H)(p:Rp r H d v)(h:zc4 C S d=some (n,fs)):∃a dx fs',v=.ref a∧r[n]?=some a∧H a=some (.ins C dx fs')∧FR r H fs fs':=by
 obtain⟨rfl,eS⟩:=znA h
 obtain⟨a,ha,dx,fs',eH,fr⟩:=rel.at eS
 cases p with
 | ref hr=>
  rw[hr] at ha; cases ha
  exact⟨a,dx,fs',rfl,hr,eH,fr⟩
theorem znr {C:Addr}{m:Str}{f:Addr}{fd:FuncData}{k:Nat}{ps:List Str}{sd:Sd}{o e:Expr}{es:List Expr}{to:TDE}{t:TDA}{apos:Pos}{pl:Sem Bool}{ex:Ev→Addr→Sto→Prop}{W:St→XK}(ho:PD X ⟨ex,W⟩ o to)(c:Cls X.K C)(hm:zfM X.K C m f)
  (F:zbq X.prog X.w X.K X.mg X.base (CXE X.prog X.w) k f fd ps (upF X.K sd))(hr:zaT k X.A)(hb:zbQ X.K fd ps [])(hx:zdo X W)(ha:PDA X ⟨ex,W⟩ (e::es) t)
  (hst:starEach (e::es) X.env=(false,eval e X.env)::starEach es X.env:=by rfl)(hpl:(backTo pos (starEach es X.env)).any (·.1)=false:=by rfl)
  (ht:eval (.Call (.Attribute o m apos) (e::es) [] pos) X.env=(do
   let ov ← eval o X.env
   standAt apos.atName
   let (f,first) ← holding [ov] (getMethod ov m pl)
   callWith pos f first (backTo pos (starEach (e::es) X.env)) (backToKw pos (keywordEach [] X.env))):=by rfl):PD X ⟨ex,W⟩ (.Call (.Attribute o m apos) (e::es) [] pos) (zma C m ex sd to t):=
 zbc (zua ho c hm F hr hb hx ha hst hpl ht) λσ H Qv ⟨r,dl,S,Q,rs,rel,h,ret⟩=>by unfold zma at h; exact⟨r,dl,S,_,rs,rel,h,λv H1 r1 d S1 e1 rel1 p1 q1=>by
  split at q1
  ·rename_i n fs ei
   obtain⟨hl,q1⟩:=q1
   obtain⟨a,dx,fs',rfl,hr1,eH,fr⟩:=zps rel1.b p1 ei
   exact⟨a,dx,fs',rfl,eH,fr.lookup.2 hl,r1,dl,S1,_,rs.ext e1,rel1,q1,λvs H2 r2 ds S2 e2 rel2 p2 q2=>znF (Z:=⟨ex,W⟩) (rs.ext (e1.trans e2)) rel2 (Rps.cons (p1.ext e2) p2) q2 (ret.ext (e1.trans e2))⟩
  ·exact q1.elim⟩
def dMake (C:Addr)(ex:Addr→Sto→Prop)(sd:Sd)(t:TDA):TDE:=λdl S Q=>t dl S λds S1=>sd (.ref S1.length::ds) (S1++[.ins C []]) (λd S2=>d=.non∧Q (.ref S1.length) S2) ex
theorem zvt {C x dx:Addr}{r:List Addr}{S:Sto}{H:Hp}(rel:Rel X.K Z r S H)(h1:H x=none)(h2:H dx=none)(h3:dx≠x):
  Rel X.K Z (r++[x]) (S++[.ins C []]) (upd (upd H dx (.own x)) x (.ins C dx []))∧Ext r (r++[x]) H (upd (upd H dx (.own x)) x (.ins C dx [])):=by
 obtain⟨rb,e⟩:=rel.b.pushO (o:=.ins C []) (H':=upd (upd H dx (.own x)) x (.ins C dx [])) h1 (λb u q=>by rw[za6 (zdI q h1),za6 (zdI q h2)]; exact q) λ_=>⟨dx,[],zcA,FR.nil⟩
 exact⟨⟨rb,rel.xw.ext e⟩,e⟩
theorem zwI {C x:Addr}{r r':List Addr}{n:Nat}{H H':Hp}{Z:Zx}{K:PySem.W.Frag}{Q:DK}{Qv:VK}(ret:Ret K Z r H Q Qv)(e:Ext r r' H H')(hx:r'[n]?=some x):
  Ret K Z r' H' (λd S2=>d=.non∧Q (.ref n) S2) (λv H2=>v=.non∧Qv (.ref x) H2):=λv H2 r2 d S2 e2 rel2 p2 q2=>by
 obtain⟨rfl,q2⟩:=q2
 cases p2
 exact⟨rfl,ret _ H2 r2 (.ref n) S2 (e.trans e2) rel2 (.ref (e2.adr _ _ hx)) q2⟩
theorem zeI {C f:Addr}{fd:FuncData}{k:Nat}{ps:List Str}{sd:Sd}{ex:Addr→Sto→Prop}{W:XK}{x:Str}{p:Pos}{e:Expr}{es:List Expr}{t:TDA}(M:Mk X.K C f)
  (F:zbq X.prog X.w X.K X.mg X.base (CXE X.prog X.w) k f fd ps (upF X.K sd))(hr:zaT (k+1) X.A)(hg:Gl X x)(hm:X.mg x=some (.ref C))(hb:zbQ X.K fd ps [])(hx:zjc (CXE X.prog X.w) X W)(ha:PDA X (Zc ex W) (e::es) t)
  (hdb:(x==("__debug__":Str))=false:=by decide)(he:starEach (e::es) X.env=(false,eval e X.env)::starEach es X.env:=by rfl)(hpl:(backTo pos (starEach es X.env)).any (·.1)=false:=by rfl):
  PD X (Zc ex W) (.Call (.Name x p) (e::es) [] pos) (dMake C ex sd t):=
 zbc (ztQ M F hr hg hm hb .nil hx ha hdb he hpl) λσ H Qv ⟨r,dl,S,Q,rs,rel,h,ret⟩=>⟨r,dl,S,_,rs,rel,h,λvs H1 r1 ds S1 e1 rel1 p1 q1=>λx dx n1 n2 n3=>by
  obtain⟨rel2,e2⟩:=zvt (C:=C) rel1 n1 n2 n3
  show upF X.K sd (.ref x::(vs++[])) _ _ W
  rw[Va2]
  exact⟨ex,_,_,.ref S1.length::ds,_,rel2,Rps.cons (zeg rel1.len) (p1.ext e2),q1,zwI (C:=C) ret (e1.trans e2) (zhJ rel1.len)⟩⟩
end
section
variable {κ:Type} [DecidableEq κ]
end
section
variable {X:Cx}{Z:Zx}{pos:Pos}
end
section
variable {X:Cx}{Z:Zx}{pos:Pos}
def zb1 (xs:List D)(lo hi:Option Int):List D:=(xs.drop (HT.sIx xs.length 0 lo)).take (HT.sIx xs.length xs.length hi-HT.sIx xs.length 0 lo)
theorem Rps.drop {r:List Addr}{H:Hp}{ds:List D}{vs:List V}(h:Rps r H ds vs)(k:Nat):Rps r H (ds.drop k) (vs.drop k):=
 ⟨by simp[h.1],λi d v h1 h2=>h.2 (k+i) d v (by simpa using h1) (by simpa using h2)⟩
theorem Rps.take {r:List Addr}{H:Hp}{ds:List D}{vs:List V}(h:Rps r H ds vs)(k:Nat):Rps r H (ds.take k) (vs.take k):=by
 refine⟨by simp[h.1],λi d v h1 h2=>?_⟩
 rw[List.getElem?_take] at h1 h2
 split at h1
 ·rw[if_pos (by assumption)] at h2
  exact h.2 i d v h1 h2
 ·cases h1
theorem Rps.cut {r:List Addr}{H:Hp}{ds:List D}{vs:List V}(h:Rps r H ds vs)(lo hi:Option Int):Rps r H (zb1 ds lo hi) (ze9 vs lo hi):=by
 unfold zb1 ze9
 rw[h.1]
 exact(h.drop _).take _
@[irreducible] def zfq (te:TDE)(tl th:TDO):TDE:=λdl S Q=>te dl S λd S1=>tl dl S1 λl S2=>th dl S2 λu S3=>match d with
 | .ref n=>match lAt S3 n with
  | some o=>Q (.ref S3.length) (S3++[.lst (zb1 (zao o) l u)])
  | none=>False
 | _=>False
theorem ziL {e:Expr}{te:TDE}{lo hi:Option Expr}{tl th:TDO}{p2:Pos}(he:PD X Z e te)(hl:PDO X Z lo tl)(hu:PDO X Z hi th):PD X Z (.Subscript e (.Slice lo hi none p2) pos) (zfq te tl th):=
 zbc (zxz zwF he hl hu) λσ H Qv ⟨r,dl,S,Q,rs,rel,h,ret⟩=>by
  unfold zfq at h
  refine⟨r,dl,S,_,rs,rel,h,λv H1 r1 d S1 e1 rel1 p1 q1=>⟨r1,dl,S1,_,rs.ext e1,rel1,q1,λl H2 r2 S2 e2 rel2 q2=>⟨r2,dl,S2,_,rs.ext (e1.trans e2),rel2,q2,λu H3 r3 S3 e3 rel3 q3=>?_⟩⟩⟩
  cases p1 with
  | @ref n a hn=>
   dsimp only at q3
   split at q3
   ·rename_i o eo
    obtain⟨eo,eL⟩:=zbx eo
    obtain⟨a',ha,ob⟩:=rel3.at eo
    rw[e3.adr _ _ (e2.adr _ _ hn)] at ha; cases ha
    obtain⟨xs,sq,pr⟩:=ob.list eL
    refine⟨a,xs,rfl,sq,λp hp=>?_⟩
    obtain⟨rel4,x⟩:=rel3.push hp (pr.cut l u)
    exact ret _ _ _ (.ref S3.length) _ (e1.trans (e2.trans (e3.trans x))) rel4 (zeg rel3.len) q3
   ·exact q3.elim
  | _=>exact(show False from q3).elim
theorem zia {te:TDE}{tl th:TDO}{dl:Ev}{S S3:Sto}{Q:DK}{n:Nat}{o:Ob}{lo hi:Option Int}(h:∀K:DK,K (.ref n) S3→te dl S K)(hl:∀K:Option Int→Sto→Prop,K lo S3→tl dl S3 K)(hh:∀K:Option Int→Sto→Prop,K hi S3→th dl S3 K)(ho:S3[n]?=some o)
  (hq:Q (.ref S3.length) (S3++[.lst (zb1 (zao o) lo hi)]))(hL:zbX o=some o:=by rfl):zfq te tl th dl S Q:=by
 unfold zfq
 refine h _ (hl _ (hh _ ?_))
 simp only[zaU ho hL]
 exact hq
end
section
variable {X:Cx}{Z:Zx}{pos:Pos}
def zdd (f:D→D→Option Bool):List D→D→Option (Option Nat)
 | [],_=>some none
 | y::ys,x=>match f y x,zdd f ys x with
  | some true,some _=>some (some 0)
  | some false,some o=>some (o.map (·+1))
  | _,_=>none
theorem zn0 {f:D→D→Option Bool}{x:D}:∀ {ys:List D} {o:Option Nat},zdd f ys x=some o→(∀y∈ys,∃c,f y x=some c)∧∀j,o=some j→(∃y,ys[j]?=some y∧f y x=some true)∧∀m y,m<j→ys[m]?=some y→f y x=some false
 | [],o,e=>by
  have h:=Option.some.inj e
  subst h
  exact⟨(λy hy=>by cases hy),λj z=>by cases z⟩
 | y::ys,o,e=>by
  unfold zdd at e
  split at e
  ·rename_i o1 e1 e2
   have h:=Option.some.inj e
   subst h
   obtain⟨h1,_⟩:=zn0 e2
   refine⟨λz hz=>?_,λj hj=>?_⟩
   ·rcases Vau.mp hz with rfl | hz
    ·exact⟨true,e1⟩
    ·exact h1 z hz
   ·cases hj
    exact⟨⟨y,rfl,e1⟩,λm z hm=>by omega⟩
  ·rename_i o1 e1 e2
   have h:=Option.some.inj e
   subst h
   obtain⟨h1,h2⟩:=zn0 e2
   refine⟨λz hz=>?_,λj hj=>?_⟩
   ·rcases Vau.mp hz with rfl | hz
    ·exact⟨false,e1⟩
    ·exact h1 z hz
   ·obtain⟨k,rfl,rfl⟩:=Van.mp hj
    obtain⟨⟨z,hz1,hz2⟩,h3⟩:=h2 k rfl
    refine⟨⟨z,by simpa using hz1,hz2⟩,λm w hm hw=>?_⟩
    cases m with
    | zero=>
     have:w=y:=by simpa using hw.symm
     rw[this]; exact e1
    | succ m=>exact h3 m w (by omega) (by simpa using hw)
  ·cases e
theorem zwP {k:Nat}{pins:List (Addr×Obj)}{σ:St}{H:Hp}{s:Shared}{r:List Addr}{A:Around}{ds:List D}{vs:List V}{us:List Value}{dx:D}{x:V}{u:Value}{j:Nat}(I:Inv X pins σ H s)(hu:A.units+k<cLine)
  (p:Rps r H ds vs)(rv:zaB vs us)(px:Rp r H dx x)(rx:zaA x u)(e:zdd (eqN k) ds dx=some (some j)):
  ∃g:Value→Bool,(∀y,y∈us.toArray→SeqAt.EqAt A s y u (g y))∧∃hj:j<us.toArray.size,g us.toArray[j]=true∧∀m (hm:m<us.toArray.size),m<j→g us.toArray[m]=false:=by
 obtain⟨h1,h2⟩:=zn0 e
 obtain⟨⟨yj,hyj,htj⟩,hno⟩:=h2 j rfl
 classical
 have at_:∀(m:Nat) (hm:m<us.length),∃d v,ds[m]?=some d∧Rp r H d v∧zaA v us[m]:=λm hm=>by
  have hv:m<vs.length:=by rw[rv.length]; exact hm
  have gv:vs[m]?=some vs[m]:=by simp[hv]
  obtain⟨w,gw,rw'⟩:=rv.get gv
  obtain⟨d,gd,pd⟩:=p.get' gv
  have ew:w=us[m]:=by
   rw[Vac hm] at gw
   exact(Option.some.inj gw).symm
  subst ew
  exact⟨d,_,gd,pd,rw'⟩
 have val:∀(m:Nat) (hm:m<us.length) (d:D) (c:Bool),ds[m]?=some d→eqN k d dx=some c→decide (∃d v,d∈ds∧Rp r H d v∧zaA v us[m]∧eqN k d dx=some true)=c:=λm hm d c hd hc=>by
  obtain⟨d',v',gd,pd,rd⟩:=at_ m hm
  rw[hd] at gd; cases gd
  cases c with
  | true=>exact decide_eq_true ⟨d,v',Vai hd,pd,rd,hc⟩
  | false=>
   refine decide_eq_false λ⟨d2,v2,_,pd2,rd2,hc2⟩=>?_
   have ev:=zpO rd rd2
   subst ev
   exact absurd (zoF k d d2 dx v' false true pd pd2 hc hc2) (by decide)
 refine⟨λy=>decide (∃d v,d∈ds∧Rp r H d v∧zaA v y∧eqN k d dx=some true),λy hy=>?_,?_⟩
 ·have hy':y∈us:=by simpa using hy
  obtain⟨m,hm,rfl⟩:=VaS.mp hy'
  obtain⟨d,v,gd,pd,rd⟩:=at_ m hm
  obtain⟨c,hc⟩:=h1 d (Vai gd)
  show SeqAt.EqAt A s us[m] u (decide _)
  rw[val m hm d c gd hc]
  exact zeW k X pins σ H s r A d dx v x _ u c I hu pd px rd rx hc
 ·have hjl:j<us.length:=by
   have:=(Vad.mp hyj).1
   rw[p.1,rv.length] at this
   exact this
  refine⟨by simpa using hjl,?_,λm hm hmj=>?_⟩
  ·have z:=val j hjl yj true hyj htj
   simpa using z
  ·have hm':m<us.length:=by simpa using hm
   obtain⟨d,v,gd,pd,rd⟩:=at_ m hm'
   have z:=val m hm' d false gd (hno m d hmj gd)
   simpa using z
def zi8 (k:Nat)(d y:D)(S:Sto)(Q:DK):Prop:=match d with
 | .ref n=>match lAt S n with
  | some o=>match zdd (eqN k) (zao o) y with
   | some (some j)=>Q (.int (j:Int)) S
   | _=>False
  | none=>False
 | _=>False
@[irreducible] def zi5 (k:Nat)(to:TDE)(t:TDA):TDE:=λdl S Q=>to dl S λd S1=>(match d with
 | .ref n=>(lAt S1 n).isSome=true∧t dl S1 λds S2=>match ds with
  | [y]=>zi8 k d y S2 Q
  | _=>False
 | _=>False)
theorem zwf {k j:Nat}(hr:zaT j X.A)(hk:k≤3):MtR X "list.index" (λx xs H Qv=>∃(r:List Addr) (S:Sto) (d y:D) (v:V) (Q:DK),Rel X.K Z r S H∧Rp r H d x∧xs=[v]∧Rp r H y v∧zi8 k d y S Q∧Ret X.K Z r H Q Qv):=by
 intro pins s σ H x xs v us Qv I rx rv h
 obtain⟨r,S,d,y,v1,Q,rel,pd,rfl,py,q,ret⟩:=h
 obtain⟨u,rfl,ru⟩:=zdg rv
 unfold zi8 at q
 split at q
 ·rename_i n
  split at q
  ·rename_i o eo
   obtain⟨eo,eL⟩:=zbx eo
   split at q
   ·rename_i i ei
    cases pd with
    | @ref n a hn=>
     cases rx
     obtain⟨a',ha,ob⟩:=rel.at eo
     rw[hn] at ha; cases ha
     obtain⟨ys,sq,pr⟩:=ob.list eL
     obtain⟨its,ri,pl,hz⟩:=I.list sq
     have hun:=hr.un
     obtain⟨g,g1,hj,g2,g3⟩:=zwP (A:=X.A.in1) I (by show X.A.units+1+k<_; omega) pr ri py ru ei
     obtain⟨ob2,m,e,c,hd,hdat⟩:=pl
     obtain⟨oc,od,odat,osl⟩:=ob2
     have c':oc=.type "list":=c
     have hdat':odat=.seq its.toArray m:=hdat
     subst c' hdat'
     refine call_meets PySem.F.slot_list_index ⟨_,e,rfl⟩ PySem.F.entry_list_index (PySem.F.args_list_index_2 _ _) (PySem.SeqAt.list_indexAt a its.toArray m od osl u g i hj (by
      have:its.toArray.size≤sizeLine:=by rw[Vat,← ri.length]; exact hz
      have h2:=zjn
      omega) g2 λm hm h2=>g3 m hm h2) ⟨e,g1,?_⟩
     exact⟨.int (i:Int),H,I.tok _,⟨_,rfl⟩,ret _ H r (.int _) S Ext.refl rel (.int _) q⟩
   ·exact q.elim
  ·exact q.elim
 ·exact q.elim
theorem zqA {k j:Nat}{o e:Expr}{to:TDE}{t:TDA}{apos cpos:Pos}(hr:zaT j X.A)(hk:k≤3)(ho:PD X Z o to)(ha:PDA X Z [e] t)(hbase:attributeBase o "index" X.env (eval o X.env)=eval o X.env:=by rfl)
  (hfew:((backTo cpos (starEach [e] X.env)).all (λx=>!x.1)&&(backToKw cpos (keywordEach [] X.env)).all (λx=>x.1.isSome)
  &&decide ([e].length+([]:List Keyword).length+(if ([]:List Keyword).isEmpty then 0 else 1)<30))=true:=by rfl)
  (hline:(apos.endLine==cpos.line)=true:=by rfl)(hs:starEach [e] X.env=(false,eval e X.env)::starEach [] X.env:=by rfl)(hplain:(backTo cpos (starEach [] X.env)).any (·.1)=false:=by rfl):
  PD X Z (.Call (.Attribute o "index" apos) [e] [] cpos) (zi5 k to t):=
 zbc (zpe (T:="list") PySem.F.plainAttrs_list PySem.F.slot_list_index PySem.F.type_list_index (zwf (Z:=Z) hr hk) ho ha hbase hfew hline hs hplain) λσ H Qv ⟨r,dl,S,Q,rs,rel,h,ret⟩=>by
  unfold zi5 at h
  refine⟨r,dl,S,_,rs,rel,h,λv H1 r1 d S1 e1 rel1 p1 q1=>?_⟩
  cases p1 with
  | @ref n a hn=>
   obtain⟨hsome,q1⟩:=q1
   obtain⟨o1,eo⟩:=VaT.mp hsome
   obtain⟨eo,eL⟩:=zbx eo
   obtain⟨a',ha',ob⟩:=rel1.at eo
   rw[hn] at ha'; cases ha'
   obtain⟨xs,sq,_⟩:=ob.list eL
   refine⟨.inl ⟨rfl,xs,sq⟩,r1,dl,S1,_,rs.ext e1,rel1,q1,λvs H2 r2 ds S2 e2 rel2 p2 q2=>?_⟩
   split at q2
   ·rename_i y
    obtain⟨v2,vs',rfl,p3,p4⟩:=p2.uncons
    have z:=p4.unnil
    subst z
    exact⟨r2,S2,.ref n,y,v2,Q,rel2,.ref (e2.adr _ _ hn),rfl,p3,q2,ret.ext (e1.trans e2)⟩
   ·exact q2.elim
  | _=>exact(show False from q1).elim
end
section
variable {X:Cx}{pins:List (Addr×Obj)}{σ:St}{H:Hp}{s:Shared}{h':Heap}
theorem zpW {t':Nat}{ch:List Addr}{T:Addr}{xs:List V}{vals:Array Value}(I:Inv X pins σ H s)(k:∀b o,b ∉ ch→s.heap.get? b=some o→h'.get? b=some o)(hch:∀b∈ch,zbL X pins H b)
  (hT:s.heap.objs.size≤T)(ht:h'.IsTuple T vals)(rv:zaB xs vals.toList)(hl:xs.length≤sizeLine):Inv X pins σ (upd H T (.tup xs)) { s with heap:=h',toks:=t' }:=by
 have hTn:H T=none:=I.hok.fresh hT
 have old:∀ {b:Addr} {o:Obj},s.heap.get? b=some o→b≠T:=λ{b o} e z=>absurd (Vax (Heap.lt_size e) hT) (by rw[z]; exact VaG _)
 have trk:∀b u,H b=some u→b ∉ ch:=λb u e z=>by
  rw[(hch b z).1] at e; cases e
 have up:∀b u,H b=some u→(upd H T (.tup xs)) b=some u:=zda hTn
 refine I.step (g':=s.gens) (d':=s.drawn) (ch:=ch) (λb hb=>?_) (λb o _ _ hc e _=>k b o hc e) (λb o _ _ hc e _=>⟨o.slots,k b o hc e⟩) (λb o _ e n=>by rw[za6 (old e)]; exact n)
  (λb o hc e=>⟨o,k b o hc e⟩) (λb ys e=>up _ _ e) (λb o u e=>up _ _ e) (λb ps e=>⟨#[],by rw[up _ _ e]; simp⟩) (λm hm=>?_) (λb u e=>?_) I.bare
 ·obtain⟨_,f1,_,f3,f4,f5⟩:=hch b hb
  exact⟨f3,f1,f4,f5⟩
 ·obtain⟨o,es,ep,ho,r⟩:=hm
  exact⟨o,es,ep,k _ o (λz=>(hch _ z).2.1 rfl) ho,r⟩
 ·by_cases hb:b=T
  ·subst hb
   rw[zcA] at e
   cases e
   exact⟨hl,vals.toList,rv,by rw[Array.toArray_toList]; exact ht⟩
  ·rw[za6 hb] at e
   refine(I.hok b u e).stay (λc v hc q=>k c v ?_ q) (λd z=>up _ _ z) λd ys z=>up _ _ z
   rcases hc with z | z
   ·rw[z]; exact trk b u e
   ·exact trk c _ z
theorem zke {t':Nat}{ch:List Addr}(I:Inv X pins σ H s)(k:∀b o,b ∉ ch→s.heap.get? b=some o→h'.get? b=some o)(hch:∀b∈ch,zbL X pins H b):Inv X pins σ H { s with heap:=h',toks:=t' }:=by
 have trk:∀b u,H b=some u→b ∉ ch:=λb u e z=>by
  rw[(hch b z).1] at e; cases e
 refine I.step (g':=s.gens) (d':=s.drawn) (ch:=ch) (λb hb=>?_) (λb o _ _ hc e _=>k b o hc e) (λb o _ _ hc e _=>⟨o.slots,k b o hc e⟩) (λb o _ e n=>n)
  (λb o hc e=>⟨o,k b o hc e⟩) (λb ys e=>e) (λb o u e=>e) (λb ps e=>⟨#[],by rw[e]; simp⟩) (λm hm=>?_) (λb u e=>?_) I.bare
 ·obtain⟨_,f1,_,f3,f4,f5⟩:=hch b hb
  exact⟨f3,f1,f4,f5⟩
 ·obtain⟨o,es,ep,ho,r⟩:=hm
  exact⟨o,es,ep,k _ o (λz=>(hch _ z).2.1 rfl) ho,r⟩
 ·refine(I.hok b u e).stay (λc v hc q=>k c v ?_ q) (λd z=>z) λd ys z=>z
  rcases hc with z | z
  ·rw[z]; exact trk b u e
  ·exact trk c _ z
end
def Ite (K:PySem.W.Frag)(a:Addr):It:=
 ⟨λi H=>∃xs x,SqL K H a xs∧xs[i]?=some x,λi H x H'=>∃T v,x=.ref T∧H T=none∧H'=upd H T (.tup [.int (i:Int),v])∧∀xs,SqL K H a xs→xs[i]?=some v,λi H=>∃xs,SqL K H a xs∧xs.length=i⟩
theorem zyA {P:Program}{w:World}{K:PySem.W.Frag}{elts:List Expr}{kk:Nat}{tp:Pos}(a e it:Addr)(hei:e≠it)(hae:a≠e)(hai:a≠it):
  zf7 P w K (.Tuple elts kk tp) (Ite K a) [e,it] e (λi h=>(∃old,IsEnum h e it i old)∧h.IsListIter it a i) where
 mem:=by simp
 obj:=λi h st b hb=>by
  obtain⟨⟨old,he⟩,o,e1,c,d⟩:=st
  have hb':b=e∨b=it:=by simpa using hb
  rcases hb' with rfl | rfl
  ·exact⟨_,he,λv z=>by cases z⟩
  ·exact⟨o,e1,λv z=>by rw[d] at z; cases z⟩
 keep:=λi h h' st k=>by
  obtain⟨⟨old,he⟩,hit⟩:=st
  exact⟨⟨old,k e (by simp) _ he⟩,hit.at λo x=>k it (by simp) o x⟩
 item:=by
  intro X hP hw hK hc i pins s σ H E I hf st hg
  subst hP hw hK
  obtain⟨xs,x,hq,hx⟩:=hg
  obtain⟨its,rv,p,hz⟩:=I.list hq
  obtain⟨u,hu,ru⟩:=rv.get hx
  have hi:i<its.toArray.size:=by
   have:=(Vad.mp hu).1
   simpa using this
  have W:=WalksT.enumerate (prog:=X.prog) (w:=X.w) (A:=X.A) (I.ok.hd hc) e it a hei hae hai its.toArray
  refine W.item i s _ _ hi ⟨st.1,st.2,p.isList⟩ λT vals h' tk hP hT ht mid k1=>?_
  obtain⟨t,y,hy,rfl⟩:=hP
  have ey:y=u:=by
   have z:its[i]?=some y:=by simpa using hy
   rw[hu] at z; exact(Option.some.inj z).symm
  subst ey
  have hw:∀b∈[e,it],zbL X pins H b:=hf
  have I1:Inv X pins σ (upd H T (.tup [.int (i:Int),x])) { s with heap:=h',toks:=tk }:=zpW I k1 hw hT ht (.cons ⟨t,rfl⟩ (.cons ru .nil)) (show 2≤sizeLine from zej (by decide))
  have neT:∀b∈[e,it],b≠T:=λb hb z=>W.apart i T h' mid (z ▸ hb)
  have hf1:∀b∈[e,it],zbL X pins (upd H T (.tup [.int (i:Int),x])) b:=λb hb=>⟨by rw[za6 (neT b hb)]; exact(hf b hb).1,(hf b hb).2⟩
  refine⟨.ref T,rfl,W.go elts kk tp i T _ _ _ mid λh2 st2 k2=>?_⟩
  have I2:Inv X pins σ (upd H T (.tup [.int (i:Int),x])) { s with heap:=h2,toks:=tk }:=zke (s:={ s with heap:=h',toks:=tk }) (t':=tk) I1 k2 hf1
  exact⟨.ref T,_,I2,rfl,⟨T,x,rfl,I.hok.fresh hT,rfl,λys hy=>by rw[I.list_inj hy hq]; exact hx⟩,⟨st2.1,st2.2.1⟩,λb hb=>(hf1 b hb).1⟩
 done:=by
  intro X hP hw hK hc i pins s σ H E I hf st hg
  subst hP hw hK
  obtain⟨xs,hq,hx⟩:=hg
  obtain⟨its,rv,p,hz⟩:=I.list hq
  have W:=WalksT.enumerate (prog:=X.prog) (w:=X.w) (A:=X.A) (I.ok.hd hc) e it a hei hae hai its.toArray
  have hi:i=its.toArray.size:=by rw[Vat,← rv.length]; exact hx.symm
  subst hi
  exact W.done s _ _ ⟨st.1,st.2,p.isList⟩ λh' tk k1=>⟨rfl,zke (t':=tk) I k1 hf⟩
 self:=λA i s Q E st h=>by
  obtain⟨⟨old,he⟩,_⟩:=st
  exact wpAny_pyIter_enum he h
section
variable {X:Cx}
def zq8 (K:PySem.W.Frag)(ta:TA):TI:=λσ H R=>ta σ H λvs H1=>∃a,vs=[.ref a]∧(∃xs,SqL K H1 a xs)∧R (Ite K a) H1
theorem zxg {a:Expr}{ta:TA}{p pos tp:Pos}{elts:List Expr}{kk:Nat}(hg:Gl X "enumerate")(hm:X.mg "enumerate"=none)(hv:bootBuiltins "enumerate"=some (.type "enumerate"))(ha:PA X [a] ta)(hs:starEach [a] X.env=[(false,eval a X.env)]:=by rfl):
  PI X (.Tuple elts kk tp) (.Call (.Name "enumerate" p) [a] [] pos) (zq8 X.K ta):=by
 intro pins s σ H R I h
 refine Call_ (zec I hg hm hv (PyProof.Rows.callWith_type1 (thn (ha pos pins s σ H _ I h) λus s1 ⟨vs,H1,I1,r1,q1⟩=>?_) hs rfl))
 obtain⟨l,e,⟨xs,hq⟩,q⟩:=q1
 subst e
 cases r1 with
 | cons r rr=>
  cases rr
  cases r
  obtain⟨its,rv,pl,hz⟩:=I1.list hq
  have hll:l<s1.heap.objs.size:=by
   obtain⟨o,e,_⟩:=pl.isList
   exact Heap.lt_size e
  refine call_enumerate_list pl.isList λh' he hit hsz hk=>?_
  have I2:Inv X pins σ H1 { s1 with heap:=h' }:=I1.kept (t':=s1.toks) hk
  refine wpAny_pyIter_enum he ⟨s1.heap.objs.size+1,[s1.heap.objs.size+1,s1.heap.objs.size],_,_,H1,rfl,I2,zyA l _ _ (Nat.succ_ne_self _) (Vaq (Nat.lt_succ_of_lt hll)) (Vaq hll),⟨⟨_,he⟩,hit⟩,λb hb=>?_,q⟩
  have hb':b=s1.heap.objs.size+1∨b=s1.heap.objs.size:=by simpa using hb
  rcases hb' with rfl | rfl
  ·exact I1.fpOk (Nat.le_succ _) (I1.hok.fresh (Nat.le_succ _))
  ·exact I1.fpOk (Vaa _) (I1.hok.fresh (Vaa _))
end
def Itz (K:PySem.W.Frag)(a b:Addr):It:=
  ⟨λi H=>∃xs ys x y,SqL K H a xs∧SqL K H b ys∧xs[i]?=some x∧ys[i]?=some y,
   λi H x H'=>∃T v u,x=.ref T∧H T=none∧H'=upd H T (.tup [v,u])∧(∀xs,SqL K H a xs→xs[i]?=some v)∧∀ys,SqL K H b ys→ys[i]?=some u,
   λi H=>∃xs ys,SqL K H a xs∧SqL K H b ys∧min xs.length ys.length=i⟩
theorem zwh {P:Program}{w:World}{K:PySem.W.Frag}{elts:List Expr}{kk:Nat}{tp:Pos}(a b z TI TO i1 i2:Addr)(D:ZipApart z TI TO i1 i2 a b):
  zf7 P w K (.Tuple elts kk tp) (Itz K a b) [z,TI,TO,i1,i2] z (λi h=>IsZip h z TI TO .none∧IsPair h TI (.ref i1) (.ref i2)∧(∃p q,IsPair h TO p q)∧h.IsListIter i1 a i∧h.IsListIter i2 b i) where
 mem:=by simp
 obj:=λi h st c hc=>by
  obtain⟨hz,hTI,⟨p,q,hTO⟩,⟨o1,e1,c1,d1⟩,o2,e2,c2,d2⟩:=st
  have hc':c=z∨c=TI∨c=TO∨c=i1∨c=i2:=by simpa using hc
  rcases hc' with rfl | rfl | rfl | rfl | rfl
  ·exact⟨_,hz,λv y=>by cases y⟩
  ·exact⟨_,hTI,λv y=>by cases y⟩
  ·exact⟨_,hTO,λv y=>by cases y⟩
  ·exact⟨o1,e1,λv y=>by rw[d1] at y; cases y⟩
  ·exact⟨o2,e2,λv y=>by rw[d2] at y; cases y⟩
 keep:=λi h h' st k=>by
  obtain⟨hz,hTI,⟨p,q,hTO⟩,h1,h2⟩:=st
  exact⟨k z (by simp) _ hz,k TI (by simp) _ hTI,⟨p,q,k TO (by simp) _ hTO⟩,h1.at λo x=>k i1 (by simp) o x,h2.at λo x=>k i2 (by simp) o x⟩
 item:=by
  intro X hP hw hK hc i pins s σ H E I hf st hg
  subst hP hw hK
  obtain⟨xs,ys,x,y,hq,hq2,hx,hy⟩:=hg
  obtain⟨its,rv,p,_⟩:=I.list hq
  obtain⟨jts,rv2,p2,_⟩:=I.list hq2
  obtain⟨u,hu,ru⟩:=rv.get hx
  obtain⟨u2,hu2,ru2⟩:=rv2.get hy
  have hi:i<min its.toArray.size jts.toArray.size:=by
   have z1:=(Vad.mp hu).1
   have z2:=(Vad.mp hu2).1
   have sizes:its.toArray.size=its.length∧jts.toArray.size=jts.length:=⟨by simp,by simp⟩
   omega
  have W:=WalksT.zip2 (prog:=X.prog) (w:=X.w) (A:=X.A) (I.ok.hd hc) z TI TO i1 i2 a b D its.toArray jts.toArray
  obtain⟨s1,s2,s3,s4,s5⟩:=st
  refine W.item i s _ _ hi ⟨s1,s2,s3,s4,s5,p.isList,p2.isList⟩ λT vals h' tk hP hT ht mid k1=>?_
  obtain⟨v1,v2,hv1,hv2,rfl⟩:=hP
  have e1:v1=u:=by
   have z:its[i]?=some v1:=by simpa using hv1
   rw[hu] at z; exact(Option.some.inj z).symm
  have e2:v2=u2:=by
   have z:jts[i]?=some v2:=by simpa using hv2
   rw[hu2] at z; exact(Option.some.inj z).symm
  subst e1 e2
  have sub:∀c∈[z,TO,i1,i2],c∈[z,TI,TO,i1,i2]:=λc hc=>by
   have hc':c=z∨c=TO∨c=i1∨c=i2:=by simpa using hc
   rcases hc' with rfl | rfl | rfl | rfl <;> simp
  have I1:Inv X pins σ (upd H T (.tup [x,y])) { s with heap:=h',toks:=tk }:=zpW I k1 (λc hc=>hf c (sub c hc)) hT ht (.cons ru (.cons ru2 .nil)) (show 2≤sizeLine from zej (by decide))
  have tiT:TI≠T:=λq=>by
   have hl:TI<s.heap.objs.size:=Heap.lt_size s2
   rw[q] at hl
   exact absurd (Vax hl hT) (VaG _)
  have neT:∀c∈[z,TI,TO,i1,i2],c≠T:=λc hc q=>by
   have hc':c=TI∨c∈[z,TO,i1,i2]:=by
    have hc2:c=z∨c=TI∨c=TO∨c=i1∨c=i2:=by simpa using hc
    rcases hc2 with rfl | rfl | rfl | rfl | rfl <;> simp
   rcases hc' with rfl | hc'
   ·exact tiT q
   ·exact W.apart i T h' mid (q ▸ hc')
  have hf1:∀c∈[z,TI,TO,i1,i2],zbL X pins (upd H T (.tup [x,y])) c:=λc hc=>⟨by rw[za6 (neT c hc)]; exact(hf c hc).1,(hf c hc).2⟩
  refine⟨.ref T,rfl,W.go elts kk tp i T _ _ _ mid λh2 st2 k2=>?_⟩
  have I2:Inv X pins σ (upd H T (.tup [x,y])) { s with heap:=h2,toks:=tk }:=zke (s:={ s with heap:=h',toks:=tk }) (t':=tk) I1 k2 λc hc=>hf1 c (sub c hc)
  obtain⟨t1,t2,t3,t4,t5,_,_⟩:=st2
  exact⟨.ref T,_,I2,rfl,⟨T,x,y,rfl,I.hok.fresh hT,rfl,λzs hz=>by rw[I.list_inj hz hq]; exact hx,λzs hz=>by rw[I.list_inj hz hq2]; exact hy⟩,⟨t1,t2,t3,t4,t5⟩,λc hc=>(hf1 c hc).1⟩
 done:=by
  intro X hP hw hK hc i pins s σ H E I hf st hg
  subst hP hw hK
  obtain⟨xs,ys,hq,hq2,hx⟩:=hg
  obtain⟨its,rv,p,_⟩:=I.list hq
  obtain⟨jts,rv2,p2,_⟩:=I.list hq2
  have W:=WalksT.zip2 (prog:=X.prog) (w:=X.w) (A:=X.A) (I.ok.hd hc) z TI TO i1 i2 a b D its.toArray jts.toArray
  have hi:i=min its.toArray.size jts.toArray.size:=by rw[Vat,Vat,← rv.length,← rv2.length]; exact hx.symm
  subst hi
  have sub:∀c∈[z,TO,i1,i2],c∈[z,TI,TO,i1,i2]:=λc hc=>by
   have hc':c=z∨c=TO∨c=i1∨c=i2:=by simpa using hc
   rcases hc' with rfl | rfl | rfl | rfl <;> simp
  obtain⟨s1,s2,s3,s4,s5⟩:=st
  exact W.done s _ _ ⟨s1,s2,s3,s4,s5,p.isList,p2.isList⟩ λh' tk k1=>⟨rfl,zke (t':=tk) I k1 λc hc=>hf c (sub c hc)⟩
 self:=λA i s Q E st h=>wpAny_pyIter_zip st.1 h
section
variable {X:Cx}
theorem zyG {n l m:Nat}(h1:l<n)(h2:m<n):ZipApart (n+4) (n+2) (n+3) n (n+1) l m:=by
 have ne:∀ {i j:Nat},i<j∨j<i→i≠j:=λ{i j} h z=>by omega
 exact⟨ne (by omega),ne (by omega),ne (by omega),ne (by omega),ne (by omega),ne (by omega),ne (by omega),ne (by omega),ne (by omega),ne (by omega),ne (by omega),ne (by omega),ne (by omega),ne (by omega),ne (by omega),ne (by omega),ne (by omega),ne (by omega)⟩
def iZip (K:PySem.W.Frag)(ta:TA):TI:=λσ H R=>ta σ H λvs H1=>∃a b,vs=[.ref a,.ref b]∧(∃xs,SqL K H1 a xs)∧(∃ys,SqL K H1 b ys)∧R (Itz K a b) H1
theorem zoR {a b:Expr}{ta:TA}{p pos tp:Pos}{elts:List Expr}{kk:Nat}(hg:Gl X "zip")(hm:X.mg "zip"=none)(hv:bootBuiltins "zip"=some (.type "zip"))(ha:PA X [a,b] ta)
  (hs:starEach [a,b] X.env=[(false,eval a X.env),(false,eval b X.env)]:=by rfl)(hs2:starEach [b] X.env=[(false,eval b X.env)]:=by rfl):PI X (.Tuple elts kk tp) (.Call (.Name "zip" p) [a,b] [] pos) (iZip X.K ta):=by
 intro pins s σ H R I h
 refine Call_ (zec I hg hm hv (PyProof.Rows.callWith_type1 (thn (ha pos pins s σ H _ I h) λus s1 ⟨vs,H1,I1,r1,q1⟩=>?_) (by rw[hs,hs2]) (by rw[hs2]; rfl)))
 obtain⟨l,m,e,⟨xs,hq⟩,⟨ys,hq2⟩,q⟩:=q1
 subst e
 cases r1 with
 | cons r rr=>
  cases rr with
  | cons r2 rr=>
   cases rr
   cases r
   cases r2
   obtain⟨its,rv,pl,_⟩:=I1.list hq
   obtain⟨jts,rv2,pl2,_⟩:=I1.list hq2
   have h1:l<s1.heap.objs.size:=by
    obtain⟨o,e,_⟩:=pl.isList
    exact Heap.lt_size e
   have h2:m<s1.heap.objs.size:=by
    obtain⟨o,e,_⟩:=pl2.isList
    exact Heap.lt_size e
   refine call_zip_2 pl.isList pl2.isList λh' hz hTI hTO hi1 hi2 hsz hk=>?_
   have I2:Inv X pins σ H1 { s1 with heap:=h' }:=I1.kept (t':=s1.toks) hk
   have D:=zyG h1 h2
   refine wpAny_pyIter_zip hz ⟨s1.heap.objs.size+4,[s1.heap.objs.size+4,s1.heap.objs.size+2,s1.heap.objs.size+3,s1.heap.objs.size,s1.heap.objs.size+1],_,_,H1,rfl,I2,zwh l m _ _ _ _ _ D,⟨hz,hTI,⟨_,_,hTO⟩,hi1,hi2⟩,λc hc=>?_,q⟩
   have hge:s1.heap.objs.size≤c:=by
    have hc':c=s1.heap.objs.size+4∨c=s1.heap.objs.size+2∨c=s1.heap.objs.size+3∨c=s1.heap.objs.size∨c=s1.heap.objs.size+1:=by simpa using hc
    rcases hc' with rfl | rfl | rfl | rfl | rfl
    ·exact Nat.le_add_right _ _
    ·exact Nat.le_add_right _ _
    ·exact Nat.le_add_right _ _
    ·exact Vaa _
    ·exact Nat.le_add_right _ _
   exact I1.fpOk hge (I1.hok.fresh hge)
end
section
variable {X:Cx}{Z:Zx}{pos:Pos}
theorem zc0 {r r':List Addr}{S':Sto}{H':Hp}{n:Nat}{a:Addr}{o:Ob}(hn:r'[n]?=some a)(rel:za0 X.K r' S' H')(eo:lAt S' n=some o):∃xs,SqL X.K H' a xs∧Rps r' H' (zao o) xs:=by
 obtain⟨eo,eL⟩:=zbx eo
 obtain⟨a',ha,ob⟩:=rel.at eo
 rw[hn] at ha; cases ha
 exact ob.list eL
@[irreducible] def zjM (is:List Nat)(ta:TDA)(tb:TDS):TDS:=λE dl S=>ta dl S λds S1=>match ds with
 | [.ref n,.ref n']=>((lAt S1 n).isSome=true∧(lAt S1 n').isSome=true)∧∃W:Nat→Nat→Ev→Sto→Prop,(∃m,W 0 m dl S1)∧∀k m dl S,W k m dl S→match lAt S n,lAt S n' with
  | some o,some o'=>match (zao o)[k]?,(zao o')[k]? with
   | some x,some y=>tb { nx:=λdl' S'=>∃m',m'<m∧W (k+1) m' dl' S',rt:=E.rt,bk:=E.nx,ct:=λdl' S'=>∃m',m'<m∧W (k+1) m' dl' S' } (zfF is [x,y] dl) S
   | _,_=>k=min (zao o).length (zao o').length∧E.nx dl S
  | _,_=>False
 | _=>False
theorem zt7 {i1 i2:Expr}{body:List Stmt}{es:List Expr}{kk:Nat}{tp p pos2:Pos}{is:List Nat}{ta:TDA}{tb:TDS}(hp:PassesOwn (model X.prog X.w) X.A X.env X.xe)(hc:X.calm=true)(hN:X.N.Nodup)(hn:Nms X es is)(h2:is.length=2)
  (hg:Gl X "zip")(hm:X.mg "zip"=none)(hv:bootBuiltins "zip"=some (.type "zip"))(ha:PDA X Z [i1,i2] ta)(hb:zcI X Z body tb)
  (hlen:(assignEach es X.env).length=is.length:=by rfl)(hst:(assignEach es X.env).findIdx? (·.1)=none:=by rfl)(hse:starEach [i1,i2] X.env=[(false,eval i1 X.env),(false,eval i2 X.env)]:=by rfl)(hse2:starEach [i2] X.env=[(false,eval i2 X.env)]:=by rfl)
  (hs:∀y,foldedSetIterable (.Call (.Name "zip" p) [i1,i2] [] pos2) X.env y=pure y:=by intro _; rfl):PDS X Z (.For (.Tuple es kk tp) (.Call (.Name "zip" p) [i1,i2] [] pos2) body [] pos) (zjM is ta tb):=
 zb0 (znj hp hc (zoR hg hm hv ha hse hse2) (zhQ hc (zfs hN hn) hlen hst) hb hs) λF σ H ⟨r,dl,S,E,rs,rel,h,ret⟩=>by
  unfold zjM at h
  refine⟨r,dl,S,_,rs,rel,h,λvs H1 r1 ds S1 x1 rel1 p1 q1=>?_⟩
  split at q1
  ·rename_i n n'
   obtain⟨v,vs',rfl,p2,p3⟩:=p1.uncons
   obtain⟨v',vs2,rfl,p4,p5⟩:=p3.uncons
   have z:=p5.unnil
   subst z
   cases p2 with
   | @ref n a hr=>
    cases p4 with
    | @ref n' a' hr'=>
     obtain⟨⟨hsome,hsome'⟩,W,⟨m0,w0⟩,turn⟩:=q1
     obtain⟨o1,eo1⟩:=VaT.mp hsome
     obtain⟨o2,eo2⟩:=VaT.mp hsome'
     obtain⟨xs1,sq1,_⟩:=zc0 (r:=r1) hr rel1.b eo1
     obtain⟨ys1,sq2,_⟩:=zc0 (r:=r1) hr' rel1.b eo2
     refine⟨a,a',rfl,⟨xs1,sq1⟩,⟨ys1,sq2⟩,λk m σ' H'=>∃r' dl' S',Ext r1 r' H1 H'∧Rs r' H' dl' σ'∧Rel X.K Z r' S' H'∧W k m dl' S',⟨m0,r1,dl,S1,Ext.refl,rs.ext x1,rel1,w0⟩,?_⟩
     rintro k m σ2 H2 ⟨r2,dl2,S2,x2,rs2,rel2,w2⟩
     have q:=turn k m dl2 S2 w2
     split at q
     ·rename_i o o' eo eo'
      obtain⟨xs,sq,pr⟩:=zc0 (r:=r2) (x2.adr _ _ hr) rel2.b eo
      obtain⟨ys,sq',pr'⟩:=zc0 (r:=r2) (x2.adr _ _ hr') rel2.b eo'
      split at q
      ·rename_i y y2 ey ey2
       obtain⟨v,hvv,pv⟩:=pr.get ey
       obtain⟨u,hvu,pu⟩:=pr'.get ey2
       refine .inr ⟨⟨xs,ys,v,u,sq,sq',hvv,hvu⟩,λσ' H'=>∃m',m'<m∧∃r' dl' S',Ext r1 r' H1 H'∧Rs r' H' dl' σ'∧Rel X.K Z r' S' H'∧W (k+1) m' dl' S',λ_ _ z=>z,λv' H' y'=>?_⟩
       obtain⟨T,w,w2',rfl,hT,rfl,hw,hw2⟩:=y'
       have ew:w=v:=by
        have z:=hw xs sq
        rw[hvv] at z; exact(Option.some.inj z).symm
       have ew2:w2'=u:=by
        have z:=hw2 ys sq'
        rw[hvu] at z; exact(Option.some.inj z).symm
       subst ew ew2
       have x3:Ext r2 r2 H2 (upd H2 T (.tup [w,w2'])):=znX hT
       have pp:Rps r2 (upd H2 T (.tup [w,w2'])) [y,y2] [w,w2']:=Rps.cons (pv.ext x3) (Rps.cons (pu.ext x3) Rps.nil)
       have rel3:=rel2.same (zda (o:=.tup [w,w2']) hT)
       have go:∀σ' H' r' dl' S',Ext r2 r' (upd H2 T (.tup [w,w2'])) H'→Rs r' H' dl' σ'→Rel X.K Z r' S' H'→(∃m',m'<m∧W (k+1) m' dl' S')→∃m',m'<m∧∃r' dl' S',Ext r1 r' H1 H'∧Rs r' H' dl' σ'∧Rel X.K Z r' S' H'∧W (k+1) m' dl' S':=
        λσ' H' r' dl' S' x rs' rel' ⟨m',hm,w'⟩=>⟨m',hm,r',dl',S',x2.trans (x3.trans x),rs',rel',w'⟩
       exact⟨T,[w,w2'],rfl,SqT.of zcA,by rw[h2]; rfl,by rw[h2]; rfl,r2,_,S2,_,zo0 (rs2.ext x3) pp,rel3,q,⟨go,λσ' H' r' dl' S' x rs' rel' z=>ret.nx σ' H' r' dl' S' (x1.trans (x2.trans (x3.trans x))) rs' rel' z,go,ret.rt.ext (x1.trans (x2.trans x3))⟩⟩
      ·obtain⟨hk,q⟩:=q
       exact .inl ⟨⟨xs,ys,sq,sq',by rw[← pr.1,← pr'.1]; exact hk.symm⟩,ret.nx σ2 H2 r2 dl2 S2 (x1.trans x2) rs2 rel2 q⟩
     ·exact q.elim
  ·exact q1.elim
end
section
variable {X:Cx}{Z:Zx}{pos:Pos}
@[irreducible] def zln (T:String)(te:TDE):TDE:=λdl S Q=>te dl S λd S1=>match d with
 | .ref n=>match S1[n]? with
  | some (.lst _)=>Q (.bl (zdu "list" T)) S1
  | _=>False
 | _=>False
theorem zr4 {T:String}{e:Expr}{te:TDE}{y:Str}{p p2:Pos}(KT:PySem.W.kitOne X.K (.type "list") (.type T)=some (zdu "list" T))(hg:Gl X "isinstance")(hm:X.mg "isinstance"=none)(hg2:Gl X y)(hm2:X.mg y=none)(hv2:bootBuiltins y=some (.type T))(ha:PD X Z e te)
  (hv:bootBuiltins "isinstance"=some (.builtin "isinstance"):=by exact PyProof.Rows.Boot.«isinstance»)
  (hn2:y≠"__name__":=by decide)(hd2:(y==("__debug__":Str))=false:=by decide)(he2:starEach [e,.Name y p2] X.env=(false,eval e X.env)::starEach [.Name y p2] X.env:=by rfl)
  (he3:starEach [.Name y p2] X.env=(false,eval (.Name y p2) X.env)::starEach [] X.env:=by rfl)(hpl:(backTo pos (starEach [.Name y p2] X.env)).any (·.1)=false:=by rfl):
  PD X Z (.Call (.Name "isinstance" p) [e,.Name y p2] [] pos) (zln T te):=
 zbc (zoj zqa hg hm hv (zfe ha (zfe (zqF (v:=.ty T) hg2 hm2 hv2 rfl hn2 hd2) zl5 he3) he2) (by decide) (by decide) he2 hpl) λσ H Qv ⟨r,dl,S,Q,rs,rel,h,ret⟩=>
  by unfold zln at h; exact⟨r,dl,S,_,rs,rel,h,λv H1 r1 d S1 e1 rel1 p1 h1=>by
   cases p1 with
   | @ref n a hr=>
    dsimp only at h1
    split at h1
    ·rename_i xs eS
     obtain⟨ys,eH,_⟩:=rel1.b.ob n a _ hr eS
     exact⟨_,T,_,_,rfl,.lst eH,KT,ret _ _ _ _ _ e1 rel1 (.bl _) h1⟩
    ·exact h1.elim
   | _=>exact(show False from h1).elim⟩
end
theorem zx9 (K:PySem.W.Frag):PySem.W.kitOne K (.type "list") (.type "list")=some (zdu "list" "list"):=by kernel_rfl
structure Dm (K:PySem.W.Frag)(C:Addr)(m qual:Str)(st:Stmt)(ps:List Str) where
 f:Addr
 fd:FuncData
 F:Fun K m qual st f fd
 m:zfM K C m f
 b:zbQ K fd ps []
structure Fm (P:Program)(w:World)(K:PySem.W.Frag)(mg:Str→Option Value)(base:Heap)(k:Nat)(C:Addr)(x:Str)(ps:List Str)(sd:Sd) where
 f:Addr
 fd:FuncData
 ok:zbq P w K mg base (CXE P w) k f fd ps (upF K sd)
 m:zfM K C x f
 b:zbQ K fd ps []
def Dm.mk' {P:Program}{w:World}{K:PySem.W.Frag}{mg:Str→Option Value}{base:Heap}{k:Nat}{C:Addr}{x qual:Str}{st:Stmt}{ps:List Str}{sd:Sd}(d:Dm K C x qual st ps)(h:zbq P w K mg base (CXE P w) k d.f d.fd ps (upF K sd)):Fm P w K mg base k C x ps sd:=
 ⟨d.f,d.fd,h,d.m,d.b⟩
theorem zeQ {P:Program}{w:World}{X:Cx}:zjc (CXE P w) X (λ_ _ _=>False):=λ_ _ _ _ _ _ _ h=>by
 obtain⟨_,_,_,_,_,_,_,_,_,_,_,_,q⟩:=h
 exact q.elim
section
variable {X:Cx}{Z:Zx}
theorem zxA {k:Nat}(hr:zaT k X.A):OpR X (compareOp .In) (upO X.K Z (zbN (wIn 1 false))):=by rw[zb8]; exact do_in 1 (by have:=hr.un; omega)
theorem zr6 {k:Nat}(hr:zaT k X.A):OpR X (compareOp .NotIn) (upO X.K Z (zbN (wIn 1 true))):=by rw[zb8]; exact zzi 1 (by have:=hr.un; omega)
theorem ztH {k:Nat}(hr:zaT k X.A):OpR X (compareOp .Eq) (upO X.K Z (zbN (zef 1))):=by rw[zb8]; exact zuf 1 hr (by have:=hr.un; omega)
end
section
variable {X:Cx}{Z:Zx}{pos:Pos}
def ziT:W2:=λx y S Q=>match x,y with
 | .ref n,.ref m=>match S[n]?,S[m]? with
  | some (.lst xs),some (.lst ys)=>xs.length+ys.length≤1000∧Q (.ref S.length) (S++[.lst (xs++ys)])
  | _,_=>False
 | _,_=>False
theorem Rps.app {r:List Addr}{H:Hp}:∀ {ds es:List D} {xs ys:List V},Rps r H ds xs→Rps r H es ys→Rps r H (ds++es) (xs++ys)
 | [],es,xs,ys,p,q=>by
  have z:=p.unnil
  subst z
  exact q
 | d::ds,es,xs,ys,p,q=>by
  obtain⟨v,vs,rfl,p1,p2⟩:=p.uncons
  exact Rps.cons p1 (p2.app q)
theorem zpV:OpR X (binaryOp .Add) (upO X.K Z (zbN ziT)):=by
 rw[zb8]
 exact zeS ztr λx y H Qv ⟨r,S,dx,dy,Q,rel,px,py,q,ret⟩=>by
  unfold ziT at q
  split at q
  ·rename_i n m
   split at q
   ·rename_i xs ys e1 e2
    obtain⟨hl,q⟩:=q
    cases px with
    | @ref _ a hn=>
     cases py with
     | @ref _ a' hm=>
      obtain⟨z,hz,ob⟩:=rel.at e1
      rw[hn] at hz; cases hz
      obtain⟨z,hz,ob'⟩:=rel.at e2
      rw[hm] at hz; cases hz
      obtain⟨us,h1,p1⟩:=ob
      obtain⟨vs,h2,p2⟩:=ob'
      refine⟨a,a',us,vs,rfl,rfl,h1,h2,?_,λp hp=>?_⟩
      ·rw[← p1.1,← p2.1]; exact zej hl
      ·obtain⟨rel4,x⟩:=rel.push hp (p1.app p2)
       exact ret _ _ _ (.ref S.length) _ x rel4 (zeg rel.len) q
   ·exact q.elim
  ·exact q.elim
theorem zpr {n m:Nat}{S:Sto}{Q:DK}{xs ys:List D}(h1:S[n]?=some (.lst xs))(h2:S[m]?=some (.lst ys))(hl:xs.length+ys.length≤1000)(hq:Q (.ref S.length) (S++[.lst (xs++ys)])):zbN ziT (.ref n) (.ref m) S Q:=by
 rw[zb8]
 unfold ziT
 simp only[h1,h2]
 exact⟨hl,hq⟩
def MT (X:Cx)(m:Str)(tbl:List (Addr×Sd)):Prop:=∀C sd,(C,sd)∈tbl→Cls X.K C∧∃(f:Addr) (fd:FuncData) (k:Nat) (ps:List Str),zfM X.K C m f∧zbq X.prog X.w X.K X.mg X.base (CXE X.prog X.w) k f fd ps (upF X.K sd)∧zaT k X.A∧zbQ X.K fd ps []
theorem zqE {m:Str}:MT X m []:=λ_ _ h=>by cases h
theorem zcE {C:Addr}{m:Str}{k:Nat}{ps:List Str}{sd:Sd}{tbl:List (Addr×Sd)}(c:Cls X.K C)(G:Fm X.prog X.w X.K X.mg X.base k C m ps sd)(hr:zaT k X.A)(h:MT X m tbl):MT X m ((C,sd)::tbl):=λC' sd' hm=>by
 rcases Vau.mp hm with e | e
 ·cases e
  exact⟨c,G.f,G.fd,k,ps,G.m,G.ok,hr,G.b⟩
 ·exact h C' sd' e
theorem zxo {m:Str}{W:St→XK}{o e:Expr}{es:List Expr}{ta:TE}{t:TA}{apos:Pos}{pl:Sem Bool}{tbl:List (Addr×Sd)}(he:PE X o ta)(M:MT X m tbl)(hx:zdo X W)(ha:PA X (e::es) t)(hst:starEach (e::es) X.env=(false,eval e X.env)::starEach es X.env)(hpl:(backTo pos (starEach es X.env)).any (·.1)=false)
  (ht:eval (.Call (.Attribute o m apos) (e::es) [] pos) X.env=(do
   let ov ← eval o X.env
   standAt apos.atName
   let (f,first) ← holding [ov] (getMethod ov m pl)
   callWith pos f first (backTo pos (starEach (e::es) X.env)) (backToKw pos (keywordEach [] X.env)))):
  PE X (.Call (.Attribute o m apos) (e::es) [] pos) (λσ H Q=>ta σ H λx H1=>∃a C dx fs sd,x=.ref a∧H1 a=some (.ins C dx fs)∧(C,sd)∈tbl∧fs.lookup m=none∧t σ H1 λvs H2=>upF X.K sd (x::vs) H2 Q (W σ)):=by
 intro pins s σ H Q I h
 refine PySem.W.methodCall_KW (pl:=pl) (thn (he pins s σ H _ I h) λu s1 ⟨x,H1,I1,rx,a,C,dx,fs,sd,ex,ea,hm',l,q⟩=>?_) ht
 subst ex
 obtain rfl:u=Value.ref a:=rx
 obtain⟨c,f,fd,k,ps,hm,F,hr,hb⟩:=M C sd hm'
 refine zrk I1 ea c hm l ?_
 exact PySem.W.callWith_K (first:=[.ref a]) (h₀:=X.base) I.ok.mod.kin hm.kp (thn (ha pos pins s1 σ H1 _ I1 q) λus s2 ⟨vs,H2,I2,r,q2⟩=>⟨I2.kIn,znS (us:=.ref a::us) (vs:=.ref a::vs) F hr hb hx I2 (.cons rfl r) q2⟩) hst hpl
@[irreducible] def zlS (tbl:List (Addr×Sd))(m:Str)(ex:Ev→Addr→Sto→Prop)(to:TDE)(t:TDA):TDE:=λdl S Q=>to dl S λd S1=>∃n C fs sd,d=.ref n∧S1[n]?=some (.ins C fs)∧(C,sd)∈tbl∧fs.lookup m=none∧t dl S1 λds S2=>sd (d::ds) S2 Q (ex dl)
theorem zrd {m:Str}{o e:Expr}{es:List Expr}{to:TDE}{t:TDA}{apos:Pos}{pl:Sem Bool}{ex:Ev→Addr→Sto→Prop}{W:St→XK}{tbl:List (Addr×Sd)}(ho:PD X ⟨ex,W⟩ o to)(M:MT X m tbl)(hx:zdo X W)(ha:PDA X ⟨ex,W⟩ (e::es) t)
  (hst:starEach (e::es) X.env=(false,eval e X.env)::starEach es X.env:=by rfl)(hpl:(backTo pos (starEach es X.env)).any (·.1)=false:=by rfl)
  (ht:eval (.Call (.Attribute o m apos) (e::es) [] pos) X.env=(do
   let ov ← eval o X.env
   standAt apos.atName
   let (f,first) ← holding [ov] (getMethod ov m pl)
   callWith pos f first (backTo pos (starEach (e::es) X.env)) (backToKw pos (keywordEach [] X.env))):=by rfl):PD X ⟨ex,W⟩ (.Call (.Attribute o m apos) (e::es) [] pos) (zlS tbl m ex to t):=
 zbc (zxo ho M hx ha hst hpl ht) λσ H Qv ⟨r,dl,S,Q,rs,rel,h,ret⟩=>by
  unfold zlS at h
  refine⟨r,dl,S,_,rs,rel,h,λv H1 r1 d S1 e1 rel1 p1 q1=>?_⟩
  obtain⟨n,C,fs,sd,rfl,eS,hm,hl,q1⟩:=q1
  obtain⟨a,dx,fs',rfl,hr1,eH,fr⟩:=zps (C:=C) (n:=n) (fs:=fs) rel1.b p1 (by simp only[zc4,eS,if_pos])
  exact⟨a,C,dx,fs',sd,rfl,eH,hm,fr.lookup.2 hl,r1,dl,S1,_,rs.ext e1,rel1,q1,λvs H2 r2 ds S2 e2 rel2 p2 q2=>znF (Z:=⟨ex,W⟩) (rs.ext (e1.trans e2)) rel2 (Rps.cons (p1.ext e2) p2) q2 (ret.ext (e1.trans e2))⟩
theorem zpR {tbl:List (Addr×Sd)}{C:Addr}{m:Str}{ex:Ev→Addr→Sto→Prop}{sd:Sd}{to:TDE}{t:TDA}{dl:Ev}{S S1:Sto}{Q:DK}{n:Nat}{fs:List (Str×D)}(hto:∀K:DK,K (.ref n) S1→to dl S K)(h:S1[n]?=some (.ins C fs))(hm:(C,sd)∈tbl)(hf:fs.lookup m=none)(hq:t dl S1 λds S2=>sd (.ref n::ds) S2 Q (ex dl)):zlS tbl m ex to t dl S Q:=by
 unfold zlS
 exact hto _ ⟨n,C,fs,sd,rfl,h,hm,hf,hq⟩
structure Kx (K:PySem.W.Frag)(C:Addr):Prop where
 cl:Cls K C
 ha:PySem.W.findIn K (.ref C) "__class__"=some (some (.builtin "object.__class__"))
 hn:PySem.W.specialIn K (.builtin "object.__class__") "__get__"=some (some (.builtin "getset_descriptor.__get__"))
 ht:PySem.W.takesIn K (.builtin "object.__class__")=some true
 hm:PySem.W.mroIn K C (.type "object")=some true
end
section
variable {X:Cx}{Z:Zx}
end
section
variable {n:Nat}{I:Addr}{fp wr:List Addr}{P:Nat→Value→Prop}{St:Nat→Shared→Prop}{prog:Program}{w:World}{A:Around}{s:Shared}{E:Value→Shared→Prop}{G:Array GenState→Array GenState→Prop}
end
section
variable {X:Cx}{Z:Zx}
end
structure zd5 (sc around:Scope)(own caps:List Str):Prop where
 kind:sc.kind=.function
 nocell:∀y∈sc.names,y.2≠.cell
 own:∀y∈sc.names,y.2=.local→sc.names.lookup y.1=some .local
 cap:∀y∈caps,sc.names.lookup y=some .free
 out:∀y∈sc.names,y.2=.free→around.names.lookup y.1=some .cell
def zhE (k:Nat)(caps:List Nat)(wi:TI)(gt:TG)(te:TE):TE:=λσ H Q=>wi σ H λJ H1=>∀D,H1 D=none→∃W:Nat→Nat→Hp→Prop,(∃m,W 0 m (upd H1 D (.lst [])))∧∀i m H,W i m H→
 (J.stop i H∧Q (.ref D) H)∨(J.go i H∧∀x H',J.yld i H x H'→∀o:St,o.length=k→gt x (o++zbe caps σ) H' λσ8 H8=>(∃o8:St,o8.length=k∧σ8=o8++zbe caps σ)∧
  te σ8 H8 λy H3=>∃ys,H3 D=some (.lst ys)∧ys.length<sizeLine∧∃m',m'<m∧W (i+1) m' (upd H3 D (.lst (ys++[y]))))
section
variable {X:Cx}{pins:List (Addr×Obj)}{σ:St}{H:Hp}{s:Shared}
theorem zw6 {sc:Scope}{own N:List Str}{caps:List Nat}{cl:List (Str×Addr)}{fp:List Addr}{h1:Heap}{m:Str→Option Value}{tk:Nat}(I:Inv X pins σ H s)(cs:zd5 sc X.env.scope own N)
  (hN:∀(j:Nat) (y:Str),N[j]?=some y→∃i,caps[j]?=some i∧X.N[i]?=some y)(hlen:caps.length=N.length)
  (c1:∀x c,cl.lookup x=some c→X.env.cells.lookup x=some c)(c2:∀y∈sc.names,y.2=.free→cl.lookup y.1=X.env.cells.lookup y.1)
  (hf:∀b∈fp,zbL X pins H b)(hfo:∀b∈fp,b<s.heap.objs.size)(hns:h1.Ns s.heap.objs.size m)(hk:∀b o,s.heap.get? b=some o→h1.get? b=some o):
  Inv (Cx.comp X sc (own++N) cl s.heap.objs.size s H fp (X.pn++pins)) [] (List.replicate own.length none++zbe caps σ) H { s with heap:=h1,toks:=tk }:=by
 have stk:∀b∈frs X.stack,b=X.env.locals∨b∈X.fs:=λb hb=>Vau.mp (I.stkSub b hb)
 refine⟨⟨I.ok.mod,cs.kind,I.ok.glob,I.ok.blt,Vaa _,λa b c h1 h2=>I.ok.inj a b c (c1 _ _ h1) (c1 _ _ h2),λy hy=>?_,λ_ _ z=>Bool.noConfusion z,I.ok.hd,I.ok.frames,.inl rfl,λb hb=>⟨Vaq (hfo b hb),λy c e=>(hf b hb).2.2.2.2.1 y c (c1 _ _ e)⟩,
  I.bs,VaB I.ok.bsz I.sz,λb o e hb=>?_,λb hb z=>?_,I.stack,I.stkFree⟩,rfl,I.bare,Un.kept hk,⟨m,hns,λi y v e1 e2 e3=>?_⟩,λy c e=>?_,I.hok.fresh (Vaa _),λy c e=>I.freeC y c (c1 _ _ e),λp hp=>?_,I.hok.kept hk,?_⟩
 ·have hfr:sc.names.lookup y=some .free:=zoC cs.nocell hy
  have hm:=zhZ hfr
  obtain⟨c,e⟩:=I.ok.has y (.inl (cs.out _ hm rfl))
  exact⟨c,(c2 _ hm rfl).trans e⟩
 ·rcases (hf b hb).2.2.2.1 with z | z
  ·exact I.ok.noex b o e z
  ·exact absurd (Vax (Heap.lt_size (I.ok.bs b o e).1) z) (VaG _)
 ·rcases stk b z with z | z
  ·exact(hf b hb).2.1 z
  ·exact(hf b hb).2.2.1 z
 ·rcases Nat.lt_or_ge i own.length with hi | hi
  ·rw[Val (by simpa using hi),List.getElem?_replicate] at e2
   simp[hi] at e2
  ·obtain⟨i,rfl⟩:∃k,i=own.length+k:=⟨i-own.length,by omega⟩
   have e1':N[i]?=some y:=by
    rw[VaF hi] at e1
    simpa using e1
   have e2:(zbe caps σ)[i]?=some (some v):=by
    rw[VaF (by simp)] at e2
    simpa using e2
   obtain⟨j,hj,hy⟩:=hN i y e1'
   have e2':σ[j]?=some (some v):=by
    simp only[zbe,Vae,hj,Option.map_some,Option.some.injEq] at e2
    cases q:σ[j]? with
    | none=>rw[q] at e2; cases e2
    | some o=>rw[q] at e2; simp at e2; rw[e2]
   have hfr:sc.names.lookup y=some .free:=cs.cap y (Vai e1')
   have hm:=zhZ hfr
   have hce:X.env.scope.names.lookup y=some .cell:=cs.out _ hm rfl
   obtain⟨m0,_,hl⟩:=I.loc
   obtain⟨u,r,l⟩:=hl j y v hy e2' (.inr (.inl hce))
   refine⟨u,r,.inr ⟨zoK hfr,?_⟩⟩
   rcases l with ⟨k,_⟩ | ⟨_,c,ec,hcell⟩
   ·rw[show X.env.kindOf y=some .cell from hce] at k; cases k
   ·exact⟨c,(c2 _ hm rfl).trans ec,hcell.keeps hk⟩
 ·obtain⟨v,z⟩:=I.cell y c (c1 _ _ e)
  exact⟨v,z.keeps hk⟩
 ·have hp':p∈X.pn++pins:=by simpa using hp
  obtain⟨p1,p2,p3,p4,p5⟩:=I.pin p hp'
  refine⟨hk _ _ p1,p2,Vaq (Heap.lt_size p1),λz=>?_,p5⟩
  rcases stk _ z with z | z
  ·exact p3 z
  ·exact p4 z
 ·simp[zbe,hlen]
end
section
variable {X:Cx}{elt iter:Expr}{elts:List Expr}{kk:Nat}{tp:Pos}{pos:Pos}{sc:Scope}{own N:List Str}{caps:List Nat}{wi:TI}{gt:TG}{te:TE}
theorem zq2 {use:Option (Value→Sem Unit)}{Qr:Value→Shared→Prop}(hc:X.calm=true)(cs:zd5 sc X.env.scope own N)(hN:∀(j:Nat) (y:Str),N[j]?=some y→∃i,caps[j]?=some i∧X.N[i]?=some y)(hlen:caps.length=N.length)
  (hi:PI X (.Tuple elts kk tp) iter wi)(hg:∀cl C s0 H0 fp pn,PG (Cx.comp X sc (own++N) cl C s0 H0 fp pn) (.Tuple elts kk tp) gt)(he:∀cl C s0 H0 fp pn,PE (Cx.comp X sc (own++N) cl C s0 H0 fp pn) elt te)
  (hs:∀y,foldedSetIterable iter X.env y=pure y)
  {pins:List (Addr×Obj)}{s:Shared}{σ:St}{H:Hp}{Q:VK}{p2:Pos}(I:Inv X pins σ H s)(h:zhE own.length caps wi gt te σ H Q)
  (fin:∀D C s',zpq X pins σ C Q D s'→compPost (model X.prog X.w) X.A X.xe use Qr (.ref D) C (.ok .next) s'):
  wpAny (model X.prog X.w) X.A (comprehension (.ListComp elt [⟨.Tuple elts kk tp,iter,[],0⟩] sc pos) sc X.env p2 (newList []) false (eval iter X.env) use) Qr X.xe s:=by
 obtain⟨cl,k1,k2,k3⟩:=zqR (sc:=sc) (env:=X.env) λy hy hf=>I.ok.has y.1 (.inl (cs.out y hy hf))
 refine wpAny_comprehension_free rfl hs k1 cs.kind cs.own (thn (hi pins s σ H _ I h) λv s1 h1=>thn h1 λitv s2 h2=>?_)
 obtain⟨it,fp,tn,J,H2,e,I2,T,st2,f2,body⟩:=h2
 subst e
 have hfo:∀b∈fp,b<s2.heap.objs.size:=λb hb=>by
  obtain⟨o,e,_⟩:=T.obj _ _ st2 b hb
  exact Heap.lt_size e
 have hD:H2 s2.heap.objs.size=none:=I2.hok.fresh (Vaa _)
 obtain⟨W,⟨m0,w0⟩,turn⟩:=body _ hD
 refine wpAny_newObj_type ?_
 have I3:Inv X pins σ (upd H2 s2.heap.objs.size (.lst [])) { s2 with heap:=s2.heap.push { cls:=.type "list",dict:=none,data:=.seq ([]:List Value).toArray },toks:=s2.toks }:=
  I2.laid (t':=s2.toks) (λb u e=>Heap.get?_push_of_some _ e) (Vaa _) ⟨Vaj _,[],0,.nil,Heap.get?_push_size _ rfl⟩
 generalize hs3:({ s2 with heap:=s2.heap.push { cls:=.type "list",dict:=none,data:=.seq ([]:List Value).toArray },toks:=s2.toks }:Shared)=s3 at I3
 have es3:({ s2 with heap:=s2.heap.push { cls:=.type "list",dict:=none,data:=.seq ([]:List Value).toArray } }:Shared)=s3:=hs3
 try rw[es3]
 have f3:∀b∈fp,zbL X pins (upd H2 s2.heap.objs.size (.lst [])) b:=λb hb=>⟨by rw[za6 (Vaq (hfo b hb))]; exact(f2 b hb).1,(f2 b hb).2⟩
 have up3:∀b o,s2.heap.get? b=some o→s3.heap.get? b=some o:=λb o e=>by rw[← hs3]; exact Heap.get?_push_of_some _ e
 have st3:tn 0 s3.heap:=T.keep _ _ _ st2 λb _ o e=>up3 b o e
 have hfo3:∀b∈fp,b<s3.heap.objs.size:=λb hb=>by
  obtain⟨o,e,_⟩:=T.obj _ _ st3 b hb
  exact Heap.lt_size e
 refine wpAny_newFunctionEnv cs.nocell (λy hy=>by simp at hy) (λh4 ns4 sb4=>?_) cs.kind
 have hk4:∀b o,s3.heap.get? b=some o→h4.get? b=some o:=λb o e=>(sb4.2 b (Vaq (Heap.lt_size e))).trans (Heap.get?_push_of_some _ e)
 have I4:=zw6 (tk:=s3.toks+([]:List (Str×Value)).length) I3 cs hN hlen k2 k3 f3 hfo3 ns4 hk4
 generalize hs4:({ s3 with heap:=h4,toks:=s3.toks+([]:List (Str×Value)).length }:Shared)=s4 at I4 ⊢
 have eh4:s4.heap=h4:=by rw[← hs4]
 have st4:tn 0 s4.heap:=by rw[eh4]; exact T.keep _ _ _ st3 λb _ o e=>hk4 b o e
 have fY:∀ {H':Hp},(∀b∈fp,H' b=none)→∀b∈fp,zbL (Cx.comp X sc (own++N) cl s3.heap.objs.size s3 (upd H2 s2.heap.objs.size (.lst [])) fp (X.pn++pins)) [] H' b:=λhn b hb=>by
  obtain⟨_,z2,z3,z4,z5,z6⟩:=f3 b hb
  refine⟨hn b hb,Vaq (hfo3 b hb),λz=>?_,.inl hb,λy c e=>z5 y c (k2 _ _ e),λp hp=>z6 p (by simpa using hp)⟩
  rcases Vau.mp (I3.stkSub b z) with z | z
  ·exact z2 z
  ·exact z3 z
 have loop:codeAny (model X.prog X.w) X.A (.compLoop (.ListComp elt [⟨.Tuple elts kk tp,iter,[],0⟩] sc pos) 0 (.ref it) (.ref s2.heap.objs.size) (compEnvC sc cl s3.heap.objs.size X.env))
   (compPost (model X.prog X.w) X.A X.xe use Qr (.ref s2.heap.objs.size) s3.heap.objs.size) s4:=by
  refine LCp.codeAny_compLoop_pair (λn s'=>∃i o H',o.length=own.length∧Inv (Cx.comp X sc (own++N) cl s3.heap.objs.size s3 (upd H2 s2.heap.objs.size (.lst [])) fp (X.pn++pins)) [] (o++zbe caps σ) H' s'∧tn i s'.heap∧(∀b∈fp,H' b=none)∧W i n H') ?_ m0
   ⟨0,_,_,List.length_replicate,I4,st4,λb hb=>(f3 b hb).1,w0⟩
  rintro n s5 ⟨i,o,H5,ho,I5,st5,fr5,w5⟩
  rcases turn i n H5 w5 with ⟨stop,q⟩ | ⟨go,step⟩
  ·refine thn (T.done (Cx.comp X sc (own++N) cl s3.heap.objs.size s3 (upd H2 s2.heap.objs.size (.lst [])) fp (X.pn++pins)) rfl rfl rfl hc i [] s5 _ H5 _ I5 (fY fr5) st5 stop) λr s6 ⟨hr,I6⟩=>?_
   subst hr
   refine fin _ _ _ ⟨⟨H5,I3.call' I6.os I6.base I6.hok I6.bare (λb hb=>?_),q,I6.free⟩,?_,Nat.ne_of_gt I3.lt,I3.sz,λy c e z=>?_,λp hp z=>?_⟩
   ·obtain⟨_,z2,z3,z4,z5,z6⟩:=f3 b hb
    exact⟨z4,z2,z5,z6⟩
   ·obtain⟨m,hm,_⟩:=I6.loc
    exact⟨m,hm⟩
   ·obtain⟨v,hv⟩:=I3.cell y c e
    exact absurd (z ▸ hv.lt) (VaG _)
   ·exact absurd (z ▸ Heap.lt_size (I3.pin p hp).1) (VaG _)
  ·refine thn (T.item (Cx.comp X sc (own++N) cl s3.heap.objs.size s3 (upd H2 s2.heap.objs.size (.lst [])) fp (X.pn++pins)) rfl rfl rfl hc i [] s5 _ H5 _ I5 (fY fr5) st5 go) λr s6 ⟨u,hr,h6⟩=>?_
   subst hr
   refine wpAny_mono h6 (λ_ s7 ⟨y,H7,I7,r7,y7,st7,fr7⟩=>?_) λ_ _ z=>z
   have I7':=I7.pinned (fY fr7) (T.obj _ _ st7)
   refine wpAny_mono (hg _ _ _ _ _ _ _ s7 _ H7 y u _ I7' r7 (step y H7 y7 o ho)) (λ_ s8 ⟨σ8,H8,I8,⟨o8,ho8,e8⟩,q8⟩=>?_) λ_ _ z=>z.elim
   subst e8
   have stay:∀ {H':Hp} {s':Shared},Inv (Cx.comp X sc (own++N) cl s3.heap.objs.size s3 (upd H2 s2.heap.objs.size (.lst [])) fp (X.pn++pins)) ([]++zfG fp s7.heap) (o8++zbe caps σ) H' s'→∀m',m'<n→W (i+1) m' H'→
     ∃m,m<n∧∃i o H',o.length=own.length∧Inv (Cx.comp X sc (own++N) cl s3.heap.objs.size s3 (upd H2 s2.heap.objs.size (.lst [])) fp (X.pn++pins)) [] (o++zbe caps σ) H' s'∧tn i s'.heap∧(∀b∈fp,H' b=none)∧W i m H':=λ{H' s'} J m' hm w'=>by
    refine⟨m',hm,i+1,o8,H',ho8,J.unpinned,T.keep _ _ _ st7 λb hb o e=>(J.pin (b,o) (VaH _ (VaH _ (zeH hb e)))).1,λb hb=>?_,w'⟩
    obtain⟨o,e,d⟩:=T.obj _ _ st7 b hb
    exact(J.pin (b,o) (VaH _ (VaH _ (zeH hb e)))).2.1
   refine wpAny_mono (he _ _ _ _ _ _ _ s8 _ H8 _ I8 q8) (λu2 s10 ⟨z,H10,I10,r10,q10⟩=>?_) λ_ _ z=>z.elim
   obtain⟨ys,hD10,hlt,m',hm,w10⟩:=q10
   refine wpAny_mono (zoG (X:=(Cx.comp X sc (own++N) cl s3.heap.objs.size s3 (upd H2 s2.heap.objs.size (.lst [])) fp (X.pn++pins))) _ s10 _ H10 (.ref s2.heap.objs.size) [z] (.ref s2.heap.objs.size) [u2] (λ_ H'=>H'=upd H10 s2.heap.objs.size (.lst (ys++[z]))) I10 rfl (.cons r10 .nil) ⟨_,ys,z,rfl,rfl,hD10,hlt,rfl⟩) (λ_ s11 ⟨_,H11,I11,_,e11⟩=>?_) λ_ _ z=>z.elim
   subst e11
   exact stay I11 m' hm w10
 exact codeAny_compStart_list loop (T.self _ 0 s4 _ _ st4 loop)
theorem zqB (hc:X.calm=true)(cs:zd5 sc X.env.scope own N)(hN:caps.map (λi=>X.N[i]?)=N.map some)
  (hi:PI X (.Tuple elts kk tp) iter wi)(hg:∀cl C s0 H0 fp pn,PG (Cx.comp X sc (own++N) cl C s0 H0 fp pn) (.Tuple elts kk tp) gt)(he:∀cl C s0 H0 fp pn,PE (Cx.comp X sc (own++N) cl C s0 H0 fp pn) elt te)
  (hs:∀y,foldedSetIterable iter X.env y=pure y:=by intro _; rfl):PE X (.ListComp elt [⟨.Tuple elts kk tp,iter,[],0⟩] sc pos) (zhE own.length caps wi gt te):=by
 intro pins s σ H Q I h
 rw[eval_ListComp]
 refine zq2 (use:=none) hc cs (zdG hN).1 (zdG hN).2 hi hg he hs I h λD C s' f=>?_
 obtain⟨⟨H',I',q,hC⟩,⟨m,ns⟩,l,o,c,p⟩:=f
 exact⟨m,ns,λh' sb=>⟨.ref D,H',I'.turned (t':=s'.toks) (λb ob hb e=>(sb.2 b hb).trans e) hC l (.inr o) c p,rfl,q⟩⟩
end
section
variable {X:Cx}{Z:Zx}{elt:Expr}{pos:Pos}{sc ar:Scope}{N:List Str}{caps:List Nat}
def zlm (caps:List Nat)(te:TDE)(k:Nat)(dl:Ev)(d1 d2:D)(S:Sto)(nx:Sto→Prop):Prop:=
 te (some d1::some d2::zbv caps dl) S λy S2=>match S2[k]? with
  | some (.lst ys)=>ys.length<1000∧nx (S2.set k (.lst (ys++[y])))
  | _=>False
@[irreducible] def zgn (caps:List Nat)(ta:TDA)(te:TDE):TDE:=λdl S Q=>ta dl S λds S1=>match ds with
 | [.ref n]=>(lAt S1 n).isSome=true∧∃W:Nat→Nat→Sto→Prop,(∃m,W 0 m (S1++[.lst []]))∧∀k m S2,W k m S2→match lAt S2 n with
  | some o=>match (zao o)[k]? with
   | some y=>zlm caps te S1.length dl (.int (k:Int)) y S2 λS3=>∃m',m'<m∧W (k+1) m' S3
   | none=>k=(zao o).length∧Q (.ref S1.length) S2
  | none=>False
 | _=>False
theorem zqh {r:List Addr}{H:Hp}{dl:Ev}{σ:St}{d1 d2:D}{v1 v2:V}(h:Rs r H dl σ)(p1:Rp r H d1 v1)(p2:Rp r H d2 v2):Rs r H (some d1::some d2::zbv caps dl) (some v1::some v2::zbe caps σ):=by
 have z:=zqs (caps:=caps) h p2
 refine⟨by have:=z.1; simp only[VaC] at this ⊢; omega,λi e hi=>?_⟩
 cases i with
 | zero=>simp at hi; subst hi; exact⟨v1,rfl,p1⟩
 | succ i=>exact z.2 i e (by simpa using hi)
theorem zv5 {ta:TDA}{te:TDE}{σ:St}{H:Hp}{Qv:VK}(h:up X.K Z (zgn caps ta te) σ H Qv):
  zhE 2 caps (zq8 X.K (upA X.K Z ta)) (ze6 X.K 2 (zfW [0,1])) (up X.K Z0 te) σ H Qv:=by
 obtain⟨r,dl,S,Q,rs,rel,h,ret⟩:=h
 unfold zgn at h
 refine⟨r,dl,S,_,rs,rel,h,λvs H1 r1 ds S1 x1 rel1 p1 q1=>?_⟩
 split at q1
 ·rename_i n
  obtain⟨v,vs',rfl,p2,p3⟩:=p1.uncons
  have z:=p3.unnil
  subst z
  cases p2 with
  | @ref n a hr=>
   obtain⟨hsome,W,⟨m0,w0⟩,turn⟩:=q1
   obtain⟨o1,eo1⟩:=VaT.mp hsome
   obtain⟨xs1,sq1,_⟩:=zc0 (r:=r1) hr rel1.b eo1
   refine⟨a,rfl,⟨xs1,sq1⟩,λD0 hD=>?_⟩
   obtain⟨rel2,x2⟩:=rel1.b.push (ds:=[]) (xs:=[]) hD Rps.nil
   refine⟨λk m H'=>∃r' S',Ext (r1++[D0]) r' (upd H1 D0 (.lst [])) H'∧za0 X.K r' S' H'∧W k m S',⟨m0,_,_,Ext.refl,rel2,w0⟩,?_⟩
   rintro k m H2 ⟨r2,S2,x3,rb2,w2⟩
   have ha2:r2[S1.length]?=some D0:=x3.adr _ _ (zhJ rel1.len)
   have hr2:r2[n]?=some a:=(x2.trans x3).adr _ _ hr
   have q:=turn k m S2 w2
   split at q
   ·rename_i o eo
    obtain⟨xs,sq,pr⟩:=zc0 (r:=r2) hr2 rb2 eo
    split at q
    ·rename_i y ey
     obtain⟨v,hv,pv⟩:=pr.get ey
     refine .inr ⟨⟨xs,v,sq,hv⟩,λv' H' y' o8 ho8=>?_⟩
     obtain⟨T,w,rfl,hT,rfl,hw⟩:=y'
     have ew:w=v:=by
      have z:=hw xs sq
      rw[hv] at z; exact(Option.some.inj z).symm
     subst ew
     obtain⟨c1,c2,rfl⟩:∃c1 c2,o8=[c1,c2]:=by
      match o8,ho8 with
      | [c1,c2],_=>exact⟨c1,c2,rfl⟩
     have x4:Ext r2 r2 H2 (upd H2 T (.tup [.int (k:Int),w])):=znX hT
     have rb3:=rb2.same (zda (o:=.tup [.int (k:Int),w]) hT)
     have rs3:=rs.ext (x1.trans (x2.trans (x3.trans x4)))
     refine⟨T,[.int (k:Int),w],rfl,SqT.of zcA,rfl,rfl,⟨[some (.int (k:Int)),some w],rfl,rfl⟩,?_⟩
     have rsY:=zqh (caps:=caps) rs3 (.int (k:Int)) (pv.ext x4)
     refine⟨r2,_,S2,_,rsY,⟨rb3,λ_ _ _ _ _ _ _ _ _ z=>z.elim⟩,q,λz H4 r4 dz S4 x6 rel4 p4 q4=>?_⟩
     split at q4
     ·rename_i ys eys
      obtain⟨hl,m',hm,q4⟩:=q4
      have ha4:r4[S1.length]?=some D0:=x6.adr _ _ ha2
      obtain⟨zs,hD4,pz⟩:=rel4.b.ob _ _ _ ha4 eys
      obtain⟨rel5,x7⟩:=rel4.b.set ha4 eys (pz.snoc p4)
      exact⟨zs,hD4,by rw[← pz.1]; exact zhq (VaV hl),m',hm,r4,_,x3.trans (x4.trans (x6.trans x7)),rel5,q4⟩
     ·exact q4.elim
    ·obtain⟨hk,q⟩:=q
     exact .inl ⟨⟨xs,sq,by rw[← pr.1]; exact hk.symm⟩,ret _ H2 r2 _ S2 (x1.trans (x2.trans x3)) ⟨rb2,rel.xw.ext (x1.trans (x2.trans x3))⟩ (.ref ha2) q⟩
   ·exact q.elim
 ·exact q1.elim
theorem zeV {ta:TDA}{te:TDE}{x1 x2:Str}{p1 p2 p pos2 tp:Pos}{kk:Nat}{a:Expr}(har:X.env.scope=ar)(hc:X.calm=true)(cs:zd5 sc ar [x1,x2] N)(hl1:sc.names.lookup x1=some .local)(hl2:sc.names.lookup x2=some .local)
  (hN:caps.map (λi=>X.N[i]?)=N.map some)(hnd:([x1,x2]++N).Nodup)(hg:Gl X "enumerate")(hm:X.mg "enumerate"=none)(hv:bootBuiltins "enumerate"=some (.type "enumerate"))(ha:PDA X Z [a] ta)
  (he:∀cl C s0 H0 fp pn,PD (Cx.comp X sc ([x1,x2]++N) cl C s0 H0 fp pn) Z0 elt te)
  (hse:starEach [a] X.env=[(false,eval a X.env)]:=by rfl)(hs:∀y,foldedSetIterable (.Call (.Name "enumerate" p) [a] [] pos2) X.env y=pure y:=by intro _; rfl):
  PD X Z (.ListComp elt [⟨.Tuple [.Name x1 p1,.Name x2 p2] kk tp,.Call (.Name "enumerate" p) [a] [] pos2,[],0⟩] sc pos) (zgn caps ta te):=by
 subst har
 refine zbc (zqB hc cs hN (gt:=ze6 X.K 2 (zfW [0,1])) (te:=up X.K Z0 te) (zxg hg hm hv ha hse) (λcl C s0 H0 fp pn=>?_) he hs) λ_ _ _ h=>zv5 h
 have l1:(Cx.comp X sc ([x1,x2]++N) cl C s0 H0 fp pn).env.scope.names.lookup x1=some .local:=lookup_relabel_local hl1
 have l2:(Cx.comp X sc ([x1,x2]++N) cl C s0 H0 fp pn).env.scope.names.lookup x2=some .local:=lookup_relabel_local hl2
 exact zhQ hc (zfs hnd (.cons rfl (.inl l1) (.inr l1) (.cons rfl (.inl l2) (.inr l2) .nil))) rfl rfl
end
section
variable {X:Cx}{Z:Zx}{pos:Pos}
def zlk:WC:=λds S Q=>match ds with
 | [.ref n]=>match lAt S n with
  | some o=>match zct (zao o) with
   | some ns=>Q (.int ns.sum) S
   | none=>False
  | none=>False
 | _=>False
theorem zhw (hc:X.calm=true):zbo X (.builtin "sum") (upC X.K Z zlk):=by
 intro pins s σ H xs us Qv I rv h
 obtain⟨r,S,ds,Q,rel,ps,q,ret⟩:=h
 unfold zlk at q
 split at q
 ·rename_i n
  obtain⟨v,vs,rfl,p1,p2⟩:=ps.uncons
  have z:=p2.unnil
  subst z
  split at q
  ·rename_i o eo
   split at q
   ·rename_i ns en
    cases p1 with
    | ref h1=>
     obtain⟨eo,eL⟩:=zbx eo
     obtain⟨a,ha,ob⟩:=rel.at eo
     rw[h1] at ha; cases ha
     obtain⟨ys,sq,pr⟩:=ob.list eL
     obtain⟨u,rfl,ru⟩:=zdg rv
     cases ru
     obtain⟨its,ri,pl,hz⟩:=I.list sq
     obtain⟨zs,hz1,hz2⟩:=zmI en pr ri
     have isl:=pl.isList
     rw[hz1] at isl
     refine sum_intListG (I.ok.hd hc) isl λh' tk t' hk=>?_
     have e:preSum (numAt zs.toArray) zs.toArray.size=ns.sum:=by
      rw[preSum_eq,Vaz (by simp)]
      show (zs.map (·.1)).sum=ns.sum
      rw[hz2]
     rw[e]
     exact⟨.int _,H,I.kept hk,⟨_,rfl⟩,ret _ _ _ _ _ Ext.refl rel (.int _) q⟩
   ·exact q.elim
  ·exact q.elim
 ·exact q.elim
end
section
variable {X:Cx}{Z:Zx}
theorem zv7 {A:Around}{k n m:Nat}{a a':Addr}{o o':Ob}{b:Bool}{pins:List (Addr×Obj)}{σ:St}{H:Hp}{s:Shared}{r:List Addr}{S:Sto}(I:Inv X pins σ H s)(rel:Rel X.K Z r S H)(hn:r[n]?=some a)(hm:r[m]?=some a')(eo:lAt S n=some o)(eo':lAt S m=some o')
  (e:eqL (eqN k) (zao o) (zao o')=some b)(hu:A.units+1+k<cLine):SeqAt.RcAt A s (.ref a) (.ref a') b:=by
 obtain⟨eo,eL⟩:=zbx eo
 obtain⟨eo',eL'⟩:=zbx eo'
 obtain⟨z,hz,ob⟩:=rel.at eo
 rw[hn] at hz; cases hz
 obtain⟨z,hz,ob'⟩:=rel.at eo'
 rw[hm] at hz; cases hz
 obtain⟨xs,sq,pr⟩:=ob.list eL
 obtain⟨ys,sq',pr'⟩:=ob'.list eL'
 obtain⟨is,ri,pl,_⟩:=I.list sq
 obtain⟨js,rj,pl',_⟩:=I.list sq'
 obtain⟨g1,g2⟩:=zf5 (A:=A.in1) (zeW k) I (by show A.units+1+k<_; omega) pr pr' ri rj e
 by_cases hs:is.toArray.size=js.toArray.size
 ·have q:=SeqAt.RcAt.lists (A:=A) pl.isList pl'.isList hs (by omega) g1
  have e2:(List.range is.toArray.size).all (zcD (eqN k) (zao o) (zao o'))=b:=by
   rw[← g2,← hs,Nat.min_self]; simp
  rw[e2] at q
  exact q
 ·have q:=SeqAt.RcAt.lists_lengths (A:=A) pl.isList pl'.isList (by simpa using hs) (by omega)
  have e2:b=false:=by
   rw[← g2,show (is.toArray.size==js.toArray.size)=false by simpa using hs,Bool.and_false]
  rw[e2]
  exact q
def znd:W2:=λx y S Q=>match x,y with
 | .ref n,.ref m=>(∃ds es,S[n]?=some (.lst ds)∧S[m]?=some (.lst es)∧ds.length=es.length∧∀(k:Nat) (d e:D),ds[k]?=some d→es[k]?=some e→∃a b xs ys,d=.ref a∧e=.ref b∧S[a]?=some (.lst xs)∧S[b]?=some (.lst ys)∧eqL (eqN 1) xs ys=some true)∧Q (.bl false) S
 | _,_=>False
theorem zr0 {j:Nat}(hr:zaT j X.A):OpR X (compareOp .NotEq) (upO X.K Z znd):=by
 intro pins s σ H x y v u Qv I rx ry h
 obtain⟨r,S,dx,dy,Q,rel,px,py,q,ret⟩:=h
 have hun:=hr.un
 unfold znd at q
 split at q
 ·rename_i n m
  obtain⟨⟨ds,es,e1,e2,hl,hall⟩,q⟩:=q
  cases px with
  | @ref n a hn=>
   cases py with
   | @ref m a' hm=>
    cases rx
    cases ry
    obtain⟨z,hz,ob⟩:=rel.at e1
    rw[hn] at hz; cases hz
    obtain⟨z,hz,ob'⟩:=rel.at e2
    rw[hm] at hz; cases hz
    obtain⟨xs,sq,pr⟩:=ob.list rfl
    obtain⟨ys,sq',pr'⟩:=ob'.list rfl
    obtain⟨is,ri,pl,_⟩:=I.list sq
    obtain⟨js,rj,pl',_⟩:=I.list sq'
    have l1:ds.length=xs.length:=pr.1
    have l2:es.length=ys.length:=pr'.1
    have l3:=ri.length
    have l4:=rj.length
    have main:∀(k:Nat) (h1:k<is.toArray.size) (h2:k<js.toArray.size),SeqAt.EqAt X.A.in1 s is.toArray[k] js.toArray[k] true:=λk h1 h2=>by
     have k1:k<is.length:=by simpa using h1
     have k2:k<js.length:=by simpa using h2
     obtain⟨d,hd,pd⟩:=pr.get' (Vac (l:=xs) (i:=k) (by omega))
     obtain⟨e,he,pe⟩:=pr'.get' (Vac (l:=ys) (i:=k) (by omega))
     obtain⟨a1,b1,xs1,ys1,rfl,rfl,s1,s2,eq⟩:=hall k d e hd he
     obtain⟨u1,hu1,ru1⟩:=ri.get (Vac (l:=xs) (i:=k) (by omega))
     obtain⟨u2,hu2,ru2⟩:=rj.get (Vac (l:=ys) (i:=k) (by omega))
     have z1:is.toArray[k]=u1:=by
      rw[Vac k1] at hu1
      simpa using Option.some.inj hu1
     have z2:js.toArray[k]=u2:=by
      rw[Vac k2] at hu2
      simpa using Option.some.inj hu2
     rw[z1,z2]
     generalize xs[k]'(by omega)=v1 at pd ru1
     generalize ys[k]'(by omega)=v2 at pe ru2
     cases pd with
     | @ref _ p hp=>
      cases pe with
      | @ref _ p' hp'=>
       cases ru1
       cases ru2
       by_cases hne:p=p'
       ·subst hne; exact SeqAt.EqAt.same _
       ·exact SeqAt.EqAt.of_refs hne (zv7 (A:=X.A.in1) I rel hp hp' (zaU s1 rfl) (zaU s2 rfl) eq (by show X.A.units+1+1+1<_; omega))
    have q2:=SeqAt.RcNeAt.lists (A:=X.A) (e:=λ_=>true) pl.isList pl'.isList (by simp; omega) (by omega) main
    have e3:(!(List.range is.toArray.size).all λ_=>true)=false:=by simp
    rw[e3] at q2
    exact q2 X.prog X.w X.xe _ ⟨.bl false,H,I,rfl,ret _ _ _ _ _ Ext.refl rel (.bl false) q⟩
 ·exact q.elim
end
section
variable {X:Cx}{Z:Zx}{pos:Pos}
theorem zkG:∀ {us:List Value} {ms:List Int},IntsAre us ms→zaB (ms.map V.int) us
 | _,_,.nil=>.nil
 | _,_,.cons n t h=>.cons ⟨t,rfl⟩ (zkG h)
def zmU:W2:=λx y S Q=>match x,y with
 | .ref n,.int k=>match S[n]? with
  | some (.lst xs)=>(0≤k∧k≤1000∧xs.length*k.toNat≤1000)∧Q (.ref S.length) (S++[.lst (List.replicate k.toNat xs).flatten])
  | _=>False
 | _,_=>False
theorem Rps.rep {r:List Addr}{H:Hp}{ds:List D}{xs:List V}(h:Rps r H ds xs):∀k:Nat,Rps r H (List.replicate k ds).flatten (List.replicate k xs).flatten
 | 0=>Rps.nil
 | k+1=>by
  simp only[Va8,Vbf]
  exact h.app (Rps.rep h k)
theorem ztm:OpR X (binaryOp .Mult) (upO X.K Z (zbN zmU)):=by
 rw[zb8]
 exact zeS ztd λx y H Qv ⟨r,S,dx,dy,Q,rel,px,py,q,ret⟩=>by
  unfold zmU at q
  split at q
  ·rename_i n k
   split at q
   ·rename_i xs e1
    obtain⟨⟨h0,h1,hl⟩,q⟩:=q
    cases py
    cases px with
    | @ref _ a hn=>
     obtain⟨z,hz,ob⟩:=rel.at e1
     rw[hn] at hz; cases hz
     obtain⟨us,g1,p1⟩:=ob
     refine⟨a,k,us,rfl,rfl,g1,by omega,by omega,by rw[← p1.1]; exact zej hl,λp hp=>?_⟩
     obtain⟨rel4,x⟩:=rel.push hp (p1.rep k.toNat)
     exact ret _ _ _ (.ref S.length) _ x rel4 (zeg rel.len) q
   ·exact q.elim
  ·exact q.elim
theorem zwz {n:Nat}{k:Int}{S:Sto}{Q:DK}{xs:List D}(h1:S[n]?=some (.lst xs))(hk:0≤k∧k≤1000)(hl:xs.length*k.toNat≤1000)(hq:Q (.ref S.length) (S++[.lst (List.replicate k.toNat xs).flatten])):zbN zmU (.ref n) (.int k) S Q:=by
 rw[zb8]
 unfold zmU
 simp only[h1]
 exact⟨⟨hk.1,hk.2,hl⟩,hq⟩
end
section
variable {X:Cx}{Z:Zx}{elt:Expr}{pos:Pos}{sc ar:Scope}{N:List Str}{caps:List Nat}
@[irreducible] def zey (caps:List Nat)(ta:TDA)(te:TDE):TDE:=λdl S Q=>ta dl S λds S1=>match ds with
 | [.ref n,.ref n']=>((lAt S1 n).isSome=true∧(lAt S1 n').isSome=true)∧∃W:Nat→Nat→Sto→Prop,(∃m,W 0 m (S1++[.lst []]))∧∀k m S2,W k m S2→match lAt S2 n,lAt S2 n' with
  | some o,some o'=>match (zao o)[k]?,(zao o')[k]? with
   | some x,some y=>zlm caps te S1.length dl x y S2 λS3=>∃m',m'<m∧W (k+1) m' S3
   | _,_=>k=min (zao o).length (zao o').length∧Q (.ref S1.length) S2
  | _,_=>False
 | _=>False
theorem zpN {ta:TDA}{te:TDE}{σ:St}{H:Hp}{Qv:VK}(h:up X.K Z (zey caps ta te) σ H Qv):
  zhE 2 caps (iZip X.K (upA X.K Z ta)) (ze6 X.K 2 (zfW [0,1])) (up X.K Z0 te) σ H Qv:=by
 obtain⟨r,dl,S,Q,rs,rel,h,ret⟩:=h
 unfold zey at h
 refine⟨r,dl,S,_,rs,rel,h,λvs H1 r1 ds S1 x1 rel1 p1 q1=>?_⟩
 split at q1
 ·rename_i n n'
  obtain⟨v,vs',rfl,p2,p3⟩:=p1.uncons
  obtain⟨v',vs2,rfl,p4,p5⟩:=p3.uncons
  have z:=p5.unnil
  subst z
  cases p2 with
  | @ref n a hr=>
   cases p4 with
   | @ref n' a' hr'=>
    obtain⟨⟨hsome,hsome'⟩,W,⟨m0,w0⟩,turn⟩:=q1
    obtain⟨o1,eo1⟩:=VaT.mp hsome
    obtain⟨o2,eo2⟩:=VaT.mp hsome'
    obtain⟨xs1,sq1,_⟩:=zc0 (r:=r1) hr rel1.b eo1
    obtain⟨ys1,sq2,_⟩:=zc0 (r:=r1) hr' rel1.b eo2
    refine⟨a,a',rfl,⟨xs1,sq1⟩,⟨ys1,sq2⟩,λD0 hD=>?_⟩
    obtain⟨rel2,x2⟩:=rel1.b.push (ds:=[]) (xs:=[]) hD Rps.nil
    refine⟨λk m H'=>∃r' S',Ext (r1++[D0]) r' (upd H1 D0 (.lst [])) H'∧za0 X.K r' S' H'∧W k m S',⟨m0,_,_,Ext.refl,rel2,w0⟩,?_⟩
    rintro k m H2 ⟨r2,S2,x3,rb2,w2⟩
    have ha2:r2[S1.length]?=some D0:=x3.adr _ _ (zhJ rel1.len)
    have hr2:r2[n]?=some a:=(x2.trans x3).adr _ _ hr
    have hr2':r2[n']?=some a':=(x2.trans x3).adr _ _ hr'
    have q:=turn k m S2 w2
    split at q
    ·rename_i o o' eo eo'
     obtain⟨xs,sq,pr⟩:=zc0 (r:=r2) hr2 rb2 eo
     obtain⟨ys,sq',pr'⟩:=zc0 (r:=r2) hr2' rb2 eo'
     split at q
     ·rename_i y y2 ey ey2
      obtain⟨v,hv,pv⟩:=pr.get ey
      obtain⟨u,hvu,pu⟩:=pr'.get ey2
      refine .inr ⟨⟨xs,ys,v,u,sq,sq',hv,hvu⟩,λv' H' y' o8 ho8=>?_⟩
      obtain⟨T,w,w2',rfl,hT,rfl,hw,hw2⟩:=y'
      have ew:w=v:=by
       have z:=hw xs sq
       rw[hv] at z; exact(Option.some.inj z).symm
      have ew2:w2'=u:=by
       have z:=hw2 ys sq'
       rw[hvu] at z; exact(Option.some.inj z).symm
      subst ew ew2
      obtain⟨c1,c2,rfl⟩:∃c1 c2,o8=[c1,c2]:=by
       match o8,ho8 with
       | [c1,c2],_=>exact⟨c1,c2,rfl⟩
      have x4:Ext r2 r2 H2 (upd H2 T (.tup [w,w2'])):=znX hT
      have rb3:=rb2.same (zda (o:=.tup [w,w2']) hT)
      have rs3:=rs.ext (x1.trans (x2.trans (x3.trans x4)))
      refine⟨T,[w,w2'],rfl,SqT.of zcA,rfl,rfl,⟨[some w,some w2'],rfl,rfl⟩,?_⟩
      have rsY:=zqh (caps:=caps) rs3 (pv.ext x4) (pu.ext x4)
      refine⟨r2,_,S2,_,rsY,⟨rb3,λ_ _ _ _ _ _ _ _ _ z=>z.elim⟩,q,λz H4 r4 dz S4 x6 rel4 p4 q4=>?_⟩
      split at q4
      ·rename_i ys eys
       obtain⟨hl,m',hm,q4⟩:=q4
       have ha4:r4[S1.length]?=some D0:=x6.adr _ _ ha2
       obtain⟨zs,hD4,pz⟩:=rel4.b.ob _ _ _ ha4 eys
       obtain⟨rel5,x7⟩:=rel4.b.set ha4 eys (pz.snoc p4)
       exact⟨zs,hD4,by rw[← pz.1]; exact zhq (VaV hl),m',hm,r4,_,x3.trans (x4.trans (x6.trans x7)),rel5,q4⟩
      ·exact q4.elim
     ·obtain⟨hk,q⟩:=q
      exact .inl ⟨⟨xs,ys,sq,sq',by rw[← pr.1,← pr'.1]; exact hk.symm⟩,ret _ H2 r2 _ S2 (x1.trans (x2.trans x3)) ⟨rb2,rel.xw.ext (x1.trans (x2.trans x3))⟩ (.ref ha2) q⟩
    ·exact q.elim
 ·exact q1.elim
theorem zlf {ta:TDA}{te:TDE}{x1 x2:Str}{p1 p2 p pos2 tp:Pos}{kk:Nat}{a b:Expr}(har:X.env.scope=ar)(hc:X.calm=true)(cs:zd5 sc ar [x1,x2] N)(hl1:sc.names.lookup x1=some .local)(hl2:sc.names.lookup x2=some .local)
  (hN:caps.map (λi=>X.N[i]?)=N.map some)(hnd:([x1,x2]++N).Nodup)(hg:Gl X "zip")(hm:X.mg "zip"=none)(hv:bootBuiltins "zip"=some (.type "zip"))(ha:PDA X Z [a,b] ta)
  (he:∀cl C s0 H0 fp pn,PD (Cx.comp X sc ([x1,x2]++N) cl C s0 H0 fp pn) Z0 elt te)
  (hse:starEach [a,b] X.env=[(false,eval a X.env),(false,eval b X.env)]:=by rfl)(hse2:starEach [b] X.env=[(false,eval b X.env)]:=by rfl)(hs:∀y,foldedSetIterable (.Call (.Name "zip" p) [a,b] [] pos2) X.env y=pure y:=by intro _; rfl):
  PD X Z (.ListComp elt [⟨.Tuple [.Name x1 p1,.Name x2 p2] kk tp,.Call (.Name "zip" p) [a,b] [] pos2,[],0⟩] sc pos) (zey caps ta te):=by
 subst har
 refine zbc (zqB hc cs hN (gt:=ze6 X.K 2 (zfW [0,1])) (te:=up X.K Z0 te) (zoR hg hm hv ha hse hse2) (λcl C s0 H0 fp pn=>?_) he hs) λ_ _ _ h=>zpN h
 have l1:(Cx.comp X sc ([x1,x2]++N) cl C s0 H0 fp pn).env.scope.names.lookup x1=some .local:=lookup_relabel_local hl1
 have l2:(Cx.comp X sc ([x1,x2]++N) cl C s0 H0 fp pn).env.scope.names.lookup x2=some .local:=lookup_relabel_local hl2
 exact zhQ hc (zfs hnd (.cons rfl (.inl l1) (.inr l1) (.cons rfl (.inl l2) (.inr l2) .nil))) rfl rfl
end
section
variable {X:Cx}{Z:Zx}{pos:Pos}
def dPar (i j:Nat)(ta:TDA):TDS:=λE dl S=>ta dl S λds S1=>match ds with
 | [v,w]=>E.nx ((dl.set i (some v)).set j (some w)) S1
 | _=>False
theorem zwb {i j:Nat}{x y:Str}{a b:Expr}{ta:TDA}{px py pt:Pos}{kt k2 pt2}(hc:X.calm=true)(hN:X.N.Nodup)(hi:X.N[i]?=some x)(hj:X.N[j]?=some y)(hij:i≠j)
  (hx:X.env.scope.names.lookup x=some .local)(hy:X.env.scope.names.lookup y=some .local)(ha:PDA X Z [a,b] ta)
  (hw:swappedStores [.Tuple [.Name x px,.Name y py] kt pt] (.Tuple [a,b] k2 pt2) X.env=pure (some [x,y]):=by rfl)
  (hs:swapsWithSole [.Tuple [.Name x px,.Name y py] kt pt] (.Tuple [a,b] k2 pt2) pos.line X.env=pure false:=by rfl):
  PDS X Z (.Assign [.Tuple [.Name x px,.Name y py] kt pt] (.Tuple [a,b] k2 pt2) pos) (dPar i j ta):=
 zb0 (zsQ hc hN hi hj hij hx hy ha hw hs) λF σ H ⟨r,dl,S,E,rs,rel,h,ret⟩=>by
  refine⟨r,dl,S,_,rs,rel,h,λvs H1 r1 ds S1 x1 rel1 p1 q1=>?_⟩
  split at q1
  ·rename_i v w
   obtain⟨v1,vs1,rfl,p2,p3⟩:=p1.uncons
   obtain⟨v2,vs2,rfl,p4,p5⟩:=p3.uncons
   have z:=p5.unnil
   subst z
   exact⟨v1,v2,rfl,ret.nx _ H1 r1 _ S1 x1 (((rs.ext x1).set i p2).set j p4) rel1 q1⟩
  ·exact q1.elim
end
section
variable {n:Nat}{I:Addr}{fp wr:List Addr}{P:Nat→Value→Prop}{St:Nat→Shared→Prop}{prog:Program}{w:World}{A:Around}{s:Shared}{E:Value→Shared→Prop}{G:Array GenState→Array GenState→Prop}
end
section
variable {X:Cx}{Z:Zx}{pos:Pos}
end
section
variable {X:Cx}{Z:Zx}{pos:Pos}
theorem Rps.ins {r:List Addr}{H:Hp}{y:D}{w:V}(hy:Rp r H y w):∀ {ds:List D} {xs:List V} (k:Nat),Rps r H ds xs→Rps r H (ds.take k++y::ds.drop k) (xs.take k++w::xs.drop k)
 | [],xs,k,h=>by
  have z:=h.unnil
  subst z
  simpa using Rps.cons hy h
 | d::ds,xs,0,h=>Rps.cons hy h
 | d::ds,xs,k+1,h=>by
  obtain⟨v,vs,rfl,p1,p2⟩:=h.uncons
  exact Rps.cons p1 (Rps.ins hy k p2)
theorem zyx:MtM X "list.insert" (λx vs H Q=>∃l xs i y,x=.ref l∧vs=[.int i,y]∧H l=some (.lst xs)∧0≤i∧i≤xs.length∧xs.length<1000∧Q .non (upd H l (.lst (xs.take i.toNat++y::xs.drop i.toNat)))):=by
 intro pins s σ H x vs v us Q I rx rv h
 obtain⟨l,xs,i,y,rfl,rfl,hH,h0,h1,h2,q⟩:=h
 cases rx
 obtain⟨t,u,rfl,ru⟩:∃t u,us=[Value.int i t,u]∧zaA y u:=by
  cases rv with
  | cons p q=>
   obtain⟨t,rfl⟩:=p
   cases q with
   | cons p' q'=>
    cases q'
    exact⟨t,_,rfl,p'⟩
 obtain⟨z,its,n,r,hl,e⟩:=I.lstM hH
 have fit:Builtin.List.listFitsIndex i=true:=fitsIndex_both (by omega) (by omega)
 refine call_meets PySem.F.slot_list_insert ⟨_,e,rfl⟩ PySem.F.entry_list_insert (PySem.F.args_list_insert_3 _ _ _) (PySem.AutoSeq1.list_insert_list_int_val_1 l its.toArray n i t u (by simp[fit]) (by rw[Vat]; omega)) ⟨e,?_⟩
 refine⟨.non,_,I.lset (t':=s.toks) (ys:=xs.take i.toNat++y::xs.drop i.toNat) (its':=its.take i.toNat++u::its.drop i.toNat) hH e ?_ ((r.take _).append (.cons ru (r.drop _))) ?_,rfl,q⟩
 ·have k1:(if i<0 then (i+(its.toArray.size:Int)).toNat else min i.toNat its.toArray.size)=i.toNat:=by
   rw[if_neg (by omega),Vat]
   omega
  show (its.toArray.extract 0 (if i<0 then (i+(its.toArray.size:Int)).toNat else min i.toNat its.toArray.size)).push u++its.toArray.extract (if i<0 then (i+(its.toArray.size:Int)).toNat else min i.toNat its.toArray.size)=_
  rw[k1]
  apply Array.toList_inj.mp
  simp
  refine Vaz (?_:_≤_)
  simp
 ·rw[Vas,VaC,Vao,Va7]
  exact zej (by omega)
@[irreducible] def zmo (to:TDE)(t:TDA):TDE:=λdl S Q=>to dl S λd S1=>match d with
 | .ref n=>(lAt S1 n).isSome=true∧t dl S1 λds S2=>match ds with
  | [.int i,y]=>match S2[n]? with
   | some (.lst xs)=>(0≤i∧i≤xs.length∧xs.length<1000)∧Q .non (S2.set n (.lst (xs.take i.toNat++y::xs.drop i.toNat)))
   | _=>False
  | _=>False
 | _=>False
theorem ztj {to:TDE}{t:TDA}{dl:Ev}{S S1 S2:Sto}{Q:DK}{n:Nat}{i:Int}{y:D}{xs ys:List D}(hto:∀K:DK,K (.ref n) S1→to dl S K)(h:S1[n]?=some (.lst ys))(ht:∀K:List D→Sto→Prop,K [.int i,y] S2→t dl S1 K)(h2:S2[n]?=some (.lst xs))(hi:0≤i∧i≤xs.length∧xs.length<1000)(hq:Q .non (S2.set n (.lst (xs.take i.toNat++y::xs.drop i.toNat)))):zmo to t dl S Q:=by
 unfold zmo
 refine hto _ ⟨by rw[zaU h rfl]; rfl,ht _ ?_⟩
 simp only[h2]
 exact⟨hi,hq⟩
theorem ztK {o e e2:Expr}{to:TDE}{t:TDA}{apos cpos:Pos}(ho:PD X Z o to)(ha:PDA X Z [e,e2] t)(hbase:attributeBase o "insert" X.env (eval o X.env)=eval o X.env:=by rfl)
  (hfew:((backTo cpos (starEach [e,e2] X.env)).all (λx=>!x.1)&&(backToKw cpos (keywordEach [] X.env)).all (λx=>x.1.isSome)
  &&decide ([e,e2].length+([]:List Keyword).length+(if ([]:List Keyword).isEmpty then 0 else 1)<30))=true:=by rfl)
  (hline:(apos.endLine==cpos.line)=true:=by rfl)(hs:starEach [e,e2] X.env=(false,eval e X.env)::starEach [e2] X.env:=by rfl)(hplain:(backTo cpos (starEach [e2] X.env)).any (·.1)=false:=by rfl):
  PD X Z (.Call (.Attribute o "insert" apos) [e,e2] [] cpos) (zmo to t):=
 zbc (zpe (T:="list") PySem.F.plainAttrs_list PySem.F.slot_list_insert PySem.F.type_list_insert zyx ho ha hbase hfew hline hs hplain) λσ H Qv ⟨r,dl,S,Q,rs,rel,h,ret⟩=>by
  unfold zmo at h
  refine⟨r,dl,S,_,rs,rel,h,λv H1 r1 d S1 e1 rel1 p1 q1=>?_⟩
  cases p1 with
  | @ref n a hn=>
   obtain⟨hsome,q1⟩:=q1
   obtain⟨o1,eo⟩:=VaT.mp hsome
   obtain⟨eo,eL⟩:=zbx eo
   obtain⟨a',ha',ob⟩:=rel1.at eo
   rw[hn] at ha'; cases ha'
   obtain⟨xs,sq,_⟩:=ob.list eL
   refine⟨.inl ⟨rfl,xs,sq⟩,r1,dl,S1,_,rs.ext e1,rel1,q1,λvs H2 r2 ds S2 e2 rel2 p2 q2=>?_⟩
   split at q2
   ·rename_i i y
    obtain⟨v2,vs',rfl,p3,p4⟩:=p2.uncons
    obtain⟨v3,vs3,rfl,p5,p6⟩:=p4.uncons
    have z:=p6.unnil
    subst z
    cases p3
    split at q2
    ·rename_i zs ez
     obtain⟨⟨h0,h1,h2⟩,q⟩:=q2
     have hn2:=e2.adr _ _ hn
     obtain⟨ys,hH,pr⟩:=rel2.b.ob n a _ hn2 ez
     obtain⟨rel3,x3⟩:=rel2.set hn2 ez (Rps.ins p5 i.toNat pr)
     exact⟨a,ys,i,v3,rfl,rfl,hH,h0,by rw[← pr.1]; exact h1,by rw[← pr.1]; exact h2,ret .non _ r2 .non _ (e1.trans (e2.trans x3)) rel3 .non q⟩
    ·exact q2.elim
   ·exact q2.elim
  | _=>exact(show False from q1).elim
end
section
variable {X:Cx}{Z:Zx}{elt iter:Expr}{elts:List Expr}{kk:Nat}{tp pos:Pos}{sc ar:Scope}{own N:List Str}{caps:List Nat}{wi:TI}{gt:TG}
theorem zwc {te:TE}{i:Nat}{y:Str}{py spos:Pos}(hc:X.calm=true)(cs:zd5 sc X.env.scope own N)(hN:caps.map (λi=>X.N[i]?)=N.map some)
  (hi:PI X (.Tuple elts kk tp) iter wi)(hg:∀cl C s0 H0 fp pn,PG (Cx.comp X sc (own++N) cl C s0 H0 fp pn) (.Tuple elts kk tp) gt)(he:∀cl C s0 H0 fp pn,PE (Cx.comp X sc (own++N) cl C s0 H0 fp pn) elt te)
  (hNd:X.N.Nodup)(hy:X.N[i]?=some y)(hl:X.env.scope.names.lookup y=some .local)
  (hsw:swapsWith (.ListComp elt [⟨.Tuple elts kk tp,iter,[],0⟩] sc pos) (some (.Name y py)) spos.line X.env=pure true)
  (hs:∀y,foldedSetIterable iter X.env y=pure y:=by intro _; rfl):PS X (.Assign [.Name y py] (.ListComp elt [⟨.Tuple elts kk tp,iter,[],0⟩] sc pos) spos) (λE σ H=>zhE own.length caps wi gt te σ H λv H1=>E.nx (σ.set i (some v)) H1):=by
 intro pins s σ H E I h
 rw[exec_Assign_Name_used (hs:=hsw)]
 refine wpAny_bind (wpAny_standAt ?_); refine wpAny_bind ?_; show wpAny _ _ (comprehension _ sc X.env _ (newList []) false (eval iter X.env) (some (assign (.Name y py) X.env)) >>= λ_=>pure ()) _ _ s
 refine wpAny_bind (thn (zq2 (use:=some (assign (.Name y py) X.env)) (Qr:=λ_ s'=>SP X pins E .next s') hc cs (zdG hN).1 (zdG hN).2 hi hg he hs I h λD C s' f=>?_) λ_ s' hq=>wpAny_pure (wpAny_pure hq))
 obtain⟨⟨H',I',q,hC⟩,⟨m,ns⟩,l,o,c,p⟩:=f
 refine wpAny_assign_Name (zn4 (v:=.ref D) I' hNd hy (.inl hl) rfl (λs'' I'' ⟨a,sb,ha⟩=>⟨m,ns.sameBut sb ?_,λh' sb'=>⟨_,H',I''.turned (t':=s''.toks) (λb ob hb e=>(sb'.2 b hb).trans e) hC l (.inr o) c p,q⟩⟩) (.inr hl))
 rcases ha with rfl | ha
 ·exact l
 ·exact Ne.symm (c _ _ ha)
theorem zuJ {ta:TDA}{te:TDE}{x1 x2:Str}{p1 p2 p pos2:Pos}{a b:Expr}{i:Nat}{y:Str}{py spos:Pos}(har:X.env.scope=ar)(hc:X.calm=true)(cs:zd5 sc ar [x1,x2] N)(hl1:sc.names.lookup x1=some .local)(hl2:sc.names.lookup x2=some .local)
  (hN:caps.map (λi=>X.N[i]?)=N.map some)(hnd:([x1,x2]++N).Nodup)(hNd:X.N.Nodup)(hy:X.N[i]?=some y)(hlo:ar.names.lookup y=some .local)(hg:Gl X "zip")(hm:X.mg "zip"=none)(hv:bootBuiltins "zip"=some (.type "zip"))(ha:PDA X Z [a,b] ta)
  (he:∀cl C s0 H0 fp pn,PD (Cx.comp X sc ([x1,x2]++N) cl C s0 H0 fp pn) Z0 elt te)
  (hsw:swapsWith (.ListComp elt [⟨.Tuple [.Name x1 p1,.Name x2 p2] kk tp,.Call (.Name "zip" p) [a,b] [] pos2,[],0⟩] sc pos) (some (.Name y py)) spos.line X.env=pure true:=by rfl)
  (hse:starEach [a,b] X.env=[(false,eval a X.env),(false,eval b X.env)]:=by rfl)(hse2:starEach [b] X.env=[(false,eval b X.env)]:=by rfl)(hs:∀y,foldedSetIterable (.Call (.Name "zip" p) [a,b] [] pos2) X.env y=pure y:=by intro _; rfl):
  PDS X Z (.Assign [.Name y py] (.ListComp elt [⟨.Tuple [.Name x1 p1,.Name x2 p2] kk tp,.Call (.Name "zip" p) [a,b] [] pos2,[],0⟩] sc pos) spos) (zmJ i (zey caps ta te)):=by
 subst har
 refine zb0 (zwc hc cs hN (gt:=ze6 X.K 2 (zfW [0,1])) (te:=up X.K Z0 te) (zoR hg hm hv ha hse hse2) (λcl C s0 H0 fp pn=>?_) he hNd hy hlo hsw hs) λF σ H h=>zpf (λ_ h=>zpN h) h
 have l1:(Cx.comp X sc ([x1,x2]++N) cl C s0 H0 fp pn).env.scope.names.lookup x1=some .local:=lookup_relabel_local hl1
 have l2:(Cx.comp X sc ([x1,x2]++N) cl C s0 H0 fp pn).env.scope.names.lookup x2=some .local:=lookup_relabel_local hl2
 exact zhQ hc (zfs hnd (.cons rfl (.inl l1) (.inr l1) (.cons rfl (.inl l2) (.inr l2) .nil))) rfl rfl
end
section
variable {X:Cx}{Z:Zx}
def zqe:WC:=λds S Q=>match ds with
 | [.bl b]=>Q (.int (if b then 1 else 0)) S
 | _=>False
theorem zqQ:zbo X (.type "int") (upC X.K Z zqe):=by
 intro pins s σ H xs us Qv I rv h
 obtain⟨r,S,ds,Q,rel,ps,q,ret⟩:=h
 unfold zqe at q
 split at q
 ·rename_i b
  obtain⟨v,vs,rfl,p1,p2⟩:=ps.uncons
  have z:=p2.unnil
  subst z
  cases p1
  obtain⟨u,rfl,ru⟩:=zdg rv
  cases ru
  exact call_int_bool ⟨.int _,H,I.tok _,⟨_,rfl⟩,ret _ _ _ _ _ Ext.refl rel (.int _) q⟩
 ·exact q.elim
end
section
variable {X:Cx}{Z:Zx}{pos:Pos}
def zzp (i:Nat)(ta:TDA)(tb:TDS):TDS:=λE dl S=>ta dl S λds S1=>match ds with
 | [.int lo,.int hi]=>(-(2^62)≤lo∧lo<2^62∧-(2^62)≤hi∧hi<2^62)∧∃W:Nat→Ev→Sto→Prop,W 0 dl S1∧∀k dl S,W k dl S→
   if k<(hi-lo).toNat then tb { nx:=λdl' S'=>W (k+1) dl' S',rt:=E.rt,bk:=E.nx,ct:=λdl' S'=>W (k+1) dl' S' } (dl.set i (some (.int (lo+k)))) S else E.nx dl S
 | _=>False
theorem zq1 {i:Nat}{x:Str}{pos2 pos' p:Pos}{a b:Expr}{body:List Stmt}{ta:TDA}{tb:TDS}(hp:PassesOwn (model X.prog X.w) X.A X.env X.xe)(hc:X.calm=true)(hN:X.N.Nodup)(hi:X.N[i]?=some x)(hx:Loc X.env.scope x)
  (hg:Gl X "range")(hm:X.mg "range"=none)(ha:PDA X Z [a,b] ta)(hb:zcI X Z body tb)(hf:X.fn x=true∨X.env.scope.names.lookup x=some .local:=by first | exact .inl rfl | exact .inr rfl | assumption)
  (hs:∀y,foldedSetIterable (.Call (.Name "range" p) [a,b] [] pos) X.env y=pure y:=by intro _; rfl)(hst:starEach [a,b] X.env=[(false,eval a X.env),(false,eval b X.env)]:=by rfl)(hst2:starEach [b] X.env=[(false,eval b X.env)]:=by rfl):
  PDS X Z (.For (.Name x pos') (.Call (.Name "range" p) [a,b] [] pos) body [] pos2) (zzp i ta tb):=
 zb0 (znj hp hc (zsE hg hm ha hst hst2) (zgo hN hi hx hf) hb hs) λF σ H ⟨r,dl,S,E,rs,rel,h,ret⟩=>by
  refine⟨r,dl,S,_,rs,rel,h,λvs H1 r1 ds S1 x1 rel1 p1 q1=>?_⟩
  split at q1
  ·rename_i lo hi
   obtain⟨v,vs',rfl,p2,p3⟩:=p1.uncons
   obtain⟨v2,vs2,rfl,p4,p5⟩:=p3.uncons
   have z:=p5.unnil
   subst z
   cases p2
   cases p4
   obtain⟨bds,W,w0,turn⟩:=q1
   refine⟨lo,hi,rfl,bds,λk m σ' H'=>m=(hi-lo).toNat-k∧∃r' dl' S',Ext r1 r' H1 H'∧Rs r' H' dl' σ'∧Rel X.K Z r' S' H'∧W k dl' S',⟨(hi-lo).toNat,by simp,r1,dl,S1,Ext.refl,rs.ext x1,rel1,w0⟩,?_⟩
   rintro k m σ2 H2 ⟨em,r2,dl2,S2,x2,rs2,rel2,w2⟩
   have q:=turn k dl2 S2 w2
   split at q
   ·rename_i hk
    have go:∀σ' H' r' dl' S',Ext r2 r' H2 H'→Rs r' H' dl' σ'→Rel X.K Z r' S' H'→W (k+1) dl' S'→∃r' dl' S',Ext r1 r' H1 H'∧Rs r' H' dl' σ'∧Rel X.K Z r' S' H'∧W (k+1) dl' S':=
     λσ' H' r' dl' S' x rs' rel' w'=>⟨r',dl',S',x2.trans x,rs',rel',w'⟩
    have pk:Rp r2 H2 (.int (lo+(k:Int))) (.int (lo+(k:Int))):=.int _
    refine .inr ⟨hk,λσ' H'=>∃r' dl' S',Ext r1 r' H1 H'∧Rs r' H' dl' σ'∧Rel X.K Z r' S' H'∧W (k+1) dl' S',λσ' H' z=>⟨(hi-lo).toNat-(k+1),by omega,rfl,z⟩,λv' H' y'=>?_⟩
    obtain⟨eH,y'⟩:=y'
    subst eH
    subst y'
    exact⟨r2,_,S2,_,rs2.set i pk,rel2,q,go,λσ' H' r' dl' S' x rs' rel' z=>ret.nx σ' H' r' dl' S' (x1.trans (x2.trans x)) rs' rel' z,go,ret.rt.ext (x1.trans x2)⟩
   ·rename_i hk
    exact .inl ⟨by show (hi-lo).toNat≤k; omega,ret.nx σ2 H2 r2 dl2 S2 (x1.trans x2) rs2 rel2 q⟩
  ·exact q1.elim
end
end L3
set_option Elab.async false
set_option linter.all false
set_option maxRecDepth 100000
set_option maxHeartbeats 40000000
namespace Mine
open PySem PySem.Spec PyProof.Rows L2 L3
theorem fsc {N P:List Str}{sc:Scope}(a:sc.kind=.function:=by rfl)(b:sc.isCoroutine=false:=by rfl)(c:sc.isGenerator=false:=by rfl)(d:N.Nodup:=by decide +kernel)(e:N.take P.length=P:=by rfl)(f:∀x∈P,sc.names.lookup x=some .local∨sc.names.lookup x=some .cell:=by decide +kernel)(g:∀y∈sc.names,y.2≠.free:=by decide +kernel):zaw N P sc:=⟨a,b,c,d,e,f,g⟩
theorem csc {sc ar:Scope}{x:Str}{caps:List Str}(a:sc.kind=.function:=by rfl)(b:∀y∈sc.names,y.2≠.cell:=by decide +kernel)(c:∀y∈sc.names,y.2=.local→sc.names.lookup y.1=some .local:=by decide +kernel)(d:sc.names.lookup x=some .local:=by rfl)(e:∀y∈caps,sc.names.lookup y=some .free:=by decide +kernel)(f:∀y∈sc.names,y.2=.free→ar.names.lookup y.1=some .cell:=by decide +kernel):zdq sc ar x caps:=⟨a,b,c,d,e,f⟩
theorem zcL {sc ar:Scope}{own caps:List Str}(a:sc.kind=.function:=by rfl)(b:∀y∈sc.names,y.2≠.cell:=by decide +kernel)(c:∀y∈sc.names,y.2=.local→sc.names.lookup y.1=some .local:=by decide +kernel)(e:∀y∈caps,sc.names.lookup y=some .free:=by decide +kernel)(f:∀y∈sc.names,y.2=.free→ar.names.lookup y.1=some .cell:=by decide +kernel):zd5 sc ar own caps:=⟨a,b,c,e,f⟩
abbrev Ln (sp:Sd)(n:Nat):Prop:=∀ds S Q ex,sp ds S Q ex→ds.length=n
theorem zak {X:Cx}{x:Str}{p pos:Pos}{e:Expr}{es:List Expr}{t:TDA}{k j:Nat}{ps:List Str}{sd:Sd}{ex:Ev→Addr→Sto→Prop}(G:Fk X.prog X.w X.K X.mg X.base k x ps sd)(hr:zaT j X.A)(ha:PDA X ⟨ex,Z0.w⟩ (e::es) t)(hk:k≤j:=by decide)(hg:Gl X x:=by rfl)
  (hdb:(x==("__debug__":Str))=false:=by decide)(he:starEach (e::es) X.env=(false,eval e X.env)::starEach es X.env:=by rfl)(hpl:(backTo pos (starEach es X.env)).any (·.1)=false:=by rfl):PD X ⟨ex,Z0.w⟩ (.Call (.Name x p) (e::es) [] pos) (zow ex sd t):=zxs G (hr.mono hk) zfD hg ha hdb he hpl
abbrev zkj:Stmt:=top 65
abbrev zh4:List Str:=["_law_cell_here"]
theorem ztz:zaw ["_law_cell_here"] zh4 (zam zkj):=fsc
abbrev zkY:Stmt:=top 55
abbrev zdS:List Str:=["_law_script"]
theorem ztO:zaw ["_law_script"] zdS (zam zkY):=fsc
abbrev zmE:Stmt:=top 56
abbrev zdL:List Str:=["_law_script","_law_k"]
theorem zio:zaw ["_law_script","_law_k","_law_cell_here","_law_first","_law_second"] zdL (zam zmE):=fsc
abbrev zkN:Stmt:=top 76
abbrev zhz:List Str:=["_law_script","_law_size","_law_grid_here"]
theorem zde:zaw ["_law_script","_law_size","_law_grid_here","_law_box","_law_k","_law_cell_here","_law_wide","_law_low"] zhz (zam zkN):=fsc
abbrev znb:Stmt:=top 61
abbrev zd3:List Str:=["_law_top","_law_bottom"]
theorem zlg:zaw ["_law_top","_law_bottom","_law_a","_law_b"] zd3 (zam znb):=fsc
abbrev zmi:Stmt:=top 62
abbrev zgD:List Str:=["_law_cell_here"]
theorem zuh:zaw ["_law_cell_here"] zgD (zam zmi):=fsc
abbrev zkQ:Stmt:=top 63
abbrev zgk:List Str:=["_law_nodes","_law_heavy","_law_node","_law_weight"]
theorem zxk:zaw ["_law_nodes","_law_heavy","_law_node","_law_weight"] zgk (zam zkQ):=fsc
abbrev zkH:Stmt:=top 57
abbrev zgL:List Str:=["_law_cell_here"]
theorem zrZ:zaw ["_law_cell_here"] zgL (zam zkH):=fsc
abbrev zml:Stmt:=top 64
abbrev zfV:List Str:=["_law_nodes","_law_heavy","_law_cell_here","_law_most","_law_free_here"]
theorem zdC:zaw ["_law_nodes","_law_heavy","_law_cell_here","_law_most","_law_free_here","_law_one","_law_other","_law_weight","_law_a","_law_many","_law_word"] zfV (zam zml):=fsc
abbrev ziG:Stmt:=top 74
abbrev ziJ:List Str:=["_law_script","_law_nodes","_law_heavy"]
theorem zfc:zaw ["_law_script","_law_nodes","_law_heavy","_law_size","_law_k","_law_rows","_law_j","_law_cell_here"] ziJ (zam ziG):=fsc
abbrev zki:Stmt:=top 70
abbrev zdY:List Str:=["_law_nodes","_law_node"]
theorem zuA:zaw ["_law_nodes","_law_node"] zdY (zam zki):=fsc
abbrev zju:Stmt:=top 66
abbrev zhu:List Str:=["_law_a","_law_many"]
theorem zld:zaw ["_law_a","_law_many","_law_found","_law_turn"] zhu (zam zju):=fsc
abbrev zjj:Stmt:=top 67
abbrev zhU:List Str:=["_law_node","_law_known"]
theorem zgs:zaw ["_law_node","_law_known","_law_one","_law_other","_law_sign"] zhU (zam zjj):=fsc
abbrev zjH:Stmt:=top 68
abbrev zfd:List Str:=["_law_nodes","_law_point_here"]
theorem znJ:zaw ["_law_nodes","_law_point_here","_law_known","_law_node"] zfd (zam zjH):=fsc
abbrev zhj:Stmt:=top 73
abbrev zgU:List Str:=["_law_nodes","_law_at_here","_law_box","_law_grid_here","_law_parts"]
theorem zjC:zaw ["_law_nodes","_law_at_here","_law_box","_law_grid_here","_law_parts","_law_centre","_law_worth","_law_number"] zgU (zam zhj):=fsc
abbrev zjR:Stmt:=top 71
abbrev zgh:List Str:=["_law_nodes","_law_parts"]
theorem zk2:zaw ["_law_nodes","_law_parts","_law_total","_law_part"] zgh (zam zjR):=fsc
abbrev zj7:Stmt:=top 72
abbrev zhg:List Str:=["_law_nodes","_law_entries","_law_turned"]
theorem zkb:zaw ["_law_nodes","_law_entries","_law_turned","_law_parts","_law_k","_law_number"] zhg (zam zj7):=fsc
abbrev zfg:Stmt:=top 75
abbrev zhk:List Str:=["_law_script","_law_size","_law_grid_here","_law_box"]
theorem zcb:zaw ["_law_script","_law_size","_law_grid_here","_law_box","_law_nodes","_law_heavy","_law_k","_law_many","_law_rows","_law_j","_law_entries","_law_cell_here","_law_share","_law_number","_law_bent","_law_at_here"] zhk (zam zfg):=fsc
abbrev ziz:Stmt:=top 41
abbrev zgt:List Str:=["rows"]
theorem zxm:zaw ["rows"] zgt (zam ziz):=fsc
abbrev zgN:Stmt:=top 42
abbrev zeU:List Str:=["each","places"]
theorem zrO:zaw ["each","places"] zeU (zam zgN):=fsc
abbrev zlh:Stmt:=top 14
abbrev ziA:List Str:=["a","b"]
theorem zrY:zaw ["a","b"] ziA (zam zlh):=fsc
abbrev zk1:Stmt:=top 16
abbrev zek:List Str:=["top","bottom"]
theorem zwH:zaw ["top","bottom"] zek (zam zk1):=fsc
abbrev zm8:Stmt:=top 17
abbrev zhm:List Str:=["low","high","grid"]
theorem ztU:zaw ["low","high","grid"] zhm (zam zm8):=fsc
abbrev zkf:Stmt:=zaV (top 27) 2
abbrev zgC:List Str:=["self","spans","box","grid"]
theorem zpy:zaw ["self","spans","box","grid","number"] zgC (zam zkf):=fsc
abbrev zkO:Stmt:=zaV (top 28) 2
abbrev zg3:List Str:=["self","spans","box","grid"]
theorem zs9:zaw ["self","spans","box","grid"] zg3 (zam zkO):=fsc
abbrev zl6:Stmt:=top 18
abbrev zdt:List Str:=["a","b"]
theorem zyh:zaw ["a","b"] zdt (zam zl6):=fsc
abbrev zlF:Stmt:=zaV (top 30) 1
abbrev zh0:List Str:=["self","spans","box","grid"]
theorem zxD:zaw ["self","spans","box","grid"] zh0 (zam zlF):=fsc
abbrev zmQ:Stmt:=top 19
abbrev zd0:List Str:=["a","b"]
theorem zxI:zaw ["a","b"] zd0 (zam zmQ):=fsc
abbrev zlq:Stmt:=zaV (top 31) 1
abbrev zg6:List Str:=["self","spans","box","grid"]
theorem zud:zaw ["self","spans","box","grid"] zg6 (zam zlq):=fsc
abbrev zmf:Stmt:=top 20
abbrev zdK:List Str:=["a","b","grid"]
theorem zrC:zaw ["a","b","grid","products"] zdK (zam zmf):=fsc
abbrev zi1:Stmt:=zaV (top 32) 1
abbrev zg0:List Str:=["self","spans","box","grid"]
theorem zyy:zaw ["self","spans","box","grid"] zg0 (zam zi1):=fsc
abbrev zlP:Stmt:=top 13
abbrev zhV:List Str:=["number","many"]
theorem zlH:zaw ["number","many","worth","step"] zhV (zam zlP):=fsc
abbrev zic:Stmt:=top 21
abbrev zfL:List Str:=["a","many","grid"]
theorem zmN:zaw ["a","many","grid","places","powers","bottom"] zfL (zam zic):=fsc
abbrev znk:Stmt:=zaV (top 33) 2
abbrev zf3:List Str:=["self","spans","box","grid"]
theorem zuH:zaw ["self","spans","box","grid"] zf3 (zam znk):=fsc
abbrev zkD:Stmt:=zaV (top 33) 0
abbrev zhX:List Str:=["self","one","many"]
theorem zu8:zaw ["self","one","many"] zhX (zam zkD):=fsc
abbrev zm7:Stmt:=zaV (top 27) 0
abbrev zgJ:List Str:=["self","top","bottom"]
theorem zyq:zaw ["self","top","bottom"] zgJ (zam zm7):=fsc
abbrev zjk:Stmt:=zaV (top 28) 0
abbrev zgF:List Str:=["self","place"]
theorem zvr:zaw ["self","place"] zgF (zam zjk):=fsc
abbrev zlx:Stmt:=zaV (top 29) 0
abbrev zhf:List Str:=["self","one","other"]
theorem zvs:zaw ["self","one","other"] zhf (zam zlx):=fsc
abbrev zky:Stmt:=zaV (top 29) 0
abbrev zim:List Str:=["self","one","other"]
theorem zsD:zaw ["self","one","other"] zim (zam zky):=fsc
abbrev zjS:Stmt:=zaV (top 29) 0
abbrev zh1:List Str:=["self","one","other"]
theorem zuO:zaw ["self","one","other"] zh1 (zam zjS):=fsc
abbrev zjl:Stmt:=top 34
abbrev zeG:List Str:=["node"]
theorem ztM:zaw ["node"] zeG (zam zjl):=fsc
abbrev zkV:Stmt:=top 36
abbrev zed:List Str:=["nodes","box","grid"]
theorem znN:zaw ["nodes","box","grid","found","node"] zed (zam zkV):=fsc
abbrev zmP:Stmt:=zaV (top 27) 4
abbrev zha:List Str:=["self","spans","slants","unknowns","grid"]
theorem zyI:zaw ["self","spans","slants","unknowns","grid"] zha (zam zmP):=fsc
abbrev zgW:Stmt:=zaV (top 28) 4
abbrev zhh:List Str:=["self","spans","slants","unknowns","grid"]
theorem zw9:zaw ["self","spans","slants","unknowns","grid"] zhh (zam zgW):=fsc
abbrev zlC:Stmt:=zaV (top 30) 4
abbrev zhR:List Str:=["self","x","y","a","b","grid"]
theorem zye:zaw ["self","x","y","a","b","grid"] zhR (zam zlC):=fsc
abbrev zhK:Stmt:=zaV (top 29) 2
abbrev zgc:List Str:=["self","spans","slants","unknowns","grid"]
theorem znY:zaw ["self","spans","slants","unknowns","grid","x","y"] zgc (zam zhK):=fsc
abbrev zj9:Stmt:=zaV (top 31) 4
abbrev zgK:List Str:=["self","x","y","a","b","grid"]
theorem zx7:zaw ["self","x","y","a","b","grid"] zgK (zam zj9):=fsc
abbrev ziB:Stmt:=zaV (top 29) 2
abbrev zgT:List Str:=["self","spans","slants","unknowns","grid"]
theorem zno:zaw ["self","spans","slants","unknowns","grid","x","y"] zgT (zam ziB):=fsc
abbrev zkw:Stmt:=zaV (top 32) 4
abbrev zgP:List Str:=["self","x","y","a","b","grid"]
theorem zwq:zaw ["self","x","y","a","b","grid"] zgP (zam zkw):=fsc
abbrev zgj:Stmt:=zaV (top 29) 2
abbrev ziK:List Str:=["self","spans","slants","unknowns","grid"]
theorem znn:zaw ["self","spans","slants","unknowns","grid","x","y"] ziK (zam zgj):=fsc
abbrev zlW:Stmt:=top 22
abbrev zgw:List Str:=["a","many"]
theorem zu7:zaw ["a","many"] zgw (zam zlW):=fsc
abbrev zig:Stmt:=zaV (top 33) 4
abbrev ziQ:List Str:=["self","spans","slants","unknowns","grid"]
theorem znK:zaw ["self","spans","slants","unknowns","grid","lower","steep"] ziQ (zam zig):=fsc
abbrev znl:Stmt:=top 39
abbrev zhT:List Str:=["nodes","box","grid"]
theorem zjy:zaw ["nodes","box","grid","spans","found","node"] zhT (zam znl):=fsc
abbrev zlJ:Stmt:=top 50
abbrev zih:List Str:=["nodes","places","box","grid"]
theorem zw3:zaw ["nodes","places","box","grid"] zih (zam zlJ):=fsc
abbrev zjA:Stmt:=top 2
abbrev zdD:List Str:=["number","place"]
theorem zwE:zaw ["number","place"] zdD (zam zjA):=fsc
abbrev zhI:Stmt:=top 3
abbrev zdR:List Str:=["matrix","row","column"]
theorem zpz:zaw ["matrix","row","column","rest"] zdR (zam zhI):=fsc
abbrev zei:Stmt:=top 4
abbrev zb3:List Str:=["matrix","row","column"]
theorem zlr:zaw ["matrix","row","column"] zb3 (zam zei):=fsc
abbrev zcw:Stmt:=top 5
abbrev zbR:List Str:=["matrix"]
theorem zhp:zaw ["matrix"] zbR (zam zcw):=fsc
abbrev zkt:Stmt:=top 6
abbrev zhF:List Str:=["matrix","whole","row","column","grid"]
theorem zsS:zaw ["matrix","whole","row","column","grid"] zhF (zam zkt):=fsc
abbrev zg8:Stmt:=top 7
abbrev ziP:List Str:=["matrix","whole","row","grid"]
theorem zuB:zaw ["matrix","whole","row","grid"] ziP (zam zg8):=fsc
abbrev zgz:Stmt:=top 8
abbrev ziF:List Str:=["matrix","grid"]
theorem zrD:zaw ["matrix","grid","whole"] ziF (zam zgz):=fsc
abbrev zlX:Stmt:=top 24
abbrev ziS:List Str:=["a"]
theorem zvq:zaw ["a"] ziS (zam zlX):=fsc
abbrev zii:Stmt:=top 43
abbrev zfN:List Str:=["spans"]
theorem zvN:zaw ["spans"] zfN (zam zii):=fsc
abbrev ziN:Stmt:=top 44
abbrev zeL:List Str:=["box"]
theorem zyP:zaw ["box"] zeL (zam ziN):=fsc
abbrev zja:Stmt:=top 45
abbrev zfY:List Str:=["ones","others","grid"]
theorem zmu:zaw ["ones","others","grid","total","one","other"] zfY (zam zja):=fsc
abbrev zho:Stmt:=top 46
abbrev zgR:List Str:=["k","column","turns","slants","grid"]
theorem zpl:zaw ["k","column","turns","slants","grid","whole","column_slants"] zgR (zam zho):=fsc
abbrev zel:Stmt:=top 47
abbrev zhi:List Str:=["k","box","grid","entries","thin","slants"]
theorem zfC:zaw ["k","box","grid","entries","thin","slants","turns","centres","moved","lacks","ways"] zhi (zam zel):=fsc
abbrev zge:Stmt:=top 48
abbrev zib:List Str:=["box","grid","turn","thin","slants"]
theorem zsM:zaw ["box","grid","turn","thin","slants"] zib (zam zge):=fsc
abbrev zk5:Stmt:=top 49
abbrev zh8:List Str:=["nodes","places","box","grid"]
theorem zvA:zaw ["nodes","places","box","grid"] zh8 (zam zk5):=fsc
abbrev zj5:Stmt:=top 23
abbrev zhC:List Str:=["a","b"]
theorem zwQ:zaw ["a","b"] zhC (zam zj5):=fsc
abbrev zgq:Stmt:=top 52
abbrev zgM:List Str:=["near","box"]
theorem ztg:zaw ["near","box"] zgM (zam zgq):=fsc
abbrev zme:Stmt:=top 37
abbrev ziM:List Str:=["word","span"]
theorem zwN:zaw ["word","span"] ziM (zam zme):=fsc
abbrev zhB:Stmt:=top 51
abbrev zf6:List Str:=["rows","spans"]
theorem zyR:zaw ["rows","spans"] zf6 (zam zhB):=fsc
abbrev zf4:Stmt:=top 53
abbrev zil:List Str:=["nodes","rows","box","grid"]
theorem zhN:zaw ["nodes","rows","box","grid","places","slants","turn","near"] zil (zam zf4):=fsc
abbrev zlb:Stmt:=top 77
abbrev zgI:List Str:=["_law_near","_law_box"]
theorem zqi:zaw ["_law_near","_law_box","_law_k"] zgI (zam zlb):=fsc
abbrev zlt:Stmt:=top 69
abbrev zhs:List Str:=["_law_box","_law_parts","_law_whole_here","_law_grid_here"]
theorem znt:zaw ["_law_box","_law_parts","_law_whole_here","_law_grid_here","_law_point_here","_law_k"] zhs (zam zlt):=fsc
abbrev zmh:Stmt:=top 58
abbrev zir:List Str:=["_law_found"]
theorem zuo:zaw ["_law_found"] zir (zam zmh):=fsc
abbrev zj6:Stmt:=top 59
abbrev zgx:List Str:=["_law_found"]
theorem zu3:zaw ["_law_found"] zgx (zam zj6):=fsc
abbrev zly:Stmt:=top 60
abbrev ziu:List Str:=["_law_found","_law_size"]
theorem zqW:zaw ["_law_found","_law_size","_law_span_here"] ziu (zam zly):=fsc
abbrev zcQ:Stmt:=top 78
abbrev zkv:List Str:=["_law_script"]
theorem zbW:zaw ["_law_script","_law_size","_law_grid_here","_law_box","_law_nodes","_law_rows","_law_handed","_law_found","_law_share","_law_ones","_law_others","_law_first","_law_last","_law_row","_law_one","_law_other"] zkv (zam zcQ):=fsc
theorem kfo {K:PySem.W.Frag}{f c:Addr}{m:Value}{n q:Str}{st:Stmt}(l:K.lookup f=some (fo n q st m c)):PySem.W.keepIn K (.ref f)=true:=by
 unfold PySem.W.keepIn
 simp only[l]
theorem ifo {K:PySem.W.Frag}{f c:Addr}{m:Value}{n q:Str}{st:Stmt}(l:K.lookup f=some (fo n q st m c)):PySem.W.isFn K (.ref f)=true:=by
 unfold PySem.W.isFn PySem.W.typeIn
 simp only[l]
 rfl
theorem ln1 {P:List Value→Prop}(h:∀a,P [a]):∀us:List Value,us.length=1→P us
 | [a],_=>h a
theorem ln2 {P:List Value→Prop}(h:∀a b,P [a,b]):∀us:List Value,us.length=2→P us
 | [a,b],_=>h a b
theorem ln3 {P:List Value→Prop}(h:∀a b c,P [a,b,c]):∀us:List Value,us.length=3→P us
 | [a,b,c],_=>h a b c
theorem ln4 {P:List Value→Prop}(h:∀a b c d,P [a,b,c,d]):∀us:List Value,us.length=4→P us
 | [a,b,c,d],_=>h a b c d
theorem ln5 {P:List Value→Prop}(h:∀a b c d e,P [a,b,c,d,e]):∀us:List Value,us.length=5→P us
 | [a,b,c,d,e],_=>h a b c d e
theorem ln6 {P:List Value→Prop}(h:∀a b c d e f,P [a,b,c,d,e,f]):∀us:List Value,us.length=6→P us
 | [a,b,c,d,e,f],_=>h a b c d e f
abbrev Bn (n q:Str)(st:Stmt)(ps:List Str):Prop:=∀(kV doc pm:Value) (an:Option Addr) (cdv ct:Value) (us:List Value),us.length=ps.length→bindArgs (PySem.W.fnOf n q (zer st) (zd2 st) (zam st) .none kV doc pm an cdv ct) ⟨us,[]⟩=pure (ps.zip us)
def dfo {K:PySem.W.Frag}{mg:Str→Option Value}{h:Heap}(X:K.In h)(G:h.Ns mainGlobals mg){n:Str}{st:Stmt}{f c:Addr}{m:Value}{ps:List Str}(a:PySem.W.nsIn K mainGlobals n=some (some (.ref f)))(l:K.lookup f=some (fo n n st m c))(e:PySem.W.codeIn K (.ref c) n=true)(b:Bn n n st ps):Df K mg n st ps:=⟨_,_,zkW (st:=st) l e (kfo l),PySem.W.mg_of X G a,(zkW (st:=st) l e (kfo l)).binds b⟩
def dmo {K:PySem.W.Frag}{C:Addr}{n q:Str}{st:Stmt}{f c:Addr}{m:Value}{ps:List Str}(a:PySem.W.findIn K (.ref C) n=some (some (.ref f)))(l:K.lookup f=some (fo n q st m c))(e:PySem.W.codeIn K (.ref c) q=true)(b:Bn n q st ps):Dm K C n q st ps:=⟨_,_,zkW (st:=st) l e (kfo l),⟨a,ifo l,kfo l⟩,(zkW (st:=st) l e (kfo l)).binds b⟩
abbrev nsA (K:PySem.W.Frag)(n:Str)(f:Addr):Prop:=PySem.W.nsIn K mainGlobals n=some (some (.ref f))
abbrev fdA (K:PySem.W.Frag)(C:Addr)(n:Str)(f:Addr):Prop:=PySem.W.findIn K (.ref C) n=some (some (.ref f))
abbrev lkA (K:PySem.W.Frag)(f:Addr)(n q:Str)(st:Stmt)(m:Value)(c:Addr):Prop:=K.lookup f=some (fo n q st m c)
abbrev cdA (K:PySem.W.Frag)(c:Addr)(q:Str):Prop:=PySem.W.codeIn K (.ref c) q=true
theorem zba {C:Addr}{f:Str}{to:TDE}{dl:Ev}{S S1:Sto}{Q:DK}{n:Nat}{fs:List (Str×D)}{v:D}(hto:∀K:DK,K (.ref n) S1→to dl S K)(h:S1[n]?=some (.ins C fs))(hf:fs.lookup f=some v)(hq:Q v S1):zjU C f to dl S Q:=by
 unfold zjU
 refine hto _ ?_
 simp only[zc4,h,if_pos,hf]
 exact hq
theorem zcR {C:Addr}{f:Str}{to te:TDE}{dl:Ev}{S S1 S2:Sto}{E:zdh}{n:Nat}{fs:List (Str×D)}{v:D}(hte:∀K:DK,K v S1→te dl S K)(hto:∀K:DK,K (.ref n) S2→to dl S1 K)(h:S2[n]?=some (.ins C fs))(hl:fs.length<1000)(hq:E.nx dl (S2.set n (.ins C (ze2 f v fs)))):zmK C f to te E dl S:=by
 unfold zmK
 refine hte _ (hto _ ?_)
 simp only[zc4,h,if_pos]
 exact⟨hl,hq⟩
theorem znL {C:Addr}{m:Str}{ex:Ev→Addr→Sto→Prop}{sd:Sd}{to:TDE}{t:TDA}{dl:Ev}{S S1:Sto}{Q:DK}{n:Nat}{fs:List (Str×D)}(hto:∀K:DK,K (.ref n) S1→to dl S K)(h:S1[n]?=some (.ins C fs))(hf:fs.lookup m=none)(hq:t dl S1 λds S2=>sd (.ref n::ds) S2 Q (ex dl)):zma C m ex sd to t dl S Q:=by
 unfold zma
 refine hto _ ?_
 simp only[zc4,h,if_pos]
 exact⟨hf,hq⟩
theorem zwT {te:TDE}{dl:Ev}{S:Sto}{Q:DK}{n:Nat}{xs:List D}(ht:∀K:DK,K (.ref n) S→te dl S K)(h:S[n]?=some (.lst xs))(hq:Q (.bl true) S):zln "list" te dl S Q:=by
 unfold zln
 refine ht _ ?_
 simp only[h]
 exact hq
theorem zbn {n:Nat}{S:Sto}{Q:DK}{xs:List D}(h:S[n]?=some (.lst xs))(hq:Q (.int (xs.length:Nat)) S):irr zea [.ref n] S Q:=by
 rw[zdU]
 unfold zea
 simp only[zaU h rfl]
 exact hq
theorem zcz {S:Sto}{n a:Nat}{o u:Ob}(h:S[n]?=some o)(hn:a≠n):(S.set a u)[n]?=some o:=by rw[VaP hn]; exact h
theorem zb5 {S:Sto}{n:Nat}{o u:Ob}(h:S[n]?=some o):(S.set n u)[n]?=some u:=by
 have hk:=(Vad.mp h).1
 simp[hk]
theorem zaz {S:Sto}{n:Nat}{o:Ob}{T:Sto}(h:S[n]?=some o):(S++T)[n]?=some o:=by
 have hk:=(Vad.mp h).1
 rw[Val hk]
 exact h
theorem zcT (T R:Sto)(u:Ob):(T++u::R)[T.length]?=some u:=by simp
theorem zcO (T R:Sto)(u v:Ob):(T++u::R).set T.length v=T++v::R:=by simp
theorem zbg {S:Sto}{n:Nat}{o:Ob}(h:S[n]?=some o):n<S.length:=(Vad.mp h).1
theorem zxF {n m:Nat}{S:Sto}{Q:DK}{xs ys:List D}{b:Bool}(h1:S[n]?=some (.lst xs))(h2:S[m]?=some (.lst ys))(e:eqL (eqN 1) xs ys=some b)(hq:Q (.bl b) S):zbN (zef 1) (.ref n) (.ref m) S Q:=by
 rw[zb8]
 unfold zef
 simp only[zll,zaU h1 rfl,zaU h2 rfl,zao,e]
 exact hq
theorem zfu {i n:Nat}{tb:TDS}{E:zdh}{dl:Ev}{S:Sto}{o:Ob}(W:Nat→Ev→Sto→Prop)(h0:W 0 dl S)(hk:∀k dl' S',W k dl' S'→S'[n]?=some o)
  (ht:∀(k:Nat) (x:D) (dl':Ev) (S':Sto) (nx ct:Ev→Sto→Prop),(zao o)[k]?=some x→W k dl' S'→(∀dl2 S2,W (k+1) dl2 S2→nx dl2 S2)→tb { nx:=nx,rt:=E.rt,bk:=E.nx,ct:=ct } (dl'.set i (some x)) S')(he:∀dl' S',W (zao o).length dl' S'→E.nx dl' S')(hL:zbX o=some o:=by rfl):
  (lAt S n).isSome=true∧∃W:Nat→Nat→Ev→Sto→Prop,(∃m,W 0 m dl S)∧∀k m dl S,W k m dl S→match lAt S n with
  | some o=>match (zao o)[k]? with
   | some x=>tb { nx:=λdl' S'=>∃m',m'<m∧W (k+1) m' dl' S',rt:=E.rt,bk:=E.nx,ct:=λdl' S'=>∃m',m'<m∧W (k+1) m' dl' S' } (dl.set i (some x)) S
   | none=>E.nx dl S
  | none=>False:=by
 refine⟨by rw[zaU (hk _ _ _ h0) hL]; rfl,λk m dl' S'=>m+k=(zao o).length∧W k dl' S',⟨(zao o).length,by omega,h0⟩,?_⟩
 rintro k m dl' S' ⟨hm,w⟩
 rw[zaU (hk _ _ _ w) hL]
 show (match (zao o)[k]? with
   | some x=>tb { nx:=λdl' S''=>∃m',m'<m∧(m'+(k+1)=(zao o).length∧W (k+1) dl' S''),rt:=E.rt,bk:=E.nx,ct:=λdl' S''=>∃m',m'<m∧(m'+(k+1)=(zao o).length∧W (k+1) dl' S'') } (dl'.set i (some x)) S'
   | none=>E.nx dl' S')
 split
 ·rename_i x hx
  have hk:k<(zao o).length:=(Vad.mp hx).1
  exact ht k x dl' S' _ _ hx w λdl2 S2 w2=>⟨m-1,by omega,by omega,w2⟩
 ·rename_i hx
  have hk:k=(zao o).length:=by
   have:=Va3.mp hx
   omega
  exact he dl' S' (hk ▸ w)
inductive Nd where
 | number (t b:Int) | unknown (k:Int) | plus (i j:Int) | minus (i j:Int) | times (i j:Int) | power (i n:Int)
def Nd.d:Nd→D
 | .number t b=>.tup [.str "number",.int t,.int b]
 | .unknown k=>.tup [.str "unknown",.int k]
 | .plus i j=>.tup [.str "plus",.int i,.int j]
 | .minus i j=>.tup [.str "minus",.int i,.int j]
 | .times i j=>.tup [.str "times",.int i,.int j]
 | .power i n=>.tup [.str "power",.int i,.int n]
def Nd.ob (cN cU cP cM cT cW:Addr):Nd→Ob
 | .number t b=>.ins cN [("top",.int t),("bottom",.int b)]
 | .unknown k=>.ins cU [("place",.int k)]
 | .plus i j=>.ins cP [("one",.int i),("other",.int j)]
 | .minus i j=>.ins cM [("one",.int i),("other",.int j)]
 | .times i j=>.ins cT [("one",.int i),("other",.int j)]
 | .power i n=>.ins cW [("one",.int i),("many",.int n)]
def inR (m i:Int):Prop:=0≤i∧i<m
def Nd.ok (m q:Int):Nd→Prop
 | .number t b=>(1≤b∧b≤10^9)∧Int.gcd t b=1∧t.natAbs≤10^9
 | .unknown k=>inR q k
 | .plus i j=>inR m i∧inR m j
 | .minus i j=>inR m i∧inR m j
 | .times i j=>inR m i∧inR m j
 | .power i n=>inR m i∧2≤n∧n≤6
def frD (p:Int×Int):D:=.tup [.int p.1,.int p.2]
abbrev gt (vs:List (Int×Int))(i:Int):Int×Int:=vs.getD i.toNat (0,1)
theorem zli {vs:List (Int×Int)}{i:Int}(h:inR vs.length i):gt vs i∈vs:=by
 obtain⟨h0,h1⟩:=h
 have hk:i.toNat<vs.length:=by omega
 have e:gt vs i=vs[i.toNat]:=by simp[gt,hk]
 rw[e]
 exact VaM hk
theorem zaY {vs:List (Int×Int)}{i:Int}(h:inR vs.length i):atI (vs.map frD) i=some (frD (gt vs i)):=by
 obtain⟨h0,h1⟩:=h
 have hk:i.toNat<vs.length:=by omega
 have z:=zd8 (xs:=vs.map frD) (j:=i.toNat) (v:=frD (gt vs i)) (by rw[Vae,Vac hk]; simp[gt,hk])
 rw[show ((i.toNat:Nat):Int)=i by omega] at z
 exact z
theorem fr_eq (p q:Int×Int):eqN 1 (frD p) (frD q)=some (decide (p.1=q.1)&&(decide (p.2=q.2)&&true)):=by simp[frD,eqN,L3.eqT,eqL,eqF]
theorem zrf:∀vs:List (Int×Int),eqL (eqN 1) (vs.map frD) (vs.map frD)=some true
 | []=>rfl
 | u::us=>by
  show (match eqN 1 (frD u) (frD u),eqL (eqN 1) (us.map frD) (us.map frD) with | some b,some c=>some (b&&c) | _,_=>none)=_
  rw[fr_eq,zrf us]
  simp
theorem zrq {xs:List D}{d e:D}{i:Nat}{P:Nat→D→Prop}(h:(xs++[d])[i]?=some e)(hp:∀i d,xs[i]?=some d→P i d)(hd:P xs.length d):P i e:=by
 by_cases hi:i<xs.length
 ·rw[Val hi] at h
  exact hp i e h
 ·have hk:=(Vad.mp h).1
  simp only[Vas,VaC,Vba] at hk
  have e1:i=xs.length:=by omega
  subst e1
  simp at h
  subst h
  exact hd
theorem zoU {caps:List Nat}{ta:TDA}{te:TDE}{dl:Ev}{S S1:Sto}{Q:DK}{j:Int}(P:Nat→D→Prop)(hta:∀K:List D→Sto→Prop,K [.int j] S1→ta dl S K)(hj:0≤j∧j≤1000)
  (ht:∀k:Nat,k<j.toNat→∀(S2:Sto) (K:DK),Pre S1 S2→(∀d,P k d→K d S2)→te (some (.int k)::zbv caps dl) S2 K)(hq:∀xs:List D,xs.length=j.toNat→(∀k d,xs[k]?=some d→P k d)→Q (.ref S1.length) (S1++[.lst xs])):zcX caps ta zb6 te dl S Q:=by
 unfold zcX
 refine hta _ ⟨⟨by omega,by omega⟩,λk S2=>(∃xs:List D,S2=S1++[.lst xs]∧xs.length=k∧∀i d,xs[i]?=some d→P i d)∧k≤j.toNat,⟨⟨[],rfl,rfl,λi d h=>by simp at h⟩,by omega⟩,?_⟩
 rintro k S2 ⟨⟨xs,rfl,hx,hp⟩,hk⟩
 split
 ·rename_i hk'
  unfold zc7 zb6
  simp only[if_true]
  refine ht k hk' _ _ Pre.refl.push λd hd=>?_
  rw[zav]
  refine⟨by omega,⟨xs++[d],zgl _ _ _,by simp[hx],λi e he=>zrq he hp (hx ▸ hd)⟩,by omega⟩
 ·have e:k=j.toNat:=by omega
  subst e
  exact hq xs hx hp
theorem zrs {caps:List Nat}{tl te:TDE}{dl:Ev}{S S1:Sto}{Q:DK}{n:Nat}{o:Ob}(P:Nat→D→Prop)(htl:∀K:DK,K (.ref n) S1→tl dl S K)(h1:S1[n]?=some o)(hl:(zao o).length≤1000)
  (ht:∀(k:Nat) (x:D),(zao o)[k]?=some x→∀(S2:Sto) (K:DK),Pre S1 S2→(∀d,P k d→K d S2)→te (some x::zbv caps dl) S2 K)(hq:∀xs:List D,xs.length=(zao o).length→(∀k d,xs[k]?=some d→P k d)→Q (.ref S1.length) (S1++[.lst xs]))(hL:zbX o=some o:=by rfl):zcy caps tl zb6 te dl S Q:=by
 unfold zcy
 refine htl _ ⟨by rw[zaU h1 hL]; rfl,λk m S2=>(∃xs:List D,S2=S1++[.lst xs]∧xs.length=k∧∀i d,xs[i]?=some d→P i d)∧m+k=(zao o).length,⟨(zao o).length,⟨[],rfl,rfl,λi d h=>by simp at h⟩,by omega⟩,?_⟩
 rintro k m S2 ⟨⟨xs,rfl,hx,hp⟩,hm⟩
 rw[zaU (zcV h1) hL]
 dsimp only
 split
 ·rename_i x hk
  have hk':k<(zao o).length:=(Vad.mp hk).1
  unfold zc7 zb6
  simp only[if_true]
  refine ht k x hk _ _ Pre.refl.push λd hd=>?_
  rw[zav]
  refine⟨by omega,m-1,by omega,⟨xs++[d],zgl _ _ _,by simp[hx],λi e he=>zrq he hp (hx ▸ hd)⟩,by omega⟩
 ·rename_i hk
  have hk':=Va3.mp hk
  exact hq xs (by omega) hp
structure zfo (a b c d mn mx:Int):Prop where
 lo:mn=a*c∨mn=a*d∨mn=b*c∨mn=b*d
 l1:mn≤a*c
 l2:mn≤a*d
 l3:mn≤b*c
 l4:mn≤b*d
 hi:mx=a*c∨mx=a*d∨mx=b*c∨mx=b*d
 h1:a*c≤mx
 h2:a*d≤mx
 h3:b*c≤mx
 h4:b*d≤mx
theorem zfo.of {a b c d mn mx:Int}(m1:mn∈[a*c,a*d,b*c,b*d])(m2:∀y∈[a*c,a*d,b*c,b*d],mn≤y)(x1:mx∈[a*c,a*d,b*c,b*d])(x2:∀y∈[a*c,a*d,b*c,b*d],y≤mx):zfo a b c d mn mx:=by
 simp only[Vau,List.not_mem_nil,or_false] at m1 x1
 exact⟨m1,m2 _ (by simp),m2 _ (by simp),m2 _ (by simp),m2 _ (by simp),x1,x2 _ (by simp),x2 _ (by simp),x2 _ (by simp),x2 _ (by simp)⟩
structure zdF (a b:Int)(n:Nat)(m M:Int):Prop where
 lo:m=a^n∨m=b^n∨(a<0∧0<b∧m=0)
 l1:m≤a^n
 l2:m≤b^n
 l3:a<0→0<b→m≤0
 hi:M=a^n∨M=b^n
 h1:a^n≤M
 h2:b^n≤M
theorem zkq {n:Nat}(h:1≤n):(0:Int)^n=0:=by
 cases n with
 | zero=>omega
 | succ k=>rw[Vam,Int.mul_zero]
theorem zqD (n:Nat):(∀x:Int,(-x)^n=x^n)∨(∀x:Int,(-x)^n=-(x^n)):=by
 induction n with
 | zero=>left; intro x; rw[VaZ,VaZ]
 | succ k ih=>
  rcases ih with e | e
  ·right; intro x; rw[Vam,Vam,e,Int.mul_neg]
  ·left; intro x; rw[Vam,Vam,e,Int.neg_mul_neg]
theorem ze3 {x y:Int}(h0:0≤x)(h:x≤y)(n:Nat):x^n≤y^n:=by
 induction n with
 | zero=>rw[VaZ,VaZ]; exact Vav _
 | succ k ih=>
  rw[Vam,Vam]
  exact Int.mul_le_mul ih h h0 (VaO (by omega))
theorem zy2 {y z x m M:Int}{n:Nat}(hn:1≤n)(h1:y≤x)(h2:x≤z)(m1:m≤y^n)(m2:m≤z^n)(m3:y<0→0<z→m≤0)(M1:y^n≤M)(M2:z^n≤M):m≤x^n∧x^n≤M:=by
 by_cases hy:0≤y
 ·have e1:=ze3 hy h1 n
  have e2:=ze3 (show 0≤x by omega) h2 n
  omega
 ·by_cases hz:z≤0
  ·have e1:=ze3 (show 0≤-z by omega) (show -z≤-x by omega) n
   have e2:=ze3 (show 0≤-x by omega) (show -x≤-y by omega) n
   rcases zqD n with p | p <;> rw[p,p] at e1 e2 <;> omega
  ·have m3':=m3 (by omega) (by omega)
   have z0:(0:Int)≤z^n:=VaO (by omega)
   by_cases hx:0≤x
   ·have e1:(0:Int)≤x^n:=VaO hx
    have e2:=ze3 hx h2 n
    omega
   ·have e1:(0:Int)≤(-x)^n:=VaO (by omega)
    have e2:=ze3 (show 0≤-x by omega) (show -x≤-y by omega) n
    rcases zqD n with p | p
    ·rw[p] at e1
     rw[p,p] at e2
     omega
    ·rw[p] at e1
     rw[p,p] at e2
     omega
theorem zdF.of {a b g mn mx:Int}{n:Nat}(hg:1≤g){l:List Int}(hl:l=[a^n*g,b^n*g]∧¬ (a<0∧0<b)∨l=[a^n*g,b^n*g,0^n*g]∧a<0∧0<b)(hn:1≤n)(m1:mn∈l)(m2:∀y∈l,mn≤y)(x1:mx∈l)(x2:∀y∈l,y≤mx):
  ∃m M,zdF a b n m M∧mn=m*g∧mx=M*g:=by
 have can:∀ {x y:Int},x*g≤y*g→x≤y:=λ{x y} h=>VaI h (by omega)
 rcases hl with ⟨rfl,hz⟩ | ⟨rfl,hz1,hz2⟩
 ·simp only[Vau,List.not_mem_nil,or_false] at m1 x1
  have a1:=m2 (a^n*g) (by simp)
  have a2:=m2 (b^n*g) (by simp)
  have b1:=x2 (a^n*g) (by simp)
  have b2:=x2 (b^n*g) (by simp)
  obtain⟨m,hm,em⟩:∃m,(m=a^n∨m=b^n)∧mn=m*g:=by
   rcases m1 with e | e
   ·exact⟨_,.inl rfl,e⟩
   ·exact⟨_,.inr rfl,e⟩
  obtain⟨M,hM,eM⟩:∃m,(m=a^n∨m=b^n)∧mx=m*g:=by
   rcases x1 with e | e
   ·exact⟨_,.inl rfl,e⟩
   ·exact⟨_,.inr rfl,e⟩
  subst em eM
  exact⟨m,M,⟨hm.elim .inl λe=>.inr (.inl e),can a1,can a2,λc1 c2=>absurd ⟨c1,c2⟩ hz,hM,can b1,can b2⟩,rfl,rfl⟩
 ·rw[zkq hn,Vbb] at m1 m2 x1 x2
  simp only[Vau,List.not_mem_nil,or_false] at m1 x1
  have a1:=m2 (a^n*g) (by simp)
  have a2:=m2 (b^n*g) (by simp)
  have a3:=m2 0 (by simp)
  have b1:=x2 (a^n*g) (by simp)
  have b2:=x2 (b^n*g) (by simp)
  have b3:=x2 0 (by simp)
  obtain⟨m,hm,em⟩:∃m,(m=a^n∨m=b^n∨m=0)∧mn=m*g:=by
   rcases m1 with e | e | e
   ·exact⟨_,.inl rfl,e⟩
   ·exact⟨_,.inr (.inl rfl),e⟩
   ·exact⟨0,.inr (.inr rfl),by rw[e,Vbb]⟩
  have bp:(0:Int)≤b^n:=VaO (by omega)
  have bg:=Vaw bp (show 0≤g by omega)
  obtain⟨M,hM,eM⟩:∃m,(m=a^n∨m=b^n)∧mx=m*g:=by
   rcases x1 with e | e | e
   ·exact⟨_,.inl rfl,e⟩
   ·exact⟨_,.inr rfl,e⟩
   ·exact⟨_,.inr rfl,by omega⟩
  subst em eM
  refine⟨m,M,⟨?_,can a1,can a2,λ_ _=>can (by rw[Vbb]; exact a3),hM,can b1,can b2⟩,rfl,rfl⟩
  rcases hm with e | e | e
  ·exact .inl e
  ·exact .inr (.inl e)
  ·exact .inr (.inr ⟨hz1,hz2,e⟩)
theorem zfm {m g:Int}{n:Nat}(hg:1≤g)(hn:1≤n):m*g/g^n=m/g^(n-1):=by
 obtain⟨k,rfl⟩:∃k,n=k+1:=⟨n-1,by omega⟩
 rw[Vam,Nat.add_sub_cancel,Int.mul_ediv_mul_of_pos_left _ _ (by omega)]
def mn4 (a b c d:Int):Int:=min (min (a*c) (a*d)) (min (b*c) (b*d))
def mx4 (a b c d:Int):Int:=max (max (a*c) (a*d)) (max (b*c) (b*d))
theorem zfo.eq {a b c d mn mx:Int}(h:zfo a b c d mn mx):mn=mn4 a b c d∧mx=mx4 a b c d:=by
 obtain⟨h0,h1,h2,h3,h4,h5,h6,h7,h8,h9⟩:=h
 unfold mn4 mx4
 omega
def zaP (a b:Int)(n:Nat):Int:=if n%2=0∧a≤0∧0≤b then 0 else min (a^n) (b^n)
def za4 (a b:Int)(n:Nat):Int:=max (a^n) (b^n)
theorem zdJ {n:Nat}(h:n%2=0)(x:Int):0≤x^n:=by
 obtain⟨k,rfl⟩:∃k,n=k+k:=⟨n/2,by omega⟩
 rw[Int.pow_add]
 by_cases c:0≤x^k
 ·exact Vaw c c
 ·have:=Vaw (show 0≤-(x^k) by omega) (show 0≤-(x^k) by omega)
  rw[Int.neg_mul_neg] at this
  exact this
theorem zmp {n:Nat}(h:n%2=1){x:Int}(hx:x<0):x^n<0:=by
 obtain⟨k,rfl⟩:∃k,n=k+1:=⟨n-1,by omega⟩
 have z:=zdJ (n:=k) (by omega) x
 have nz:∀k:Nat,x^k≠0:=λk=>by
  induction k with
  | zero=>rw[VaZ]; decide
  | succ k ih=>rw[Vam]; exact Int.mul_ne_zero ih (by omega)
 have nz:=nz k
 have:=VaE (show 0<x^k by omega) (show 0 < -x by omega)
 rw[Int.mul_neg] at this
 rw[Vam]
 omega
theorem zdF.eq {a b m M:Int}{n:Nat}(h:zdF a b n m M)(hn:1≤n):m=zaP a b n∧M=za4 a b n:=by
 obtain⟨h0,h1,h2,h3,h4,h5,h6⟩:=h
 refine⟨?_,by unfold za4; omega⟩
 unfold zaP
 split
 ·rename_i c
  obtain⟨c1,c2,c3⟩:=c
  have e1:=zdJ c1 a
  have e2:=zdJ c1 b
  by_cases z:a<0∧0<b
  ·have:=h3 z.1 z.2
   omega
  ·have z':a=0∨b=0:=by omega
   rcases z' with rfl | rfl
   ·rw[zkq hn] at h1
    omega
   ·rw[zkq hn] at h2
    omega
 ·rename_i c
  have hz:a<0→0<b→m≠0:=λa1 b1 e=>by
   by_cases p:n%2=0
   ·exact c ⟨p,by omega,by omega⟩
   ·have:=zmp (n:=n) (by omega) a1
    omega
  omega
def Nd.fw (vs bs:List (Int×Int))(g:Int):Nd→Int×Int
 | .number t b=>(t*g/b,-(-(t*g)/b))
 | .unknown k=>gt bs k
 | .plus i j=>((gt vs i).1+(gt vs j).1,(gt vs i).2+(gt vs j).2)
 | .minus i j=>((gt vs i).1-(gt vs j).2,(gt vs i).2-(gt vs j).1)
 | .times i j=>(mn4 (gt vs i).1 (gt vs i).2 (gt vs j).1 (gt vs j).2/g,-(-mx4 (gt vs i).1 (gt vs i).2 (gt vs j).1 (gt vs j).2/g))
 | .power i n=>(zaP (gt vs i).1 (gt vs i).2 n.toNat/g^(n.toNat-1),-(-za4 (gt vs i).1 (gt vs i).2 n.toNat/g^(n.toNat-1)))
def Spn (B:Nat)(vs:List (Int×Int)):Prop:=∀p∈vs,p.1≤p.2∧Sz B p.1∧Sz B p.2
theorem Spn.at {B:Nat}{vs:List (Int×Int)}(h:Spn B vs){i:Int}(hi:inR vs.length i):(gt vs i).1≤(gt vs i).2∧Sz B (gt vs i).1∧Sz B (gt vs i).2:=h _ (zli hi)
theorem Spn.mono {B C:Nat}{vs:List (Int×Int)}(h:Spn B vs)(hc:B≤C):Spn C vs:=λp hp=>⟨(h p hp).1,(h p hp).2.1.mono hc,(h p hp).2.2.mono hc⟩
theorem zfX {m M g:Int}(hg:1≤g)(h:m≤M):m/g≤-(-M/g):=by
 have h1:=Int.ediv_mul_le m (show g≠0 by omega)
 have h2:=Int.ediv_mul_le (-M) (show g≠0 by omega)
 have:m/g*g≤-(-M/g)*g:=by rw[VaU]; omega
 exact VaI this (by omega)
theorem zpg (a b:Int)(n:Nat):zaP a b n≤za4 a b n:=by
 unfold zaP za4
 split
 ·rename_i c
  have:=zdJ c.1 a
  omega
 ·omega
theorem zp3 (a b c d:Int):mn4 a b c d≤mx4 a b c d:=by unfold mn4 mx4; omega
theorem Nd.fw_le {vs bs:List (Int×Int)}{g:Int}{B:Nat}(h1:Spn B vs)(h2:Spn B bs)(hg:1≤g):∀v:Nd,v.ok vs.length bs.length→(v.fw vs bs g).1≤(v.fw vs bs g).2
 | .number t b,ok=>zfX ok.1.1 (Vav _)
 | .unknown k,ok=>(h2.at ok).1
 | .plus i j,ok=>by
  have a:=(h1.at ok.1).1
  have b:=(h1.at ok.2).1
  show (gt vs i).1+(gt vs j).1≤(gt vs i).2+(gt vs j).2
  omega
 | .minus i j,ok=>by
  have a:=(h1.at ok.1).1
  have b:=(h1.at ok.2).1
  show (gt vs i).1-(gt vs j).2≤(gt vs i).2-(gt vs j).1
  omega
 | .times i j,ok=>zfX hg (zp3 _ _ _ _)
 | .power i n,ok=>zfX (VaJ (by omega)) (zpg _ _ _)
theorem zgV {a b:TDS}{E:zdh}{dl:Ev}{S:Sto}(W:Ev→Sto→Prop)(ha:∀nx:Ev→Sto→Prop,(∀dl' S',W dl' S'→nx dl' S')→a { nx:=nx,rt:=E.rt,bk:=E.bk,ct:=E.ct } dl S)(hb:∀dl' S',W dl' S'→b E dl' S'):zcJ a b E dl S:=ha _ hb
theorem zy8 {S:Sto}{Q:DK}{xs:List D}(hq:Q (.int (xs.length:Nat)) S):irr zea [.tup xs] S Q:=by
 rw[zdU]
 exact hq
theorem zjI {a b c:TDS}{E:zdh}{dl:Ev}{S:Sto}(W:Ev→Sto→Prop)(ha:∀nx:Ev→Sto→Prop,(∀dl' S',W dl' S'→nx dl' S')→zcJ a b { nx:=nx,rt:=E.rt,bk:=E.bk,ct:=E.ct } dl S)(hb:∀dl' S',W dl' S'→c E dl' S'):zcJ a (zcJ b c) E dl S:=ha _ hb
theorem zeu {n:Nat}{m g:Int}(h:Sz n m)(hg:1≤g):Sz n (-(-m/g)):=(h.neg.div hg).neg
theorem zdf {n:Nat}{a b:Int}(ha:Sz n a)(hb:Sz n b):Sz n (min a b):=by unfold Sz at *; omega
theorem zc5 {n:Nat}{a b:Int}(ha:Sz n a)(hb:Sz n b):Sz n (max a b):=by unfold Sz at *; omega
def Nd.wt (ws:List Nat):Nd→Nat
 | .number _ _=>1
 | .unknown _=>1
 | .plus i j=>ws.getD i.toNat 0+ws.getD j.toNat 0
 | .minus i j=>ws.getD i.toNat 0+ws.getD j.toNat 0
 | .times i j=>ws.getD i.toNat 0+ws.getD j.toNat 0
 | .power i n=>n.toNat*ws.getD i.toNat 0
structure zaH (q:Int)(ns:List Nd)(ws:List Nat):Prop where
 len:ws.length=ns.length
 ok:∀(k:Nat) (v:Nd),ns[k]?=some v→v.ok k q∧ws.getD k 0=v.wt ws∧1≤v.wt ws∧v.wt ws≤16
theorem zaH.w1 {q:Int}{ns:List Nd}{ws:List Nat}(h:zaH q ns ws){i:Int}(hi:inR ns.length i):1≤ws.getD i.toNat 0∧ws.getD i.toNat 0≤16:=by
 obtain⟨h0,h1⟩:=hi
 have hk:i.toNat<ns.length:=(by omega)
 obtain⟨_,e,a,b⟩:=h.ok i.toNat _ (Vac hk)
 omega
theorem zaH.w2 {q:Int}{ns:List Nd}{ws:List Nat}(h:zaH q ns ws):∀v:Nd,v.ok ns.length q→1≤v.wt ws∧v.wt ws≤96
 | .number _ _,_=>⟨Vaa 1,show 1≤96 by decide⟩
 | .unknown _,_=>⟨Vaa 1,show 1≤96 by decide⟩
 | .plus i j,ok=>by have a:=h.w1 ok.1; have b:=h.w1 ok.2; simp only[Nd.wt]; omega
 | .minus i j,ok=>by have a:=h.w1 ok.1; have b:=h.w1 ok.2; simp only[Nd.wt]; omega
 | .times i j,ok=>by have a:=h.w1 ok.1; have b:=h.w1 ok.2; simp only[Nd.wt]; omega
 | .power i n,ok=>by
  have a:=h.w1 ok.1
  have n2:=ok.2.1
  have n6:=ok.2.2
  have m1:=Va0 (show 1≤n.toNat by omega) a.1
  have m2:=Va0 (show n.toNat≤6 by omega) a.2
  simp only[Nd.wt]
  omega
theorem zrp {ws:List Nat}{w:Nat}{k:Nat}(h:k<ws.length):(ws++[w]).getD k 0=ws.getD k 0:=by
 rw[Vak,Vak,Val h]
theorem zrw {ws:List Nat}{w:Nat}{q:Int}{k:Nat}(hk:k≤ws.length):∀v:Nd,v.ok k q→v.wt (ws++[w])=v.wt ws:=by
 have e:∀i:Int,inR k i→(ws++[w]).getD i.toNat 0=ws.getD i.toNat 0:=λi hi=>zrp (by have a:=hi.1; have b:=hi.2; omega)
 intro v ok
 cases v with
 | number _ _=>rfl
 | unknown _=>rfl
 | plus i j=>show _+_=_+_; rw[e i ok.1,e j ok.2]
 | minus i j=>show _+_=_+_; rw[e i ok.1,e j ok.2]
 | times i j=>show _+_=_+_; rw[e i ok.1,e j ok.2]
 | power i n=>show _*_=_*_; rw[e i ok.1]
theorem zaH.snoc {q:Int}{ns:List Nd}{ws:List Nat}(h:zaH q ns ws){v:Nd}(ok:v.ok ns.length q)(h16:v.wt ws≤16):zaH q (ns++[v]) (ws++[v.wt ws]):=by
 refine⟨by simp[h.len],λk u hu=>?_⟩
 by_cases hk:k<ns.length
 ·rw[Val hk] at hu
  obtain⟨a,b,c,d⟩:=h.ok k u hu
  have e:=zrw (w:=v.wt ws) (q:=q) (k:=k) (by rw[h.len]; omega) u a
  rw[e,zrp (by rw[h.len]; exact hk)]
  exact⟨a,b,c,d⟩
 ·have hl:=(Vad.mp hu).1
  simp only[Vas,VaC,Vba] at hl
  have ek:k=ns.length:=by omega
  subst ek
  simp at hu
  subst hu
  have e:=zrw (w:=v.wt ws) (q:=q) (k:=ns.length) (by rw[h.len]; omega) v ok
  rw[e]
  refine⟨ok,?_,(h.w2 v ok).1,h16⟩
  rw[← h.len]
  simp
def zau (bs:List (Int×Int))(g:Int)(ns:List Nd):List (Int×Int):=ns.foldl (λacc v=>acc++[v.fw acc bs g]) []
theorem zh2 (bs:List (Int×Int))(g:Int)(ns:List Nd)(v:Nd):zau bs g (ns++[v])=zau bs g ns++[v.fw (zau bs g ns) bs g]:=by
 unfold zau
 rw[List.foldl_append]
 rfl
theorem zbU {α:Type}{xs:List α}{k:Nat}{x:α}(h:xs[k]?=some x):xs.take (k+1)=xs.take k++[x]:=by rw[Va9,h]; rfl
theorem zcp (bs:List (Int×Int))(g:Int)(ns:List Nd):(zau bs g ns).length=ns.length:=by
 have z:∀k,k≤ns.length→(zau bs g (ns.take k)).length=k:=λk=>by
  induction k with
  | zero=>intro _; rfl
  | succ k ih=>
   intro hk
   rw[zbU (Vac (show k<ns.length by omega)),zh2]
   simp[ih (by omega)]
 have:=z ns.length (Vaa _)
 rwa [VaA] at this
theorem zyu (bs:List (Int×Int))(g:Int)(ns:List Nd)(k:Nat):k≤ns.length→(zau bs g ns).take k=zau bs g (ns.take k):=by
 have z:∀m,k≤m→m≤ns.length→(zau bs g (ns.take m)).take k=zau bs g (ns.take k):=λm=>by
  induction m with
  | zero=>
   intro h1 _
   have:k=0:=by omega
   subst this
   rfl
  | succ m ih=>
   intro h1 h2
   by_cases e:k=m+1
   ·subst e
    rw[Vaz (by rw[zcp,Vao]; omega)]
   ·rw[zbU (Vac (show m<ns.length by omega)),zh2,List.take_append_of_le_length (by rw[zcp,Vao]; omega)]
    exact ih (by omega) (by omega)
 intro hk
 have:=z ns.length hk (Vaa _)
 rwa [VaA] at this
def SzW (ws:List Nat)(vs:List (Int×Int)):Prop:=∀(k:Nat) (p:Int×Int),vs[k]?=some p→p.1≤p.2∧Sz (60*ws.getD k 0-1) p.1∧Sz (60*ws.getD k 0-1) p.2
theorem SzW.at {ws:List Nat}{vs:List (Int×Int)}(h:SzW ws vs){i:Int}(hi:inR vs.length i):(gt vs i).1≤(gt vs i).2∧Sz (60*ws.getD i.toNat 0-1) (gt vs i).1∧Sz (60*ws.getD i.toNat 0-1) (gt vs i).2:=by
 obtain⟨h0,h1⟩:=hi
 have hk:i.toNat<vs.length:=by omega
 have e:gt vs i=vs[i.toNat]:=by simp[gt,hk]
 rw[e]
 exact h _ _ (Vac hk)
theorem fw_w {ws:List Nat}{vs bs:List (Int×Int)}{g:Int}(hs:SzW ws vs)(hb:Spn 51 bs)(hg:1≤g∧g≤1000000)(hw:∀i:Int,inR vs.length i→1≤ws.getD i.toNat 0):∀v:Nd,v.ok vs.length bs.length→Sz (60*v.wt ws-1) (v.fw vs bs g).1∧Sz (60*v.wt ws-1) (v.fw vs bs g).2
 | .number t b,ok=>by
  have z:Sz 52 (t*g):=(Sz.of (n:=31) (10^9) ok.2.2).mul (Sz.of (n:=21) (10^6) (show g.natAbs≤_ by omega))
  exact⟨(z.div ok.1.1).mono (show 52≤60*1-1 by decide),(zeu z ok.1.1).mono (show 52≤60*1-1 by decide)⟩
 | .unknown k,ok=>⟨(hb.at ok).2.1.mono (show 51≤60*1-1 by decide),(hb.at ok).2.2.mono (show 51≤60*1-1 by decide)⟩
 | .plus i j,ok=>by
  have a:=hs.at ok.1
  have b:=hs.at ok.2
  have p:=hw i ok.1
  have q:=hw j ok.2
  exact⟨(a.2.1.add b.2.1).mono (by simp only[Nd.wt]; omega),(a.2.2.add b.2.2).mono (by simp only[Nd.wt]; omega)⟩
 | .minus i j,ok=>by
  have a:=hs.at ok.1
  have b:=hs.at ok.2
  have p:=hw i ok.1
  have q:=hw j ok.2
  exact⟨(a.2.1.sub b.2.2).mono (by simp only[Nd.wt]; omega),(a.2.2.sub b.2.1).mono (by simp only[Nd.wt]; omega)⟩
 | .times i j,ok=>by
  have a:=hs.at ok.1
  have b:=hs.at ok.2
  have p:=hw i ok.1
  have q:=hw j ok.2
  have le:∀ {x y:Int},Sz (60*ws.getD i.toNat 0-1) x→Sz (60*ws.getD j.toNat 0-1) y→Sz (60*Nd.wt ws (.times i j)-1) (x*y):=λh1 h2=>(h1.mul h2).mono (by simp only[Nd.wt]; omega)
  have l:=zdf (zdf (le a.2.1 b.2.1) (le a.2.1 b.2.2)) (zdf (le a.2.2 b.2.1) (le a.2.2 b.2.2))
  have u:=zc5 (zc5 (le a.2.1 b.2.1) (le a.2.1 b.2.2)) (zc5 (le a.2.2 b.2.1) (le a.2.2 b.2.2))
  exact⟨l.div hg.1,zeu u hg.1⟩
 | .power i n,ok=>by
  have a:=hs.at ok.1
  have p:=hw i ok.1
  have n2:=ok.2.1
  have gp:(1:Int)≤g^(n.toNat-1):=VaJ (by omega)
  have hn:(60*ws.getD i.toNat 0-1)*n.toNat+1≤60*Nd.wt ws (.power i n)-1:=by
   simp only[Nd.wt]
   rw[Nat.sub_mul,Nat.one_mul]
   have e:60*ws.getD i.toNat 0*n.toNat=60*(n.toNat*ws.getD i.toNat 0):=by rw[Nat.mul_assoc,Nat.mul_comm (ws.getD i.toNat 0)]
   have m1:=Va0 (Vaa n.toNat) p
   omega
  have p1:Sz (60*Nd.wt ws (.power i n)-1) ((gt vs i).1^n.toNat):=(a.2.1.pow _).mono hn
  have p2:Sz (60*Nd.wt ws (.power i n)-1) ((gt vs i).2^n.toNat):=(a.2.2.pow _).mono hn
  have l:Sz (60*Nd.wt ws (.power i n)-1) (zaP (gt vs i).1 (gt vs i).2 n.toNat):=by
   unfold zaP
   split
   ·exact(Sz.of (n:=1) 0 (by decide)).mono (by have:=Va0 (show 1≤n.toNat by omega) p; simp only[Nd.wt]; omega)
   ·exact zdf p1 p2
  exact⟨l.div gp,zeu (zc5 p1 p2) gp⟩
theorem Spn.of_w {ws:List Nat}{vs:List (Int×Int)}(h:SzW ws vs)(hw:∀k:Nat,k<vs.length→ws.getD k 0≤16):Spn 1000 vs:=λp hp=>by
 obtain⟨k,hk,e⟩:=VaS.mp hp
 obtain⟨a,b,c⟩:=h k p (by rw[Vac hk,e])
 have:=hw k hk
 exact⟨a,b.mono (by omega),c.mono (by omega)⟩
theorem zpC {q:Int}{ns:List Nd}{ws:List Nat}{bs:List (Int×Int)}{g:Int}(h:zaH q ns ws)(hq:q=bs.length)(hb:Spn 51 bs)(hg:1≤g∧g≤1000000):∀k,k≤ns.length→SzW ws (zau bs g (ns.take k)):=λk=>by
 induction k with
 | zero=>intro _ i p hp; simp[zau] at hp
 | succ k ih=>
  intro hk
  have hv:=Vac (show k<ns.length by omega)
  have s:=ih (by omega)
  have ln:(zau bs g (ns.take k)).length=k:=by rw[zcp,Vao]; omega
  obtain⟨ok,e,_,_⟩:=h.ok k _ hv
  rw[zbU hv,zh2]
  have okv:(ns[k]).ok (zau bs g (ns.take k)).length bs.length:=by rw[ln,← hq]; exact ok
  have w1:∀i:Int,inR (zau bs g (ns.take k)).length i→1≤ws.getD i.toNat 0:=λi hi=>(h.w1 (i:=i) (by rw[ln] at hi; exact⟨hi.1,by have:=hi.2; omega⟩)).1
  have z:=fw_w s hb hg w1 ns[k] okv
  have l:((ns[k]).fw (zau bs g (ns.take k)) bs g).1≤((ns[k]).fw (zau bs g (ns.take k)) bs g).2:=by
   refine Nd.fw_le (B:=6000) ?_ (hb.mono (by decide)) hg.1 _ okv
   intro p hp
   obtain⟨i,hi,ei⟩:=VaS.mp hp
   obtain⟨a,b,c⟩:=s i p (by rw[Vac hi,ei])
   have:=(h.w1 (i:=i) ⟨by omega,by rw[ln] at hi; omega⟩).2
   rw[Vah] at this
   exact⟨a,b.mono (by omega),c.mono (by omega)⟩
  intro i p hp
  by_cases hi:i<k
  ·rw[Val (by rw[ln]; exact hi)] at hp
   exact s i p hp
  ·have hl:=(Vad.mp hp).1
   simp only[Vas,VaC,Vba,ln] at hl
   have ei:i=k:=by omega
   subst ei
   rw[VaF (by rw[ln]; exact Vaa _),ln,Vbg] at hp
   simp at hp
   subst hp
   rw[e]
   exact⟨l,z⟩
theorem zo1 {q:Int}{ns:List Nd}{ws:List Nat}{bs:List (Int×Int)}{g:Int}(h:zaH q ns ws)(hq:q=bs.length)(hb:Spn 51 bs)(hg:1≤g∧g≤1000000)(k:Nat)(hk:k≤ns.length):Spn 1000 (zau bs g (ns.take k)):=
 Spn.of_w (zpC h hq hb hg k hk) λi hi=>by
  rw[zcp,Vao] at hi
  have:=(h.w1 (i:=i) ⟨by omega,by omega⟩).2
  rwa [Vah] at this
theorem zeD {S T:Sto}{n:Nat}{o:Ob}(h:Pre S T)(hn:S.length≤n):Pre S (T.set n o):=λk u e=>by
 have hk:=(Vad.mp e).1
 rw[VaP (by omega)]
 exact h k u e
theorem zcP {S T:Sto}(h:Pre S T)(U:Sto):Pre S (T++U):=λk u e=>zaz (h k u e)
theorem zsg {to te:TDE}{dl:Ev}{S S1 S2:Sto}{Q:DK}{n:Nat}{xs:List D}{y:D}(hto:∀K:DK,K (.ref n) S1→to dl S K)(h:S1[n]?=some (.lst xs))(hte:∀K:DK,K y S2→te dl S1 K)(h2:S2[n]?=some (.lst xs))(hl:xs.length<1000)(hq:Q .non (S2.set n (.lst (xs++[y])))):zdk to te dl S Q:=by
 unfold zdk
 refine hto _ ?_
 simp only[h]
 refine hte _ ?_
 simp only[h2,if_pos hl]
 exact hq
theorem znG (u v:Nd):∃b,eqN 1 u.d v.d=some b:=by cases u <;> cases v <;> exact⟨_,rfl⟩
theorem zqO (u:Nd):eqN 1 u.d u.d=some true:=by cases u <;> simp[Nd.d,eqN,L3.eqT,eqL,eqF]
theorem zns (v:Nd):∀ns:List Nd,∃b,zbY (eqN 1) (ns.map Nd.d) v.d=some b
 | []=>⟨false,rfl⟩
 | u::us=>by
  obtain⟨b,e⟩:=znG u v
  obtain⟨c,e2⟩:=zns v us
  refine⟨b||c,?_⟩
  show (match eqN 1 u.d v.d,zbY (eqN 1) (us.map Nd.d) v.d with | some b,some c=>some (b||c) | _,_=>none)=_
  rw[e,e2]
theorem zrn:∀ns:List Nd,eqL (eqN 1) (ns.map Nd.d) (ns.map Nd.d)=some true
 | []=>rfl
 | u::us=>by
  show (match eqN 1 u.d u.d,eqL (eqN 1) (us.map Nd.d) (us.map Nd.d) with | some b,some c=>some (b&&c) | _,_=>none)=_
  rw[zqO,zrn us]
  rfl
def wtD (w:Nat):D:=.int (w:Int)
theorem zmr {ws:List Nat}{i:Int}(h:inR ws.length i):atI (ws.map wtD) i=some (.int ((ws.getD i.toNat 0:Nat):Int)):=by
 obtain⟨h0,h1⟩:=h
 have hk:i.toNat<ws.length:=by omega
 have z:=zd8 (xs:=ws.map wtD) (j:=i.toNat) (v:=wtD (ws.getD i.toNat 0)) (by rw[Vae,Vac hk]; simp[hk])
 rw[show ((i.toNat:Nat):Int)=i by omega] at z
 exact z
theorem zvn (q:Nat):zaH q ((List.range q).map λ(k:Nat)=>Nd.unknown (k:Int)) ((List.range q).map λ_=>1):=by
 refine⟨by simp,λk v hv=>?_⟩
 have hl:=(Vad.mp hv).1
 simp only[Vab,Vbh] at hl
 rw[Vae,Va5 hl] at hv
 cases hv
 refine⟨⟨by omega,by omega⟩,?_,Vaa _,show 1≤16 by decide⟩
 simp[Nd.wt,hl]
theorem zxr {u v:Nd}(h:eqN 1 u.d v.d=some true):u=v:=by
 cases u <;> cases v <;> simp[Nd.d,eqN,L3.eqT,eqL,eqF] at h
 all_goals first | (obtain⟨rfl,rfl⟩:=h; rfl) | (subst h; rfl) | exact absurd h.1 (by decide)
theorem zmH (v:Nd):∀ns:List Nd,∃o:Option Nat,zdd (eqN 1) (ns.map Nd.d) v.d=some o∧zbY (eqN 1) (ns.map Nd.d) v.d=some o.isSome∧∀j,o=some j→ns[j]?=some v
 | []=>⟨none,rfl,rfl,λj h=>by cases h⟩
 | u::us=>by
  obtain⟨b,e⟩:=znG u v
  obtain⟨o,h1,h2,h3⟩:=zmH v us
  have f1:zdd (eqN 1) ((u::us).map Nd.d) v.d=(match eqN 1 u.d v.d,zdd (eqN 1) (us.map Nd.d) v.d with | some true,some _=>some (some 0) | some false,some o=>some (o.map (·+1)) | _,_=>none):=rfl
  have f2:zbY (eqN 1) ((u::us).map Nd.d) v.d=(match eqN 1 u.d v.d,zbY (eqN 1) (us.map Nd.d) v.d with | some b,some c=>some (b||c) | _,_=>none):=rfl
  rw[f1,f2,e,h1,h2]
  cases b with
  | true=>exact⟨some 0,rfl,rfl,λj hj=>by
    cases hj
    rw[zxr e]
    rfl⟩
  | false=>exact⟨o.map (·+1),rfl,by cases o <;> rfl,λj hj=>by
    cases o with
    | none=>cases hj
    | some i=>
     cases hj
     exact h3 i rfl⟩
theorem zzb {v:Nd}{ns:List Nd}{n:Nat}{S:Sto}{Q:DK}{o:Option Nat}(h:S[n]?=some (.lst (ns.map Nd.d)))(e:zbY (eqN 1) (ns.map Nd.d) v.d=some o.isSome)(hq:Q (.bl o.isSome) S):zbN (wIn 1 false) v.d (.ref n) S Q:=by
 rw[zb8]
 unfold wIn
 simp only[zaU h rfl,zao,e]
 exact hq
theorem zn7 {v:Nd}{ns:List Nd}{n j:Nat}{to:TDE}{t:TDA}{dl:Ev}{S:Sto}{Q:DK}(hto:∀K:DK,K (.ref n) S→to dl S K)(ht:∀K:List D→Sto→Prop,K [v.d] S→t dl S K)(h:S[n]?=some (.lst (ns.map Nd.d)))(e:zdd (eqN 1) (ns.map Nd.d) v.d=some (some j))(hq:Q (.int (j:Int)) S):zi5 1 to t dl S Q:=by
 unfold zi5
 refine hto _ ⟨by rw[zaU h rfl]; rfl,ht _ ?_⟩
 unfold zi8
 simp only[zaU h rfl,zao,e]
 exact hq
theorem zgm {caps:List Nat}{ta:TDA}{te:TDE}{dl:Ev}{S S1:Sto}{Q:DK}{n n':Nat}{xs ys:List D}(g:D→D→D)(hta:∀K:List D→Sto→Prop,K [.ref n,.ref n'] S1→ta dl S K)(h1:S1[n]?=some (.lst xs))(h2:S1[n']?=some (.lst ys))(hl:xs.length≤1000)
  (ht:∀(k:Nat) (x y:D),xs[k]?=some x→ys[k]?=some y→∀(S2:Sto) (K:DK),Pre S1 S2→K (g x y) S2→te (some x::some y::zbv caps dl) S2 K)(hq:Q (.ref S1.length) (S1++[.lst (List.zipWith g xs ys)])):zey caps ta te dl S Q:=by
 unfold zey
 refine hta _ ⟨⟨by rw[zaU h1 rfl]; rfl,by rw[zaU h2 rfl]; rfl⟩,λk m S2=>S2=S1++[.lst (List.zipWith g (xs.take k) (ys.take k))]∧m+k=min xs.length ys.length,⟨min xs.length ys.length,by simp,by omega⟩,?_⟩
 rintro k m S2 ⟨rfl,hm⟩
 rw[zaU (zcV h1) rfl,zaU (zcV h2) rfl]
 dsimp only[zao]
 split
 ·rename_i x y hx hy
  have hk:k<xs.length:=(Vad.mp hx).1
  have hk':k<ys.length:=(Vad.mp hy).1
  unfold zlm
  refine ht k x y hx hy _ _ Pre.refl.push ?_
  rw[zav]
  refine⟨by simp; omega,m-1,by omega,?_,by omega⟩
  have e:xs.take (k+1)=xs.take k++[x]:=by rw[Va9,hx]; rfl
  have e':ys.take (k+1)=ys.take k++[y]:=by rw[Va9,hy]; rfl
  rw[e,e',List.zipWith_append (by rw[Vao,Vao]; omega),zgl]
  rfl
 ·rename_i no
  have hk:min xs.length ys.length≤k:=by
   by_cases l:k<min xs.length ys.length
   ·exact absurd (Vac (l:=ys) (i:=k) (by omega)) (no _ _ (Vac (l:=xs) (i:=k) (by omega)))
   ·omega
  refine⟨by omega,?_⟩
  have e:List.zipWith g (xs.take k) (ys.take k)=List.zipWith g xs ys:=by
   rw[← List.take_zipWith,Vaz (by rw[List.length_zipWith]; exact hk)]
  rw[e]
  exact hq
theorem zuD {vs:List (Int×Int)}{k:Nat}{i:Int}(h:inR k i):gt (vs.take k) i=gt vs i:=by
 have:=h.1
 have:=h.2
 unfold gt
 rw[Vak,Vak,List.getElem?_take_of_lt (by omega)]
theorem zw2 {vs us:List (Int×Int)}{k:Nat}{i:Int}(h:inR k i)(hk:k≤vs.length):gt (vs++us) i=gt vs i:=by
 have:=h.1
 have:=h.2
 unfold gt
 rw[Vak,Vak,Val (by omega)]
theorem zdQ {vs:List (Int×Int)}{k:Nat}{p:Int×Int}(h:vs[k]?=some p):gt vs (k:Int)=p:=by
 unfold gt
 rw[Vak,Vah,h]
 rfl
theorem Sz.pow' {n:Nat}{i:Int}(h:Sz n i){k:Nat}(hk:1≤k):Sz (n*k) (i^k):=by
 unfold Sz at *
 rw[Int.natAbs_pow,Nat.pow_mul]
 exact Nat.pow_lt_pow_left h (by omega)
theorem SzW.spn {ws:List Nat}{vs:List (Int×Int)}(h:SzW ws vs)(hw:∀k:Nat,k<vs.length→ws.getD k 0≤16):Spn 1000 vs:=Spn.of_w h hw
theorem zqJ {caps:List Nat}{tl te:TDE}{dl:Ev}{S S1:Sto}{Q:DK}{n:Nat}{o:Ob}(W:Nat→List D→Sto→Prop)(htl:∀K:DK,K (.ref n) S1→tl dl S K)(h1:S1[n]?=some o)(hw:∀k ys S2,W k ys S2→S2[n]?=some o∧S2[S1.length]?=some (.lst ys)∧ys.length=k)(hl:(zao o).length≤1000)(h0:W 0 [] (S1++[.lst []]))
  (ht:∀(k:Nat) (x:D) (ys:List D) (S2:Sto) (K:DK),(zao o)[k]?=some x→W k ys S2→(∀y S3,S3[S1.length]?=some (.lst ys)→W (k+1) (ys++[y]) (S3.set S1.length (.lst (ys++[y])))→K y S3)→te (some x::zbv caps dl) S2 K)
  (hq:∀ys S2,W (zao o).length ys S2→Q (.ref S1.length) S2)(hL:zbX o=some o:=by rfl):zcy caps tl zb6 te dl S Q:=by
 unfold zcy
 refine htl _ ⟨by rw[zaU h1 hL]; rfl,λk m S2=>(∃ys,W k ys S2)∧m+k=(zao o).length,⟨(zao o).length,⟨_,h0⟩,by omega⟩,?_⟩
 rintro k m S2 ⟨⟨ys,w⟩,hm⟩
 obtain⟨w1,w2,w3⟩:=hw _ _ _ w
 rw[zaU w1 hL]
 dsimp only
 split
 ·rename_i x hx
  have hk:k<(zao o).length:=(Vad.mp hx).1
  unfold zc7 zb6
  simp only[if_true]
  refine ht k x ys S2 _ hx w λy S3 e3 w4=>?_
  rw[e3]
  exact⟨by omega,m-1,by omega,⟨_,w4⟩,by omega⟩
 ·rename_i hx
  have hk:k=(zao o).length:=by
   have:=Va3.mp hx
   omega
  exact hq ys S2 (hk ▸ w)
theorem zxZ {caps:List Nat}{ta:TDA}{te:TDE}{dl:Ev}{S S1:Sto}{Q:DK}{j:Int}(W:Nat→List D→Sto→Prop)(hta:∀K:List D→Sto→Prop,K [.int j] S1→ta dl S K)(hj:0≤j∧j≤1000)(hw:∀k ys S2,W k ys S2→S2[S1.length]?=some (.lst ys)∧ys.length=k)(h0:W 0 [] (S1++[.lst []]))
  (ht:∀(k:Nat) (ys:List D) (S2:Sto) (K:DK),k<j.toNat→W k ys S2→(∀y S3,S3[S1.length]?=some (.lst ys)→W (k+1) (ys++[y]) (S3.set S1.length (.lst (ys++[y])))→K y S3)→te (some (.int (k:Int))::zbv caps dl) S2 K)
  (hq:∀ys S2,W j.toNat ys S2→Q (.ref S1.length) S2):zcX caps ta zb6 te dl S Q:=by
 unfold zcX
 refine hta _ ⟨⟨by omega,by omega⟩,λk S2=>k≤j.toNat∧∃ys,W k ys S2,⟨Vaj _,_,h0⟩,?_⟩
 rintro k S2 ⟨hk,ys,w⟩
 obtain⟨w2,w3⟩:=hw _ _ _ w
 split
 ·rename_i c
  unfold zc7 zb6
  simp only[if_true]
  refine ht k ys S2 _ c w λy S3 e3 w4=>?_
  rw[e3]
  exact⟨by omega,by omega,_,w4⟩
 ·rename_i c
  have hk:k=j.toNat:=by omega
  exact hq ys S2 (hk ▸ w)
theorem zq4 {S T:Sto}{n:Nat}{o:Ob}(h:Pre S T)(hn:S.length≤n):Pre S (T.set n o):=λk u e=>by
 have l:=(Vad.mp e).1
 rw[VaP (by omega)]
 exact h k u e
theorem zyQ {X:Cx}{Z:Zx}{j:Nat}(hr:zaT j X.A):OpR X (compareOp .NotEq) (upO X.K Z (zbN znd)):=by rw[zb8]; exact zr0 hr
theorem zqg {n m:Nat}{S:Sto}{Q:DK}{ds es:List D}(h1:S[n]?=some (.lst ds))(h2:S[m]?=some (.lst es))(hl:ds.length=es.length)(hk:∀(k:Nat) (d e:D),ds[k]?=some d→es[k]?=some e→∃a b xs ys,d=.ref a∧e=.ref b∧S[a]?=some (.lst xs)∧S[b]?=some (.lst ys)∧eqL (eqN 1) xs ys=some true)(hq:Q (.bl false) S):zbN znd (.ref n) (.ref m) S Q:=by
 rw[zb8]
 exact⟨⟨ds,es,h1,h2,hl,hk⟩,hq⟩
theorem zfP {S T:Sto}(h:Pre S T):S.length≤T.length:=by
 rcases Nat.eq_zero_or_pos S.length with e | e
 ·omega
 ·have z:=h (S.length-1) _ (Vac (show S.length-1<S.length by omega))
  have:=(Vad.mp z).1
  omega
theorem zid {to te:TDE}{dl:Ev}{S:Sto}{Q:DK}{n:Nat}{xs:List D}(hto:∀K:DK,K (.ref n) S→to dl S K)(h:S[n]?=some (.lst xs))(hte:∀K:DK,(∀(y:D) (S2:Sto),S2[n]?=some (.lst xs)→Q .non (S2.set n (.lst (xs++[y])))→K y S2)→te dl S K)(hl:xs.length<1000):zdk to te dl S Q:=by
 unfold zdk
 refine hto _ ?_
 simp only[h]
 refine hte _ λy S2 h2 q=>?_
 simp only[h2,if_pos hl]
 exact q
def za2 (S:Sto)(lo:Nat)(ds:List D)(R:List (List (Int×Int))):Prop:=ds.length=R.length∧∀(k:Nat) (d:D) (r:List (Int×Int)),ds[k]?=some d→R[k]?=some r→∃a,d=.ref a∧lo≤a∧S[a]?=some (.lst (r.map frD))
theorem za2.nil {S:Sto}{lo:Nat}:za2 S lo [] []:=⟨rfl,λk d r h=>by simp at h⟩
theorem za2.pre {S T:Sto}{lo:Nat}{ds:List D}{R:List (List (Int×Int))}(h:za2 S lo ds R)(p:Pre S T):za2 T lo ds R:=⟨h.1,λk d r hd hr=>by
 obtain⟨a,e,l,s⟩:=h.2 k d r hd hr
 exact⟨a,e,l,p _ _ s⟩⟩
theorem za2.low {S:Sto}{lo lo':Nat}{ds:List D}{R:List (List (Int×Int))}(h:za2 S lo ds R)(l:lo'≤lo):za2 S lo' ds R:=⟨h.1,λk d r hd hr=>by
 obtain⟨a,e,l,s⟩:=h.2 k d r hd hr
 exact⟨a,e,by omega,s⟩⟩
theorem za2.keep {S T:Sto}{lo:Nat}{ds:List D}{R:List (List (Int×Int))}(h:za2 S lo ds R)(p:∀(x:Nat) (o:Ob),lo≤x→S[x]?=some o→T[x]?=some o):za2 T lo ds R:=⟨h.1,λk d r hd hr=>by
 obtain⟨a,e,l,s⟩:=h.2 k d r hd hr
 exact⟨a,e,l,p _ _ l s⟩⟩
theorem za2.at {S:Sto}{lo:Nat}{ds:List D}{R:List (List (Int×Int))}(h:za2 S lo ds R){i:Int}(hi:inR R.length i):∃a,atI ds i=some (.ref a)∧lo≤a∧S[a]?=some (.lst ((R.getD i.toNat []).map frD)):=by
 obtain⟨h0,h1⟩:=hi
 have hk:i.toNat<R.length:=by omega
 have hk':i.toNat<ds.length:=by rw[h.1]; exact hk
 obtain⟨a,e,l,s⟩:=h.2 i.toNat _ _ (Vac hk') (Vac hk)
 refine⟨a,?_,l,?_⟩
 ·have z:=zd8 (xs:=ds) (j:=i.toNat) (v:=.ref a) (by rw[Vac hk',e])
  rw[show ((i.toNat:Nat):Int)=i by omega] at z
  exact z
 ·rw[s]
  simp[hk]
theorem za2.snoc {S:Sto}{lo:Nat}{ds:List D}{R:List (List (Int×Int))}{a:Nat}{r:List (Int×Int)}(h:za2 S lo ds R)(hl:lo≤a)(hs:S[a]?=some (.lst (r.map frD))):za2 S lo (ds++[.ref a]) (R++[r]):=⟨by rw[Vas,Vas,h.1]; rfl,λk d r' hd hr=>by
 by_cases hk:k<ds.length
 ·rw[Val hk] at hd
  rw[Val (by rw[← h.1]; exact hk)] at hr
  exact h.2 k d r' hd hr
 ·have l:=(Vad.mp hd).1
  simp only[Vas,VaC,Vba] at l
  have ek:k=ds.length:=by omega
  subst ek
  rw[VaF (Vaa _),Vbg] at hd
  rw[h.1,VaF (Vaa _),Vbg] at hr
  cases hd
  cases hr
  exact⟨a,rfl,hl,hs⟩⟩
abbrev gs (sl:List (List (Int×Int)))(i:Int)(l:Nat):Int×Int:=(sl.getD i.toNat []).getD l (0,0)
def zaX (p q:Int×Int)(g:Int):Int×Int:=(mn4 p.1 p.2 q.1 q.2/g,-(-mx4 p.1 p.2 q.1 q.2/g))
def zbw (p:Int×Int)(n g:Int):Int×Int:=(zaP p.1 p.2 (n-1).toNat/g^((n-1).toNat-1)*n,-(-za4 p.1 p.2 (n-1).toNat/g^((n-1).toNat-1))*n)
def Nd.sl (vs:List (Int×Int))(sl:List (List (Int×Int)))(g:Int)(l:Nat):Nd→Int×Int
 | .number _ _=>(0,0)
 | .unknown k=>if (l:Int)=k then (g,g) else (0,0)
 | .plus i j=>((gs sl i l).1+(gs sl j l).1,(gs sl i l).2+(gs sl j l).2)
 | .minus i j=>((gs sl i l).1-(gs sl j l).2,(gs sl i l).2-(gs sl j l).1)
 | .times i j=>((zaX (gt vs i) (gs sl j l) g).1+(zaX (gt vs j) (gs sl i l) g).1,(zaX (gt vs i) (gs sl j l) g).2+(zaX (gt vs j) (gs sl i l) g).2)
 | .power i n=>zaX (zbw (gt vs i) n g) (gs sl i l) g
def zbd (vs:List (Int×Int))(sl:List (List (Int×Int)))(g:Int)(q:Nat)(v:Nd):List (Int×Int):=(List.range q).map λl=>v.sl vs sl g l
theorem zxi {vs:List (Int×Int)}{sl:List (List (Int×Int))}{g:Int}{q:Nat}{v:Nd}:(zbd vs sl g q v).length=q:=by simp[zbd]
theorem zyW {α:Type}(f:Int×Int→α)(r:List (Int×Int)){q:Nat}(h:r.length=q):r.map f=(List.range q).map λl=>f (r.getD l (0,0)):=by
 subst h
 refine Vbc λk=>?_
 by_cases hk:k<r.length
 ·rw[Vae,Vae,Va5 hk,Vac hk]
  simp[hk]
 ·rw[VaK (by simpa using hk),VaK (by simpa using hk)]
theorem zob {α:Type}(f:Int×Int→Int×Int→α)(r s:List (Int×Int)){q:Nat}(h:r.length=q)(h':s.length=q):List.zipWith f r s=(List.range q).map λl=>f (r.getD l (0,0)) (s.getD l (0,0)):=by
 subst h
 refine Vbc λk=>?_
 by_cases hk:k<r.length
 ·rw[List.getElem?_zipWith,Vae,Va5 hk,Vac hk,Vac (show k<s.length by omega)]
  simp[hk,show k<s.length by omega]
 ·rw[VaK (by rw[List.length_zipWith]; omega),VaK (by simpa using hk)]
theorem zsI (x:D)(q:Nat):(List.replicate q [x]).flatten=(List.range q).map λ_=>x:=by
 refine Vbc λk=>?_
 have l:(List.replicate q [x]).flatten=List.replicate q x:=by
  induction q with
  | zero=>rfl
  | succ q ih=>rw[Va8,Vbf,ih]; rfl
 rw[l]
 by_cases hk:k<q
 ·rw[Vae,Va5 hk,List.getElem?_replicate,if_pos hk]
  rfl
 ·rw[VaK (by simpa using hk),VaK (by simpa using hk)]
theorem zjv (p q:Int×Int){g:Int}(hg:1≤g):(zaX p q g).1≤(zaX p q g).2:=zfX hg (zp3 _ _ _ _)
theorem zsw (p:Int×Int){n g:Int}(hn:0≤n)(hg:1≤g):(zbw p n g).1≤(zbw p n g).2:=Vaf (zfX (VaJ (by omega)) (zpg _ _ _)) hn
def zaS (vs:List (Int×Int))(g:Int)(q:Nat)(ns:List Nd):List (List (Int×Int)):=ns.foldl (λacc v=>acc++[zbd vs acc g q v]) []
theorem zmT (vs:List (Int×Int))(g:Int)(q:Nat)(ns:List Nd)(v:Nd):zaS vs g q (ns++[v])=zaS vs g q ns++[zbd vs (zaS vs g q ns) g q v]:=by
 unfold zaS
 rw[List.foldl_append]
 rfl
theorem zfa (vs:List (Int×Int))(g:Int)(q:Nat)(ns:List Nd):(zaS vs g q ns).length=ns.length:=by
 have z:∀k,k≤ns.length→(zaS vs g q (ns.take k)).length=k:=λk=>by
  induction k with
  | zero=>intro _; rfl
  | succ k ih=>
   intro hk
   rw[zbU (Vac (show k<ns.length by omega)),zmT]
   simp[ih (by omega)]
 have:=z ns.length (Vaa _)
 rwa [VaA] at this
def SlW (q:Nat)(ws:List Nat)(sl:List (List (Int×Int))):Prop:=∀(k:Nat) (r:List (Int×Int)),sl[k]?=some r→r.length=q∧∀p∈r,p.1≤p.2∧Sz (64*ws.getD k 0-1) p.1∧Sz (64*ws.getD k 0-1) p.2
theorem SlW.at {q:Nat}{ws:List Nat}{sl:List (List (Int×Int))}(h:SlW q ws sl){i:Int}(hi:inR sl.length i):(sl.getD i.toNat []).length=q∧∀l,l<q→(gs sl i l).1≤(gs sl i l).2∧Sz (64*ws.getD i.toNat 0-1) (gs sl i l).1∧Sz (64*ws.getD i.toNat 0-1) (gs sl i l).2:=by
 obtain⟨h0,h1⟩:=hi
 have hk:i.toNat<sl.length:=by omega
 obtain⟨a,b⟩:=h i.toNat _ (Vac hk)
 have e:sl.getD i.toNat []=sl[i.toNat]:=by simp[hk]
 refine⟨by rw[e]; exact a,λl hl=>?_⟩
 have e2:gs sl i l=sl[i.toNat][l]'(by rw[a]; exact hl):=by
  unfold gs
  rw[e]
  simp[show l<sl[i.toNat].length by rw[a]; exact hl]
 rw[e2]
 exact b _ (VaM _)
theorem SlW.snoc {q:Nat}{ws:List Nat}{sl:List (List (Int×Int))}{r:List (Int×Int)}(h:SlW q ws sl)(hr:r.length=q)(hp:∀p∈r,p.1≤p.2∧Sz (64*ws.getD sl.length 0-1) p.1∧Sz (64*ws.getD sl.length 0-1) p.2):SlW q ws (sl++[r]):=λk u hu=>by
 by_cases hk:k<sl.length
 ·rw[Val hk] at hu
  exact h k u hu
 ·have l:=(Vad.mp hu).1
  simp only[Vas,VaC,Vba] at l
  have ek:k=sl.length:=by omega
  subst ek
  rw[VaF (Vaa _),Vbg] at hu
  cases hu
  exact⟨hr,hp⟩
theorem zlY {m n:Nat}{p q:Int×Int}{g:Int}(hg:1≤g)(h1:Sz m p.1)(h2:Sz m p.2)(h3:Sz n q.1)(h4:Sz n q.2):Sz (m+n) (zaX p q g).1∧Sz (m+n) (zaX p q g).2:=
 ⟨(zdf (zdf (h1.mul h3) (h1.mul h4)) (zdf (h2.mul h3) (h2.mul h4))).div hg,zeu (zc5 (zc5 (h1.mul h3) (h1.mul h4)) (zc5 (h2.mul h3) (h2.mul h4))) hg⟩
theorem zxV:∀n:Nat,2≤n→n≤6→n≤2^(n-1):=λn h1 h2=>by
 have:n=2∨n=3∨n=4∨n=5∨n=6:=by omega
 rcases this with rfl | rfl | rfl | rfl | rfl <;> decide
theorem ziX {m e:Nat}{x n:Int}(h:Sz m x)(hn:n.natAbs≤2^e)(hp:1≤n.natAbs):Sz (m+e) (x*n):=by
 unfold Sz at *
 rw[Nat.pow_add,VaY]
 exact Nat.mul_lt_mul_of_lt_of_le h hn (VaN (by decide))
theorem zwy {m:Nat}{p:Int×Int}{n g:Int}(hg:1≤g)(n2:2≤n)(n6:n≤6)(h1:Sz m p.1)(h2:Sz m p.2):Sz (m*(n.toNat-1)+(n.toNat-1)) (zbw p n g).1∧Sz (m*(n.toNat-1)+(n.toNat-1)) (zbw p n g).2:=by
 have en:(n-1).toNat=n.toNat-1:=by omega
 have gp:(1:Int)≤g^((n-1).toNat-1):=VaJ (by omega)
 have p1:Sz (m*(n.toNat-1)) (p.1^(n-1).toNat):=by rw[en]; exact Sz.pow' h1 (by omega)
 have p2:Sz (m*(n.toNat-1)) (p.2^(n-1).toNat):=by rw[en]; exact Sz.pow' h2 (by omega)
 have lo:Sz (m*(n.toNat-1)) (zaP p.1 p.2 (n-1).toNat):=by
  unfold zaP
  split
  ·show (0:Int).natAbs<_
   exact VaN (by decide)
  ·exact zdf p1 p2
 have nb:n.natAbs≤2^(n.toNat-1):=by
  have:=zxV n.toNat (by omega) (by omega)
  omega
 exact⟨ziX (lo.div gp) nb (by omega),ziX (zeu (zc5 p1 p2) gp) nb (by omega)⟩
theorem sl_ok {q:Nat}{ws:List Nat}{vs:List (Int×Int)}{sl:List (List (Int×Int))}{g:Int}(hs:SzW ws vs)(hl:SlW q ws sl)(hg:1≤g∧g≤1000000)(hv:sl.length≤vs.length)(hw:∀i:Int,inR vs.length i→1≤ws.getD i.toNat 0){l:Nat}(hq:l<q):∀v:Nd,v.ok sl.length q→1≤v.wt ws→(v.sl vs sl g l).1≤(v.sl vs sl g l).2∧Sz (64*v.wt ws-2) (v.sl vs sl g l).1∧Sz (64*v.wt ws-2) (v.sl vs sl g l).2
 | .number t b,ok,h1=>⟨Vav _,by show Sz _ 0; exact VaN (by decide),by show Sz _ 0; exact VaN (by decide)⟩
 | .unknown k,ok,h1=>by
  have sg:Sz (64*Nd.wt ws (.unknown k)-2) g:=(Sz.of (n:=21) (10^6) (show g.natAbs≤_ by omega)).mono (by show 21≤64*1-2; decide)
  show (if (l:Int)=k then (g,g) else (0,0)).1≤(if (l:Int)=k then (g,g) else (0,0)).2∧Sz _ (if (l:Int)=k then (g,g) else (0,0)).1∧Sz _ (if (l:Int)=k then (g,g) else (0,0)).2
  split
  ·exact⟨Vav _,sg,sg⟩
  ·exact⟨Vav _,VaN (by decide),VaN (by decide)⟩
 | .plus i j,ok,h1=>by
  have a:=(hl.at ok.1).2 l hq
  have b:=(hl.at ok.2).2 l hq
  have p:=hw i ⟨ok.1.1,by have:=ok.1.2; omega⟩
  have q:=hw j ⟨ok.2.1,by have:=ok.2.2; omega⟩
  refine⟨?_,(a.2.1.add b.2.1).mono (by simp only[Nd.wt]; omega),(a.2.2.add b.2.2).mono (by simp only[Nd.wt]; omega)⟩
  show (gs sl i l).1+(gs sl j l).1≤(gs sl i l).2+(gs sl j l).2
  omega
 | .minus i j,ok,h1=>by
  have a:=(hl.at ok.1).2 l hq
  have b:=(hl.at ok.2).2 l hq
  have p:=hw i ⟨ok.1.1,by have:=ok.1.2; omega⟩
  have q:=hw j ⟨ok.2.1,by have:=ok.2.2; omega⟩
  refine⟨?_,(a.2.1.sub b.2.2).mono (by simp only[Nd.wt]; omega),(a.2.2.sub b.2.1).mono (by simp only[Nd.wt]; omega)⟩
  show (gs sl i l).1-(gs sl j l).2≤(gs sl i l).2-(gs sl j l).1
  omega
 | .times i j,ok,h1=>by
  have oi:inR vs.length i:=⟨ok.1.1,by have:=ok.1.2; omega⟩
  have oj:inR vs.length j:=⟨ok.2.1,by have:=ok.2.2; omega⟩
  have a:=(hl.at ok.1).2 l hq
  have b:=(hl.at ok.2).2 l hq
  have c:=hs.at oi
  have d:=hs.at oj
  have p:=hw i oi
  have q:=hw j oj
  have z1:=zlY hg.1 c.2.1 c.2.2 b.2.1 b.2.2
  have z2:=zlY hg.1 d.2.1 d.2.2 a.2.1 a.2.2
  refine⟨?_,(z1.1.add z2.1).mono (by simp only[Nd.wt]; omega),(z1.2.add z2.2).mono (by simp only[Nd.wt]; omega)⟩
  have m1:=zjv (gt vs i) (gs sl j l) hg.1
  have m2:=zjv (gt vs j) (gs sl i l) hg.1
  show (zaX (gt vs i) (gs sl j l) g).1+(zaX (gt vs j) (gs sl i l) g).1≤(zaX (gt vs i) (gs sl j l) g).2+(zaX (gt vs j) (gs sl i l) g).2
  omega
 | .power i n,ok,h1=>by
  have oi:inR vs.length i:=⟨ok.1.1,by have:=ok.1.2; omega⟩
  have a:=(hl.at ok.1).2 l hq
  have c:=hs.at oi
  have p:=hw i oi
  have n2:=ok.2.1
  have f:=zwy hg.1 ok.2.1 ok.2.2 c.2.1 c.2.2
  have z:=zlY hg.1 f.1 f.2 a.2.1 a.2.2
  have hn:(60*ws.getD i.toNat 0-1)*(n.toNat-1)+(n.toNat-1)+(64*ws.getD i.toNat 0-1)≤64*Nd.wt ws (.power i n)-2:=by
   simp only[Nd.wt]
   generalize ws.getD i.toNat 0=w at p
   obtain⟨k,hk⟩:∃k,n.toNat=k+2:=⟨n.toNat-2,by omega⟩
   rw[hk,show k+2-1=k+1 by omega,Nat.sub_mul,Nat.one_mul]
   have e1:60*w*(k+1)=60*(k*w)+60*w:=by rw[Nat.mul_add,Nat.mul_one,Nat.mul_assoc,Nat.mul_comm w k]
   have e2:(k+2)*w=k*w+2*w:=Nat.add_mul ..
   have e3:k+1≤60*w*(k+1):=Nat.le_mul_of_pos_left _ (by omega)
   rw[e2]
   omega
  exact⟨zjv _ _ hg.1,z.1.mono hn,z.2.mono hn⟩
theorem zpF {q:Nat}{ns:List Nd}{ws:List Nat}{vs:List (Int×Int)}{g:Int}(h:zaH q ns ws)(hs:SzW ws vs)(hv:vs.length=ns.length)(hg:1≤g∧g≤1000000):∀k,k≤ns.length→SlW q ws (zaS vs g q (ns.take k)):=λk=>by
 induction k with
 | zero=>intro _ i p hp; simp[zaS] at hp
 | succ k ih=>
  intro hk
  have hv':=Vac (show k<ns.length by omega)
  have s:=ih (by omega)
  have ln:(zaS vs g q (ns.take k)).length=k:=by rw[zfa,Vao]; omega
  obtain⟨ok,e,p1,_⟩:=h.ok k _ hv'
  rw[zbU hv',zmT]
  refine s.snoc zxi λp hp=>?_
  obtain⟨l,hl,rfl⟩:=Vag.mp hp
  have z:=sl_ok hs s hg (by omega) (λi hi=>(h.w1 (by rw[← hv]; exact hi)).1) (Va1.mp hl) ns[k] (by rw[ln]; exact ok) p1
  rw[ln,e]
  exact⟨z.1,z.2.1.mono (by omega),z.2.2.mono (by omega)⟩
theorem zqf {q:Int}{ns:List Nd}{ws:List Nat}{bs:List (Int×Int)}{g:Int}(h:zaH q ns ws)(hq:q=bs.length)(hb:Spn 51 bs)(hg:1≤g∧g≤1000000):SzW ws (zau bs g ns):=by
 have z:=zpC h hq hb hg ns.length (Vaa _)
 rwa [VaA] at z
theorem SlW.spn {q:Nat}{ws:List Nat}{sl:List (List (Int×Int))}(h:SlW q ws sl)(hw:∀k:Nat,k<sl.length→ws.getD k 0≤16):∀i:Int,inR sl.length i→(sl.getD i.toNat []).length=q∧∀l,l<q→(gs sl i l).1≤(gs sl i l).2∧Sz 1100 (gs sl i l).1∧Sz 1100 (gs sl i l).2:=λi hi=>by
 obtain⟨a,b⟩:=h.at hi
 refine⟨a,λl hl=>?_⟩
 obtain⟨c,d,e⟩:=b l hl
 have:=hw i.toNat (by have:=hi.1; have:=hi.2; omega)
 exact⟨c,d.mono (by omega),e.mono (by omega)⟩
theorem zhn {caps:List Nat}{ta:TDA}{te:TDE}{dl:Ev}{S S1:Sto}{Q:DK}{n:Nat}{xs:List D}(g:Nat→D→D)(hta:∀K:List D→Sto→Prop,K [.ref n] S1→ta dl S K)(h1:S1[n]?=some (.lst xs))(hl:xs.length≤1000)
  (ht:∀(k:Nat) (x:D),xs[k]?=some x→∀(S2:Sto) (K:DK),Pre S1 S2→K (g k x) S2→te (some (.int (k:Int))::some x::zbv caps dl) S2 K)(hq:Q (.ref S1.length) (S1++[.lst (xs.mapIdx g)])):zgn caps ta te dl S Q:=by
 unfold zgn
 refine hta _ ⟨by rw[zaU h1 rfl]; rfl,λk m S2=>S2=S1++[.lst ((xs.take k).mapIdx g)]∧m+k=xs.length,⟨xs.length,by simp,by omega⟩,?_⟩
 rintro k m S2 ⟨rfl,hm⟩
 rw[zaU (zcV h1) rfl]
 dsimp only[zao]
 split
 ·rename_i x hx
  have hk:k<xs.length:=(Vad.mp hx).1
  unfold zlm
  refine ht k x hx _ _ Pre.refl.push ?_
  rw[zav]
  refine⟨by simp; omega,m-1,by omega,?_,by omega⟩
  have e:xs.take (k+1)=xs.take k++[x]:=by rw[Va9,hx]; rfl
  rw[e,List.mapIdx_append,List.set_append_right _ _ (Vaa _)]
  have l:(xs.take k).length=k:=by rw[Vao]; omega
  simp[l]
 ·rename_i hx
  have hk:xs.length≤k:=Va3.mp hx
  refine⟨by omega,?_⟩
  rw[Vaz hk]
  exact hq
def mid (p:Int×Int):Int:=(p.1+p.2)/2
def zaW (p:Int×Int):Int×Int:=(mid p,mid p)
def zdz (p q:Int×Int):Int×Int:=(p.1+q.1,p.2+q.2)
def zbA (p q:Int×Int):Int×Int:=(p.1-q.2,p.2-q.1)
def sumP (g:Int)(us vs:List (Int×Int)):Int×Int:=(List.zip us vs).foldl (λt z=>zdz t (zaX z.1 z.2 g)) (0,0)
def rwD (r:Bool×Nat):D:=.tup [.str (if r.1 then "zero" else "least"),.int (r.2:Int)]
def eqs (rows:List (Bool×Nat)):List Nat:=rows.filterMap λr=>if r.1 then some r.2 else none
theorem zoc {caps:List Nat}{tl te:TDE}{tc:TDT}{dl:Ev}{S S1:Sto}{Q:DK}{n:Nat}{o:Ob}(f:D→Option D)(htl:∀K:DK,K (.ref n) S1→tl dl S K)(h1:S1[n]?=some o)(hl:(zao o).length≤1000)
  (hc:∀x∈zao o,∀(S2:Sto) (K:Bool→Sto→Prop),Pre S1 S2→K (f x).isSome S2→tc (some x::zbv caps dl) S2 K)(ht:∀x∈zao o,∀y,f x=some y→∀(S2:Sto) (K:DK),Pre S1 S2→K y S2→te (some x::zbv caps dl) S2 K)(hq:Q (.ref S1.length) (S1++[.lst ((zao o).filterMap f)]))(hL:zbX o=some o:=by rfl):zcy caps tl tc te dl S Q:=by
 unfold zcy
 refine htl _ ⟨by rw[zaU h1 hL]; rfl,λk m S2=>S2=S1++[.lst (((zao o).take k).filterMap f)]∧m+k=(zao o).length,⟨(zao o).length,by simp,by omega⟩,?_⟩
 rintro k m S2 ⟨rfl,hm⟩
 rw[zaU (zcV h1) hL]
 dsimp only
 split
 ·rename_i x hx
  have hk:k<(zao o).length:=(Vad.mp hx).1
  have e:(zao o).take (k+1)=(zao o).take k++[x]:=by rw[Va9,hx]; rfl
  unfold zc7
  refine hc x (Vai hx) _ _ Pre.refl.push ?_
  cases ef:f x with
  | none=>
   refine zbm ?_
   refine⟨m-1,by omega,?_,by omega⟩
   rw[e,List.filterMap_append]
   simp[ef]
  | some y=>
   refine zbM ?_
   refine ht x (Vai hx) y ef _ _ Pre.refl.push ?_
   rw[zav]
   have ll:=List.length_filterMap_le f ((zao o).take k)
   refine⟨by rw[Vao] at ll; omega,m-1,by omega,?_,by omega⟩
   rw[e,List.filterMap_append,zgl]
   simp[ef]
 ·rename_i hx
  have hk:(zao o).length≤k:=Va3.mp hx
  rw[Vaz hk]
  exact hq
def zbZ (g:Int)(k c:Nat)(ts:List (Int×Int))(R:List (List (Int×Int))):Int×Int:=zbA (if k=c then (g,g) else (0,0)) (sumP g ts (R.map λr=>r.getD c (0,0)))
def zbh (g:Int)(box:List (Int×Int))(thin:List (Int×Int))(R:List (List (Int×Int)))(k:Nat)(es:List Int):Int×Int:=
 zdz (zbA (zaW (gt box k)) (sumP g (es.map λe=>(e,e)) thin)) (sumP g ((List.range box.length).map λc=>zbZ g k c (es.map λe=>(e,e)) R) (box.map λp=>zbA p (zaW p)))
theorem zgG (g:Int)(us vs:List (Int×Int))(k:Nat){u v:Int×Int}(hu:us[k]?=some u)(hv:vs[k]?=some v):sumP g (us.take (k+1)) (vs.take (k+1))=zdz (sumP g (us.take k) (vs.take k)) (zaX u v g):=by
 unfold sumP
 have l1:=(Vad.mp hu).1
 have l2:=(Vad.mp hv).1
 rw[zbU hu,zbU hv,List.zip_append (by rw[Vao,Vao]; omega),List.foldl_append]
 rfl
theorem znB (g:Int)(us vs:List (Int×Int)):sumP g (us.take (min us.length vs.length)) (vs.take (min us.length vs.length))=sumP g us vs:=by
 unfold sumP
 congr 1
 show List.zipWith Prod.mk _ _=List.zipWith Prod.mk _ _
 rw[← List.take_zipWith,Vaz (by rw[List.length_zipWith]; exact Vaa _)]
def Bd (B:Nat)(vs:List (Int×Int)):Prop:=∀p∈vs,Sz B p.1∧Sz B p.2
theorem zp6 {g:Int}(hg:1≤g){us vs:List (Int×Int)}{A B:Nat}(h1:Bd A us)(h2:Bd B vs):∀k:Nat,k≤us.length→k≤vs.length→Sz (A+B+k+1) (sumP g (us.take k) (vs.take k)).1∧Sz (A+B+k+1) (sumP g (us.take k) (vs.take k)).2
 | 0,_,_=>⟨VaN (by decide),VaN (by decide)⟩
 | k+1,l1,l2=>by
  have hu:=Vac (show k<us.length by omega)
  have hv:=Vac (show k<vs.length by omega)
  rw[zgG g us vs k hu hv]
  have ih:=zp6 hg h1 h2 k (by omega) (by omega)
  have a:=h1 _ (Vai hu)
  have b:=h2 _ (Vai hv)
  have m:=zlY hg a.1 a.2 b.1 b.2
  exact⟨(ih.1.add m.1).mono (by omega),(ih.2.add m.2).mono (by omega)⟩
theorem zue {g:Int}(hg:1≤g){us vs:List (Int×Int)}{A B:Nat}(h1:Bd A us)(h2:Bd B vs)(l:us.length≤60):Sz (A+B+61) (sumP g us vs).1∧Sz (A+B+61) (sumP g us vs).2:=by
 rw[← znB]
 have z:=zp6 hg h1 h2 (min us.length vs.length) (by omega) (by omega)
 exact⟨z.1.mono (by omega),z.2.mono (by omega)⟩
theorem zum {is:List Nat}{ta:TDA}{tb:TDS}{E:zdh}{dl:Ev}{S:Sto}{n n':Nat}{xs ys:List D}(W:Nat→Ev→Prop)(hta:∀K:List D→Sto→Prop,K [.ref n,.ref n'] S→ta dl S K)(h1:S[n]?=some (.lst xs))(h2:S[n']?=some (.lst ys))(h0:W 0 dl)
  (hb:∀(k:Nat) (x y:D) (dl':Ev) (nx ct:Ev→Sto→Prop),xs[k]?=some x→ys[k]?=some y→W k dl'→(∀dl2,W (k+1) dl2→nx dl2 S)→tb { nx:=nx,rt:=E.rt,bk:=E.nx,ct:=ct } (zfF is [x,y] dl') S)(he:∀dl',W (min xs.length ys.length) dl'→E.nx dl' S):zjM is ta tb E dl S:=by
 unfold zjM
 refine hta _ ⟨⟨by rw[zaU h1 rfl]; rfl,by rw[zaU h2 rfl]; rfl⟩,λk m dl' S'=>S'=S∧W k dl'∧k+m=min xs.length ys.length,⟨min xs.length ys.length,rfl,h0,by simp⟩,?_⟩
 rintro k m dl' S' ⟨rfl,w,hk⟩
 simp only[zaU h1 rfl,zaU h2 rfl,zao]
 split
 ·rename_i x y e1 e2
  have l1:=(Vad.mp e1).1
  have l2:=(Vad.mp e2).1
  exact hb k x y dl' _ _ e1 e2 w (λdl2 w2=>⟨m-1,by omega,rfl,w2,by omega⟩)
 ·rename_i no
  have ek:k=min xs.length ys.length:=by
   by_cases l:k<min xs.length ys.length
   ·exact absurd (Vac (l:=ys) (i:=k) (by omega)) (no _ _ (Vac (l:=xs) (i:=k) (by omega)))
   ·omega
  exact⟨ek,he _ (ek ▸ w)⟩
theorem zqq {B:Nat}{p:Int×Int}(h1:Sz B p.1)(h2:Sz B p.2):Sz (B+1) (mid p):=(h1.add h2).div (by decide) |>.mono (by omega)
theorem zqY {B C:Nat}{p q:Int×Int}(hp:Sz B p.1∧Sz B p.2)(hq:Sz C q.1∧Sz C q.2):Sz (max B C+1) (zbA p q).1∧Sz (max B C+1) (zbA p q).2:=⟨hp.1.sub hq.2,hp.2.sub hq.1⟩
def zex (S:Sto)(ds:List D)(M:List (List Int)):Prop:=ds.length=M.length∧∀(k:Nat) (d:D) (r:List Int),ds[k]?=some d→M[k]?=some r→∃a,d=.ref a∧S[a]?=some (.lst (r.map D.int))
theorem zex.pre {S T:Sto}{ds:List D}{M:List (List Int)}(h:zex S ds M)(p:Pre S T):zex T ds M:=⟨h.1,λk d r hd hr=>by
 obtain⟨a,e,s⟩:=h.2 k d r hd hr
 exact⟨a,e,p _ _ s⟩⟩
theorem zyw {p:Int×Int}(h:p.1≤p.2):p.1≤mid p∧mid p≤p.2:=by unfold mid; omega
theorem znz {B:Nat}{bs:List (Int×Int)}(h:Spn B bs):Spn B (bs.map zaW):=λp hp=>by
 obtain⟨x,hx,rfl⟩:=Vag.mp hp
 obtain⟨a,b,c⟩:=h x hx
 have z:=zyw a
 have s:Sz B (mid x):=by
  unfold Sz at *
  omega
 exact⟨Vav _,s,s⟩
theorem zn6 {A B x:Int}(y:Int)(h1:A≤x)(h2:x≤B):min (A*y) (B*y)≤x*y∧x*y≤max (A*y) (B*y):=by
 rcases Int.le_total 0 y with h | h
 ·have a:=Vaf h1 h
  have b:=Vaf h2 h
  omega
 ·have a:=Vaf h1 (show 0≤-y by omega)
  have b:=Vaf h2 (show 0≤-y by omega)
  simp only[Int.mul_neg] at a b
  omega
theorem zpH {A B C D x y:Int}(h1:A≤x)(h2:x≤B)(h3:C≤y)(h4:y≤D):mn4 A B C D≤x*y∧x*y≤mx4 A B C D:=by
 have a:=zn6 y h1 h2
 have b:=zn6 A h3 h4
 have c:=zn6 B h3 h4
 rw[Va4 C A,Va4 D A,Va4 y A] at b
 rw[Va4 C B,Va4 D B,Va4 y B] at c
 unfold mn4 mx4
 omega
theorem zm2 {vs:List (Int×Int)}{p:Int×Int}{i:Int}(h:inR vs.length i):gt (vs++[p]) i=gt vs i:=by
 have hk:i.toNat<vs.length:=by
  have:=h.1
  have:=h.2
  omega
 simp only[gt,Vak,Val hk]
theorem zij {vs:List (Int×Int)}{p:Int×Int}{k:Nat}(h:vs.length=k):gt (vs++[p]) (k:Int)=p:=by
 subst h
 simp[gt]
def Pz (B:Nat)(vs:List (Int×Int)):Prop:=∀p∈vs,1≤p.2∧Sz B p.1∧Sz B p.2
theorem Pz.at {B:Nat}{vs:List (Int×Int)}(h:Pz B vs){i:Int}(hi:inR vs.length i):1≤(gt vs i).2∧Sz B (gt vs i).1∧Sz B (gt vs i).2:=h _ (zli hi)
def Nd.due (vs ps:List (Int×Int)):Nd→Int×Int
 | .number t b=>(t,b)
 | .unknown k=>gt ps k
 | .plus i j=>((gt vs i).1*(gt vs j).2+(gt vs j).1*(gt vs i).2,(gt vs i).2*(gt vs j).2)
 | .minus i j=>((gt vs i).1*(gt vs j).2-(gt vs j).1*(gt vs i).2,(gt vs i).2*(gt vs j).2)
 | .times i j=>((gt vs i).1*(gt vs j).1,(gt vs i).2*(gt vs j).2)
 | .power i n=>((gt vs i).1^n.toNat,(gt vs i).2^n.toNat)
def PzW (ws:List Nat)(vs:List (Int×Int)):Prop:=∀(k:Nat) (p:Int×Int),vs[k]?=some p→1≤p.2∧Sz (112*ws.getD k 0-2) p.1∧Sz (112*ws.getD k 0-2) p.2
theorem PzW.at {ws:List Nat}{vs:List (Int×Int)}(h:PzW ws vs){i:Int}(hi:inR vs.length i):1≤(gt vs i).2∧Sz (112*ws.getD i.toNat 0-2) (gt vs i).1∧Sz (112*ws.getD i.toNat 0-2) (gt vs i).2:=by
 obtain⟨h0,h1⟩:=hi
 have hk:i.toNat<vs.length:=by omega
 have e:gt vs i=vs[i.toNat]:=by simp[gt,hk]
 rw[e]
 exact h _ _ (Vac hk)
theorem due_w {ws:List Nat}{vs ps:List (Int×Int)}(hs:PzW ws vs)(hp:Pz 110 ps)(hw:∀i:Int,inR vs.length i→1≤ws.getD i.toNat 0):∀v:Nd,v.ok vs.length ps.length→1≤(v.due vs ps).2∧Sz (112*v.wt ws-2) (v.due vs ps).1∧Sz (112*v.wt ws-2) (v.due vs ps).2
 | .number t b,ok=>⟨ok.1.1,(Sz.of (n:=31) (10^9) ok.2.2).mono (show 31≤112*1-2 by decide),(Sz.of (n:=31) (10^9) (by have:=ok.1; show b.natAbs≤_; omega)).mono (show 31≤112*1-2 by decide)⟩
 | .unknown k,ok=>⟨(hp.at ok).1,(hp.at ok).2.1.mono (show 110≤112*1-2 by decide),(hp.at ok).2.2.mono (show 110≤112*1-2 by decide)⟩
 | .plus i j,ok=>by
  have a:=hs.at ok.1
  have b:=hs.at ok.2
  have p:=hw i ok.1
  have q:=hw j ok.2
  exact⟨VaE (show 0<_ by omega) (show 0<_ by omega),((a.2.1.mul b.2.2).add (b.2.1.mul a.2.2)).mono (by simp only[Nd.wt]; omega),(a.2.2.mul b.2.2).mono (by simp only[Nd.wt]; omega)⟩
 | .minus i j,ok=>by
  have a:=hs.at ok.1
  have b:=hs.at ok.2
  have p:=hw i ok.1
  have q:=hw j ok.2
  exact⟨VaE (show 0<_ by omega) (show 0<_ by omega),((a.2.1.mul b.2.2).sub (b.2.1.mul a.2.2)).mono (by simp only[Nd.wt]; omega),(a.2.2.mul b.2.2).mono (by simp only[Nd.wt]; omega)⟩
 | .times i j,ok=>by
  have a:=hs.at ok.1
  have b:=hs.at ok.2
  have p:=hw i ok.1
  have q:=hw j ok.2
  exact⟨VaE (show 0<_ by omega) (show 0<_ by omega),(a.2.1.mul b.2.1).mono (by simp only[Nd.wt]; omega),(a.2.2.mul b.2.2).mono (by simp only[Nd.wt]; omega)⟩
 | .power i n,ok=>by
  have a:=hs.at ok.1
  have p:=hw i ok.1
  have n2:=ok.2.1
  have hn:(112*ws.getD i.toNat 0-2)*n.toNat+1≤112*Nd.wt ws (.power i n)-2:=by
   simp only[Nd.wt]
   rw[Nat.sub_mul]
   have e:112*ws.getD i.toNat 0*n.toNat=112*(n.toNat*ws.getD i.toNat 0):=by rw[Nat.mul_assoc,Nat.mul_comm (ws.getD i.toNat 0)]
   have m1:=Va0 (Vaa n.toNat) p
   omega
  exact⟨VaJ (show 0<_ by omega),(a.2.1.pow _).mono hn,(a.2.2.pow _).mono hn⟩
def zar (ps:List (Int×Int))(ns:List Nd):List (Int×Int):=ns.foldl (λacc v=>acc++[v.due acc ps]) []
theorem zdl (ps:List (Int×Int))(ns:List Nd)(v:Nd):zar ps (ns++[v])=zar ps ns++[v.due (zar ps ns) ps]:=by
 unfold zar
 rw[List.foldl_append]
 rfl
theorem zbS (ps:List (Int×Int))(ns:List Nd):(zar ps ns).length=ns.length:=by
 have z:∀k,k≤ns.length→(zar ps (ns.take k)).length=k:=λk=>by
  induction k with
  | zero=>intro _; rfl
  | succ k ih=>
   intro hk
   rw[zbU (Vac (show k<ns.length by omega)),zdl]
   simp[ih (by omega)]
 have y:=z ns.length (Vaa _)
 rwa [VaA] at y
theorem zu5 {ws:List Nat}{vs:List (Int×Int)}{p:Int×Int}{k:Nat}(h:PzW ws vs)(lk:vs.length=k)(hp:1≤p.2∧Sz (112*ws.getD k 0-2) p.1∧Sz (112*ws.getD k 0-2) p.2):PzW ws (vs++[p]):=λi q hq=>by
 by_cases hi:i<k
 ·rw[Val (by omega)] at hq
  exact h i q hq
 ·have hl:=(Vad.mp hq).1
  simp only[Vas,VaC,Vba,lk] at hl
  have ei:i=k:=by omega
  subst ei
  rw[VaF (by omega),lk,Vbg] at hq
  simp at hq
  subst hq
  exact hp
theorem zsO {q:Int}{ns:List Nd}{ws:List Nat}(h:zaH q ns ws){k:Nat}{vs:List (Int×Int)}(hk:k≤ns.length)(lv:vs.length=k):∀i:Int,inR vs.length i→1≤ws.getD i.toNat 0:=λi hi=>(h.w1 (i:=i) ⟨hi.1,by have:=hi.2; omega⟩).1
theorem zdv {q:Int}{ns:List Nd}{ws:List Nat}{ps:List (Int×Int)}(h:zaH q ns ws)(hq:q=ps.length)(hp:Pz 110 ps):∀k,k≤ns.length→PzW ws (zar ps (ns.take k)):=by
 intro k
 induction k with
 | zero=>intro _ i p hp; simp[zar] at hp
 | succ k ih=>
  intro hk
  have hv:=Vac (show k<ns.length by omega)
  have s:=ih (by omega)
  have ln:(zar ps (ns.take k)).length=k:=by rw[zbS,Vao]; omega
  obtain⟨ok,e,_,_⟩:=h.ok k _ hv
  rw[zbU hv,zdl]
  refine zu5 s ln ?_
  rw[e]
  exact due_w s hp (zsO h (by omega) ln) _ (by rw[ln,← hq]; exact ok)
theorem Pz.of_w {ws:List Nat}{vs:List (Int×Int)}(h:PzW ws vs)(hw:∀k:Nat,k<vs.length→ws.getD k 0≤16):Pz 1800 vs:=λp hp=>by
 obtain⟨k,hk,e⟩:=VaS.mp hp
 obtain⟨a,b,c⟩:=h k p (by rw[Vac hk,e])
 have:=hw k hk
 exact⟨a,b.mono (by omega),c.mono (by omega)⟩
theorem zdB {p q k:Int}(h:0≤k):min (p*k) (q*k)=min p q*k∧max (p*k) (q*k)=max p q*k:=by
 rcases Int.le_total p q with c | c
 ·have:=Vaf c h
  rw[Int.min_eq_left c,Int.max_eq_right c]
  omega
 ·have:=Vaf c h
  rw[Int.min_eq_right c,Int.max_eq_left c]
  omega
theorem zm9 {a b c d p q:Int}(h:0≤p*q):mn4 (a*p) (b*p) (c*q) (d*q)=mn4 a b c d*(p*q)∧mx4 (a*p) (b*p) (c*q) (d*q)=mx4 a b c d*(p*q):=by
 have e:∀x y:Int,x*p*(y*q)=x*y*(p*q):=λx y=>by grind
 unfold mn4 mx4
 rw[e,e,e,e]
 refine⟨?_,?_⟩
 ·rw[(zdB h).1,(zdB h).1,(zdB h).1]
 ·rw[(zdB h).2,(zdB h).2,(zdB h).2]
theorem ztw {a b p x:Int}{n:Nat}(hn:1≤n)(hp:1≤p)(h1:a*p≤x)(h2:x≤b*p):zaP a b n*p^n≤x^n∧x^n≤za4 a b n*p^n:=by
 have pp:0<p^n:=VaJ (by omega)
 have lo1:zaP a b n≤a^n:=by
  unfold zaP
  split
  ·rename_i c; exact zdJ c.1 a
  ·omega
 have lo2:zaP a b n≤b^n:=by
  unfold zaP
  split
  ·rename_i c; exact zdJ c.1 b
  ·omega
 refine zy2 hn h1 h2 ?_ ?_ (λha hb=>?_) ?_ ?_
 ·rw[VaQ]; exact Vaf lo1 (by omega)
 ·rw[VaQ]; exact Vaf lo2 (by omega)
 ·have a0:a<0:=by
   by_cases c:a<0
   ·exact c
   ·have:=Vaw (show 0≤a by omega) (show 0≤p by omega)
    omega
  have b0:0<b:=by
   by_cases c:0<b
   ·exact c
   ·have:=Vaw (show 0≤-b by omega) (show 0≤p by omega)
    rw[VaU] at this
    omega
  have z:zaP a b n≤0:=by
   unfold zaP
   split
   ·exact Vav _
   ·rename_i c
    have:=zmp (n:=n) (by omega) a0
    omega
  have:=Vaw (show 0≤-zaP a b n by omega) (show 0≤p^n by omega)
  rw[VaU] at this
  omega
 ·rw[VaQ]; exact Vaf (by unfold za4; omega) (by omega)
 ·rw[VaQ]; exact Vaf (by unfold za4; omega) (by omega)
theorem zpj {m M G X B:Int}(hG:1≤G)(hB:0≤B)(h1:m*B≤X*G)(h2:X*G≤M*B):m/G*B≤X∧X≤-(-M/G)*B:=by
 have a:=Vaf (zeY m (show 0<G by omega)).1 hB
 have b:=Vaf (zi7 M (show 0<G by omega)).1 hB
 have e1:m/G*G*B=m/G*B*G:=by grind
 have e2:-(-M/G)*G*B=-(-M/G)*B*G:=by grind
 rw[e1] at a
 rw[e2] at b
 exact⟨VaI (a:=G) (by omega) (by omega),VaI (a:=G) (by omega) (by omega)⟩
theorem ifNF {c:Prop} [Decidable c] {A B:Prop}(h:c)(b:B):if (!decide c)=true then A else B:=by
 rw[decide_eq_true h]
 exact b
theorem zxn {lo hi w p g t b:Int}(h:lo≤hi)(hw:1≤w)(hg:1≤g)(p0:0≤p)(p1:p≤w)(hb:1≤b)(e:t*(g*w)=(lo*w+(hi-lo)*p)*b):lo*b≤t*g∧t*g≤hi*b:=by
 have a1:=Vaw (show 0≤hi-lo by omega) p0
 have a2:=Int.mul_le_mul_of_nonneg_left p1 (show 0≤hi-lo by omega)
 have b1:=Vaf (show lo*w≤lo*w+(hi-lo)*p by omega) (show 0≤b by omega)
 have e2:(hi-lo)*w=hi*w-lo*w:=by grind
 have b2:=Vaf (show lo*w+(hi-lo)*p≤hi*w by omega) (show 0≤b by omega)
 rw[← e] at b1 b2
 have c1:lo*w*b=lo*b*w:=by grind
 have c2:hi*w*b=hi*b*w:=by grind
 have c3:t*(g*w)=t*g*w:=by grind
 rw[c1,c3] at b1
 rw[c2,c3] at b2
 exact⟨VaI b1 (by omega),VaI b2 (by omega)⟩
theorem zvM {lo hi w p:Int}(h:lo≤hi)(s1:Sz 51 lo)(s2:Sz 51 hi)(hw:1≤w∧w≤1000000000)(p0:0≤p)(p1:p≤w):IntMulOk lo w∧IntMulOk (hi-lo) p∧Sz 84 (lo*w+(hi-lo)*p):=by
 have sw:Sz 30 w:=Sz.of 1000000000 (by omega)
 have sp:Sz 30 p:=Sz.of 1000000000 (by omega)
 have sd:Sz 52 (hi-lo):=s2.sub s1
 exact⟨zaF s1 sw,zaF sd sp,((s1.mul sw).add (sd.mul sp)).mono (by decide)⟩
def InW (g:Int)(vs ds:List (Int×Int)):Prop:=∀i:Int,inR ds.length i→(gt vs i).1*(gt ds i).2≤(gt ds i).1*g∧(gt ds i).1*g≤(gt vs i).2*(gt ds i).2
theorem zsF {vs bs ds ps:List (Int×Int)}{g:Int}{B:Nat}(hg:1≤g)(h:InW g vs ds)(hp:InW g bs ps)(pd:Pz B ds)(pp:Pz B ps):∀v:Nd,v.ok ds.length ps.length→(v.fw vs bs g).1*(v.due ds ps).2≤(v.due ds ps).1*g∧(v.due ds ps).1*g≤(v.fw vs bs g).2*(v.due ds ps).2
 | .number t b,ok=>⟨(zeY (t*g) (show 0<b by have:=ok.1.1; omega)).1,(zi7 (t*g) (show 0<b by have:=ok.1.1; omega)).1⟩
 | .unknown k,ok=>hp k ok
 | .plus i j,ok=>by
  have a:=h i ok.1
  have b:=h j ok.2
  have p1:=(pd.at ok.1).1
  have p2:=(pd.at ok.2).1
  simp only[Nd.fw,Nd.due]
  have a1:=Vaf a.1 (show 0≤(gt ds j).2 by omega)
  have a2:=Vaf a.2 (show 0≤(gt ds j).2 by omega)
  have b1:=Vaf b.1 (show 0≤(gt ds i).2 by omega)
  have b2:=Vaf b.2 (show 0≤(gt ds i).2 by omega)
  grind
 | .minus i j,ok=>by
  have a:=h i ok.1
  have b:=h j ok.2
  have p1:=(pd.at ok.1).1
  have p2:=(pd.at ok.2).1
  simp only[Nd.fw,Nd.due]
  have a1:=Vaf a.1 (show 0≤(gt ds j).2 by omega)
  have a2:=Vaf a.2 (show 0≤(gt ds j).2 by omega)
  have b1:=Vaf b.1 (show 0≤(gt ds i).2 by omega)
  have b2:=Vaf b.2 (show 0≤(gt ds i).2 by omega)
  grind
 | .times i j,ok=>by
  have a:=h i ok.1
  have b:=h j ok.2
  have p1:=(pd.at ok.1).1
  have p2:=(pd.at ok.2).1
  have pq:0≤(gt ds i).2*(gt ds j).2:=Vaw (by omega) (by omega)
  have z:=zpH a.1 a.2 b.1 b.2
  rw[(zm9 pq).1,(zm9 pq).2] at z
  have e:(gt ds i).1*g*((gt ds j).1*g)=(gt ds i).1*(gt ds j).1*g*g:=by grind
  rw[e] at z
  exact zpj hg pq z.1 z.2
 | .power i n,ok=>by
  have a:=h i ok.1
  have p1:=(pd.at ok.1).1
  have n2:=ok.2.1
  obtain⟨k,hk⟩:∃k,n.toNat=k+1:=⟨n.toNat-1,by omega⟩
  have z:=ztw (n:=n.toNat) (by omega) p1 a.1 a.2
  have e:((gt ds i).1*g)^n.toNat=(gt ds i).1^n.toNat*g*g^(n.toNat-1):=by
   rw[VaQ,hk,Nat.add_sub_cancel,Vam g k]
   grind
  rw[e] at z
  exact zpj (VaJ (by omega)) (Int.le_of_lt (VaJ (by omega))) z.1 z.2
theorem zq5 {q:Int}{ns:List Nd}{ws:List Nat}{bs ps:List (Int×Int)}{g:Int}(h:zaH q ns ws)(hq:q=bs.length)(hqp:q=ps.length)(hg:1≤g)(hp:InW g bs ps)(pp:Pz 110 ps):∀k,k≤ns.length→InW g (zau bs g (ns.take k)) (zar ps (ns.take k)):=by
 intro k
 induction k with
 | zero=>intro _ i hi; exact absurd hi.2 (by have:=hi.1; simp[zar]; omega)
 | succ k ih=>
  intro hk i hi
  have hv:ns[k]?=some ns[k]:=Vac (by omega)
  obtain⟨ok,_⟩:=h.ok k _ hv
  have ln:(zau bs g (ns.take k)).length=k:=by rw[zcp,Vao]; omega
  have lN:(zar ps (ns.take k)).length=k:=by rw[zbS,Vao]; omega
  rw[zbU hv,zdl] at hi
  rw[zbU hv,zh2,zdl]
  have hi2:i<k+1:=by have:=hi.2; simp only[Vas,VaC,Vba,lN] at this; omega
  by_cases c:i<k
  ·rw[zm2 (by rw[ln]; exact⟨hi.1,c⟩),zm2 (by rw[lN]; exact⟨hi.1,c⟩)]
   exact ih (by omega) i (by rw[lN]; exact⟨hi.1,c⟩)
  ·have e:i=k:=by omega
   subst e
   rw[zij ln,zij lN]
   have pz:Pz 1800 (zar ps (ns.take k)):=Pz.of_w (zdv h hqp pp k (by omega)) λj hj=>(h.w1 (i:=j) ⟨by omega,by omega⟩).2
   refine zsF (B:=1800) hg (ih (by omega)) hp pz (λp hp=>⟨(pp p hp).1,(pp p hp).2.1.mono (by decide),(pp p hp).2.2.mono (by decide)⟩) _ ?_
   rw[lN,← hqp]
   exact ok
def hs:Nat→Int→Int→Int
 | 0,_,_=>0
 | k+1,x,y=>x*hs k x y+y^k
theorem zgu (x y:Int):∀n:Nat,(x-y)*hs n x y=x^n-y^n
 | 0=>by simp[hs]
 | k+1=>by
  have z:=zgu x y k
  have e:(x-y)*hs (k+1) x y=x*((x-y)*hs k x y)+(x-y)*y^k:=by
   show (x-y)*(x*hs k x y+y^k)=_
   grind
  rw[e,z,Vam,Vam]
  grind
theorem zmD (x:Int):∀n:Nat,hs (n+1) x x=((n+1:Nat):Int)*x^n
 | 0=>by simp[hs]
 | k+1=>by
  show x*hs (k+1) x x+x^(k+1)=_
  rw[zmD x k,Vam]
  have e:((k+1+1:Nat):Int)=((k+1:Nat):Int)+1:=by omega
  rw[e]
  grind
theorem zot (x y g:Int):∀n:Nat,hs (n+1) (x*g) (y*g)=hs (n+1) x y*g^n
 | 0=>by simp[hs]
 | k+1=>by
  show x*g*hs (k+1) (x*g) (y*g)+(y*g)^(k+1)=(x*hs (k+1) x y+y^(k+1))*g^(k+1)
  rw[zot x y g k,VaQ,Vam g]
  grind
theorem zr1 (x y:Int)(n:Nat):hs n x y=hs n y x:=by
 by_cases e:x=y
 ·rw[e]
 ·have a:=zgu x y n
  have b:=zgu y x n
  have c:(x-y)*hs n x y=(x-y)*hs n y x:=by grind
  exact Int.eq_of_mul_eq_mul_left (by omega) c
theorem zpu (x y:Int)(n:Nat):hs (n+1) (-x) (-y)=hs (n+1) x y*(-1)^n:=by
 have z:=zot x y (-1) n
 rw[Int.mul_neg_one,Int.mul_neg_one] at z
 exact z
theorem zm1 {a b:Int}(h0:0≤a)(h:a≤b):∀n:Nat,a^n≤b^n
 | 0=>by simp
 | k+1=>by
  rw[Vam,Vam]
  exact Int.mul_le_mul (zm1 h0 h k) h h0 (VaO (by omega))
theorem zjG {x y:Int}(hx:0≤x)(hy:0≤y):∀n:Nat,0≤hs n x y
 | 0=>Vav _
 | k+1=>Int.add_nonneg (Vaw hx (zjG hx hy k)) (VaO hy)
theorem zoN {x y u v:Int}(hx:0≤x)(hy:0≤y)(h1:x≤u)(h2:y≤v):∀n:Nat,hs n x y≤hs n u v
 | 0=>Vav _
 | k+1=>Int.add_le_add (Int.mul_le_mul h1 (zoN hx hy h1 h2 k) (zjG hx hy k) (by omega)) (zm1 hy h2 k)
theorem zew {n:Nat}(x:Int):(-x)^n=x^n*(-1)^n:=by
 rw[← VaQ,Int.mul_neg_one]
theorem zeo {n:Nat}(h:n%2=0):(-1:Int)^n=1:=by
 obtain⟨k,rfl⟩:∃k,n=2*k:=⟨n/2,by omega⟩
 rw[Int.pow_mul]
 show (1:Int)^k=1
 exact Int.one_pow
theorem zo8 {n:Nat}(h:n%2=1):(-1:Int)^n=-1:=by
 obtain⟨k,rfl⟩:∃k,n=2*k+1:=⟨n/2,by omega⟩
 rw[Vam,zeo (by omega)]
 rfl
theorem zxx {a b:Int}(ha:0≤a)(hb:0≤b)(m:Nat):(m%2=0→0≤hs (m+1) (-a) b∧hs (m+1) (-a) b≤max (a^m) (b^m))∧(m%2=1→-(a^m)≤hs (m+1) (-a) b∧hs (m+1) (-a) b≤b^m):=by
 have pa:0≤a^m:=VaO ha
 have pb:0≤b^m:=VaO hb
 by_cases z:a+b=0
 ·have a0:a=0:=by omega
  have b0:b=0:=by omega
  subst a0 b0
  have e:hs (m+1) (-0) 0=((m+1:Nat):Int)*0^m:=zmD 0 m
  rw[e]
  cases m with
  | zero=>simp
  | succ m=>simp[Vam]
 have pos:0<a+b:=by omega
 have k:=zgu (-a) b (m+1)
 have e1:(-a)^(m+1)=a^(m+1)*(-1)^(m+1):=zew a
 have ea:a^(m+1)=a^m*a:=Vam a m
 have eb:b^(m+1)=b^m*b:=Vam b m
 have pab:=Vaw pa hb
 have pba:=Vaw pb ha
 have paa:=Vaw pa ha
 have pbb:=Vaw pb hb
 refine⟨λev=>?_,λod=>?_⟩
 ·rw[e1,zo8 (show (m+1)%2=1 by omega)] at k
  have k2:(a+b)*hs (m+1) (-a) b=a^m*a+b^m*b:=by grind
  refine⟨?_,?_⟩
  ·have q:0*(a+b)≤hs (m+1) (-a) b*(a+b):=by grind
   exact VaI q pos
  ·have m1:=Vaf (show a^m≤max (a^m) (b^m) by omega) ha
   have m2:=Vaf (show b^m≤max (a^m) (b^m) by omega) hb
   generalize max (a^m) (b^m)=M at m1 m2
   have q:hs (m+1) (-a) b*(a+b)≤M*(a+b):=by grind
   exact VaI q pos
 ·rw[e1,zeo (show (m+1)%2=0 by omega)] at k
  have k2:(a+b)*hs (m+1) (-a) b=b^m*b-a^m*a:=by grind
  refine⟨?_,?_⟩
  ·have q:-(a^m)*(a+b)≤hs (m+1) (-a) b*(a+b):=by grind
   exact VaI q pos
  ·have q:hs (m+1) (-a) b*(a+b)≤b^m*(a+b):=by grind
   exact VaI q pos
theorem zmV {L H x y:Int}(h0:0≤L)(x1:L≤x)(x2:x≤H)(y1:L≤y)(y2:y≤H)(m:Nat):((m+1:Nat):Int)*L^m≤hs (m+1) x y∧hs (m+1) x y≤((m+1:Nat):Int)*H^m:=by
 rw[← zmD,← zmD]
 exact⟨zoN h0 h0 x1 y1 _,zoN (by omega) (by omega) x2 y2 _⟩
theorem zs0 {L H x y:Int}(x1:L≤x)(x2:x≤H)(y1:L≤y)(y2:y≤H){m:Nat}(hm:1≤m):((m+1:Nat):Int)*zaP L H m≤hs (m+1) x y∧hs (m+1) x y≤((m+1:Nat):Int)*za4 L H m:=by
 have n0:(0:Int)≤((m+1:Nat):Int):=by omega
 have up:∀ {u v:Int},u≤v→((m+1:Nat):Int)*u≤((m+1:Nat):Int)*v:=λh=>Int.mul_le_mul_of_nonneg_left h n0
 have lo1:zaP L H m≤L^m:=by
  unfold zaP
  split
  ·rename_i c; exact zdJ c.1 L
  ·omega
 have lo2:zaP L H m≤H^m:=by
  unfold zaP
  split
  ·rename_i c; exact zdJ c.1 H
  ·omega
 have hi1:L^m≤za4 L H m:=by unfold za4; omega
 have hi2:H^m≤za4 L H m:=by unfold za4; omega
 have big:∀ {u:Int},0≤u→u≤((m+1:Nat):Int)*u:=λ{u} h=>by
  have:=Vaw (show (0:Int)≤(m:Int) by omega) h
  have e:((m+1:Nat):Int)*u=(m:Int)*u+u:=by
   have:((m+1:Nat):Int)=(m:Int)+1:=by omega
   rw[this]; grind
  omega
 have pp:0≤x→0≤y→((m+1:Nat):Int)*zaP L H m≤hs (m+1) x y∧hs (m+1) x y≤((m+1:Nat):Int)*za4 L H m:=λhx hy=>by
  have hiH:=(zmV (L:=0) (Vav _) hx x2 hy y2 m).2
  refine⟨?_,Vbi hiH (up hi2)⟩
  by_cases c:0≤L
  ·exact Vbi (up lo1) (zmV c x1 x2 y1 y2 m).1
  ·have nn:=zjG hx hy (m+1)
   have z:zaP L H m≤0:=by
    by_cases p:m%2=0
    ·unfold zaP
     rw[if_pos ⟨p,by omega,by omega⟩]
     exact Vav _
    ·have:=zmp (n:=m) (by omega) (show L<0 by omega)
     omega
   have:=up z
   omega
 have mm:x≤0→y≤0→((m+1:Nat):Int)*zaP L H m≤hs (m+1) x y∧hs (m+1) x y≤((m+1:Nat):Int)*za4 L H m:=λhx hy=>by
  have top:=(zmV (L:=0) (H:=-L) (x:=-x) (y:=-y) (Vav _) (by omega) (by omega) (by omega) (by omega) m).2
  have nn:=zjG (x:=-x) (y:=-y) (by omega) (by omega) (m+1)
  rw[zpu] at top nn
  rw[zew L] at top
  have low:H≤0→((m+1:Nat):Int)*(H^m*(-1)^m)≤hs (m+1) x y*(-1)^m:=λc=>by
   have z:=(zmV (L:=-H) (H:=-L) (x:=-x) (y:=-y) (by omega) (by omega) (by omega) (by omega) (by omega) m).1
   rw[zpu,zew H] at z
   exact z
  by_cases p:m%2=0
  ·rw[zeo p,VaW,VaW] at top
   rw[zeo p,VaW] at nn
   refine⟨?_,Vbi top (up hi1)⟩
   by_cases c:H≤0
   ·have z:=low c
    rw[zeo p,VaW,VaW] at z
    exact Vbi (up lo2) z
   ·have z:zaP L H m=0:=by
     unfold zaP
     rw[if_pos ⟨p,by omega,by omega⟩]
    rw[z]
    omega
  ·have p':m%2=1:=by omega
   rw[zo8 p'] at top nn low
   have top':((m+1:Nat):Int)*L^m≤hs (m+1) x y:=by grind
   refine⟨Vbi (up lo1) top',?_⟩
   by_cases c:H≤0
   ·have z:=low c
    have z':hs (m+1) x y≤((m+1:Nat):Int)*H^m:=by grind
    exact Vbi z' (up hi2)
   ·have:0≤H^m:=VaO (by omega)
    have:=up (show (0:Int)≤za4 L H m by omega)
    omega
 have mix:∀ {x y:Int},L≤x→y≤H→x≤0→0≤y→((m+1:Nat):Int)*zaP L H m≤hs (m+1) x y∧hs (m+1) x y≤((m+1:Nat):Int)*za4 L H m:=λ{x y} x1 y2 hx hy=>by
  have z:=zxx (a:=-x) (b:=y) (by omega) hy m
  rw[Int.neg_neg] at z
  have ax:=zm1 (show (0:Int)≤-x by omega) (show -x≤-L by omega) m
  rw[zew x,zew L] at ax
  rw[zew x] at z
  have by':=zm1 hy y2 m
  have pH:0≤H^m:=VaO (by omega)
  by_cases p:m%2=0
  ·obtain⟨z1,z2⟩:=z.1 p
   rw[zeo p,VaW] at z2
   rw[zeo p,VaW,VaW] at ax
   have zl:zaP L H m=0:=by
    unfold zaP
    rw[if_pos ⟨p,by omega,by omega⟩]
   rw[zl]
   refine⟨by omega,?_⟩
   have:=big (u:=za4 L H m) (by omega)
   omega
  ·have p':m%2=1:=by omega
   obtain⟨z1,z2⟩:=z.2 p'
   rw[zo8 p'] at z1 ax
   have ax':L^m≤x^m:=by grind
   have z1':x^m≤hs (m+1) x y:=by grind
   refine⟨?_,?_⟩
   ·have l0:L^m≤0:=by
     rcases Int.lt_or_eq_of_le (show L≤0 by omega) with c | c
     ·have:=zmp (n:=m) p' c
      omega
     ·rw[c,zkq hm]
      exact Vav _
    have b:=big (u:=-(L^m)) (by omega)
    have b':((m+1:Nat):Int)*L^m≤L^m:=by grind
    have:=up lo1
    omega
   ·have:=big (u:=za4 L H m) (by omega)
    omega
 rcases Int.le_total 0 x with hx | hx
 ·rcases Int.le_total 0 y with hy | hy
  ·exact pp hx hy
  ·rw[zr1]
   exact mix y1 x2 hy hx
 ·rcases Int.le_total 0 y with hy | hy
  ·exact mix x1 y2 hx hy
  ·exact mm hx hy
theorem zrE {a b p:Int}{n:Nat}(hp:1≤p):zaP (a*p) (b*p) n=zaP a b n*p^n∧za4 (a*p) (b*p) n=za4 a b n*p^n:=by
 have pp:0≤p^n:=VaO (by omega)
 have sgn:∀x:Int,(x*p≤0↔x≤0)∧(0≤x*p↔0≤x):=λx=>by
  refine⟨⟨λh=>?_,λh=>?_⟩,⟨λh=>?_,λh=>Vaw h (by omega)⟩⟩
  ·exact VaI (show x*p≤0*p by omega) (by omega)
  ·have:=Vaf h (show 0≤p by omega)
   omega
  ·exact VaI (show 0*p≤x*p by omega) (by omega)
 unfold zaP za4
 rw[VaQ,VaQ,(zdB pp).1,(zdB pp).2]
 refine⟨?_,rfl⟩
 by_cases c:n%2=0∧a≤0∧0≤b
 ·rw[if_pos c,if_pos ⟨c.1,(sgn a).1.mpr c.2.1,(sgn b).2.mpr c.2.2⟩,Vbb]
 ·rw[if_neg c,if_neg (λz=>c ⟨z.1,(sgn a).1.mp z.2.1,(sgn b).2.mp z.2.2⟩)]
def zbb:Nat→(Nat→Int)→Int
 | 0,_=>0
 | k+1,f=>zbb k f+f k
theorem zkF (a b:Int)(m n s:Nat→Int):∀q,zbb q (λk=>(a*m k+b*n k)*s k)=a*zbb q (λk=>m k*s k)+b*zbb q (λk=>n k*s k)
 | 0=>by simp[zbb]
 | q+1=>by
  show zbb q _+_=a*(zbb q _+_)+b*(zbb q _+_)
  rw[zkF a b m n s q]
  grind
theorem zpQ (a:Int)(m s:Nat→Int):∀q,zbb q (λk=>(a*m k)*s k)=a*zbb q (λk=>m k*s k)
 | 0=>by simp[zbb]
 | q+1=>by
  show zbb q _+_=a*(zbb q _+_)
  rw[zpQ a m s q]
  grind
def Dif (U:Int)(q:Nat)(s:Nat→Int)(f l:Int×Int)(row:Nat→Int×Int):Prop:=
 ∃(d:Int) (n:Nat→Int),1≤d∧(∀k,k<q→(row k).1*d≤n k∧n k≤(row k).2*d)∧(f.1*l.2-l.1*f.2)*U*d=f.2*l.2*zbb q (λk=>n k*s k)
theorem zyz {U:Int}{q:Nat}{s:Nat→Int}{a b c e:Int×Int}{r t:Nat→Int×Int}(h1:Dif U q s a c r)(h2:Dif U q s b e t):
  Dif U q s (a.1*b.2+b.1*a.2,a.2*b.2) (c.1*e.2+e.1*c.2,c.2*e.2) (λk=>((r k).1+(t k).1,(r k).2+(t k).2)):=by
 obtain⟨d1,n1,p1,b1,e1⟩:=h1
 obtain⟨d2,n2,p2,b2,e2⟩:=h2
 refine⟨d1*d2,λk=>d2*n1 k+d1*n2 k,VaE (by omega) (by omega),λk hk=>?_,?_⟩
 ·obtain⟨x1,x2⟩:=b1 k hk
  obtain⟨y1,y2⟩:=b2 k hk
  have u1:=Vaf x1 (show 0≤d2 by omega)
  have u2:=Vaf x2 (show 0≤d2 by omega)
  have v1:=Vaf y1 (show 0≤d1 by omega)
  have v2:=Vaf y2 (show 0≤d1 by omega)
  try dsimp only
  constructor <;> grind
 ·rw[zkF]
  generalize zbb q (λk=>n1 k*s k)=S1 at e1
  generalize zbb q (λk=>n2 k*s k)=S2 at e2
  try dsimp only
  grind
theorem ztq {U:Int}{q:Nat}{s:Nat→Int}{a b c e:Int×Int}{r t:Nat→Int×Int}(h1:Dif U q s a c r)(h2:Dif U q s b e t):
  Dif U q s (a.1*b.2-b.1*a.2,a.2*b.2) (c.1*e.2-e.1*c.2,c.2*e.2) (λk=>((r k).1-(t k).2,(r k).2-(t k).1)):=by
 obtain⟨d1,n1,p1,b1,e1⟩:=h1
 obtain⟨d2,n2,p2,b2,e2⟩:=h2
 refine⟨d1*d2,λk=>d2*n1 k + -d1*n2 k,VaE (by omega) (by omega),λk hk=>?_,?_⟩
 ·obtain⟨x1,x2⟩:=b1 k hk
  obtain⟨y1,y2⟩:=b2 k hk
  have u1:=Vaf x1 (show 0≤d2 by omega)
  have u2:=Vaf x2 (show 0≤d2 by omega)
  have v1:=Vaf y1 (show 0≤d1 by omega)
  have v2:=Vaf y2 (show 0≤d1 by omega)
  try dsimp only
  constructor <;> grind
 ·rw[zkF]
  generalize zbb q (λk=>n1 k*s k)=S1 at e1
  generalize zbb q (λk=>n2 k*s k)=S2 at e2
  try dsimp only
  grind
theorem znZ {v r:Int×Int}{g x b n d:Int}(hg:1≤g)(hb:1≤b)(hd:1≤d)(h1:v.1*b≤x*g)(h2:x*g≤v.2*b)(h3:r.1*d≤n)(h4:n≤r.2*d):(zaX v r g).1*(b*d)≤x*n∧x*n≤(zaX v r g).2*(b*d):=by
 have pq:0≤b*d:=Vaw (by omega) (by omega)
 have z:=zpH h1 h2 h3 h4
 rw[(zm9 pq).1,(zm9 pq).2] at z
 have e:x*g*n=x*n*g:=by grind
 rw[e] at z
 exact zpj hg pq z.1 z.2
theorem zvf {U g:Int}{q:Nat}{s:Nat→Int}{a b c e v w:Int×Int}{r t:Nat→Int×Int}(hg:1≤g)(h1:Dif U q s a c r)(h2:Dif U q s b e t)(pa:1≤a.2)(pe:1≤e.2)
  (va:v.1*a.2≤a.1*g∧a.1*g≤v.2*a.2)(we:w.1*e.2≤e.1*g∧e.1*g≤w.2*e.2):
  Dif U q s (a.1*b.1,a.2*b.2) (c.1*e.1,c.2*e.2) (λk=>((zaX v (t k) g).1+(zaX w (r k) g).1,(zaX v (t k) g).2+(zaX w (r k) g).2)):=by
 obtain⟨d1,n1,p1,b1,e1⟩:=h1
 obtain⟨d2,n2,p2,b2,e2⟩:=h2
 have q1:(1:Int)≤d1*d2:=VaE (by omega) (by omega)
 have q2:(1:Int)≤a.2*e.2:=VaE (by omega) (by omega)
 refine⟨a.2*e.2*(d1*d2),λk=>(a.1*e.2*d1)*n2 k+(e.1*a.2*d2)*n1 k,VaE (by omega) (by omega),λk hk=>?_,?_⟩
 ·obtain⟨x1,x2⟩:=b1 k hk
  obtain⟨y1,y2⟩:=b2 k hk
  have m1:=znZ hg pa p2 va.1 va.2 y1 y2
  have m2:=znZ hg pe p1 we.1 we.2 x1 x2
  have f1:(0:Int)≤e.2*d1:=Vaw (by omega) (by omega)
  have f2:(0:Int)≤a.2*d2:=Vaw (by omega) (by omega)
  have u1:=Vaf m1.1 f1
  have u2:=Vaf m1.2 f1
  have v1:=Vaf m2.1 f2
  have v2:=Vaf m2.2 f2
  try dsimp only
  generalize zaX v (t k) g=M1 at u1 u2
  generalize zaX w (r k) g=M2 at v1 v2
  clear m1 m2 x1 x2 y1 y2 va we e1 e2
  constructor <;> grind
 ·rw[zkF]
  generalize zbb q (λk=>n1 k*s k)=S1 at e1
  generalize zbb q (λk=>n2 k*s k)=S2 at e2
  try dsimp only
  clear b1 b2 va we
  have k1:=congrArg (λz=>z*(e.1*b.2*a.2*e.2*d2)) e1
  have k2:=congrArg (λz=>z*(a.1*c.2*a.2*e.2*d1)) e2
  try dsimp only at k1 k2
  clear e1 e2
  grind
theorem zvj {v:Int×Int}{g x y N:Int}{n:Int}(hg:1≤g)(hN:1≤N)(n2:2≤n)(h1:v.1*N≤x*g)(h2:x*g≤v.2*N)(h3:v.1*N≤y*g)(h4:y*g≤v.2*N):(zbw v n g).1*N^(n.toNat-1)≤hs n.toNat x y*g∧hs n.toNat x y*g≤(zbw v n g).2*N^(n.toNat-1):=by
 obtain⟨m,hm⟩:∃m,n.toNat=m+2:=⟨n.toNat-2,by omega⟩
 have en:(n-1).toNat=m+1:=by omega
 have nn:n=((m+1+1:Nat):Int):=by omega
 have z:=zs0 h1 h2 h3 h4 (m:=m+1) (by omega)
 rw[(zrE hN).1,(zrE hN).2,zot] at z
 have gp:(0:Int)<g^m:=VaJ (by omega)
 have np:(0:Int)≤N^(m+1):=VaO (by omega)
 have l:=(zeY (zaP v.1 v.2 (m+1)) gp).1
 have u:=(zi7 (za4 v.1 v.2 (m+1)) gp).1
 unfold zbw
 rw[hm,en,show m+2-1=m+1 by omega,show m+1-1=m by omega]
 have eg:g^(m+1)=g^m*g:=Vam g m
 rw[eg] at z
 rw[← nn] at z
 have f:(0:Int)≤n*N^(m+1):=Vaw (by omega) np
 have l2:=Vaf l f
 have u2:=Vaf u f
 dsimp only
 generalize zaP v.1 v.2 (m+1)/g^m=A at l2
 generalize -(-za4 v.1 v.2 (m+1)/g^m)=B at u2
 generalize zaP v.1 v.2 (m+1)=C at l2 z
 generalize za4 v.1 v.2 (m+1)=D at u2 z
 generalize g^m=G at *
 generalize N^(m+1)=M at *
 have z1:=z.1
 have z2:=z.2
 show _≤hs (m+1+1) x y*g∧hs (m+1+1) x y*g≤_
 generalize hs (m+1+1) x y=P at z1 z2
 clear z h1 h2 h3 h4 l u eg
 refine⟨VaI (a:=G) ?_ gp,VaI (a:=G) ?_ gp⟩ <;> grind
theorem zzf {U g:Int}{q:Nat}{s:Nat→Int}{a c v:Int×Int}{r:Nat→Int×Int}{n:Int}(hg:1≤g)(n2:2≤n)(h1:Dif U q s a c r)(pa:1≤a.2)(pc:1≤c.2)
  (va:v.1*a.2≤a.1*g∧a.1*g≤v.2*a.2)(vc:v.1*c.2≤c.1*g∧c.1*g≤v.2*c.2):
  Dif U q s (a.1^n.toNat,a.2^n.toNat) (c.1^n.toNat,c.2^n.toNat) (λk=>zaX (zbw v n g) (r k) g):=by
 obtain⟨d1,n1,p1,b1,e1⟩:=h1
 have hN:(1:Int)≤a.2*c.2:=VaE (by omega) (by omega)
 have w1:=Vaf va.1 (show 0≤c.2 by omega)
 have w2:=Vaf va.2 (show 0≤c.2 by omega)
 have w3:=Vaf vc.1 (show 0≤a.2 by omega)
 have w4:=Vaf vc.2 (show 0≤a.2 by omega)
 have fi:=zvj (v:=v) (g:=g) (x:=a.1*c.2) (y:=c.1*a.2) (N:=a.2*c.2) (n:=n) hg hN n2 (by grind) (by grind) (by grind) (by grind)
 have np:(1:Int)≤(a.2*c.2)^(n.toNat-1):=VaJ (by omega)
 refine⟨(a.2*c.2)^(n.toNat-1)*d1,λk=>hs n.toNat (a.1*c.2) (c.1*a.2)*n1 k,VaE (by omega) (by omega),λk hk=>?_,?_⟩
 ·obtain⟨x1,x2⟩:=b1 k hk
  exact znZ hg np p1 fi.1 fi.2 x1 x2
 ·rw[zpQ]
  generalize zbb q (λk=>n1 k*s k)=S1 at e1
  have hm:=zgu (a.1*c.2) (c.1*a.2) n.toNat
  rw[VaQ,VaQ] at hm
  obtain⟨m,hm'⟩:∃m,n.toNat=m+1:=⟨n.toNat-1,by omega⟩
  have eN:a.2^n.toNat*c.2^n.toNat=(a.2*c.2)^(n.toNat-1)*(a.2*c.2):=by
   rw[← VaQ,hm',Nat.add_sub_cancel,Vam]
  try dsimp only
  rw[eN]
  generalize (a.2*c.2)^(n.toNat-1)=M at *
  generalize hs n.toNat (a.1*c.2) (c.1*a.2)=P at *
  generalize a.1^n.toNat*c.2^n.toNat=u1 at *
  generalize c.1^n.toNat*a.2^n.toNat=u2 at *
  rw[← hm]
  have k1:=congrArg (λz=>z*(P*M)) e1
  try dsimp only at k1
  clear b1 w1 w2 w3 w4 fi va vc eN hm e1
  grind
theorem zpx {U:Int}{q:Nat}{s:Nat→Int}{f l:Int×Int}{r t:Nat→Int×Int}(h:Dif U q s f l r)(e:∀k,k<q→r k=t k):Dif U q s f l t:=by
 obtain⟨d,n,p,b,i⟩:=h
 exact⟨d,n,p,λk hk=>by rw[← e k hk]; exact b k hk,i⟩
theorem zq7 (s:Nat→Int):∀q,zbb q (λk=>0*s k)=0
 | 0=>rfl
 | q+1=>by
  show zbb q _+0*s q=0
  rw[zq7 s q]
  omega
theorem zq0 (a:Int)(s:Nat→Int)(j:Int):∀q:Nat,zbb q (λ(l:Nat)=>(if (l:Int)=j then a else 0)*s l)=if 0≤j∧j<(q:Int) then a*s j.toNat else 0
 | 0=>by
  rw[if_neg (λz=>by have:=z.1; have:=z.2; omega)]
  rfl
 | q+1=>by
  show zbb q _+(if (q:Int)=j then a else 0)*s q=_
  rw[zq0 a s j q]
  by_cases e:(q:Int)=j
  ·subst e
   rw[if_pos rfl,if_neg (λz=>by have:=z.2; omega),if_pos ⟨by omega,by omega⟩,Vah]
   omega
  ·rw[if_neg e,Vbb,Int.add_zero]
   by_cases c:0≤j∧j<(q:Int)
   ·rw[if_pos c,if_pos ⟨c.1,by have:=c.2; omega⟩]
   ·rw[if_neg c,if_neg (λz=>c ⟨z.1,by have:=z.2; omega⟩)]
theorem zsy {U:Int}{q:Nat}{s:Nat→Int}(f:Int×Int):Dif U q s f f (λ_=>(0,0)):=by
 refine⟨1,λ_=>0,by decide,λk hk=>by dsimp only; omega,?_⟩
 rw[zq7]
 grind
theorem zyX {sl:List (List (Int×Int))}{r:List (Int×Int)}{i:Int}{l:Nat}(h:inR sl.length i):gs (sl++[r]) i l=gs sl i l:=by
 have:=h.1
 have:=h.2
 unfold gs
 rw[Vak (l:=sl++[r]),Vak (l:=sl),Val (by omega)]
theorem zwr {sl:List (List (Int×Int))}{r:List (Int×Int)}{k l:Nat}(h:sl.length=k):gs (sl++[r]) (k:Int) l=r.getD l (0,0):=by
 unfold gs
 rw[Vah,Vak (l:=sl++[r]),← h,VaF (Vaa _),Vbg]
 rfl
theorem zyp {vs:List (Int×Int)}{sl:List (List (Int×Int))}{g:Int}{q l:Nat}{v:Nd}(h:l<q):(zbd vs sl g q v).getD l (0,0)=v.sl vs sl g l:=by
 unfold zbd
 rw[Vak,Vae,show (List.range q)[l]?=some l from Va5 h]
 rfl
theorem zt4 {q:Nat}{ns:List Nd}{ws:List Nat}{bs ps rs:List (Int×Int)}{g U:Int}{s:Nat→Int}(h:zaH q ns ws)(hb:q=bs.length)(hp:q=ps.length)(hr:q=rs.length)(hg:1≤g)(ip:InW g bs ps)(ir:InW g bs rs)(zp:Pz 110 ps)(zr:Pz 110 rs)
  (un:∀j:Int,inR q j→Dif U q s (gt ps j) (gt rs j) (λl=>if (l:Int)=j then (g,g) else (0,0))):
  ∀k:Nat,k≤ns.length→∀i:Int,inR k i→Dif U q s (gt (zar ps (ns.take k)) i) (gt (zar rs (ns.take k)) i) (λl=>gs (zaS (zau bs g ns) g q (ns.take k)) i l):=by
 intro k
 induction k with
 | zero=>intro _ i hi; exact absurd hi.2 (by have:=hi.1; omega)
 | succ k ih=>
  intro hk i hi
  have hv:ns[k]?=some ns[k]:=Vac (by omega)
  obtain⟨ok,_⟩:=h.ok k _ hv
  have l1:(zar ps (ns.take k)).length=k:=by rw[zbS,Vao]; omega
  have l2:(zar rs (ns.take k)).length=k:=by rw[zbS,Vao]; omega
  have l3:(zaS (zau bs g ns) g q (ns.take k)).length=k:=by rw[zfa,Vao]; omega
  rw[zbU hv,zdl,zdl,zmT]
  by_cases c:i<k
  ·rw[zm2 (by rw[l1]; exact⟨hi.1,c⟩),zm2 (by rw[l2]; exact⟨hi.1,c⟩)]
   exact zpx (ih (by omega) i ⟨hi.1,c⟩) λl _=>(zyX (by rw[l3]; exact⟨hi.1,c⟩)).symm
  ·have e:i=k:=by have:=hi.2; omega
   subst e
   rw[zij l1,zij l2]
   have w16:∀j:Nat,j<(zar ps (ns.take k)).length→ws.getD j 0≤16:=λj hj=>(h.w1 (i:=j) ⟨by omega,by omega⟩).2
   have w16':∀j:Nat,j<(zar rs (ns.take k)).length→ws.getD j 0≤16:=λj hj=>(h.w1 (i:=j) ⟨by omega,by omega⟩).2
   have p1:Pz 1800 (zar ps (ns.take k)):=Pz.of_w (zdv h (by rw[hp]) zp k (by omega)) w16
   have p2:Pz 1800 (zar rs (ns.take k)):=Pz.of_w (zdv h (by rw[hr]) zr k (by omega)) w16'
   have i1:=zq5 h (by rw[hb]) (by rw[hp]) hg ip zp k (by omega)
   have i2:=zq5 h (by rw[hb]) (by rw[hr]) hg ir zr k (by omega)
   have ev:∀j:Int,inR k j→gt (zau bs g (ns.take k)) j=gt (zau bs g ns) j:=λj hj=>by
    rw[← zyu bs g ns k (by omega)]
    exact zuD hj
   have in1:∀j:Int,inR k j→(gt (zau bs g ns) j).1*(gt (zar ps (ns.take k)) j).2≤(gt (zar ps (ns.take k)) j).1*g∧(gt (zar ps (ns.take k)) j).1*g≤(gt (zau bs g ns) j).2*(gt (zar ps (ns.take k)) j).2:=λj hj=>by
    rw[← ev j hj]
    exact i1 j (by rw[l1]; exact hj)
   have in2:∀j:Int,inR k j→(gt (zau bs g ns) j).1*(gt (zar rs (ns.take k)) j).2≤(gt (zar rs (ns.take k)) j).1*g∧(gt (zar rs (ns.take k)) j).1*g≤(gt (zau bs g ns) j).2*(gt (zar rs (ns.take k)) j).2:=λj hj=>by
    rw[← ev j hj]
    exact i2 j (by rw[l2]; exact hj)
   have q1:∀j:Int,inR k j→1≤(gt (zar ps (ns.take k)) j).2:=λj hj=>(p1.at (by rw[l1]; exact hj)).1
   have q2:∀j:Int,inR k j→1≤(gt (zar rs (ns.take k)) j).2:=λj hj=>(p2.at (by rw[l2]; exact hj)).1
   have ih':=ih (by omega)
   have row:∀l,l<q→(ns[k]).sl (zau bs g ns) (zaS (zau bs g ns) g q (ns.take k)) g l=gs (zaS (zau bs g ns) g q (ns.take k)++[zbd (zau bs g ns) (zaS (zau bs g ns) g q (ns.take k)) g q ns[k]]) (k:Int) l:=λl hl=>by
    rw[zwr l3,zyp hl]
   refine zpx (r:=λl=>(ns[k]).sl (zau bs g ns) (zaS (zau bs g ns) g q (ns.take k)) g l) ?_ row
   clear row hv
   generalize ns[k]=v at ok
   cases v with
   | number t b=>exact zsy (t,b)
   | unknown j=>exact un j ok
   | plus a b=>exact zyz (ih' a ok.1) (ih' b ok.2)
   | minus a b=>exact ztq (ih' a ok.1) (ih' b ok.2)
   | times a b=>exact zvf hg (ih' a ok.1) (ih' b ok.2) (q1 a ok.1) (q2 b ok.2) (in1 a ok.1) (in2 b ok.2)
   | power a n=>exact zzf hg ok.2.1 (ih' a ok.1) (q1 a ok.1) (q2 a ok.1) (in1 a ok.1) (in2 a ok.1)
def In (p:Int×Int)(x:Rat):Prop:=(p.1:Rat)≤x∧x≤(p.2:Rat)
theorem zkm {a b g:Rat}(hg:0<g)(h:g*a≤g*b):a≤b:=by
 by_cases c:a≤b
 ·exact c
 ·have d:b<a:=Rat.not_le.mp c
  have z:=Rat.mul_pos hg (show 0<a-b by grind)
  grind
theorem zdb {a b:Int}(h:a≤b):(a:Rat)≤(b:Rat):=Rat.intCast_le_intCast.mpr h
theorem In.add {p q:Int×Int}{x y:Rat}(h1:In p x)(h2:In q y):In (zdz p q) (x+y):=by
 obtain⟨a,b⟩:=h1
 obtain⟨c,d⟩:=h2
 refine⟨?_,?_⟩
 ·show ((p.1+q.1:Int):Rat)≤_
  rw[Rat.intCast_add]; grind
 ·show _≤((p.2+q.2:Int):Rat)
  rw[Rat.intCast_add]; grind
theorem In.take {p q:Int×Int}{x y:Rat}(h1:In p x)(h2:In q y):In (zbA p q) (x-y):=by
 obtain⟨a,b⟩:=h1
 obtain⟨c,d⟩:=h2
 refine⟨?_,?_⟩
 ·show ((p.1-q.2:Int):Rat)≤_
  rw[Rat.intCast_sub]; grind
 ·show _≤((p.2-q.1:Int):Rat)
  rw[Rat.intCast_sub]; grind
theorem zx8 {A B C D x y:Rat}(h1:A≤x)(h2:x≤B)(h3:C≤y)(h4:y≤D):(A*C≤x*y∨A*D≤x*y∨B*C≤x*y∨B*D≤x*y)∧(x*y≤A*C∨x*y≤A*D∨x*y≤B*C∨x*y≤B*D):=by
 have m:∀ {u v:Rat},0≤u→0≤v→0≤u*v:=λa b=>Rat.mul_nonneg a b
 rcases Rat.le_total (a:=0) (b:=y) with hy | hy
 ·have a1:=m (show 0≤x-A by grind) hy
  have a2:=m (show 0≤B-x by grind) hy
  refine⟨?_,?_⟩
  ·rcases Rat.le_total (a:=0) (b:=A) with hA | hA
   ·have:=m hA (show 0≤y-C by grind)
    exact .inl (by grind)
   ·have:=m (show 0≤-A by grind) (show 0≤D-y by grind)
    exact .inr (.inl (by grind))
  ·rcases Rat.le_total (a:=0) (b:=B) with hB | hB
   ·have:=m hB (show 0≤D-y by grind)
    exact .inr (.inr (.inr (by grind)))
   ·have:=m (show 0≤-B by grind) (show 0≤y-C by grind)
    exact .inr (.inr (.inl (by grind)))
 ·have a1:=m (show 0≤x-A by grind) (show 0≤-y by grind)
  have a2:=m (show 0≤B-x by grind) (show 0≤-y by grind)
  refine⟨?_,?_⟩
  ·rcases Rat.le_total (a:=0) (b:=B) with hB | hB
   ·have:=m hB (show 0≤y-C by grind)
    exact .inr (.inr (.inl (by grind)))
   ·have:=m (show 0≤-B by grind) (show 0≤D-y by grind)
    exact .inr (.inr (.inr (by grind)))
  ·rcases Rat.le_total (a:=0) (b:=A) with hA | hA
   ·have:=m hA (show 0≤D-y by grind)
    exact .inr (.inl (by grind))
   ·have:=m (show 0≤-A by grind) (show 0≤y-C by grind)
    exact .inl (by grind)
theorem In.mul {p q:Int×Int}{x y:Rat}{g:Int}(hg:1≤g)(h1:In p x)(h2:In q y):In (zaX p q g) (x*y/(g:Rat)):=by
 have gp:(0:Rat)<(g:Rat):=Rat.intCast_pos.mpr (by omega)
 have ge:(g:Rat)*(x*y/(g:Rat))=x*y:=by grind
 have c:=zx8 h1.1 h1.2 h2.1 h2.2
 have lo:((mn4 p.1 p.2 q.1 q.2:Int):Rat)≤x*y:=by
  have t:∀u:Int,mn4 p.1 p.2 q.1 q.2≤u→((mn4 p.1 p.2 q.1 q.2:Int):Rat)≤(u:Rat):=λu h=>zdb h
  have e1:=t (p.1*q.1) (by unfold mn4; omega)
  have e2:=t (p.1*q.2) (by unfold mn4; omega)
  have e3:=t (p.2*q.1) (by unfold mn4; omega)
  have e4:=t (p.2*q.2) (by unfold mn4; omega)
  rw[Rat.intCast_mul] at e1 e2 e3 e4
  rcases c.1 with z | z | z | z <;> grind
 have hi:x*y≤((mx4 p.1 p.2 q.1 q.2:Int):Rat):=by
  have t:∀u:Int,u≤mx4 p.1 p.2 q.1 q.2→(u:Rat)≤((mx4 p.1 p.2 q.1 q.2:Int):Rat):=λu h=>zdb h
  have e1:=t (p.1*q.1) (by unfold mx4; omega)
  have e2:=t (p.1*q.2) (by unfold mx4; omega)
  have e3:=t (p.2*q.1) (by unfold mx4; omega)
  have e4:=t (p.2*q.2) (by unfold mx4; omega)
  rw[Rat.intCast_mul] at e1 e2 e3 e4
  rcases c.2 with z | z | z | z <;> grind
 refine⟨zkm gp ?_,zkm gp ?_⟩
 ·have z:=zdb (zeY (mn4 p.1 p.2 q.1 q.2) (show 0<g by omega)).1
  rw[Rat.intCast_mul] at z
  rw[ge]
  show (g:Rat)*((mn4 p.1 p.2 q.1 q.2/g:Int):Rat)≤_
  grind
 ·have z:=zdb (zi7 (mx4 p.1 p.2 q.1 q.2) (show 0<g by omega)).1
  rw[Rat.intCast_mul] at z
  rw[ge]
  show _≤(g:Rat)*((-(-mx4 p.1 p.2 q.1 q.2/g):Int):Rat)
  grind
def zas:Nat→(Nat→Rat)→Rat
 | 0,_=>0
 | k+1,f=>zas k f+f k
theorem In.sum {g:Int}(hg:1≤g){us vs:List (Int×Int)}{a b:Nat→Rat}(h1:∀(j:Nat) (p:Int×Int),us[j]?=some p→In p (a j))(h2:∀(j:Nat) (p:Int×Int),vs[j]?=some p→In p (b j)):∀k:Nat,k≤us.length→k≤vs.length→In (sumP g (us.take k) (vs.take k)) (zas k λj=>a j*b j/(g:Rat))
 | 0,_,_=>⟨Rat.le_refl,Rat.le_refl⟩
 | k+1,l1,l2=>by
  have hu:=Vac (show k<us.length by omega)
  have hv:=Vac (show k<vs.length by omega)
  rw[zgG g us vs k hu hv]
  exact(In.sum hg h1 h2 k (by omega) (by omega)).add ((h1 k _ hu).mul hg (h2 k _ hv))
theorem In.sumP {g:Int}(hg:1≤g){us vs:List (Int×Int)}{a b:Nat→Rat}{n:Nat}(l1:us.length=n)(l2:vs.length=n)(h1:∀(j:Nat) (p:Int×Int),us[j]?=some p→In p (a j))(h2:∀(j:Nat) (p:Int×Int),vs[j]?=some p→In p (b j)):In (sumP g us vs) (zas n λj=>a j*b j/(g:Rat)):=by
 have z:=In.sum hg h1 h2 n (by omega) (by omega)
 rw[Vaz (by omega),Vaz (by omega)] at z
 exact z
theorem zc8 {f h:Nat→Rat}:∀n,(∀k,k<n→f k=h k)→zas n f=zas n h
 | 0,_=>rfl
 | n+1,e=>by
  show zas n f+f n=zas n h+h n
  rw[zc8 n λk hk=>e k (by omega),e n (by omega)]
theorem zd9 (a:Rat)(f:Nat→Rat):∀n,zas n (λk=>a*f k)=a*zas n f
 | 0=>by show (0:Rat)=a*0; grind
 | n+1=>by
  show zas n _+_=a*(zas n f+f n)
  rw[zd9 a f n]
  grind
theorem znw (f h:Nat→Rat):∀n,zas n (λk=>f k+h k)=zas n f+zas n h
 | 0=>by show (0:Rat)=0+0; grind
 | n+1=>by
  show zas n _+_=(zas n f+f n)+(zas n h+h n)
  rw[znw f h n]
  grind
theorem zrg (f:Nat→Nat→Rat)(m:Nat):∀n,zas n (λk=>zas m λj=>f k j)=zas m λj=>zas n λk=>f k j
 | 0=>by
  show (0:Rat)=zas m λ_=>0
  have z:∀m,zas m (λ_=>(0:Rat))=0:=λm=>by
   induction m with
   | zero=>rfl
   | succ m ih=>show zas m _+0=0; rw[ih]; grind
  rw[z]
 | n+1=>by
  show zas n _+zas m (λj=>f n j)=zas m λj=>zas n (λk=>f k j)+f n j
  rw[zrg f m n,← znw]
theorem zqd (k:Nat)(w:Nat→Rat):∀n,zas n (λl=>(if k=l then 1 else 0)*w l)=if k<n then w k else 0
 | 0=>rfl
 | n+1=>by
  show zas n _+_=_
  rw[zqd k w n]
  by_cases c:k=n
  ·subst c
   rw[if_neg (by omega),if_pos (by omega)]
   simp
   grind
  ·by_cases d:k<n
   ·rw[if_pos d,if_pos (by omega)]
    simp[c]
    grind
   ·rw[if_neg d,if_neg (by omega)]
    simp[c]
    grind
theorem ztC {g m:Rat}(hg:g≠0){q e:Nat}{k:Nat}(hk:k<q)(T y w:Nat→Rat)(s:Nat→Nat→Rat)(rel:∀j,j<e→y j*g=-(zas q λl=>s j l*w l)):
  m-(zas e λj=>T j*y j/g)+(zas q λl=>((if k=l then g else 0)-zas e λj=>T j*s j l/g)*w l/g)=m+w k:=by
 have h1:(zas e λj=>T j*y j/g)=zas e λj=>-(zas q λl=>T j*s j l*w l/(g*g)):=by
  refine zc8 e λj hj=>?_
  have r:=rel j hj
  have c:(zas q λl=>T j*s j l*w l/(g*g))=T j/(g*g)*zas q λl=>s j l*w l:=by
   rw[← zd9]
   exact zc8 q λl _=>by grind
  rw[c]
  generalize zas q (λl=>s j l*w l)=A at r
  have e1:y j=-A/g:=by grind
  rw[e1]
  grind
 have h2:(zas q λl=>((if k=l then g else 0)-zas e λj=>T j*s j l/g)*w l/g)=w k+zas q λl=>-(zas e λj=>T j*s j l*w l/(g*g)):=by
  have d:=zqd k w q
  rw[if_pos hk] at d
  rw[← d,← znw]
  refine zc8 q λl _=>?_
  have c:(zas e λj=>T j*s j l*w l/(g*g))=w l/(g*g)*g*zas e λj=>T j*s j l/g:=by
   rw[← zd9]
   exact zc8 e λj _=>by grind
  rw[c]
  by_cases x:k=l
  ·rw[if_pos x,if_pos x]; grind
  ·rw[if_neg x,if_neg x]; grind
 have n1:∀(n:Nat) (f:Nat→Rat),(zas n λj=>-(f j))=-(zas n f):=λn f=>by
  have z:=zd9 (-1) f n
  have z2:(zas n λj=>-(f j))=zas n λj=>-1*f j:=zc8 n λj _=>by grind
  rw[z2,z]
  grind
 rw[h1,h2,n1,n1,zrg (λj l=>T j*s j l*w l/(g*g)) q e]
 grind
theorem zy1 {a b:Int}{x:Int}(hb:1≤b)(h:x*b≤a):(x:Rat)≤(a:Rat)/(b:Rat):=by
 have bp:(0:Rat)<(b:Rat):=Rat.intCast_pos.mpr (by omega)
 refine zkm bp ?_
 have z:=zdb h
 rw[Rat.intCast_mul] at z
 have e:(b:Rat)*((a:Rat)/(b:Rat))=(a:Rat):=by grind
 rw[e,Rat.mul_comm]
 exact z
theorem zs3 {a b:Int}{x:Int}(hb:1≤b)(h:a≤x*b):(a:Rat)/(b:Rat)≤(x:Rat):=by
 have bp:(0:Rat)<(b:Rat):=Rat.intCast_pos.mpr (by omega)
 refine zkm bp ?_
 have z:=zdb h
 rw[Rat.intCast_mul] at z
 have e:(b:Rat)*((a:Rat)/(b:Rat))=(a:Rat):=by grind
 rw[e,Rat.mul_comm]
 exact z
theorem zrJ (f:Nat→Int):∀n,((zbb n f:Int):Rat)=zas n λk=>(f k:Rat)
 | 0=>rfl
 | n+1=>by
  show ((zbb n f+f n:Int):Rat)=zas n (λk=>(f k:Rat))+(f n:Rat)
  rw[Rat.intCast_add,zrJ f n]
theorem zvQ {bs:List (Int×Int)}(f:Int×Int→Int×Int){i:Int}(h:inR bs.length i):gt (bs.map f) i=f (gt bs i):=by
 have h0:=h.1
 have h1:=h.2
 have hk:i.toNat<bs.length:=by omega
 unfold gt
 simp[hk]
theorem zvG (r:Bool×Nat):eqN 1 (rwD r) (rwD r)=some true:=by
 obtain⟨b,n⟩:=r
 cases b <;> simp[rwD,eqN,L3.eqT,eqL,eqF]
theorem zqP:∀rows:List (Bool×Nat),eqL (eqN 1) (rows.map rwD) (rows.map rwD)=some true
 | []=>rfl
 | r::rs=>by
  show (match eqN 1 (rwD r) (rwD r),eqL (eqN 1) (rs.map rwD) (rs.map rwD) with | some b,some c=>some (b&&c) | _,_=>none)=_
  rw[zvG,zqP rs]
  rfl
theorem zuQ {ns:List Nd}{ws:List Nat}{bs:List (Int×Int)}{g:Int}{is:List Nat}(net:zaH bs.length ns ws)(sb:Spn 51 bs)(hg:1≤g∧g≤1000000)(hi:∀i∈is,i<ns.length):Bd 2000 (is.map λ(i:Nat)=>gt (zau (bs.map zaW) g ns) i):=λp hp=>by
 obtain⟨i,him,rfl⟩:=Vag.mp hp
 have net2:zaH ((bs.map zaW).length:Nat) ns ws:=by rw[Vab]; exact net
 have sp:=zo1 net2 rfl (znz sb) hg ns.length (Vaa _)
 rw[VaA] at sp
 have z:=sp.at (i:=(i:Int)) ⟨by omega,by rw[zcp]; have:=hi i him; omega⟩
 exact⟨z.2.1.mono (by decide),z.2.2.mono (by decide)⟩
theorem zrh {ns:List Nd}{ws:List Nat}{bs:List (Int×Int)}{g:Int}{is:List Nat}(net:zaH bs.length ns ws)(sb:Spn 51 bs)(hg:1≤g∧g≤1000000)(hi:∀i∈is,i<ns.length):∀r∈(is.map λ(i:Nat)=>(zaS (zau bs g ns) g bs.length ns).getD i []),r.length=bs.length∧Bd 1023 r:=λr hr=>by
 have szw:=zqf net rfl sb hg
 have slw:SlW bs.length ws (zaS (zau bs g ns) g bs.length ns):=by
  have z:=zpF net szw (zcp _ _ _) hg ns.length (Vaa _)
  rwa [VaA] at z
 obtain⟨i,him,rfl⟩:=Vag.mp hr
 have hin:=hi i him
 have hl:i<(zaS (zau bs g ns) g bs.length ns).length:=by rw[zfa]; exact hin
 have e:(zaS (zau bs g ns) g bs.length ns).getD i []=(zaS (zau bs g ns) g bs.length ns)[i]:=by simp[hl]
 obtain⟨z1,z2⟩:=slw i _ (Vac hl)
 rw[e]
 have w:=(net.w1 (i:=(i:Int)) ⟨by omega,by omega⟩).2
 rw[Vah] at w
 exact⟨z1,λp hp=>⟨(z2 p hp).2.1.mono (by omega),(z2 p hp).2.2.mono (by omega)⟩⟩
theorem znW {ns:List Nd}{ws:List Nat}{bs:List (Int×Int)}{g:Int}{is:List Nat}(net:zaH bs.length ns ws)(sb:Spn 51 bs)(hg:1≤g∧g≤1000000)(hi:∀i∈is,i<ns.length):∀r∈(is.map λ(i:Nat)=>(zaS (zau bs g ns) g bs.length ns).getD i []),r.length=bs.length∧Bd 2000 r:=λr hr=>by
 obtain⟨z1,z2⟩:=zrh net sb hg hi r hr
 exact⟨z1,λp hp=>⟨(z2 p hp).1.mono (by decide),(z2 p hp).2.mono (by decide)⟩⟩
def rab (x:Rat):Rat:=if 0≤x then x else -x
theorem zmF (x:Rat):0≤rab x:=by unfold rab; split <;> grind
theorem zh3 (x:Rat):x≤rab x∧-x≤rab x:=by unfold rab; split <;> grind
theorem zqt {x y:Rat}(h1:x≤y)(h2:-x≤y):rab x≤y:=by unfold rab; split <;> grind
theorem zxa (x y:Rat):rab (x*y)≤rab x*rab y:=by
 have a:=zh3 x
 have b:=zh3 y
 have m1:=Rat.mul_nonneg (show 0≤rab x-x by grind) (show 0≤rab y-y by grind)
 have m2:=Rat.mul_nonneg (show 0≤rab x+x by grind) (show 0≤rab y+y by grind)
 have m3:=Rat.mul_nonneg (show 0≤rab x-x by grind) (show 0≤rab y+y by grind)
 have m4:=Rat.mul_nonneg (show 0≤rab x+x by grind) (show 0≤rab y-y by grind)
 exact zqt (by grind) (by grind)
theorem zmt {f h:Nat→Rat}:∀n,(∀k,k<n→f k≤h k)→zas n f≤zas n h
 | 0,_=>Rat.le_refl
 | n+1,e=>by
  show zas n f+f n≤zas n h+h n
  have a:=zmt n λk hk=>e k (by omega)
  have b:=e n (by omega)
  grind
theorem zpv (f:Nat→Rat):∀n,rab (zas n f)≤zas n λk=>rab (f k)
 | 0=>by show rab 0≤0; unfold rab; grind
 | n+1=>by
  show rab (zas n f+f n)≤zas n (λk=>rab (f k))+rab (f n)
  have a:=zpv f n
  have b:=zh3 (zas n f)
  have c:=zh3 (f n)
  exact zqt (by grind) (by grind)
theorem rmax (r w:Nat→Rat):∀q,(∀k,k<q→0<r k)→0<q→∃k,k<q∧∃c,0≤c∧rab (w k)=c*r k∧∀l,l<q→rab (w l)≤c*r l
 | 0,_,h=>by omega
 | q+1,hr,_=>by
  have own:rab (w q)=rab (w q)/r q*r q:=by have:=hr q (by omega); grind
  have nn:0≤rab (w q)/r q:=by
   have:=hr q (by omega)
   have e:rab (w q)/r q=rab (w q)*(r q)⁻¹:=by grind
   rw[e]
   exact Rat.mul_nonneg (zmF _) (Rat.le_of_lt (Rat.inv_pos.mpr this))
  by_cases c0:q=0
  ·subst c0
   exact⟨0,by omega,_,nn,own,λl hl=>by
    obtain rfl:l=0:=by omega
    rw[← own]
    exact Rat.le_refl⟩
  ·obtain⟨k,hk,c,hc,e,all⟩:=rmax r w q (λk hk=>hr k (by omega)) (by omega)
   by_cases d:rab (w q)≤c*r q
   ·exact⟨k,by omega,c,hc,e,λl hl=>by
     by_cases x:l=q
     ·rw[x]; exact d
     ·exact all l (by omega)⟩
   ·have rq:=hr q (by omega)
    have cl:c≤rab (w q)/r q:=by
     by_cases z:c≤rab (w q)/r q
     ·exact z
     ·have m:=Rat.mul_nonneg (show 0≤c-rab (w q)/r q by grind) (show 0≤r q by grind)
      generalize rab (w q)/r q=u at *
      grind
    refine⟨q,by omega,_,nn,own,λl hl=>?_⟩
    by_cases x:l=q
    ·rw[x,← own]; exact Rat.le_refl
    ·have a:=all l (by omega)
     have m:=Rat.mul_nonneg (show 0≤rab (w q)/r q-c by grind) (show 0≤r l by have:=hr l (by omega); grind)
     generalize rab (w q)/r q=u at *
     grind
theorem zws {q:Nat}{g:Rat}(hg:0<g)(r w:Nat→Rat)(A:Nat→Nat→Rat)(hr:∀k,k<q→0<r k)(hA:∀k,k<q→zas q (λl=>rab (A k l)*r l/g)<r k)(hw:∀k,k<q→g*w k=zas q λl=>A k l*w l):∀k,k<q→w k=0:=by
 intro k0 hk0
 obtain⟨k,hk,c,hc,e,all⟩:=rmax r w q hr (by omega)
 have main:c=0:=by
  by_cases cz:c=0
  ·exact cz
  ·have cp:0<c:=by grind
   have h1:=hw k hk
   have h2:=zpv (λl=>A k l*w l) q
   rw[← h1] at h2
   have h3:zas q (λl=>rab (A k l*w l))≤zas q λl=>c*g*(rab (A k l)*r l/g):=zmt q λl hl=>by
    have a:=zxa (A k l) (w l)
    have b:=Rat.mul_nonneg (zmF (A k l)) (show 0≤c*r l-rab (w l) by have:=all l hl; grind)
    have d:c*g*(rab (A k l)*r l/g)=rab (A k l)*(c*r l):=by grind
    rw[d]
    grind
   rw[zd9] at h3
   have h4:=Rat.mul_pos (Rat.mul_pos cp hg) (show 0<r k-zas q (λl=>rab (A k l)*r l/g) by have:=hA k hk; grind)
   have h5:rab (g*w k)=g*rab (w k):=by
    have:=Rat.mul_nonneg (Rat.le_of_lt hg) (zmF (w k))
    unfold rab at *
    split <;> split <;> grind
   rw[h5,e] at h2
   generalize zas q (λl=>rab (A k l)*r l/g)=u at *
   grind
 have a:=all k0 hk0
 have b:=zh3 (w k0)
 rw[main] at a
 grind
theorem radd {a b c d:Rat}(h1:a≤c)(h2:b≤d):a+b≤c+d:=by grind
theorem rlt {a b c:Rat}(h1:a≤b)(h2:b<c):a<c:=by grind
theorem rback {g x:Rat}(hg:0<g):x=g*(x/g):=by grind
theorem zu6 {p q:Int×Int}{x:Rat}{g:Int}(hg:1≤g)(h1:In p x)(hq:q.1≤q.2):rab x*((q.2:Rat)-(q.1:Rat))/(g:Rat)≤((zaX p q g).2:Rat)-((zaX p q g).1:Rat):=by
 have gp:(0:Rat)<(g:Rat):=Rat.intCast_pos.mpr (by omega)
 have a:=In.mul hg h1 (show In q (q.1:Rat) from ⟨Rat.le_refl,zdb hq⟩)
 have b:=In.mul hg h1 (show In q (q.2:Rat) from ⟨zdb hq,Rat.le_refl⟩)
 have e:x*(q.2:Rat)/(g:Rat)-x*(q.1:Rat)/(g:Rat)=x*((q.2:Rat)-(q.1:Rat))/(g:Rat):=by grind
 obtain⟨a1,a2⟩:=a
 obtain⟨b1,b2⟩:=b
 unfold rab
 split
 ·grind
 ·have e2:-x*((q.2:Rat)-(q.1:Rat))/(g:Rat)=-(x*((q.2:Rat)-(q.1:Rat))/(g:Rat)):=by grind
  rw[e2]
  grind
theorem zqK (p q:Int×Int):((zdz p q).2:Rat)-((zdz p q).1:Rat)=((p.2:Rat)-(p.1:Rat))+((q.2:Rat)-(q.1:Rat)):=by
 show ((p.2+q.2:Int):Rat)-((p.1+q.1:Int):Rat)=_
 rw[Rat.intCast_add,Rat.intCast_add]
 grind
theorem zp7 (p q:Int×Int):((zbA p q).2:Rat)-((zbA p q).1:Rat)=((p.2:Rat)-(p.1:Rat))+((q.2:Rat)-(q.1:Rat)):=by
 show ((p.2-q.1:Int):Rat)-((p.1-q.2:Int):Rat)=_
 rw[Rat.intCast_sub,Rat.intCast_sub]
 grind
theorem zny {g:Int}(hg:1≤g){us vs:List (Int×Int)}{a:Nat→Rat}(h1:∀(j:Nat) (p:Int×Int),us[j]?=some p→In p (a j))(h2:∀p∈vs,p.1≤p.2):∀k:Nat,k≤us.length→k≤vs.length→zas k (λj=>rab (a j)*(((gt vs (j:Int)).2:Rat)-((gt vs (j:Int)).1:Rat))/(g:Rat))≤((sumP g (us.take k) (vs.take k)).2:Rat)-((sumP g (us.take k) (vs.take k)).1:Rat)
 | 0,_,_=>by
  show (0:Rat)≤((0:Int):Rat)-((0:Int):Rat)
  grind
 | k+1,l1,l2=>by
  have hu:=Vac (show k<us.length by omega)
  have hv:=Vac (show k<vs.length by omega)
  rw[zgG g us vs k hu hv,zqK]
  have ih:=zny hg h1 h2 k (by omega) (by omega)
  have m:=zu6 hg (h1 k _ hu) (h2 _ (Vai hv))
  have e:gt vs (k:Int)=vs[k]:=zdQ hv
  show zas k _+rab (a k)*(((gt vs (k:Int)).2:Rat)-((gt vs (k:Int)).1:Rat))/(g:Rat)≤_
  rw[e]
  exact radd ih m
theorem zna:∀n,zas n (λ_=>(0:Rat))=0
 | 0=>rfl
 | n+1=>by
  show zas n _+0=0
  rw[zna n]
  grind
theorem zwt {q e:Nat}{g:Int}(hg:1≤g){bs thin:List (Int×Int)}{R:List (List (Int×Int))}{M:List (List Int)}(lb:bs.length=q)(lt:thin.length=e)(lR:R.length=e)(lM:M.length=q)(lE:∀es∈M,es.length=e)(ob:∀p∈bs,p.1≤p.2)(ot:∀p∈thin,p.1≤p.2)
  (dp:∀(k:Nat) (es:List Int),M[k]?=some es→(gt bs (k:Int)).1<(zbh g bs thin R k es).1∧(zbh g bs thin R k es).2<(gt bs (k:Int)).2)(s:Nat→Nat→Rat)(sIn:∀c:Nat,c<q→∀(j:Nat) (p:Int×Int),(R.map λr=>r.getD c (0,0))[j]?=some p→In p (s j c))(w:Nat→Rat)(zero:∀j,j<e→zas q (λl=>s j l*w l)=0):∀k,k<q→w k=0:=by
 have gp:(0:Rat)<(g:Rat):=Rat.intCast_pos.mpr (by omega)
 have rn:∀l,l<q→(0:Rat)≤((gt bs (l:Int)).2:Rat)-((gt bs (l:Int)).1:Rat):=λl hl=>by
  have hb:=Vac (show l<bs.length by omega)
  have z:=zdb (ob _ (Vai hb))
  rw[zdQ hb]
  grind
 have gi:(0:Rat)≤(g:Rat)⁻¹:=Rat.le_of_lt (Rat.inv_pos.mpr gp)
 have nn:∀ {x y:Rat},0≤y→0≤rab x*y/(g:Rat):=λ{x y} hy=>by
  have z:=Rat.mul_nonneg (Rat.mul_nonneg (zmF x) hy) gi
  have e:rab x*y/(g:Rat)=rab x*y*(g:Rat)⁻¹:=by grind
  rw[e]
  exact z
 have fact:∀(k:Nat) (es:List Int),M[k]?=some es→zas q (λl=>rab ((if k=l then (g:Rat) else 0)-zas e λj=>((es.getD j 0:Int):Rat)*s j l/(g:Rat))*(((gt bs (l:Int)).2:Rat)-((gt bs (l:Int)).1:Rat))/(g:Rat))≤((zbh g bs thin R k es).2:Rat)-((zbh g bs thin R k es).1:Rat):=λk es hm=>by
  have le:=lE _ (Vai hm)
  have tIn:∀(j:Nat) (p:Int×Int),(es.map λe=>(e,e))[j]?=some p→In p ((es.getD j 0:Int):Rat):=λj p hj=>by
   rw[Vae] at hj
   obtain⟨x,hx,rfl⟩:=Van.mp hj
   have e:es.getD j 0=x:=by rw[Vak,hx]; rfl
   rw[e]
   exact⟨Rat.le_refl,Rat.le_refl⟩
  have lIn:∀(c:Nat) (p:Int×Int),((List.range bs.length).map λc=>zbZ g k c (es.map λe=>(e,e)) R)[c]?=some p→In p ((if k=c then (g:Rat) else 0)-zas e λj=>((es.getD j 0:Int):Rat)*s j c/(g:Rat)):=λc p hc=>by
   have hl:=(Vad.mp hc).1
   rw[Vab,Vbh] at hl
   rw[Vae,show (List.range bs.length)[c]?=some c from Va5 hl] at hc
   cases hc
   unfold zbZ
   refine In.take ?_ (In.sumP hg (n:=e) (by rw[Vab,le]) (by rw[Vab,lR]) tIn (sIn c (by omega)))
   by_cases x:k=c
   ·rw[if_pos x,if_pos x]
    exact⟨Rat.le_refl,Rat.le_refl⟩
   ·rw[if_neg x,if_neg x]
    exact⟨Rat.le_refl,Rat.le_refl⟩
  have ow:∀p∈bs.map (λp=>zbA p (zaW p)),p.1≤p.2:=λp hp=>by
   obtain⟨x,hx,rfl⟩:=Vag.mp hp
   have z:=ob x hx
   show x.1-mid x≤x.2-mid x
   omega
  have w1:=zny hg tIn ot e (by rw[Vab,le]; exact Vaa _) (by rw[lt]; exact Vaa _)
  rw[Vaz (by rw[Vab,le]; exact Vaa _),Vaz (by rw[lt]; exact Vaa _)] at w1
  have w2:=zny hg lIn ow q (by rw[Vab,Vbh,lb]; exact Vaa _) (by rw[Vab,lb]; exact Vaa _)
  rw[Vaz (by rw[Vab,Vbh,lb]; exact Vaa _),Vaz (by rw[Vab,lb]; exact Vaa _)] at w2
  have n1:(0:Rat)≤zas e (λj=>rab ((es.getD j 0:Int):Rat)*(((gt thin (j:Int)).2:Rat)-((gt thin (j:Int)).1:Rat))/(g:Rat)):=by
   have z:=zmt (f:=λ_=>(0:Rat)) (h:=λj=>rab ((es.getD j 0:Int):Rat)*(((gt thin (j:Int)).2:Rat)-((gt thin (j:Int)).1:Rat))/(g:Rat)) e (λj hj=>by
    have hb:=Vac (show j<thin.length by omega)
    have z:=zdb (ot _ (Vai hb))
    refine nn ?_
    rw[zdQ hb]
    grind)
   rw[zna] at z
   exact z
  have ew:zas q (λl=>rab ((if k=l then (g:Rat) else 0)-zas e λj=>((es.getD j 0:Int):Rat)*s j l/(g:Rat))*(((gt bs (l:Int)).2:Rat)-((gt bs (l:Int)).1:Rat))/(g:Rat))=zas q (λl=>rab ((if k=l then (g:Rat) else 0)-zas e λj=>((es.getD j 0:Int):Rat)*s j l/(g:Rat))*(((gt (bs.map λp=>zbA p (zaW p)) (l:Int)).2:Rat)-((gt (bs.map λp=>zbA p (zaW p)) (l:Int)).1:Rat))/(g:Rat)):=zc8 q λl hl=>by
   have hb:=Vac (show l<bs.length by omega)
   have e1:gt (bs.map λp=>zbA p (zaW p)) (l:Int)=zbA bs[l] (zaW bs[l]):=zdQ (by rw[Vae,hb]; rfl)
   rw[e1,zp7,zdQ hb]
   have e2:(((zaW bs[l]).2:Int):Rat)-(((zaW bs[l]).1:Int):Rat)=0:=by
    show ((mid bs[l]:Int):Rat)-((mid bs[l]:Int):Rat)=0
    grind
   rw[e2]
   grind
  rw[ew]
  unfold zbh
  rw[zqK,zp7]
  have e3:(((zaW (gt bs (k:Int))).2:Int):Rat)-(((zaW (gt bs (k:Int))).1:Int):Rat)=0:=by
   show ((mid (gt bs (k:Int)):Int):Rat)-((mid (gt bs (k:Int)):Int):Rat)=0
   grind
  rw[e3]
  have n2:=Rat.le_trans n1 w1
  generalize zas q _=x at w2 ⊢
  generalize ((sumP g (es.map λe=>(e,e)) thin).2:Rat)-((sumP g (es.map λe=>(e,e)) thin).1:Rat)=y at n2 ⊢
  generalize ((sumP g ((List.range bs.length).map λc=>zbZ g k c (es.map λe=>(e,e)) R) (bs.map λp=>zbA p (zaW p))).2:Rat)-((sumP g ((List.range bs.length).map λc=>zbZ g k c (es.map λe=>(e,e)) R) (bs.map λp=>zbA p (zaW p))).1:Rat)=z at w2 ⊢
  grind
 have less:∀(k:Nat) (es:List Int),M[k]?=some es→((zbh g bs thin R k es).2:Rat)-((zbh g bs thin R k es).1:Rat)<((gt bs (k:Int)).2:Rat)-((gt bs (k:Int)).1:Rat):=λk es hm=>by
  obtain⟨d1,d2⟩:=dp k es hm
  have c1:=Rat.intCast_lt_intCast.mpr d1
  have c2:=Rat.intCast_lt_intCast.mpr d2
  grind
 refine zws gp (λl=>((gt bs (l:Int)).2:Rat)-((gt bs (l:Int)).1:Rat)) w (λk l=>(if k=l then (g:Rat) else 0)-zas e λj=>(((M.getD k []).getD j 0:Int):Rat)*s j l/(g:Rat)) (λk hk=>?_) (λk hk=>?_) (λk hk=>?_)
 ·have hm:=Vac (show k<M.length by omega)
  have a:=fact k _ hm
  have b:=less k _ hm
  have n3:=zmt (f:=λ_=>(0:Rat)) (h:=λl=>rab ((if k=l then (g:Rat) else 0)-zas e λj=>((M[k].getD j 0:Int):Rat)*s j l/(g:Rat))*(((gt bs (l:Int)).2:Rat)-((gt bs (l:Int)).1:Rat))/(g:Rat)) q (λl hl=>nn (rn l hl))
  rw[zna] at n3
  have c:=Rat.le_trans n3 a
  show (0:Rat)<((gt bs (k:Int)).2:Rat)-((gt bs (k:Int)).1:Rat)
  generalize ((zbh g bs thin R k M[k]).2:Rat)-((zbh g bs thin R k M[k]).1:Rat)=y at b c
  generalize ((gt bs (k:Int)).2:Rat)-((gt bs (k:Int)).1:Rat)=x at b ⊢
  grind
 ·have hm:=Vac (show k<M.length by omega)
  have em:M.getD k []=M[k]:=by rw[Vak,hm]; rfl
  have a:=fact k _ hm
  have b:=less k _ hm
  simp only[em]
  exact rlt a b
 ·have z:=ztC (g:=(g:Rat)) (m:=0) (by grind) hk (λj=>(((M.getD k []).getD j 0:Int):Rat)) (λ_=>0) w s (e:=e) (λj hj=>by rw[zero j hj]; grind)
  have e0:(zas e λj=>(((M.getD k []).getD j 0:Int):Rat)*0/(g:Rat))=0:=by
   have z2:(zas e λj=>(((M.getD k []).getD j 0:Int):Rat)*0/(g:Rat))=zas e λ_=>(0:Rat):=zc8 e λj _=>by grind
   rw[z2,zna]
  rw[e0] at z
  have e1:(zas q λl=>((if k=l then (g:Rat) else 0)-zas e λj=>(((M.getD k []).getD j 0:Int):Rat)*s j l/(g:Rat))*w l)=(g:Rat)*zas q λl=>((if k=l then (g:Rat) else 0)-zas e λj=>(((M.getD k []).getD j 0:Int):Rat)*s j l/(g:Rat))*w l/(g:Rat):=by
   rw[← zd9]
   exact zc8 q λl _=>rback gp
  show _=zas q λl=>((if k=l then (g:Rat) else 0)-zas e λj=>(((M.getD k []).getD j 0:Int):Rat)*s j l/(g:Rat))*w l
  rw[e1]
  generalize (zas q λl=>((if k=l then (g:Rat) else 0)-zas e λj=>(((M.getD k []).getD j 0:Int):Rat)*s j l/(g:Rat))*w l/(g:Rat))=x at z ⊢
  have z2:x=w k:=by
   clear fact less e0 e1
   grind
  rw[z2]
theorem zyC {t u g W:Int}{q:Nat}{s:Nat→Int}{j:Int}(hj:inR q j)(hs:s j.toNat=t-u):Dif (g*g*W) q s (t,g*W) (u,g*W) (λl=>if (l:Int)=j then (g,g) else (0,0)):=by
 refine⟨1,λl=>if (l:Int)=j then g else 0,by decide,λk hk=>?_,?_⟩
 ·by_cases e:(k:Int)=j
  ·simp only[if_pos e]
   omega
  ·simp only[if_neg e]
   omega
 ·rw[zq0,if_pos (show 0≤j∧j<(q:Int) from hj),hs]
  try dsimp only
  grind
theorem zxq {q:Nat}{ns:List Nd}{ws:List Nat}{bs P P2:List (Int×Int)}{g W:Int}(net:zaH q ns ws)(hb:q=bs.length)(hp:q=P.length)(hp2:q=P2.length)(sb:Spn 51 bs)(hg:1≤g∧g≤1000000)(hW:1≤W)(ip:InW g bs P)(ip2:InW g bs P2)(zp:Pz 110 P)(zp2:Pz 110 P2)(pt:∀j:Int,inR q j→(gt P j).2=g*W)(pt2:∀j:Int,inR q j→(gt P2 j).2=g*W)
  {is:List Nat}(his:∀i∈is,i<ns.length)(same:∀i∈is,(gt (zar P ns) (i:Int)).1*(gt (zar P2 ns) (i:Int)).2=(gt (zar P2 ns) (i:Int)).1*(gt (zar P ns) (i:Int)).2){M:List (List Int)}(lM:M.length=q)(lE:∀es∈M,es.length=is.length)
  (dp:∀(k:Nat) (es:List Int),M[k]?=some es→(gt bs (k:Int)).1<(zbh g bs (is.map λ(i:Nat)=>gt (zau (bs.map zaW) g ns) i) (is.map λ(i:Nat)=>(zaS (zau bs g ns) g bs.length ns).getD i []) k es).1∧(zbh g bs (is.map λ(i:Nat)=>gt (zau (bs.map zaW) g ns) i) (is.map λ(i:Nat)=>(zaS (zau bs g ns) g bs.length ns).getD i []) k es).2<(gt bs (k:Int)).2):∀k:Nat,k<q→(gt P (k:Int)).1=(gt P2 (k:Int)).1:=by
 have gW:1≤g*W:=VaE (by omega) (by omega)
 have un:∀j:Int,inR q j→Dif (g*g*W) q (λl=>(gt P (l:Int)).1-(gt P2 (l:Int)).1) (gt P j) (gt P2 j) (λl=>if (l:Int)=j then (g,g) else (0,0)):=λj hj=>by
  have e:gt P j=((gt P j).1,g*W):=by rw[← pt j hj]
  have e2:gt P2 j=((gt P2 j).1,g*W):=by rw[← pt2 j hj]
  rw[e,e2]
  have ej:((j.toNat:Nat):Int)=j:=by have:=hj.1; omega
  refine zyC hj ?_
  show (gt P ((j.toNat:Nat):Int)).1-(gt P2 ((j.toNat:Nat):Int)).1=_
  rw[ej]
 have dif:=zt4 (s:=λl=>(gt P (l:Int)).1-(gt P2 (l:Int)).1) (U:=g*g*W) net hb hp hp2 hg.1 ip ip2 zp zp2 un ns.length (Vaa _)
 rw[VaA] at dif
 have w16:∀j:Nat,j<ns.length→ws.getD j 0≤16:=λj hj=>(net.w1 (i:=j) ⟨by omega,by omega⟩).2
 have pzP2:Pz 1800 (zar P2 ns):=by
  have z:=zdv net (by rw[hp2]) zp2 ns.length (Vaa _)
  rw[VaA] at z
  exact Pz.of_w z λj hj=>w16 j (by rw[zbS] at hj; exact hj)
 have pzP:Pz 1800 (zar P ns):=by
  have z:=zdv net (by rw[hp]) zp ns.length (Vaa _)
  rw[VaA] at z
  exact Pz.of_w z λj hj=>w16 j (by rw[zbS] at hj; exact hj)
 have ex:∀j:Nat,∃dn:Int×(Nat→Int),∀i,is[j]?=some i→1≤dn.1∧(∀l,l<q→(gs (zaS (zau bs g ns) g q ns) (i:Int) l).1*dn.1≤dn.2 l∧dn.2 l≤(gs (zaS (zau bs g ns) g q ns) (i:Int) l).2*dn.1)∧zbb q (λl=>dn.2 l*((gt P (l:Int)).1-(gt P2 (l:Int)).1))=0:=λj=>by
  cases e:is[j]? with
  | none=>exact⟨(1,λ_=>0),λi h=>by cases h⟩
  | some i=>
   have hi:=his i (Vai e)
   obtain⟨d,n,h1,h2,h3⟩:=dif (i:Int) ⟨by omega,by omega⟩
   refine⟨(d,n),λi' h=>by
    cases h
    refine⟨h1,h2,?_⟩
    have sm:=same i (Vai e)
    have rP:inR ((zar P ns).length:Nat) (i:Int):=⟨by omega,by rw[zbS]; omega⟩
    have rC:inR ((zar P2 ns).length:Nat) (i:Int):=⟨by omega,by rw[zbS]; omega⟩
    have p1:=(pzP.at rP).1
    have p2:=(pzP2.at rC).1
    have e0:(gt (zar P ns) (i:Int)).1*(gt (zar P2 ns) (i:Int)).2-(gt (zar P2 ns) (i:Int)).1*(gt (zar P ns) (i:Int)).2=0:=by omega
    rw[e0,Vbb,Vbb] at h3
    have pos:0<(gt (zar P ns) (i:Int)).2*(gt (zar P2 ns) (i:Int)).2:=VaE (by omega) (by omega)
    rcases Int.mul_eq_zero.mp h3.symm with z | z
    ·omega
    ·exact z⟩
 obtain⟨dn,hdn⟩:=Classical.skolem.mp ex
 have sIn:∀c:Nat,c<q→∀(j:Nat) (p:Int×Int),((is.map λ(i:Nat)=>(zaS (zau bs g ns) g bs.length ns).getD i []).map λr=>r.getD c (0,0))[j]?=some p→In p (((dn j).2 c:Rat)/((dn j).1:Rat)):=λc hc j p hj=>by
  rw[Vae,Vae] at hj
  cases e:is[j]? with
  | none=>rw[e] at hj; cases hj
  | some i=>
   rw[e] at hj
   cases hj
   obtain⟨h1,h2,_⟩:=hdn j i e
   obtain⟨h3,h4⟩:=h2 c hc
   rw[← hb]
   have z1:(gs (zaS (zau bs g ns) g q ns) (i:Int) c)=((zaS (zau bs g ns) g q ns).getD i []).getD c (0,0):=by
    unfold gs
    rw[Vah]
   rw[z1] at h3 h4
   exact⟨zy1 h1 h3,zs3 h1 h4⟩
 have net2:zaH ((bs.map zaW).length:Nat) ns ws:=by rw[Vab,← hb]; exact net
 have ot:∀p∈(is.map λ(i:Nat)=>gt (zau (bs.map zaW) g ns) i),p.1≤p.2:=λp hp=>by
  obtain⟨i,him,rfl⟩:=Vag.mp hp
  have sp:=zo1 net2 rfl (znz sb) hg ns.length (Vaa _)
  rw[VaA] at sp
  exact(sp.at (i:=(i:Int)) ⟨by omega,by rw[zcp]; have:=his i him; omega⟩).1
 intro k hk
 have z:=zwt (e:=is.length) hg.1 hb.symm (by rw[Vab]) (by rw[Vab]) lM lE (λp hp=>(sb p hp).1) ot dp (λj c=>((dn j).2 c:Rat)/((dn j).1:Rat)) sIn (λl=>(((gt P (l:Int)).1-(gt P2 (l:Int)).1:Int):Rat)) (λj hj=>?_) k hk
 ·have z2:(((gt P (k:Int)).1-(gt P2 (k:Int)).1:Int):Rat)=((0:Int):Rat):=z
  have z3:=Rat.intCast_inj.mp z2
  omega
 ·obtain⟨h1,_,h3⟩:=hdn j _ (Vac hj)
  have c:=zrJ (λl=>(dn j).2 l*((gt P (l:Int)).1-(gt P2 (l:Int)).1)) q
  rw[h3] at c
  have e:(zas q λl=>((dn j).2 l:Rat)/((dn j).1:Rat)*(((gt P (l:Int)).1-(gt P2 (l:Int)).1:Int):Rat))=(1/((dn j).1:Rat))*zas q λl=>(((dn j).2 l*((gt P (l:Int)).1-(gt P2 (l:Int)).1):Int):Rat):=by
   rw[← zd9]
   refine zc8 q λl _=>?_
   rw[Rat.intCast_mul]
   generalize ((dn j).2 l:Rat)=x
   generalize (((gt P (l:Int)).1-(gt P2 (l:Int)).1:Int):Rat)=y
   generalize ((dn j).1:Rat)=u
   grind
  rw[e,← c]
  show 1/((dn j).1:Rat)*((0:Int):Rat)=0
  grind
theorem zoW {G:Int→Prop}:∀xs:List D,(∀(k:Nat) (d:D),xs[k]?=some d→∃t,d=.int t∧G t)→∃ts:List Int,xs=ts.map D.int∧∀t∈ts,G t
 | [],_=>⟨[],rfl,λp h=>by cases h⟩
 | x::xs,h=>by
  obtain⟨p,rfl,hp⟩:=h 0 x rfl
  obtain⟨vs,rfl,hv⟩:=zoW xs λk d hd=>h (k+1) d hd
  exact⟨p::vs,rfl,λq hq=>by
   rcases Vau.mp hq with e | e
   ·subst e; exact hp
   ·exact hv q e⟩
theorem zpa {ts:List Int}{k:Nat}(h:k<ts.length):atI (ts.map D.int) (k:Int)=some (.int (ts.getD k 0)):=zd8 (by rw[Vae,Vac h]; simp[h])
def Nd.op:Nd→Prop
 | .number _ _=>False
 | .unknown _=>False
 | _=>True
def zdM (bs:List (Int×Int))(ts:List Int)(W g:Int)(k:Nat):Int×Int:=((gt bs k).1*W+((gt bs k).2-(gt bs k).1)*ts.getD k 0,g*W)
def pts (bs:List (Int×Int))(ts:List Int)(W g:Int)(n:Nat):List (Int×Int):=(List.range n).map λk=>zdM bs ts W g k
theorem zlK (bs:List (Int×Int))(ts:List Int)(W g:Int)(n:Nat):(pts bs ts W g n).length=n:=by simp[pts]
theorem zvz (bs:List (Int×Int))(ts:List Int)(W g:Int)(n:Nat):pts bs ts W g (n+1)=pts bs ts W g n++[zdM bs ts W g n]:=by simp[pts,List.range_succ]
theorem zgv {bs:List (Int×Int)}{ts:List Int}{W g:Int}{n:Nat}{i:Int}(h:inR n i):gt (pts bs ts W g n) i=zdM bs ts W g i.toNat:=by
 have:=h.1
 have:=h.2
 unfold gt pts
 rw[Vak,Vae,Va5 (by omega)]
 rfl
theorem zpi {bs:List (Int×Int)}{ts:List Int}{W g:Int}{k:Nat}(sb:Spn 51 bs)(hw:1≤W∧W≤1000000)(ht:∀t∈ts,0≤t∧t≤W)(hg:1≤g∧g≤1000000)(hk:k<bs.length)(hl:bs.length=ts.length):
  (0≤ts.getD k 0∧ts.getD k 0≤W)∧(gt bs k).1≤(gt bs k).2∧IntMulOk (gt bs k).1 W∧IntMulOk ((gt bs k).2-(gt bs k).1) (ts.getD k 0)∧1≤g*W∧Sz 110 (zdM bs ts W g k).1∧Sz 110 (g*W):=by
 have hk':k<ts.length:=by omega
 have m:ts.getD k 0∈ts:=by
  have e:ts.getD k 0=ts[k]:=by simp[hk']
  rw[e]
  exact VaM hk'
 have t:=ht _ m
 have b:=sb.at (i:=(k:Int)) ⟨by omega,by omega⟩
 have z:=zvM b.1 b.2.1 b.2.2 ⟨hw.1,by omega⟩ t.1 t.2
 refine⟨t,b.1,z.1,z.2.1,VaE (by omega) (by omega),z.2.2.mono (by decide),?_⟩
 exact((Sz.of (n:=21) 1000000 (show g.natAbs≤_ by omega)).mul (Sz.of (n:=20) 1000000 (show W.natAbs≤_ by omega))).mono (by decide)
theorem zqn {bs:List (Int×Int)}{ts:List Int}{W g:Int}(sb:Spn 51 bs)(hw:1≤W∧W≤1000000)(ht:∀t∈ts,0≤t∧t≤W)(hg:1≤g∧g≤1000000)(hl:bs.length=ts.length):Pz 110 (pts bs ts W g bs.length):=λp hp=>by
 obtain⟨k,hk,rfl⟩:=Vag.mp hp
 obtain⟨_,_,_,_,a,b,c⟩:=zpi sb hw ht hg (Va1.mp hk) hl
 exact⟨a,b,c⟩
theorem zq9 {bs:List (Int×Int)}{ts:List Int}{W g:Int}(sb:Spn 51 bs)(hw:1≤W∧W≤1000000)(ht:∀t∈ts,0≤t∧t≤W)(hg:1≤g∧g≤1000000)(hl:bs.length=ts.length):InW g bs (pts bs ts W g bs.length):=λi hi=>by
 rw[zlK] at hi
 rw[zgv hi]
 have h0:=hi.1
 have h1:=hi.2
 have e:((i.toNat:Nat):Int)=i:=by omega
 obtain⟨t,b,_,_,a,_,_⟩:=zpi (k:=i.toNat) sb hw ht hg (by omega) hl
 rw[e] at b
 have z:=zxn (lo:=(gt bs i).1) (hi:=(gt bs i).2) (w:=W) (p:=ts.getD i.toNat 0) (g:=g) (t:=(zdM bs ts W g i.toNat).1) (b:=g*W) b hw.1 hg.1 t.1 t.2 a (by unfold zdM; rw[e])
 exact z
theorem zva {v:Nd}{ns:List Nd}{n:Nat}{S:Sto}{Q:DK}{o:Option Nat}(h:S[n]?=some (.lst (ns.map Nd.d)))(e:zbY (eqN 1) (ns.map Nd.d) v.d=some o.isSome)(hq:Q (.bl (!o.isSome)) S):zbN (wIn 1 true) v.d (.ref n) S Q:=by
 rw[zb8]
 unfold wIn
 simp only[zaU h rfl,zao,e]
 exact hq
theorem any_some {v:Nd}:∀ {ns:List Nd} {k:Nat},ns[k]?=some v→zbY (eqN 1) (ns.map Nd.d) v.d≠some (none:Option Nat).isSome
 | [],k,h=>by simp at h
 | u::us,0,h=>by
  have e:u=v:=by simpa using h
  subst e
  show (match eqN 1 u.d u.d,zbY (eqN 1) (us.map Nd.d) u.d with | some b,some c=>some (b||c) | _,_=>none)≠_
  obtain⟨c,hc⟩:=zns u us
  rw[zqO,hc]
  simp
 | u::us,k+1,h=>by
  have ih:=any_some (ns:=us) (k:=k) (by simpa using h)
  show (match eqN 1 u.d v.d,zbY (eqN 1) (us.map Nd.d) v.d with | some b,some c=>some (b||c) | _,_=>none)≠_
  obtain⟨b,hb⟩:=znG u v
  obtain⟨c,hc⟩:=zns v us
  rw[hc] at ih
  rw[hb,hc]
  cases c
  ·exact absurd rfl ih
  ·simp
theorem zqT {vs us ps:List (Int×Int)}{k:Nat}{q:Int}(h:∀i:Int,inR k i→gt vs i=gt us i):∀v:Nd,v.ok k q→v.due vs ps=v.due us ps
 | .number _ _,_=>rfl
 | .unknown _,_=>rfl
 | .plus i j,ok=>by simp only[Nd.due,h i ok.1,h j ok.2]
 | .minus i j,ok=>by simp only[Nd.due,h i ok.1,h j ok.2]
 | .times i j,ok=>by simp only[Nd.due,h i ok.1,h j ok.2]
 | .power i n,ok=>by simp only[Nd.due,h i ok.1]
theorem zrc (P:List (Int×Int))(ns:List Nd):∀ms:List Nd,∃r,zar P (ns++ms)=zar P ns++r
 | []=>⟨[],by rw[Va2,Va2]⟩
 | v::ms=>by
  obtain⟨r,e⟩:=zrc P (ns++[v]) ms
  rw[List.append_assoc] at e
  refine⟨v.due (zar P ns) P::r,?_⟩
  rw[show ns++v::ms=ns++([v]++ms) from rfl,e,zdl,List.append_assoc]
  rfl
theorem zn1 {P:List (Int×Int)}{ns ms:List Nd}{i:Int}(h:inR ns.length i):gt (zar P (ns++ms)) i=gt (zar P ns) i:=by
 obtain⟨r,e⟩:=zrc P ns ms
 rw[e]
 exact zw2 (k:=ns.length) h (by rw[zbS]; exact Vaa _)
theorem znE {P:List (Int×Int)}{ns:List Nd}{ws:List Nat}{q:Int}{j:Nat}{v:Nd}(net:zaH q ns ws)(h:ns[j]?=some v):gt (zar P ns) (j:Int)=v.due (zar P ns) P:=by
 have hj:=(Vad.mp h).1
 have e:ns=ns.take (j+1)++ns.drop (j+1):=(List.take_append_drop _ _).symm
 have e2:ns=ns.take j++ns.drop j:=(List.take_append_drop _ _).symm
 have l:(ns.take (j+1)).length=j+1:=by rw[Vao]; omega
 have lj:(ns.take j).length=j:=by rw[Vao]; omega
 have g1:gt (zar P ns) (j:Int)=gt (zar P (ns.take (j+1))) (j:Int):=by
  have z:=zn1 (P:=P) (ns:=ns.take (j+1)) (ms:=ns.drop (j+1)) (i:=(j:Int)) ⟨by omega,by rw[l]; omega⟩
  rw[← e] at z
  exact z
 rw[g1,zbU h,zdl,zij (by rw[zbS,lj])]
 refine zqT (k:=j) (q:=q) (λi hi=>?_) v (net.ok j v h).1
 have z:=zn1 (P:=P) (ns:=ns.take j) (ms:=ns.drop j) (i:=i) (by rw[lj]; exact hi)
 rw[← e2] at z
 exact z.symm
theorem zpI {ws us:List Nat}{i:Nat}(h:i<ws.length):(ws++us).getD i 0=ws.getD i 0:=by rw[Vak,Vak,Val h]
theorem zwS (xs:List D):zb1 xs (some 1) none=xs.drop 1:=by
 unfold L3.zb1
 have e:HT.sIx xs.length 0 (some 1)=min 1 xs.length:=by
  have z:=HT.sIx_nat xs.length 0 1
  exact z
 rw[HT.sIx_none]
 rw[e]
 by_cases c:1≤xs.length
 ·rw[Nat.min_eq_left c]
  exact Vaz (by rw[Va7]; exact Vaa _)
 ·have z:xs=[]:=List.eq_nil_of_length_eq_zero (by omega)
  subst z
  rfl
def za8 (M:List (List Int))(r c:Nat):List (List Int):=(M.take r++M.drop (r+1)).map λe=>e.take c++e.drop (c+1)
def sgn (i:Int)(k:Nat):Int:=if k%2=1 then -i else i
def zaL:Nat→List (List Int)→Int
 | 0,_=>1
 | n+1,M=>((List.range (M.headD []).length).map λc=>(M.headD []).getD c 0*sgn (zaL n (za8 M 0 c)) c).sum
def Sq (n:Nat)(M:List (List Int)):Prop:=M.length=n∧∀r∈M,r.length=n
theorem zdH {n:Nat}{M:List (List Int)}(h:Sq (n+1) M){r c:Nat}(hr:r≤n)(hc:c≤n):Sq n (za8 M r c):=by
 obtain⟨h1,h2⟩:=h
 refine⟨by simp[za8]; omega,λq hq=>?_⟩
 simp only[za8,Vag,VaL] at hq
 obtain⟨e,he,rfl⟩:=hq
 have hm:e∈M:=he.elim List.mem_of_mem_take Vbj
 have:=h2 e hm
 simp; omega
inductive Rows (S:Sto)(b:Nat):List D→List (List Int)→Prop
 | nil:Rows S b [] []
 | cons {a:Nat} {r:List Int} {ds:List D} {M:List (List Int)}:b≤a→S[a]?=some (.lst (r.map D.int))→Rows S b ds M→Rows S b (.ref a::ds) (r::M)
theorem Rows.keep {S T:Sto}{b:Nat}{ds:List D}{M:List (List Int)}(h:Rows S b ds M)(k:∀a o,b≤a→S[a]?=some o→T[a]?=some o):Rows T b ds M:=by
 induction h with
 | nil=>exact .nil
 | cons h1 h2 _ ih=>exact .cons h1 (k _ _ h1 h2) ih
theorem Rows.pre {S T:Sto}{b:Nat}{ds:List D}{M:List (List Int)}(h:Rows S b ds M)(p:Pre S T):Rows T b ds M:=h.keep λa o _ e=>p a o e
theorem Rows.low {S:Sto}{b c:Nat}{ds:List D}{M:List (List Int)}(h:Rows S b ds M)(k:c≤b):Rows S c ds M:=by
 induction h with
 | nil=>exact .nil
 | cons h1 h2 _ ih=>exact .cons (VaB k h1) h2 ih
theorem Rows.len {S:Sto}{b:Nat}{ds:List D}{M:List (List Int)}(h:Rows S b ds M):ds.length=M.length:=by
 induction h with
 | nil=>rfl
 | cons _ _ _ ih=>simp[ih]
theorem Rows.get {S:Sto}{b:Nat}{ds:List D}{M:List (List Int)}(h:Rows S b ds M):∀ {k:Nat} {d:D},ds[k]?=some d→∃a r,d=.ref a∧b≤a∧M[k]?=some r∧S[a]?=some (.lst (r.map D.int)):=by
 induction h with
 | nil=>intro k d e; simp at e
 | cons h1 h2 _ ih=>
  intro k d e
  cases k with
  | zero=>simp at e; exact⟨_,_,e.symm,h1,rfl,h2⟩
  | succ k=>exact ih (by simpa using e)
theorem Rows.get' {S:Sto}{b:Nat}{ds:List D}{M:List (List Int)}(h:Rows S b ds M){k:Nat}{r:List Int}(e:M[k]?=some r):∃a,ds[k]?=some (.ref a)∧b≤a∧S[a]?=some (.lst (r.map D.int)):=by
 have hk:k<ds.length:=by rw[h.len]; exact(Vad.mp e).1
 obtain⟨a,r',e1,e2,e3,e4⟩:=h.get (Vac hk)
 rw[e3] at e; cases e
 exact⟨a,by rw[Vac hk,e1],e2,e4⟩
theorem Rows.app {S:Sto}{b:Nat}{ds es:List D}{M M':List (List Int)}(h:Rows S b ds M)(g:Rows S b es M'):Rows S b (ds++es) (M++M'):=by
 induction h with
 | nil=>exact g
 | cons h1 h2 _ ih=>exact .cons h1 h2 ih
theorem Rows.snoc {S:Sto}{b a:Nat}{r:List Int}{ds:List D}{M:List (List Int)}(h:Rows S b ds M)(h1:b≤a)(h2:S[a]?=some (.lst (r.map D.int))):Rows S b (ds++[.ref a]) (M++[r]):=h.app (.cons h1 h2 .nil)
theorem Rows.drop {S:Sto}{b:Nat}{ds:List D}{M:List (List Int)}(h:Rows S b ds M):∀k:Nat,Rows S b (ds.drop k) (M.drop k):=by
 induction h with
 | nil=>intro k; simpa using Rows.nil
 | cons h1 h2 t ih=>
  intro k
  cases k with
  | zero=>exact .cons h1 h2 t
  | succ k=>simpa using ih k
theorem Rows.take {S:Sto}{b:Nat}{ds:List D}{M:List (List Int)}(h:Rows S b ds M):∀k:Nat,Rows S b (ds.take k) (M.take k):=by
 induction h with
 | nil=>intro k; simpa using Rows.nil
 | cons h1 h2 t ih=>
  intro k
  cases k with
  | zero=>simpa using Rows.nil
  | succ k=>simpa using Rows.cons h1 h2 (ih k)
def zbp (S:Sto)(n:Nat)(M:List (List Int)):Prop:=∃ds,S[n]?=some (.lst ds)∧Rows S 0 ds M
theorem zbp.pre {S T:Sto}{n:Nat}{M:List (List Int)}(h:zbp S n M)(p:Pre S T):zbp T n M:=by
 obtain⟨ds,h1,h2⟩:=h
 exact⟨ds,p _ _ h1,h2.pre p⟩
def Big (M:List (List Int)):Prop:=∀r∈M,∀x∈r,Sz 1030 x
theorem Big.minor {M:List (List Int)}(h:Big M)(r c:Nat):Big (za8 M r c):=λq hq x hx=>by
 simp only[za8,Vag,VaL] at hq
 obtain⟨e,he,rfl⟩:=hq
 have hm:e∈M:=he.elim List.mem_of_mem_take Vbj
 rcases VaL.mp hx with z | z
 ·exact h e hm x (List.mem_of_mem_take z)
 ·exact h e hm x (Vbj z)
theorem zqI {B:Nat}:∀ {l:List Int},(∀x∈l,x.natAbs≤B)→l.sum.natAbs≤l.length*B
 | [],_=>by simp
 | x::l,h=>by
  have h1:=h x (by simp)
  have h2:=zqI (l:=l) λy hy=>h y (by simp[hy])
  rw[List.sum_cons,VaC,Nat.succ_mul]
  omega
theorem zwl {k:Nat}{l:List Int}(h:∀x∈l,Sz k x)(hl:l.length≤4):Sz (k+2) l.sum:=by
 have hp:0<2^k:=Nat.two_pow_pos k
 have h1:=zqI (B:=2^k-1) (l:=l) λx hx=>by have:=h x hx; unfold Sz at this; omega
 have h2:l.length*(2^k-1)≤4*(2^k-1):=Nat.mul_le_mul_right _ hl
 unfold Sz
 rw[Nat.pow_add]
 omega
theorem zmb {k n:Nat}{i:Int}(h:Sz k i):Sz k (sgn i n):=by
 unfold sgn
 split
 ·exact h.neg
 ·exact h
theorem zoM:∀ {n:Nat} {M:List (List Int)},Sq n M→Big M→n≤4→Sz (n*1034+1) (zaL n M)
 | 0,_,_,_,_=>by unfold Sz zaL; decide
 | n+1,M,h,b,hn=>by
  unfold zaL
  obtain⟨r,M',rfl⟩:∃r M',M=r::M':=by
   match M,h.1 with
   | r::M',_=>exact⟨r,M',rfl⟩
  have hr:r.length=n+1:=h.2 r (by simp)
  have q:Sz ((n*1034+1031)+2) (((List.range ((r::M').headD []).length).map λc=>((r::M').headD []).getD c 0*sgn (zaL n (za8 (r::M') 0 c)) c).sum):=by
   refine zwl (λx hx=>?_) (by simp[hr]; omega)
   obtain⟨c,hc,rfl⟩:=Vag.mp hx
   have hc':c<n+1:=by simpa [hr] using hc
   have e1:Sz 1030 ((r::M').headD [] |>.getD c 0):=by
    show Sz 1030 (r.getD c 0)
    rw[Vak,Vac (by omega)]
    exact b r (by simp) _ (VaM ..)
   have e2:=zmb (n:=c) (zoM (zdH h (Vaj n) (show c≤n by omega)) (b.minor 0 c) (by omega))
   exact(e1.mul e2).mono (by omega)
  exact q.mono (by omega)
theorem znq {n:Nat}{M:List (List Int)}(h:Sq n M)(b:Big M)(hn:n≤4):Sz 4140 (zaL n M):=(zoM h b hn).mono (by omega)
theorem zv1 {caps:List Nat}{tl te:TDE}{dl:Ev}{S T0:Sto}{Q:DK}{n:Nat}{ds:List D}{R:List (List Int)}(g:List Int→List Int)(htl:∀K:DK,K (.ref n) T0→tl dl S K)(hn:T0[n]?=some (.lst ds))(rows:Rows T0 0 ds R)(hl:ds.length≤1000)
  (ht:∀(a:Nat) (r:List Int) (S2:Sto) (K:DK),r∈R→S2[a]?=some (.lst (r.map D.int))→(∀(S3:Sto) (b:Nat),Pre S2 S3→S2.length≤b→S3[b]?=some (.lst ((g r).map D.int))→K (.ref b) S3)→te (some (.ref a)::zbv caps dl) S2 K)
  (hq:∀(S2:Sto) (ys:List D),Pre T0 S2→S2[T0.length]?=some (.lst ys)→Rows S2 0 ys (R.map g)→Q (.ref T0.length) S2):zcy caps tl zb6 te dl S Q:=by
 refine zqJ (S1:=T0) (n:=n) (o:=.lst ds) (λk ys S2=>Pre T0 S2∧S2[T0.length]?=some (.lst ys)∧ys.length=k∧Rows S2 (T0.length+1) ys ((R.take k).map g)) htl hn (λk ys S2 w=>⟨w.1 _ _ hn,w.2.1,w.2.2.1⟩) hl
  ⟨Pre.refl.push,zav _ _,rfl,by simpa using Rows.nil⟩ (λk x ys S2 K hx w hK=>?_) (λys S2 w=>?_)
 ·obtain⟨w1,w2,w3,w4⟩:=w
  obtain⟨a,r,rfl,_,hr,ha⟩:=rows.get hx
  refine ht a r S2 K (Vai hr) (w1 _ _ ha) λS3 b p3 hb e3=>?_
  have hlt:=zbg w2
  refine hK _ S3 (p3 _ _ w2) ⟨zq4 (w1.trans p3) (Vaa _),zb5 (p3 _ _ w2),by simp[w3],?_⟩
  have e:(R.take (k+1)).map g=(R.take k).map g++[g r]:=by rw[Va9,hr]; simp
  rw[e]
  refine Rows.snoc (w4.keep λa o l q=>?_) (by omega) ?_
  ·rw[VaP (by omega)]; exact p3 _ _ q
  ·rw[VaP (by omega)]; exact e3
 ·obtain⟨w1,w2,w3,w4⟩:=w
  have e:R.take (zao (.lst ds)).length=R:=Vaz (by show R.length≤ds.length; rw[rows.len]; exact Vaa _)
  rw[e] at w4
  exact hq S2 ys w1 w2 (w4.low (Vaj _))
theorem zxd {caps:List Nat}{ta:TDA}{te:TDE}{dl:Ev}{S T0:Sto}{Q:DK}{j:Nat}(g:Nat→List Int)(hta:∀K:List D→Sto→Prop,K [.int (j:Int)] T0→ta dl S K)(hj:j≤1000)
  (ht:∀(k:Nat) (S2:Sto) (K:DK),k<j→Pre T0 S2→(∀(S3:Sto) (b:Nat),Pre S2 S3→S2.length≤b→S3[b]?=some (.lst ((g k).map D.int))→K (.ref b) S3)→te (some (.int (k:Int))::zbv caps dl) S2 K)
  (hq:∀(S2:Sto) (ys:List D),Pre T0 S2→S2[T0.length]?=some (.lst ys)→Rows S2 0 ys ((List.range j).map g)→Q (.ref T0.length) S2):zcX caps ta zb6 te dl S Q:=by
 refine zxZ (S1:=T0) (j:=(j:Int)) (λk ys S2=>Pre T0 S2∧S2[T0.length]?=some (.lst ys)∧ys.length=k∧Rows S2 (T0.length+1) ys ((List.range k).map g)) hta (by omega) (λk ys S2 w=>⟨w.2.1,w.2.2.1⟩)
  ⟨Pre.refl.push,zav _ _,rfl,by simpa using Rows.nil⟩ (λk ys S2 K hk w hK=>?_) (λys S2 w=>?_)
 ·obtain⟨w1,w2,w3,w4⟩:=w
  refine ht k S2 K (by omega) w1 λS3 b p3 hb e3=>?_
  have hlt:=zbg w2
  refine hK _ S3 (p3 _ _ w2) ⟨zq4 (w1.trans p3) (Vaa _),zb5 (p3 _ _ w2),by simp[w3],?_⟩
  rw[List.range_succ,VaD]
  refine Rows.snoc (w4.keep λa o l q=>?_) (by omega) ?_
  ·rw[VaP (by omega)]; exact p3 _ _ q
  ·rw[VaP (by omega)]; exact e3
 ·obtain⟨w1,w2,w3,w4⟩:=w
  exact hq S2 ys w1 w2 (w4.low (Vaj _))
theorem zi0 {n:Nat}{S:Sto}{o:Ob}{ns:List Int}{Q:DK}(h:S[n]?=some o)(hb:zct (zao o)=some ns)(hq:Q (.int ns.sum) S):irr zlk [.ref n] S Q:=by
 rw[zdU]
 unfold zlk
 simp only[zaU h (zqN hb),hb]
 exact hq
theorem zvh (l:List Int):zct (l.map D.int)=some l:=by
 induction l with
 | nil=>rfl
 | cons x l ih=>simp only[VaX,zct,ih,Option.map_some]
def zhM (M:List (List Int))(n:Nat)(w g:Int)(i j:Nat):Int:=(sgn (zaL n (za8 M j i)) (j+i)*g*g).fdiv w
def zeb (M:List (List Int))(n:Nat)(w g:Int)(i:Nat):List Int:=(List.range (n+1)).map (zhM M n w g i)
def zbO (M:List (List Int))(n:Nat)(w g:Int):List (List Int):=(List.range (n+1)).map (zeb M n w g)
inductive Ords (S:Sto)(b:Nat):List D→List (List Int×Int)→Prop
 | nil:Ords S b [] []
 | cons {a:Nat} {o:List Int×Int} {ds:List D} {os:List (List Int×Int)}:b≤a→S[a]?=some (.lst (o.1.map D.int))→Ords S b ds os→Ords S b (.tup [.ref a,.int o.2]::ds) (o::os)
def Fit (n:Nat)(o:List Int×Int):Prop:=o.1.length=n∧(∀x∈o.1,0≤x∧x<n)∧(o.2=1∨o.2=-1)
instance (n:Nat) (o:List Int×Int):Decidable (Fit n o):=by unfold Fit; infer_instance
theorem zrv {xs:List D}{i:Nat}:zb1 xs none (some (i:Int))=xs.take i:=by
 unfold L3.zb1
 rw[HT.sIx_none,HT.sIx_nat,List.drop_zero,Nat.sub_zero]
 rw[List.take_eq_take_iff]
 omega
theorem zql {xs:List D}{i:Nat}:zb1 xs (some (i:Int)) none=xs.drop i:=by
 unfold L3.zb1
 rw[HT.sIx_none,HT.sIx_nat]
 rcases Nat.le_total i xs.length with h | h
 ·rw[Nat.min_eq_left h]
  exact Vaz (by rw[Va7]; exact Vaa _)
 ·rw[Nat.min_eq_right h,List.drop_of_length_le (Vaa _),List.drop_of_length_le h]
  simp
theorem zlG {r0:List Int}{k:Nat}{x:D}(hx:(r0.map D.int)[k]?=some x):x=.int (r0.getD k 0):=by
 have hk:k<r0.length:=by
  have:=(Vad.mp hx).1
  rwa [Vab] at this
 rw[Vae,Vac hk] at hx
 rw[Vak,Vac hk]
 exact(Option.some.inj hx).symm
theorem zkA {r0:List Int}{M':List (List Int)}{n k:Nat}(sq:Sq (n+1) (r0::M'))(big:Big (r0::M'))(hn:n≤3)(hk:k<n+1):IntMulOk (r0.getD k 0) (sgn (zaL n (za8 (r0::M') 0 k)) (0+k)):=by
 have lr:r0.length=n+1:=sq.2 r0 (by simp)
 have e1:Sz 1030 (r0.getD k 0):=by
  rw[Vak,Vac (by omega)]
  exact big r0 (by simp) _ (VaM ..)
 exact zaF e1 (zmb (znq (zdH sq (Vaj _) (by omega)) (big.minor 0 k) (by omega)))
theorem zk9 (n:Nat)(r0:List Int)(M':List (List Int)):zct ((r0.map D.int).mapIdx λk d=>D.int (r0.getD k 0*sgn (zaL n (za8 (r0::M') 0 k)) k))=some ((List.range r0.length).map λk=>r0.getD k 0*sgn (zaL n (za8 (r0::M') 0 k)) k):=by
 have e:(r0.map D.int).mapIdx (λk d=>D.int (r0.getD k 0*sgn (zaL n (za8 (r0::M') 0 k)) k))=((List.range r0.length).map λk=>r0.getD k 0*sgn (zaL n (za8 (r0::M') 0 k)) k).map D.int:=by
  refine List.ext_getElem (by simp) λk h1 h2=>?_
  simp
 rw[e,zvh]
theorem zl0 {m a:Nat}{S:Sto}{ds:List D}{K:List D→Sto→Prop}(hm:S[m]?=some (.lst ds))(hd:ds[0]?=some (.ref a))(hK:K [.ref a] S):wIx (.ref m) (.int 0) S (λx S1=>K [x] S1):=by
 have z:=zaC (n:=m) (S:=S) (o:=.lst ds) (i:=0) (d:=.ref a) (Q:=λx S1=>K [x] S1) hm (zd8 (j:=0) hd) hK
 rw[zb8] at z
 exact z
theorem Rows.toI {S:Sto}{b:Nat}{ds:List D}{M:List (List Int)}(h:Rows S b ds M):zex S ds M:=⟨h.len,λk d r hd hr=>by
 obtain⟨a,r',e,_,e3,e4⟩:=h.get hd
 rw[e3] at hr
 cases hr
 exact⟨a,e,e4⟩⟩
theorem zqU {rows:List (Bool×Nat)}{i:Nat}(h:i∈eqs rows):(true,i)∈rows:=by
 obtain⟨⟨b,n⟩,hr,e⟩:=List.mem_filterMap.mp h
 cases b
 ·cases e
 ·cases e
  exact hr
def zkx (rows:List (Bool×Nat))(vs:List (Int×Int)):Bool:=rows.all λr=>r.1||decide (0≤(gt vs (r.2:Int)).1)
theorem znO (vs:List (Int×Int)):∀rows:List (Bool×Nat),zch (((rows.map rwD)).filterMap (λd=>match d with | .tup [.str w,.int at']=>if w="least" then some (.bl (decide (0≤(gt vs at').1))) else none | _=>none))=some (rows.filterMap λr=>if r.1 then none else some (decide (0≤(gt vs (r.2:Int)).1)))
 | []=>rfl
 | (false,n)::rs=>by
  show (zch ((rs.map rwD).filterMap _)).map _=_
  rw[znO vs rs]
  rfl
 | (true,n)::rs=>znO vs rs
theorem zo7 (vs:List (Int×Int)):∀rows:List (Bool×Nat),((rows.filterMap λr=>if r.1 then none else some (decide (0≤(gt vs (r.2:Int)).1))).all id)=zkx rows vs
 | []=>rfl
 | (false,n)::rs=>by
  show (decide _&&(rs.filterMap _).all id)=_
  rw[zo7 vs rs]
  rfl
 | (true,n)::rs=>zo7 vs rs
def zfh (p q:Int×Int):Bool:=decide (q.1<p.1)&&decide (p.2<q.2)
def zf1 (us vs:List (Int×Int)):Bool:=(List.zipWith zfh us vs).all id
theorem zsi {us vs:List (Int×Int)}:zf1 us vs=true↔∀(k:Nat) (p q:Int×Int),us[k]?=some p→vs[k]?=some q→q.1<p.1∧p.2<q.2:=by
 unfold zf1
 rw[List.all_eq_true]
 refine⟨λh k p q hp hq=>?_,λh b hb=>?_⟩
 ·have z:=h (zfh p q) (Vai (i:=k) (by rw[List.getElem?_zipWith,hp,hq]))
  simpa [zfh] using z
 ·obtain⟨k,hk⟩:=List.mem_iff_getElem?.mp hb
  rw[List.getElem?_zipWith] at hk
  cases e1:us[k]? with
  | none=>rw[e1] at hk; cases hk
  | some p=>
   cases e2:vs[k]? with
   | none=>rw[e1,e2] at hk; cases hk
   | some q=>
    rw[e1,e2] at hk
    obtain⟨a,b⟩:=h k p q e1 e2
    have z:=Option.some.inj hk
    subst z
    simp[zfh,a,b]
theorem zwg (us vs:List (Int×Int)):zch (List.zipWith (λx y=>match x,y with | .tup [.int a,.int b],.tup [.int c,.int d]=>.bl (decide (c<a)&&decide (b<d)) | _,_=>.non) (us.map frD) (vs.map frD))=some (List.zipWith zfh us vs):=by
 induction us generalizing vs with
 | nil=>rfl
 | cons u us ih=>
  cases vs with
  | nil=>rfl
  | cons v vs=>
   show (zch (List.zipWith _ (us.map frD) (vs.map frD))).map _=_
   rw[ih]
   rfl
def zeq (g:Int)(bs:List (Int×Int))(ns:List Nd)(rows:List (Bool×Nat)):List (Int×Int):=(eqs rows).map λ(i:Nat)=>gt (zau (bs.map zaW) g ns) i
def zcc (g:Int)(bs:List (Int×Int))(ns:List Nd)(rows:List (Bool×Nat)):List (List (Int×Int)):=(eqs rows).map λ(i:Nat)=>(zaS (zau bs g ns) g bs.length ns).getD i []
def za7 (g:Int)(bs:List (Int×Int))(ns:List Nd)(rows:List (Bool×Nat)):List (List Int):=(zcc g bs ns rows).map λr=>r.map mid
def zc9 (g:Int)(bs:List (Int×Int))(ns:List Nd)(rows:List (Bool×Nat))(M:List (List Int)):List (Int×Int):=M.mapIdx λk es=>zbh g bs (zeq g bs ns rows) (zcc g bs ns rows) k es
def alS (g:Int)(bs:List (Int×Int))(ns:List Nd)(rows:List (Bool×Nat)):Option (List (List Int)×List (Int×Int)):=
 if (eqs rows).length=bs.length∧zkx rows (zau bs g ns)=true then
  if zaL bs.length (za7 g bs ns rows)=0 then none
  else if zf1 (zc9 g bs ns rows (zbO (za7 g bs ns rows) (bs.length-1) (zaL bs.length (za7 g bs ns rows)) g)) bs=true then some (zbO (za7 g bs ns rows) (bs.length-1) (zaL bs.length (za7 g bs ns rows)) g,zc9 g bs ns rows (zbO (za7 g bs ns rows) (bs.length-1) (zaL bs.length (za7 g bs ns rows)) g))
  else none
 else none
theorem zpL (M:List (List Int))(n:Nat)(w g:Int):(zbO M n w g).length=n+1:=by simp[zbO]
theorem zrA {M:List (List Int)}{n:Nat}{w g:Int}:∀r∈zbO M n w g,r.length=n+1:=λr hr=>by
 unfold zbO at hr
 obtain⟨i,_,rfl⟩:=Vag.mp hr
 simp[zeb]
theorem zpY {g:Int}{bs:List (Int×Int)}{ns:List Nd}{rows:List (Bool×Nat)}{M:List (List Int)}{near:List (Int×Int)}(h:alS g bs ns rows=some (M,near))(b1:1≤bs.length):(eqs rows).length=bs.length∧M.length=bs.length∧(∀es∈M,es.length=bs.length)∧near=zc9 g bs ns rows M∧near.length=bs.length∧(∀(k:Nat) (es:List Int),M[k]?=some es→near[k]?=some (zbh g bs (zeq g bs ns rows) (zcc g bs ns rows) k es)∧(gt bs (k:Int)).1<(zbh g bs (zeq g bs ns rows) (zcc g bs ns rows) k es).1∧(zbh g bs (zeq g bs ns rows) (zcc g bs ns rows) k es).2<(gt bs (k:Int)).2):=by
 unfold alS at h
 split at h
 ·rename_i c
  split at h
  ·cases h
  ·split at h
   ·rename_i dp
    cases h
    have lM:=zpL (za7 g bs ns rows) (bs.length-1) (zaL bs.length (za7 g bs ns rows)) g
    have lM':(zbO (za7 g bs ns rows) (bs.length-1) (zaL bs.length (za7 g bs ns rows)) g).length=bs.length:=by omega
    refine⟨c.1,lM',λes he=>by have:=zrA es he; omega,rfl,by unfold zc9; rw[List.length_mapIdx,lM'],λk es hk=>?_⟩
    have e:(zc9 g bs ns rows (zbO (za7 g bs ns rows) (bs.length-1) (zaL bs.length (za7 g bs ns rows)) g))[k]?=some (zbh g bs (zeq g bs ns rows) (zcc g bs ns rows) k es):=by
     unfold zc9
     rw[List.getElem?_mapIdx,hk]
     rfl
    have hl:=(Vad.mp hk).1
    have eb:=Vac (show k<bs.length by omega)
    refine⟨e,?_⟩
    rw[zdQ eb]
    exact zsi.mp dp k _ _ e eb
   ·cases h
 ·cases h
theorem zy9 (t w:Int)(hw:w≠0):(t.fdiv w).natAbs≤t.natAbs+1:=by
 rcases Int.lt_or_lt_of_ne hw with h | h
 ·have e:t.fdiv w=(-t).fdiv (-w):=by rw[Int.neg_fdiv_neg]
  rw[e,Int.fdiv_eq_ediv_of_nonneg _ (by omega)]
  have:=Int.natAbs_ediv_le_natAbs (-t) (-w)
  omega
 ·rw[Int.fdiv_eq_ediv_of_nonneg _ (by omega)]
  have:=Int.natAbs_ediv_le_natAbs t w
  omega
theorem zvE {M:List (List Int)}{n:Nat}{w g:Int}(sq:Sq (n+1) M)(big:Big M)(hn:n≤3)(hw:w≠0)(hg:1≤g∧g≤1000000):∀r∈zbO M n w g,∀x∈r,Sz 4000 x:=λr hr x hx=>by
 unfold zbO at hr
 obtain⟨i,hi,rfl⟩:=Vag.mp hr
 unfold zeb at hx
 obtain⟨j,hj,rfl⟩:=Vag.mp hx
 have hi9:=Va1.mp hi
 have hj9:=Va1.mp hj
 unfold zhM
 have e2:=zmb (n:=j+i) (zoM (zdH sq (show j≤n by omega) (show i≤n by omega)) (big.minor j i) (by omega))
 have eg:Sz 20 g:=Sz.of 1000000 (by omega)
 have e3:=(e2.mul eg).mul eg
 have e4:Sz 3999 (sgn (zaL n (za8 M j i)) (j+i)*g*g):=e3.mono (by omega)
 have:=zy9 (sgn (zaL n (za8 M j i)) (j+i)*g*g) w hw
 unfold Sz at *
 have e5:2^4000=2*2^3999:=by rw[Nat.pow_succ]; omega
 have e6:1<2^3999:=Nat.one_lt_two_pow (by decide)
 omega
theorem zpt {p q:Int×Int}(h1:p.1≤p.2)(h2:q.1≤q.2):(zdz p q).1≤(zdz p q).2:=by
 show p.1+q.1≤p.2+q.2
 omega
theorem zuq {p q:Int×Int}(h1:p.1≤p.2)(h2:q.1≤q.2):(zbA p q).1≤(zbA p q).2:=by
 show p.1-q.2≤p.2-q.1
 omega
theorem zqy {g:Int}(hg:1≤g)(us vs:List (Int×Int)):(sumP g us vs).1≤(sumP g us vs).2:=by
 rw[← znB]
 have main:∀k:Nat,k≤us.length→k≤vs.length→(sumP g (us.take k) (vs.take k)).1≤(sumP g (us.take k) (vs.take k)).2:=λk=>by
  induction k with
  | zero=>exact λ_ _=>Vav 0
  | succ k ih=>
   intro l1 l2
   have hu:=Vac (show k<us.length by omega)
   have hv:=Vac (show k<vs.length by omega)
   rw[zgG g us vs k hu hv]
   exact zpt (ih (by omega) (by omega)) (zjv _ _ hg)
 exact main _ (by omega) (by omega)
theorem zyJ {g:Int}(hg:1≤g){box thin:List (Int×Int)}{R:List (List (Int×Int))}{k:Nat}{es:List Int}:(zbh g box thin R k es).1≤(zbh g box thin R k es).2:=by
 unfold zbh
 exact zpt (zuq (Vav _) (zqy hg _ _)) (zqy hg _ _)
theorem zrQ {g:Int}{bs:List (Int×Int)}{ns:List Nd}{ws:List Nat}{rows:List (Bool×Nat)}{M:List (List Int)}{near:List (Int×Int)}(h:alS g bs ns rows=some (M,near))(b1:1≤bs.length)(net:zaH bs.length ns ws)(sb:Spn 51 bs)(hg:1≤g∧g≤1000000)(hi:∀i∈eqs rows,i<ns.length):near.length=bs.length∧(∀k:Nat,k<bs.length→(gt bs (k:Int)).1<(gt near (k:Int)).1∧(gt near (k:Int)).1≤(gt near (k:Int)).2∧(gt near (k:Int)).2<(gt bs (k:Int)).2)∧Spn 51 near:=by
 obtain⟨_,lM,_,_,ln,hk⟩:=zpY h b1
 have main:∀k:Nat,k<bs.length→(gt bs (k:Int)).1<(gt near (k:Int)).1∧(gt near (k:Int)).1≤(gt near (k:Int)).2∧(gt near (k:Int)).2<(gt bs (k:Int)).2:=λk hb=>by
  obtain⟨e,d1,d2⟩:=hk k _ (Vac (show k<M.length by omega))
  rw[zdQ e]
  exact⟨d1,zyJ hg.1,d2⟩
 refine⟨ln,main,λp hp=>?_⟩
 obtain⟨k,hk⟩:=List.mem_iff_getElem?.mp hp
 have hl:=(Vad.mp hk).1
 obtain⟨m1,m2,m3⟩:=main k (by omega)
 rw[zdQ hk] at m1 m2 m3
 have b:=sb _ (zli (vs:=bs) (i:=(k:Int)) ⟨by omega,by omega⟩)
 obtain⟨b1,b2,b3⟩:=b
 unfold Sz at *
 exact⟨m2,by omega,by omega⟩
structure Gr (q a c:Nat)(S:Sto)(ns:List Nd)(ws:List Nat)(T:Sto)(ns':List Nd)(ws':List Nat):Prop where
 net:zaH q ns' ws'
 pn:∃ms,ns'=ns++ms∧ms.length≤c
 pw:∃us,ws'=ws++us
 nd:T[a]?=some (.lst (ns'.map Nd.d))
 len:S.length≤T.length
 kp:∀(x:Nat) (o:Ob),x≠a→S[x]?=some o→T[x]?=some o
theorem Gr.refl {q a:Nat}{S:Sto}{ns:List Nd}{ws:List Nat}(net:zaH q ns ws)(h:S[a]?=some (.lst (ns.map Nd.d))):Gr q a 0 S ns ws S ns ws:=⟨net,⟨[],by simp,by simp⟩,⟨[],by simp⟩,h,Vaa _,λ_ _ _ e=>e⟩
theorem Gr.trans {q a c d:Nat}{S T U:Sto}{ns ns' ns2:List Nd}{ws ws' ws2:List Nat}(h:Gr q a c S ns ws T ns' ws')(k:Gr q a d T ns' ws' U ns2 ws2):Gr q a (c+d) S ns ws U ns2 ws2:=by
 obtain⟨n1,⟨ms,rfl,l1⟩,⟨us,rfl⟩,a1,e1,k1⟩:=h
 obtain⟨n2,⟨ms2,rfl,l2⟩,⟨us2,rfl⟩,a2,e2,k2⟩:=k
 exact⟨n2,⟨ms++ms2,by rw[List.append_assoc],by rw[Vas]; omega⟩,⟨us++us2,by rw[List.append_assoc]⟩,a2,by omega,λx o hx e=>k2 x o hx (k1 x o hx e)⟩
theorem Gr.mono {q a c d:Nat}{S T:Sto}{ns ns':List Nd}{ws ws':List Nat}(h:Gr q a c S ns ws T ns' ws')(l:c≤d):Gr q a d S ns ws T ns' ws':=by
 obtain⟨n1,⟨ms,e,l1⟩,u,a1,e1,k1⟩:=h
 exact⟨n1,⟨ms,e,by omega⟩,u,a1,e1,k1⟩
theorem Gr.ln {q a c:Nat}{S T:Sto}{ns ns':List Nd}{ws ws':List Nat}(h:Gr q a c S ns ws T ns' ws'):ns.length≤ns'.length∧ns'.length≤ns.length+c:=by
 obtain⟨n1,⟨ms,rfl,l1⟩,_⟩:=h
 rw[Vas]
 omega
theorem Gr.wt {q a c:Nat}{S T:Sto}{ns ns':List Nd}{ws ws':List Nat}(h:Gr q a c S ns ws T ns' ws')(net:zaH q ns ws){i:Nat}(hi:i<ns.length):ws'.getD i 0=ws.getD i 0:=by
 obtain⟨us,rfl⟩:=h.pw
 exact zpI (by rw[net.len]; exact hi)
theorem Gr.due {q a c:Nat}{S T:Sto}{ns ns':List Nd}{ws ws':List Nat}(h:Gr q a c S ns ws T ns' ws')(P:List (Int×Int)){i:Nat}(hi:i<ns.length):gt (zar P ns') (i:Int)=gt (zar P ns) (i:Int):=by
 obtain⟨ms,rfl,_⟩:=h.pn
 exact zn1 ⟨by omega,by omega⟩
theorem Gr.get {q a c:Nat}{S T:Sto}{ns ns':List Nd}{ws ws':List Nat}(h:Gr q a c S ns ws T ns' ws'){i:Nat}{v:Nd}(hi:ns[i]?=some v):ns'[i]?=some v:=by
 obtain⟨ms,rfl,_⟩:=h.pn
 rw[Val (Vad.mp hi).1]
 exact hi
theorem Gr.put {q a c n:Nat}{S T:Sto}{ns ns':List Nd}{ws ws':List Nat}{o:Ob}(h:Gr q a c S ns ws T ns' ws')(ha:n≠a)(hn:S.length≤n):Gr q a c S ns ws (T.set n o) ns' ws':=by
 obtain⟨n1,pn,pw,a1,e1,k1⟩:=h
 refine⟨n1,pn,pw,zcz a1 ha,by rw[List.length_set]; exact e1,λx u hx e=>zcz (k1 x u hx e) ?_⟩
 have:=zbg e
 omega
theorem Gr.push {q a:Nat}{S:Sto}{ns:List Nd}{ws:List Nat}(net:zaH q ns ws)(h:S[a]?=some (.lst (ns.map Nd.d)))(U:Sto):Gr q a 0 S ns ws (S++U) ns ws:=⟨net,⟨[],by simp,by simp⟩,⟨[],by simp⟩,zaz h,by simp,λ_ _ _ e=>zaz e⟩
structure Zr (P:List (Int×Int))(ns:List Nd)(ws:List Nat)(w i:Nat):Prop where
 lt:i<ns.length
 wt:ws.getD i 0≤w
 due:(gt (zar P ns) (i:Int)).1=0
theorem zvc {q a c:Nat}{S T:Sto}{ns ns':List Nd}{ws ws':List Nat}(h:Gr q a c S ns ws T ns' ws')(net:zaH q ns ws){v:Nd}(ok:v.ok ns.length q):v.wt ws'=v.wt ws:=by
 have z:∀i:Int,inR (ns.length:Nat) i→ws'.getD i.toNat 0=ws.getD i.toNat 0:=λi hi=>by
  have h0:=hi.1
  have h1:=hi.2
  exact h.wt net (by omega)
 cases v with
 | number _ _=>rfl
 | unknown _=>rfl
 | plus i j=>show ws'.getD i.toNat 0+ws'.getD j.toNat 0=ws.getD i.toNat 0+ws.getD j.toNat 0; rw[z i ok.1,z j ok.2]
 | minus i j=>show ws'.getD i.toNat 0+ws'.getD j.toNat 0=ws.getD i.toNat 0+ws.getD j.toNat 0; rw[z i ok.1,z j ok.2]
 | times i j=>show ws'.getD i.toNat 0+ws'.getD j.toNat 0=ws.getD i.toNat 0+ws.getD j.toNat 0; rw[z i ok.1,z j ok.2]
 | power i n=>show n.toNat*ws'.getD i.toNat 0=n.toNat*ws.getD i.toNat 0; rw[z i ok.1]
theorem zyi {q a c j:Nat}{S T:Sto}{ns ns':List Nd}{ws ws':List Nat}(h:Gr q a c S ns ws T ns' ws'){v:Nd}(ok:v.ok ns.length q)(hj:ns'[j]?=some v)(P:List (Int×Int)):gt (zar P ns') (j:Int)=v.due (zar P ns) P:=by
 rw[znE (P:=P) h.net hj]
 refine zqT (k:=ns.length) (q:=q) (λi hi=>?_) v ok
 have h0:=hi.1
 have h1:=hi.2
 have z:=h.due P (i:=i.toNat) (by omega)
 rw[show ((i.toNat:Nat):Int)=i by omega] at z
 exact z
def vB (B:Nat)(x:Int×Int):Prop:=1≤x.2∧x.1.natAbs≤B*x.2.natAbs
theorem vB.mono {B C:Nat}{x:Int×Int}(h:vB B x)(l:B≤C):vB C x:=⟨h.1,VaB h.2 (Nat.mul_le_mul_right _ l)⟩
theorem vB.plus {B C:Nat}{x y:Int×Int}(h1:vB B x)(h2:vB C y):vB (B+C) (x.1*y.2+y.1*x.2,x.2*y.2):=by
 refine⟨VaE h1.1 h2.1,?_⟩
 show (x.1*y.2+y.1*x.2).natAbs≤(B+C)*(x.2*y.2).natAbs
 have a:=Int.natAbs_add_le (x.1*y.2) (y.1*x.2)
 rw[VaY,VaY] at a
 rw[VaY]
 have b:=Nat.mul_le_mul_right y.2.natAbs h1.2
 have c:=Nat.mul_le_mul_right x.2.natAbs h2.2
 have e:(B+C)*(x.2.natAbs*y.2.natAbs)=B*x.2.natAbs*y.2.natAbs+C*y.2.natAbs*x.2.natAbs:=by grind
 omega
theorem vB.minus {B C:Nat}{x y:Int×Int}(h1:vB B x)(h2:vB C y):vB (B+C) (x.1*y.2-y.1*x.2,x.2*y.2):=by
 have z:=h1.plus (y:=(-y.1,y.2)) (C:=C) ⟨h2.1,by show (-y.1).natAbs≤_; rw[Int.natAbs_neg]; exact h2.2⟩
 have e:x.1*y.2 + -y.1*x.2=x.1*y.2-y.1*x.2:=by rw[VaU]; omega
 exact⟨z.1,by have w:=z.2; dsimp only at w; rw[e] at w; exact w⟩
theorem vB.times {B C:Nat}{x y:Int×Int}(h1:vB B x)(h2:vB C y):vB (B*C) (x.1*y.1,x.2*y.2):=by
 refine⟨VaE h1.1 h2.1,?_⟩
 show (x.1*y.1).natAbs≤B*C*(x.2*y.2).natAbs
 rw[VaY,VaY]
 have z:=Va0 h1.2 h2.2
 have e:B*C*(x.2.natAbs*y.2.natAbs)=B*x.2.natAbs*(C*y.2.natAbs):=by grind
 omega
theorem vB.power {B:Nat}{x:Int×Int}(h:vB B x):∀n:Nat,vB (B^n) (x.1^n,x.2^n)
 | 0=>by
  rw[VaZ,VaZ,Nat.pow_zero]
  exact⟨Vav _,Vaa _⟩
 | n+1=>by
  have z:=(vB.power h n).times h
  rw[Vam,Vam,Nat.pow_succ]
  exact z
def Nd.lit:Nd→Prop
 | .number t _=>t.natAbs≤4
 | _=>True
theorem zqw {a b:Nat}(ha:1≤a)(hb:1≤b):4^a+4^b≤4^(a+b):=by
 have p:∀k:Nat,1≤k→4≤4^k:=λk hk=>Nat.pow_le_pow_right (show 0<4 by decide) hk
 have x:=p a ha
 have y:=p b hb
 rw[Nat.pow_add]
 have z:=Va0 (Vaa (4^a)) y
 have w:=Va0 x (Vaa (4^b))
 omega
theorem zts {q:Nat}{ns:List Nd}{ws:List Nat}{P:List (Int×Int)}(net:zaH q ns ws)(lit:∀v∈ns,v.lit)(hP:∀k:Int,inR q k→vB 4 (gt P k)):∀j:Nat,j<ns.length→vB (4^ws.getD j 0) (gt (zar P ns) (j:Int)):=by
 intro j
 induction j using Nat.strongRecOn with
 | ind j ih=>
  intro hj
  have hv:=Vac hj
  have hl:=lit _ (VaM hj)
  generalize ns[j]=v at hv hl
  obtain⟨ok,ew,w1,w16⟩:=net.ok j v hv
  rw[znE (P:=P) net hv,ew]
  have at':∀i:Int,inR (j:Nat) i→vB (4^ws.getD i.toNat 0) (gt (zar P ns) i)∧1≤ws.getD i.toNat 0:=λi hi=>by
   have h0:=hi.1
   have h1:=hi.2
   have z:=ih i.toNat (by omega) (by omega)
   rw[show ((i.toNat:Nat):Int)=i by omega] at z
   exact⟨z,(net.w1 (i:=i) ⟨h0,by omega⟩).1⟩
  cases v with
  | number t b=>
   refine⟨ok.1.1,?_⟩
   have h4:t.natAbs≤4:=hl
   have hb:=ok.1.1
   show t.natAbs≤4^1*b.natAbs
   omega
  | unknown k=>exact hP k ok
  | plus i k=>
   have a:=at' i ok.1
   have b:=at' k ok.2
   exact(a.1.plus b.1).mono (zqw a.2 b.2)
  | minus i k=>
   have a:=at' i ok.1
   have b:=at' k ok.2
   exact(a.1.minus b.1).mono (zqw a.2 b.2)
  | times i k=>
   have a:=at' i ok.1
   have b:=at' k ok.2
   exact(a.1.times b.1).mono (by rw[← Nat.pow_add]; exact Vaa _)
  | power i m=>
   have a:=at' i ok.1
   refine(a.1.power m.toNat).mono ?_
   rw[← Nat.pow_mul]
   show 4^(ws.getD i.toNat 0*m.toNat)≤4^(m.toNat*ws.getD i.toNat 0)
   rw[Nat.mul_comm]
   exact Vaa _
theorem zh9 {n:Nat}{S:Sto}{Q:DK}{xs:List D}(h:S[n]?=some (.frz xs))(hq:Q (.int (xs.length:Nat)) S):irr zea [.ref n] S Q:=by
 rw[zdU]
 unfold zea
 simp only[zaU h rfl]
 exact hq
def frS (cs:List Int):Bool:=decide (0<cs.length)&&decide (cs.getD 0 0%2=1)
theorem zhS {cs:List Int}{k:Int}(h0:0≤k)(h1:k<cs.length):atI (cs.map D.int) k=some (.int (cs.getD k.toNat 0)):=by
 have z:=zpa (ts:=cs) (k:=k.toNat) (by omega)
 rw[show ((k.toNat:Nat):Int)=k by omega] at z
 exact z
theorem zqr {G:Bool×Nat→Prop}:∀xs:List D,(∀(k:Nat) (d:D),xs[k]?=some d→∃p,d=rwD p∧G p)→∃vs:List (Bool×Nat),xs=vs.map rwD∧∀p∈vs,G p
 | [],_=>⟨[],rfl,λp h=>by cases h⟩
 | x::xs,h=>by
  obtain⟨p,rfl,hp⟩:=h 0 x rfl
  obtain⟨vs,rfl,hv⟩:=zqr xs λk d hd=>h (k+1) d hd
  exact⟨p::vs,rfl,λq hq=>by
   rcases Vau.mp hq with e | e
   ·subst e; exact hp
   ·exact hv q e⟩
theorem zuy {a b c d e:TDS}{E:zdh}{dl:Ev}{S:Sto}(W:Ev→Sto→Prop)(ha:∀nx:Ev→Sto→Prop,(∀dl' S',W dl' S'→nx dl' S')→zcJ a (zcJ b (zcJ c d)) { nx:=nx,rt:=E.rt,bk:=E.bk,ct:=E.ct } dl S)(hb:∀dl' S',W dl' S'→e E dl' S'):zcJ a (zcJ b (zcJ c (zcJ d e))) E dl S:=ha _ hb
theorem zqo:∀xs ys:List Int,xs.length=ys.length→eqL (eqN 1) (xs.map D.int) (ys.map D.int)=some (decide (xs=ys))
 | [],[],_=>rfl
 | [],_::_,h=>by simp at h
 | _::_,[],h=>by simp at h
 | x::xs,y::ys,h=>by
  show (match eqN 1 (D.int x) (D.int y),eqL (eqN 1) (xs.map D.int) (ys.map D.int) with | some b,some c=>some (b&&c) | _,_=>none)=_
  rw[zqo xs ys (by simpa using h)]
  have e:eqN 1 (D.int x) (D.int y)=some (decide (x=y)):=by simp[eqN,L3.eqT,eqF]
  rw[e]
  show some (decide (x=y)&&decide (xs=ys))=some (decide (x::xs=y::ys))
  by_cases c:x=y
  ·by_cases d:xs=ys
   ·subst c; subst d; simp
   ·simp[c,d]
  ·simp[c]
structure zbT (K:PySem.W.Frag)(mg:Str→Option Value) where
 C:Addr
 m:mg "Number"=some (.ref C)
 cl:Cls K C
 n_bottom:zbB K C "bottom"
 n_top:zbB K C "top"
 makes:PySem.W.makesIn K C=true
 kp:PySem.W.keepIn K (.ref C)=true
structure zbV (K:PySem.W.Frag)(mg:Str→Option Value) where
 C:Addr
 m:mg "Unknown"=some (.ref C)
 cl:Cls K C
 n_place:zbB K C "place"
 makes:PySem.W.makesIn K C=true
 kp:PySem.W.keepIn K (.ref C)=true
structure zbE (K:PySem.W.Frag)(mg:Str→Option Value) where
 C:Addr
 m:mg "Plus"=some (.ref C)
 cl:Cls K C
 n_other:zbB K C "other"
 n_one:zbB K C "one"
 makes:PySem.W.makesIn K C=true
 kp:PySem.W.keepIn K (.ref C)=true
structure zbG (K:PySem.W.Frag)(mg:Str→Option Value) where
 C:Addr
 m:mg "Minus"=some (.ref C)
 cl:Cls K C
 n_other:zbB K C "other"
 n_one:zbB K C "one"
 makes:PySem.W.makesIn K C=true
 kp:PySem.W.keepIn K (.ref C)=true
structure zbF (K:PySem.W.Frag)(mg:Str→Option Value) where
 C:Addr
 m:mg "Times"=some (.ref C)
 cl:Cls K C
 n_other:zbB K C "other"
 n_one:zbB K C "one"
 makes:PySem.W.makesIn K C=true
 kp:PySem.W.keepIn K (.ref C)=true
structure zbI (K:PySem.W.Frag)(mg:Str→Option Value) where
 C:Addr
 m:mg "Power"=some (.ref C)
 cl:Cls K C
 n_many:zbB K C "many"
 n_one:zbB K C "one"
 makes:PySem.W.makesIn K C=true
 kp:PySem.W.keepIn K (.ref C)=true
def zis:Sd:=λds S Q ex=>match ds with
 | [.int _]=>∀g:Int,1≤g→g≤1000000→Q (.int g) S
 | _=>False
theorem zzg:Ln (zis) 1:=λds S Q ex h=>by unfold zis at h; split at h <;> first | rfl | exact h.elim
def zdy:Sd:=λds S Q ex=>match ds with
 | [.ref sc]=>∃cs:List Int,S[sc]?=some (.frz (cs.map D.int))∧Q (.bl (frS cs)) S
 | _=>False
theorem zs6:Ln (zdy) 1:=λds S Q ex h=>by unfold zdy at h; split at h <;> first | rfl | exact h.elim
def zd7:Sd:=λds S Q ex=>match ds with
 | [.ref sc,.int k]=>∃cs:List Int,S[sc]?=some (.frz (cs.map D.int))∧(0≤k∧k≤1000)∧∀v:Int,Q (.int v) S
 | _=>False
theorem zuu:Ln (zd7) 2:=λds S Q ex h=>by unfold zd7 at h; split at h <;> first | rfl | exact h.elim
def ziw:Sd:=λds S Q ex=>match ds with
 | [.ref sc,.int qi,.int g]=>∃(cs:List Int) (q:Nat),S[sc]?=some (.frz (cs.map D.int))∧(qi=(q:Nat)∧q≤3)∧(1≤g∧g≤1000000)∧∀(T:Sto) (m:Nat) (B:List (Int×Int)),Pre S T→S.length≤m→T[m]?=some (.lst (B.map frD))→B.length=q→Spn 51 B→(frS cs=false→∀p∈B,p.1.natAbs≤4*g.natAbs∧p.2.natAbs≤4*g.natAbs)→Q (.ref m) T
 | _=>False
theorem zrR:Ln (ziw) 3:=λds S Q ex h=>by unfold ziw at h; split at h <;> first | rfl | exact h.elim
def zdE:Sd:=λds S Q ex=>match ds with
 | [.int T,.int B]=>(0<B∧Sz 4000 B)∧∀t b:Int,1≤b→Int.gcd t b=1→t*B=T*b→t.natAbs≤T.natAbs→b≤B→Q (.tup [.int t,.int b]) S
 | _=>False
theorem zty:Ln (zdE) 2:=λds S Q ex h=>by unfold zdE at h; split at h <;> first | rfl | exact h.elim
def zhA:Sd:=λds S Q ex=>match ds with
 | [.int _]=>∀t b:Int,(1≤b∧b≤4)→Int.gcd t b=1→t.natAbs≤4→Q (.tup [.int t,.int b]) S
 | _=>False
theorem ztS:Ln (zhA) 1:=λds S Q ex h=>by unfold zhA at h; split at h <;> first | rfl | exact h.elim
def zgY:Sd:=λds S Q ex=>match ds with
 | [.ref a,.ref b,d,.int w]=>∃(v:Nd) (ns:List Nd) (ws:List Nat),d=v.d∧S[a]?=some (.lst (ns.map Nd.d))∧S[b]?=some (.lst (ws.map wtD))∧a≠b∧w=(v.wt ws:Nat)∧ns.length<900∧ws.length<900∧(∀j:Nat,ns[j]?=some v→Q (.int (j:Int)) S)∧∀i:Int,i=(ns.length:Nat)→Q (.int i) ((S.set a (.lst ((ns++[v]).map Nd.d))).set b (.lst ((ws++[v.wt ws]).map wtD)))
 | _=>False
theorem zsa:Ln (zgY) 4:=λds S Q ex h=>by unfold zgY at h; split at h <;> first | rfl | exact h.elim
def zg4:Sd:=λds S Q ex=>match ds with
 | [.int _]=>∀t b:Int,(1≤b∧b≤10^9)→Int.gcd t b=1→t.natAbs≤10^9→Q (.tup [.int t,.int b]) S
 | _=>False
theorem zvZ:Ln (zg4) 1:=λds S Q ex h=>by unfold zg4 at h; split at h <;> first | rfl | exact h.elim
def zeA:Sd:=λds S Q ex=>match ds with
 | [.ref a,.ref b,.int c,.int most,.bl fr]=>∃(qn:Nat) (ns:List Nd) (ws:List Nat),S[a]?=some (.lst (ns.map Nd.d))∧S[b]?=some (.lst (ws.map wtD))∧a≠b∧zaH qn ns ws∧1≤ns.length∧ns.length<900∧most≤16∧∀(T:Sto) (ms:List Nd) (us:List Nat),zaH qn (ns++ms) us→(∃u2:List Nat,us=ws++u2∧∀w∈u2,w=1∨((w:Nat):Int)≤most)→(fr=false→∀v∈ms,v.lit)→ms.length≤1→T[a]?=some (.lst ((ns++ms).map Nd.d))→T[b]?=some (.lst (us.map wtD))→S.length≤T.length→(∀(x:Nat) (o:Ob),x≠a→x≠b→S[x]?=some o→T[x]?=some o)→Q .non T
 | _=>False
theorem zwD:Ln (zeA) 5:=λds S Q ex h=>by unfold zeA at h; split at h <;> first | rfl | exact h.elim
def zhY:Sd:=λds S Q ex=>match ds with
 | [.ref sc,.ref a,.ref b]=>∃(cs:List Int) (q:Nat) (ns:List Nd) (ws:List Nat),S[sc]?=some (.frz (cs.map D.int))∧S[a]?=some (.lst (ns.map Nd.d))∧S[b]?=some (.lst (ws.map wtD))∧a≠b∧zaH q ns ws∧(1≤ns.length∧ns.length≤3)∧ns.length=q∧cs.length≤63∧∀(T:Sto) (m:Nat) (ns':List Nd) (ws':List Nat) (rows:List (Bool×Nat)),zaH q ns' ws'→1≤ns'.length→ns'.length≤60→T[a]?=some (.lst (ns'.map Nd.d))→T[m]?=some (.lst (rows.map rwD))→rows.length≤10→(∀r∈rows,r.2<ns'.length)→S.length≤m→(∀(x:Nat) (o:Ob),x≠a→x≠b→S[x]?=some o→T[x]?=some o)→Q (.tup [.ref a,.ref m]) T
 | _=>False
theorem zs2:Ln (zhY) 3:=λds S Q ex h=>by unfold zhY at h; split at h <;> first | rfl | exact h.elim
def zd4:Sd:=λds S Q ex=>match ds with
 | [.ref a,d]=>∃(q:Nat) (v:Nd) (ns:List Nd) (ws:List Nat),d=v.d∧S[a]?=some (.lst (ns.map Nd.d))∧ns.length<900∧zaH q ns ws∧v.ok ns.length q∧v.wt ws≤16∧∀(T:Sto) (j:Nat) (ns':List Nd) (ws':List Nat),Gr q a 1 S ns ws T ns' ws'→j<ns'.length→ns'[j]?=some v→ws'.getD j 0=v.wt ws→(∀P,gt (zar P ns') (j:Int)=v.due (zar P ns) P)→Q (.int (j:Int)) T
 | _=>False
theorem zxJ:Ln (zd4) 2:=λds S Q ex h=>by unfold zd4 at h; split at h <;> first | rfl | exact h.elim
def ziq:Sd:=λds S Q ex=>match ds with
 | [.int x,.int n]=>(0≤n∧n≤6∧Sz 2000 x)∧Q (.int (x^n.toNat)) S
 | _=>False
theorem zxc:Ln (ziq) 2:=λds S Q ex h=>by unfold ziq at h; split at h <;> first | rfl | exact h.elim
def zg7:Sd:=λds S Q ex=>match ds with
 | [d,.ref s]=>∃(v:Nd) (fs ps:List (Int×Int)),d=v.d∧v.op∧S[s]?=some (.lst (fs.map frD))∧v.ok fs.length ps.length∧Pz 1800 fs∧Q (frD (v.due fs ps)) S
 | _=>False
theorem zuM:Ln (zg7) 2:=λds S Q ex h=>by unfold zg7 at h; split at h <;> first | rfl | exact h.elim
def zfJ:Sd:=λds S Q ex=>match ds with
 | [.ref a,.ref b]=>∃(ns:List Nd) (ws:List Nat) (ps:List (Int×Int)),S[a]?=some (.lst (ns.map Nd.d))∧S[b]?=some (.lst (ps.map frD))∧zaH ps.length ns ws∧Pz 110 ps∧ns.length≤70∧∀(T:Sto) (m:Nat),Pre S T→S.length≤m→T[m]?=some (.lst ((zar ps ns).map frD))→Q (.ref m) T
 | _=>False
theorem zuC:Ln (zfJ) 2:=λds S Q ex h=>by unfold zfJ at h; split at h <;> first | rfl | exact h.elim
def zhP:Sd:=λds S Q ex=>match ds with
 | [.ref a,.int at',.ref b,.int g,.int parts]=>∃(q:Nat) (ns:List Nd) (ws:List Nat) (bs:List (Int×Int)) (j:Nat),S[a]?=some (.lst (ns.map Nd.d))∧S[b]?=some (.lst (bs.map frD))∧a≠b∧zaH q ns ws∧q=bs.length∧q≤4∧at'=(j:Nat)∧j<ns.length∧ns.length≤70∧(1≤g∧g≤1000000)∧(1≤parts∧parts≤1000)∧(∀p∈bs,p.1.natAbs≤4000000∧p.2.natAbs≤4000000)∧vB 100000 (gt (zar (bs.map λp=>(mid p,g)) ns) (j:Int))∧∀(T:Sto) (i:Nat) (ns':List Nd) (ws':List Nat),Gr q a 1 S ns ws T ns' ws'→i<ns'.length→ws'.getD i 0=1→Q (.int (i:Int)) T
 | _=>False
theorem zvR:Ln (zhP) 5:=λds S Q ex h=>by unfold zhP at h; split at h <;> first | rfl | exact h.elim
def zhH:Sd:=λds S Q ex=>match ds with
 | [.ref a,.ref p]=>∃(q B:Nat) (ns:List Nd) (ws is:List Nat),S[a]?=some (.lst (ns.map Nd.d))∧S[p]?=some (.lst (is.map wtD))∧a≠p∧zaH q ns ws∧(1≤is.length∧is.length≤5)∧is.length*B≤16∧ns.length<800∧(∀i∈is,i<ns.length∧ws.getD i 0≤B)∧∀(T:Sto) (j:Nat) (ns':List Nd) (ws':List Nat),Gr q a 5 S ns ws T ns' ws'→j<ns'.length→ws'.getD j 0≤is.length*B→(∀(P:List (Int×Int)) (V:Nat→Int×Int→Prop),(∀i∈is,V 1 (gt (zar P ns) (i:Int)))→(∀k x y,V k x→V 1 y→V (k+1) (x.1*y.2+y.1*x.2,x.2*y.2))→V is.length (gt (zar P ns') (j:Int)))→Q (.int (j:Int)) T
 | _=>False
theorem ztf:Ln (zhH) 2:=λds S Q ex h=>by unfold zhH at h; split at h <;> first | rfl | exact h.elim
def zgQ:Sd:=λds S Q ex=>match ds with
 | [.ref a,.ref e,.bl tu]=>∃(q:Nat) (ns:List Nd) (ws:List Nat) (es:List Int),S[a]?=some (.lst (ns.map Nd.d))∧S[e]?=some (.lst (es.map D.int))∧a≠e∧zaH q ns ws∧es.length=q∧(1≤q∧q≤3)∧(∀k:Nat,k<q→ns[k]?=some (.unknown (k:Int)))∧(∀x∈es,x.natAbs≤8)∧ns.length<600∧∀(T:Sto) (j:Nat) (ns':List Nd) (ws':List Nat),Gr q a 11 S ns ws T ns' ws'→j<ns'.length→ws'.getD j 0≤6→(∀P:List (Int×Int),(∀k:Int,inR q k→vB 4 (gt P k))→vB 96 (gt (zar P ns') (j:Int)))→Q (.int (j:Int)) T
 | _=>False
theorem zvO:Ln (zgQ) 3:=λds S Q ex h=>by unfold zgQ at h; split at h <;> first | rfl | exact h.elim
def zhb:Sd:=λds S Q ex=>match ds with
 | [.ref sc,.int qi,.int g,.ref b]=>∃(cs:List Int) (q:Nat) (bs:List (Int×Int)),S[sc]?=some (.frz (cs.map D.int))∧(qi=(q:Nat)∧1≤q∧q≤3)∧S[b]?=some (.lst (bs.map frD))∧bs.length=q∧cs.length≤63∧(1≤g∧g≤1000000)∧(frS cs=false→∀p∈bs,p.1.natAbs≤4*g.natAbs∧p.2.natAbs≤4*g.natAbs)∧∀(T:Sto) (a m:Nat) (ns':List Nd) (ws':List Nat) (rows:List (Bool×Nat)),zaH q ns' ws'→1≤ns'.length→ns'.length≤60→T[a]?=some (.lst (ns'.map Nd.d))→T[m]?=some (.lst (rows.map rwD))→rows.length≤10→(∀r∈rows,r.2<ns'.length)→S.length≤a→S.length≤m→a≠m→Pre S T→Q (.tup [.ref a,.ref m]) T
 | _=>False
theorem zw7:Ln (zhb) 4:=λds S Q ex h=>by unfold zhb at h; split at h <;> first | rfl | exact h.elim
def ziv:Sd:=λds S Q ex=>match ds with
 | [.ref r]=>∃rows:List (Bool×Nat),S[r]?=some (.lst (rows.map rwD))∧rows.length≤900∧Q (.ref S.length) (S++[.lst ((eqs rows).map wtD)])
 | _=>False
theorem zsP:Ln (ziv) 1:=λds S Q ex h=>by unfold ziv at h; split at h <;> first | rfl | exact h.elim
def zff:Sd:=λds S Q ex=>match ds with
 | [.ref e,.ref p]=>∃(xs:List D) (is:List Nat),S[e]?=some (.lst xs)∧S[p]?=some (.lst (is.map wtD))∧is.length≤900∧(∀i∈is,i<xs.length)∧Q (.ref S.length) (S++[.lst (is.map λi=>xs.getD i .non)])
 | _=>False
theorem zvm:Ln (zff) 2:=λds S Q ex h=>by unfold zff at h; split at h <;> first | rfl | exact h.elim
def ziO:Sd:=λds S Q ex=>match ds with
 | [.tup [.int a,.int b],.tup [.int c,.int d]]=>(IntMulOk a d∧IntMulOk c b)∧Q (.bl (decide (a*d<c*b))) S
 | _=>False
theorem zvB:Ln (ziO) 2:=λds S Q ex h=>by unfold ziO at h; split at h <;> first | rfl | exact h.elim
def zeh:Sd:=λds S Q ex=>match ds with
 | [.int t,.int b]=>CFd 0 b∧Q (.int (-(-t/b))) S
 | _=>False
theorem zyg:Ln (zeh) 2:=λds S Q ex h=>by unfold zeh at h; split at h <;> first | rfl | exact h.elim
def zgH:Sd:=λds S Q ex=>match ds with
 | [.tup [.int a,.int b],.tup [.int c,.int d],.int g]=>((IntMulOk c b∧IntMulOk a d)∧¬ c*b<a*d∧IntMulOk a g∧IntMulOk c g∧CFd 0 b∧CFd 0 d)∧Q (.tup [.int (a*g/b),.int (-(-(c*g)/d))]) S
 | _=>False
theorem zvP:Ln (zgH) 3:=λds S Q ex h=>by unfold zgH at h; split at h <;> first | rfl | exact h.elim
def zeO (cNumber:Addr)(cUnknown:Addr)(cPlus:Addr)(cMinus:Addr)(cTimes:Addr)(cPower:Addr):Sd:=λds S Q ex=>match ds with
 | [.ref n,.ref w,.ref p,.int g]=>∃(x y:Int) (vs bs:List (Int×Int)),S[n]?=some (Nd.ob cNumber cUnknown cPlus cMinus cTimes cPower (Nd.number x y))∧S[w]?=some (.lst (vs.map frD))∧S[p]?=some (.lst (bs.map frD))∧Nd.ok vs.length bs.length (Nd.number x y)∧Spn 1400 vs∧(1≤g∧g≤1000000)∧Q (frD (Nd.fw vs bs g (Nd.number x y))) S
 | _=>False
theorem zuG (cNumber:Addr)(cUnknown:Addr)(cPlus:Addr)(cMinus:Addr)(cTimes:Addr)(cPower:Addr):Ln (zeO cNumber cUnknown cPlus cMinus cTimes cPower) 4:=λds S Q ex h=>by unfold zeO at h; split at h <;> first | rfl | exact h.elim
def zeZ (cNumber:Addr)(cUnknown:Addr)(cPlus:Addr)(cMinus:Addr)(cTimes:Addr)(cPower:Addr):Sd:=λds S Q ex=>match ds with
 | [.ref n,.ref w,.ref p,.int g]=>∃(k:Int) (vs bs:List (Int×Int)),S[n]?=some (Nd.ob cNumber cUnknown cPlus cMinus cTimes cPower (Nd.unknown k))∧S[w]?=some (.lst (vs.map frD))∧S[p]?=some (.lst (bs.map frD))∧Nd.ok vs.length bs.length (Nd.unknown k)∧Spn 1400 vs∧(1≤g∧g≤1000000)∧Q (frD (Nd.fw vs bs g (Nd.unknown k))) S
 | _=>False
theorem zxW (cNumber:Addr)(cUnknown:Addr)(cPlus:Addr)(cMinus:Addr)(cTimes:Addr)(cPower:Addr):Ln (zeZ cNumber cUnknown cPlus cMinus cTimes cPower) 4:=λds S Q ex h=>by unfold zeZ at h; split at h <;> first | rfl | exact h.elim
def zdj:Sd:=λds S Q ex=>match ds with
 | [.tup [.int a,.int b],.tup [.int c,.int d]]=>Q (.tup [.int (a+c),.int (b+d)]) S
 | _=>False
theorem ztI:Ln (zdj) 2:=λds S Q ex h=>by unfold zdj at h; split at h <;> first | rfl | exact h.elim
def zfn (cNumber:Addr)(cUnknown:Addr)(cPlus:Addr)(cMinus:Addr)(cTimes:Addr)(cPower:Addr):Sd:=λds S Q ex=>match ds with
 | [.ref n,.ref w,.ref p,.int g]=>∃(i j:Int) (vs bs:List (Int×Int)),S[n]?=some (Nd.ob cNumber cUnknown cPlus cMinus cTimes cPower (Nd.plus i j))∧S[w]?=some (.lst (vs.map frD))∧S[p]?=some (.lst (bs.map frD))∧Nd.ok vs.length bs.length (Nd.plus i j)∧Spn 1400 vs∧(1≤g∧g≤1000000)∧Q (frD (Nd.fw vs bs g (Nd.plus i j))) S
 | _=>False
theorem zsn (cNumber:Addr)(cUnknown:Addr)(cPlus:Addr)(cMinus:Addr)(cTimes:Addr)(cPower:Addr):Ln (zfn cNumber cUnknown cPlus cMinus cTimes cPower) 4:=λds S Q ex h=>by unfold zfn at h; split at h <;> first | rfl | exact h.elim
def zdA:Sd:=λds S Q ex=>match ds with
 | [.tup [.int a,.int b],.tup [.int c,.int d]]=>Q (.tup [.int (a-d),.int (b-c)]) S
 | _=>False
theorem zs1:Ln (zdA) 2:=λds S Q ex h=>by unfold zdA at h; split at h <;> first | rfl | exact h.elim
def zeP (cNumber:Addr)(cUnknown:Addr)(cPlus:Addr)(cMinus:Addr)(cTimes:Addr)(cPower:Addr):Sd:=λds S Q ex=>match ds with
 | [.ref n,.ref w,.ref p,.int g]=>∃(i j:Int) (vs bs:List (Int×Int)),S[n]?=some (Nd.ob cNumber cUnknown cPlus cMinus cTimes cPower (Nd.minus i j))∧S[w]?=some (.lst (vs.map frD))∧S[p]?=some (.lst (bs.map frD))∧Nd.ok vs.length bs.length (Nd.minus i j)∧Spn 1400 vs∧(1≤g∧g≤1000000)∧Q (frD (Nd.fw vs bs g (Nd.minus i j))) S
 | _=>False
theorem zrN (cNumber:Addr)(cUnknown:Addr)(cPlus:Addr)(cMinus:Addr)(cTimes:Addr)(cPower:Addr):Ln (zeP cNumber cUnknown cPlus cMinus cTimes cPower) 4:=λds S Q ex h=>by unfold zeP at h; split at h <;> first | rfl | exact h.elim
def zdT:Sd:=λds S Q ex=>match ds with
 | [.tup [.int a,.int b],.tup [.int c,.int d],.int g]=>((IntMulOk a c∧IntMulOk a d∧IntMulOk b c∧IntMulOk b d)∧CFd 0 g)∧∀mn mx:Int,zfo a b c d mn mx→Q (.tup [.int (mn/g),.int (-(-mx/g))]) S
 | _=>False
theorem zus:Ln (zdT) 3:=λds S Q ex h=>by unfold zdT at h; split at h <;> first | rfl | exact h.elim
def zfU (cNumber:Addr)(cUnknown:Addr)(cPlus:Addr)(cMinus:Addr)(cTimes:Addr)(cPower:Addr):Sd:=λds S Q ex=>match ds with
 | [.ref n,.ref w,.ref p,.int g]=>∃(i j:Int) (vs bs:List (Int×Int)),S[n]?=some (Nd.ob cNumber cUnknown cPlus cMinus cTimes cPower (Nd.times i j))∧S[w]?=some (.lst (vs.map frD))∧S[p]?=some (.lst (bs.map frD))∧Nd.ok vs.length bs.length (Nd.times i j)∧Spn 1400 vs∧(1≤g∧g≤1000000)∧Q (frD (Nd.fw vs bs g (Nd.times i j))) S
 | _=>False
theorem zw4 (cNumber:Addr)(cUnknown:Addr)(cPlus:Addr)(cMinus:Addr)(cTimes:Addr)(cPower:Addr):Ln (zfU cNumber cUnknown cPlus cMinus cTimes cPower) 4:=λds S Q ex h=>by unfold zfU at h; split at h <;> first | rfl | exact h.elim
def zgy:Sd:=λds S Q ex=>match ds with
 | [.int x,.int n]=>(0≤n∧n≤6∧Sz 2000 x)∧Q (.int (x^n.toNat)) S
 | _=>False
theorem zwi:Ln (zgy) 2:=λds S Q ex h=>by unfold zgy at h; split at h <;> first | rfl | exact h.elim
def zft:Sd:=λds S Q ex=>match ds with
 | [.tup [.int a,.int b],.int n,.int g]=>(1≤n∧n≤6∧Sz 1400 a∧Sz 1400 b∧1≤g∧Sz 1400 g)∧∀m M:Int,zdF a b n.toNat m M→Q (.tup [.int (m/g^(n.toNat-1)),.int (-(-M/g^(n.toNat-1)))]) S
 | _=>False
theorem zsC:Ln (zft) 3:=λds S Q ex h=>by unfold zft at h; split at h <;> first | rfl | exact h.elim
def ze7 (cNumber:Addr)(cUnknown:Addr)(cPlus:Addr)(cMinus:Addr)(cTimes:Addr)(cPower:Addr):Sd:=λds S Q ex=>match ds with
 | [.ref n,.ref w,.ref p,.int g]=>∃(i m:Int) (vs bs:List (Int×Int)),S[n]?=some (Nd.ob cNumber cUnknown cPlus cMinus cTimes cPower (Nd.power i m))∧S[w]?=some (.lst (vs.map frD))∧S[p]?=some (.lst (bs.map frD))∧Nd.ok vs.length bs.length (Nd.power i m)∧Spn 1400 vs∧(1≤g∧g≤1000000)∧Q (frD (Nd.fw vs bs g (Nd.power i m))) S
 | _=>False
theorem zxP (cNumber:Addr)(cUnknown:Addr)(cPlus:Addr)(cMinus:Addr)(cTimes:Addr)(cPower:Addr):Ln (ze7 cNumber cUnknown cPlus cMinus cTimes cPower) 4:=λds S Q ex h=>by unfold ze7 at h; split at h <;> first | rfl | exact h.elim
def ziU (cPower:Addr):Sd:=λds S Q ex=>match ds with
 | [.ref n,x,y]=>∃T:Sto,S=T++[.ins cPower []]∧n=T.length∧Q .non (T++[.ins cPower [("one",x),("many",y)]])
 | _=>False
theorem zwd (cPower:Addr):Ln (ziU cPower) 3:=λds S Q ex h=>by unfold ziU at h; split at h <;> first | rfl | exact h.elim
def zhG (cNumber:Addr):Sd:=λds S Q ex=>match ds with
 | [.ref n,x,y]=>∃T:Sto,S=T++[.ins cNumber []]∧n=T.length∧Q .non (T++[.ins cNumber [("top",x),("bottom",y)]])
 | _=>False
theorem zwA (cNumber:Addr):Ln (zhG cNumber) 3:=λds S Q ex h=>by unfold zhG at h; split at h <;> first | rfl | exact h.elim
def zie (cUnknown:Addr):Sd:=λds S Q ex=>match ds with
 | [.ref n,x]=>∃T:Sto,S=T++[.ins cUnknown []]∧n=T.length∧Q .non (T++[.ins cUnknown [("place",x)]])
 | _=>False
theorem zt1 (cUnknown:Addr):Ln (zie cUnknown) 2:=λds S Q ex h=>by unfold zie at h; split at h <;> first | rfl | exact h.elim
def zgd (cPlus:Addr):Sd:=λds S Q ex=>match ds with
 | [.ref n,x,y]=>∃T:Sto,S=T++[.ins cPlus []]∧n=T.length∧Q .non (T++[.ins cPlus [("one",x),("other",y)]])
 | _=>False
theorem zsU (cPlus:Addr):Ln (zgd cPlus) 3:=λds S Q ex h=>by unfold zgd at h; split at h <;> first | rfl | exact h.elim
def zhD (cMinus:Addr):Sd:=λds S Q ex=>match ds with
 | [.ref n,x,y]=>∃T:Sto,S=T++[.ins cMinus []]∧n=T.length∧Q .non (T++[.ins cMinus [("one",x),("other",y)]])
 | _=>False
theorem ztV (cMinus:Addr):Ln (zhD cMinus) 3:=λds S Q ex h=>by unfold zhD at h; split at h <;> first | rfl | exact h.elim
def zgX (cTimes:Addr):Sd:=λds S Q ex=>match ds with
 | [.ref n,x,y]=>∃T:Sto,S=T++[.ins cTimes []]∧n=T.length∧Q .non (T++[.ins cTimes [("one",x),("other",y)]])
 | _=>False
theorem zx6 (cTimes:Addr):Ln (zgX cTimes) 3:=λds S Q ex h=>by unfold zgX at h; split at h <;> first | rfl | exact h.elim
def zeE (cNumber:Addr)(cUnknown:Addr)(cPlus:Addr)(cMinus:Addr)(cTimes:Addr)(cPower:Addr):Sd:=λds S Q ex=>match ds with
 | [d]=>∃v:Nd,d=v.d∧Q (.ref S.length) (S++[v.ob cNumber cUnknown cPlus cMinus cTimes cPower])
 | _=>False
theorem ztn (cNumber:Addr)(cUnknown:Addr)(cPlus:Addr)(cMinus:Addr)(cTimes:Addr)(cPower:Addr):Ln (zeE cNumber cUnknown cPlus cMinus cTimes cPower) 1:=λds S Q ex h=>by unfold zeE at h; split at h <;> first | rfl | exact h.elim
def zep:Sd:=λds S Q ex=>match ds with
 | [.ref a,.ref b,.int g]=>∃(ns:List Nd) (ws:List Nat) (bs:List (Int×Int)),S[a]?=some (.lst (ns.map Nd.d))∧S[b]?=some (.lst (bs.map frD))∧zaH bs.length ns ws∧Spn 51 bs∧(1≤g∧g≤1000000)∧ns.length≤70∧∀(T:Sto) (m:Nat),Pre S T→S.length≤m→T[m]?=some (.lst ((zau bs g ns).map frD))→Q (.ref m) T
 | _=>False
theorem zsc:Ln (zep) 3:=λds S Q ex h=>by unfold zep at h; split at h <;> first | rfl | exact h.elim
def zfp (cNumber:Addr)(cUnknown:Addr)(cPlus:Addr)(cMinus:Addr)(cTimes:Addr)(cPower:Addr):Sd:=λds S Q ex=>match ds with
 | [.ref n,.ref w,.ref s,.int qi,.int g]=>∃(x y:Int) (q:Nat) (vs:List (Int×Int)) (sl:List (List (Int×Int))) (ds:List D),S[n]?=some (Nd.ob cNumber cUnknown cPlus cMinus cTimes cPower (Nd.number x y))∧S[w]?=some (.lst (vs.map frD))∧S[s]?=some (.lst ds)∧za2 S 0 ds sl∧(∀i:Int,inR sl.length i→(sl.getD i.toNat []).length=q∧∀l,l<q→(gs sl i l).1≤(gs sl i l).2∧Sz 1100 (gs sl i l).1∧Sz 1100 (gs sl i l).2)∧(qi=(q:Nat)∧q≤900)∧Nd.ok sl.length q (Nd.number x y)∧sl.length≤vs.length∧Spn 1000 vs∧(1≤g∧g≤1000000)∧∀(T:Sto) (mm:Nat),Pre S T→S.length≤mm→T[mm]?=some (.lst ((zbd vs sl g q (Nd.number x y)).map frD))→Q (.ref mm) T
 | _=>False
theorem zuc (cNumber:Addr)(cUnknown:Addr)(cPlus:Addr)(cMinus:Addr)(cTimes:Addr)(cPower:Addr):Ln (zfp cNumber cUnknown cPlus cMinus cTimes cPower) 5:=λds S Q ex h=>by unfold zfp at h; split at h <;> first | rfl | exact h.elim
def zfz (cNumber:Addr)(cUnknown:Addr)(cPlus:Addr)(cMinus:Addr)(cTimes:Addr)(cPower:Addr):Sd:=λds S Q ex=>match ds with
 | [.ref n,.ref w,.ref s,.int qi,.int g]=>∃(k:Int) (q:Nat) (vs:List (Int×Int)) (sl:List (List (Int×Int))) (ds:List D),S[n]?=some (Nd.ob cNumber cUnknown cPlus cMinus cTimes cPower (Nd.unknown k))∧S[w]?=some (.lst (vs.map frD))∧S[s]?=some (.lst ds)∧za2 S 0 ds sl∧(∀i:Int,inR sl.length i→(sl.getD i.toNat []).length=q∧∀l,l<q→(gs sl i l).1≤(gs sl i l).2∧Sz 1100 (gs sl i l).1∧Sz 1100 (gs sl i l).2)∧(qi=(q:Nat)∧q≤900)∧Nd.ok sl.length q (Nd.unknown k)∧sl.length≤vs.length∧Spn 1000 vs∧(1≤g∧g≤1000000)∧∀(T:Sto) (mm:Nat),Pre S T→S.length≤mm→T[mm]?=some (.lst ((zbd vs sl g q (Nd.unknown k)).map frD))→Q (.ref mm) T
 | _=>False
theorem zwu (cNumber:Addr)(cUnknown:Addr)(cPlus:Addr)(cMinus:Addr)(cTimes:Addr)(cPower:Addr):Ln (zfz cNumber cUnknown cPlus cMinus cTimes cPower) 5:=λds S Q ex h=>by unfold zfz at h; split at h <;> first | rfl | exact h.elim
def zht (cPlus:Addr):Sd:=λds S Q ex=>match ds with
 | [.ref _,_,_,.tup [.int a,.int b],.tup [.int c,.int d],.int _]=>Q (.tup [.int (a+c),.int (b+d)]) S
 | _=>False
theorem zzh (cPlus:Addr):Ln (zht cPlus) 6:=λds S Q ex h=>by unfold zht at h; split at h <;> first | rfl | exact h.elim
def zfH (cNumber:Addr)(cUnknown:Addr)(cPlus:Addr)(cMinus:Addr)(cTimes:Addr)(cPower:Addr):Sd:=λds S Q ex=>match ds with
 | [.ref n,.ref w,.ref s,.int qi,.int g]=>∃(i j:Int) (q:Nat) (vs:List (Int×Int)) (sl:List (List (Int×Int))) (ds:List D),S[n]?=some (Nd.ob cNumber cUnknown cPlus cMinus cTimes cPower (Nd.plus i j))∧S[w]?=some (.lst (vs.map frD))∧S[s]?=some (.lst ds)∧za2 S 0 ds sl∧(∀i:Int,inR sl.length i→(sl.getD i.toNat []).length=q∧∀l,l<q→(gs sl i l).1≤(gs sl i l).2∧Sz 1100 (gs sl i l).1∧Sz 1100 (gs sl i l).2)∧(qi=(q:Nat)∧q≤900)∧Nd.ok sl.length q (Nd.plus i j)∧sl.length≤vs.length∧Spn 1000 vs∧(1≤g∧g≤1000000)∧∀(T:Sto) (mm:Nat),Pre S T→S.length≤mm→T[mm]?=some (.lst ((zbd vs sl g q (Nd.plus i j)).map frD))→Q (.ref mm) T
 | _=>False
theorem zrL (cNumber:Addr)(cUnknown:Addr)(cPlus:Addr)(cMinus:Addr)(cTimes:Addr)(cPower:Addr):Ln (zfH cNumber cUnknown cPlus cMinus cTimes cPower) 5:=λds S Q ex h=>by unfold zfH at h; split at h <;> first | rfl | exact h.elim
def zhL (cMinus:Addr):Sd:=λds S Q ex=>match ds with
 | [.ref _,_,_,.tup [.int a,.int b],.tup [.int c,.int d],.int _]=>Q (.tup [.int (a-d),.int (b-c)]) S
 | _=>False
theorem zv3 (cMinus:Addr):Ln (zhL cMinus) 6:=λds S Q ex h=>by unfold zhL at h; split at h <;> first | rfl | exact h.elim
def zfx (cNumber:Addr)(cUnknown:Addr)(cPlus:Addr)(cMinus:Addr)(cTimes:Addr)(cPower:Addr):Sd:=λds S Q ex=>match ds with
 | [.ref n,.ref w,.ref s,.int qi,.int g]=>∃(i j:Int) (q:Nat) (vs:List (Int×Int)) (sl:List (List (Int×Int))) (ds:List D),S[n]?=some (Nd.ob cNumber cUnknown cPlus cMinus cTimes cPower (Nd.minus i j))∧S[w]?=some (.lst (vs.map frD))∧S[s]?=some (.lst ds)∧za2 S 0 ds sl∧(∀i:Int,inR sl.length i→(sl.getD i.toNat []).length=q∧∀l,l<q→(gs sl i l).1≤(gs sl i l).2∧Sz 1100 (gs sl i l).1∧Sz 1100 (gs sl i l).2)∧(qi=(q:Nat)∧q≤900)∧Nd.ok sl.length q (Nd.minus i j)∧sl.length≤vs.length∧Spn 1000 vs∧(1≤g∧g≤1000000)∧∀(T:Sto) (mm:Nat),Pre S T→S.length≤mm→T[mm]?=some (.lst ((zbd vs sl g q (Nd.minus i j)).map frD))→Q (.ref mm) T
 | _=>False
theorem zyM (cNumber:Addr)(cUnknown:Addr)(cPlus:Addr)(cMinus:Addr)(cTimes:Addr)(cPower:Addr):Ln (zfx cNumber cUnknown cPlus cMinus cTimes cPower) 5:=λds S Q ex h=>by unfold zfx at h; split at h <;> first | rfl | exact h.elim
def zhv (cTimes:Addr):Sd:=λds S Q ex=>match ds with
 | [.ref _,.tup [.int x1,.int x2],.tup [.int y1,.int y2],.tup [.int a,.int b],.tup [.int c,.int d],.int g]=>(Sz 1400 x1∧Sz 1400 x2∧Sz 1400 y1∧Sz 1400 y2∧Sz 1400 a∧Sz 1400 b∧Sz 1400 c∧Sz 1400 d∧1≤g∧g≤1000000)∧Q (.tup [.int ((zaX (x1,x2) (c,d) g).1+(zaX (y1,y2) (a,b) g).1),.int ((zaX (x1,x2) (c,d) g).2+(zaX (y1,y2) (a,b) g).2)]) S
 | _=>False
theorem zxy (cTimes:Addr):Ln (zhv cTimes) 6:=λds S Q ex h=>by unfold zhv at h; split at h <;> first | rfl | exact h.elim
def zfO (cNumber:Addr)(cUnknown:Addr)(cPlus:Addr)(cMinus:Addr)(cTimes:Addr)(cPower:Addr):Sd:=λds S Q ex=>match ds with
 | [.ref n,.ref w,.ref s,.int qi,.int g]=>∃(i j:Int) (q:Nat) (vs:List (Int×Int)) (sl:List (List (Int×Int))) (ds:List D),S[n]?=some (Nd.ob cNumber cUnknown cPlus cMinus cTimes cPower (Nd.times i j))∧S[w]?=some (.lst (vs.map frD))∧S[s]?=some (.lst ds)∧za2 S 0 ds sl∧(∀i:Int,inR sl.length i→(sl.getD i.toNat []).length=q∧∀l,l<q→(gs sl i l).1≤(gs sl i l).2∧Sz 1100 (gs sl i l).1∧Sz 1100 (gs sl i l).2)∧(qi=(q:Nat)∧q≤900)∧Nd.ok sl.length q (Nd.times i j)∧sl.length≤vs.length∧Spn 1000 vs∧(1≤g∧g≤1000000)∧∀(T:Sto) (mm:Nat),Pre S T→S.length≤mm→T[mm]?=some (.lst ((zbd vs sl g q (Nd.times i j)).map frD))→Q (.ref mm) T
 | _=>False
theorem zuV (cNumber:Addr)(cUnknown:Addr)(cPlus:Addr)(cMinus:Addr)(cTimes:Addr)(cPower:Addr):Ln (zfO cNumber cUnknown cPlus cMinus cTimes cPower) 5:=λds S Q ex h=>by unfold zfO at h; split at h <;> first | rfl | exact h.elim
def zh5:Sd:=λds S Q ex=>match ds with
 | [.tup [.int a,.int b],.int m]=>(IntMulOk a m∧IntMulOk b m)∧Q (.tup [.int (if b*m<a*m then b*m else a*m),.int (if b*m > a*m then b*m else a*m)]) S
 | _=>False
theorem zt8:Ln (zh5) 2:=λds S Q ex h=>by unfold zh5 at h; split at h <;> first | rfl | exact h.elim
def zfk (cNumber:Addr)(cUnknown:Addr)(cPlus:Addr)(cMinus:Addr)(cTimes:Addr)(cPower:Addr):Sd:=λds S Q ex=>match ds with
 | [.ref n,.ref w,.ref s,.int qi,.int g]=>∃(i m:Int) (q:Nat) (vs:List (Int×Int)) (sl:List (List (Int×Int))) (ds:List D),S[n]?=some (Nd.ob cNumber cUnknown cPlus cMinus cTimes cPower (Nd.power i m))∧S[w]?=some (.lst (vs.map frD))∧S[s]?=some (.lst ds)∧za2 S 0 ds sl∧(∀i:Int,inR sl.length i→(sl.getD i.toNat []).length=q∧∀l,l<q→(gs sl i l).1≤(gs sl i l).2∧Sz 1100 (gs sl i l).1∧Sz 1100 (gs sl i l).2)∧(qi=(q:Nat)∧q≤900)∧Nd.ok sl.length q (Nd.power i m)∧sl.length≤vs.length∧Spn 1000 vs∧(1≤g∧g≤1000000)∧∀(T:Sto) (mm:Nat),Pre S T→S.length≤mm→T[mm]?=some (.lst ((zbd vs sl g q (Nd.power i m)).map frD))→Q (.ref mm) T
 | _=>False
theorem ztZ (cNumber:Addr)(cUnknown:Addr)(cPlus:Addr)(cMinus:Addr)(cTimes:Addr)(cPower:Addr):Ln (zfk cNumber cUnknown cPlus cMinus cTimes cPower) 5:=λds S Q ex h=>by unfold zfk at h; split at h <;> first | rfl | exact h.elim
def zga:Sd:=λds S Q ex=>match ds with
 | [.ref a,.ref b,.int g]=>∃(ns:List Nd) (ws:List Nat) (bs:List (Int×Int)),S[a]?=some (.lst (ns.map Nd.d))∧S[b]?=some (.lst (bs.map frD))∧zaH bs.length ns ws∧Spn 51 bs∧bs.length≤900∧(1≤g∧g≤1000000)∧ns.length≤70∧∀(T:Sto) (m:Nat) (ds:List D),Pre S T→S.length≤m→T[m]?=some (.lst ds)→za2 T (m+1) ds (zaS (zau bs g ns) g bs.length ns)→Q (.ref m) T
 | _=>False
theorem zy4:Ln (zga) 3:=λds S Q ex h=>by unfold zga at h; split at h <;> first | rfl | exact h.elim
def ziC:Sd:=λds S Q ex=>match ds with
 | [.ref a,.ref p,.ref b,.int g]=>∃(ns:List Nd) (ws:List Nat) (bs:List (Int×Int)) (is:List Nat),S[a]?=some (.lst (ns.map Nd.d))∧S[b]?=some (.lst (bs.map frD))∧zaH bs.length ns ws∧Spn 51 bs∧(1≤g∧g≤1000000)∧ns.length≤70∧bs.length≤900∧S[p]?=some (.lst (is.map wtD))∧is.length≤900∧(∀i∈is,i<ns.length)∧∀(T:Sto) (m:Nat) (ds:List D),Pre S T→S.length≤m→T[m]?=some (.lst ds)→za2 T 0 ds (is.map λ(i:Nat)=>(zaS (zau bs g ns) g bs.length ns).getD i [])→Q (.ref m) T
 | _=>False
theorem zyE:Ln (ziC) 4:=λds S Q ex h=>by unfold ziC at h; split at h <;> first | rfl | exact h.elim
def zdV:Sd:=λds S Q ex=>match ds with
 | [.int i,.int k]=>∃n:Nat,k=n∧Q (.int (sgn i n)) S
 | _=>False
theorem zvJ:Ln (zdV) 2:=λds S Q ex h=>by unfold zdV at h; split at h <;> first | rfl | exact h.elim
def zdP:Sd:=λds S Q ex=>match ds with
 | [.ref m,.int r,.int c]=>∃(M:List (List Int)) (i j n:Nat),r=i∧c=j∧zbp S m M∧Sq (n+1) M∧n≤3∧i≤n∧j≤n∧∀(T:Sto) (k:Nat),Pre S T→zbp T k (za8 M i j)→Q (.ref k) T
 | _=>False
theorem zyc:Ln (zdP) 3:=λds S Q ex h=>by unfold zdP at h; split at h <;> first | rfl | exact h.elim
def zeK:Sd:=λds S Q ex=>match ds with
 | [.ref m,.int r,.int c]=>∃(M:List (List Int)) (i j n:Nat),n≤0∧r=i∧c=j∧i≤n∧j≤n∧zbp S m M∧Sq (n+1) M∧Big M∧Q (.int (sgn (zaL n (za8 M i j)) (i+j))) S
 | _=>False
theorem zur:Ln (zeK) 3:=λds S Q ex h=>by unfold zeK at h; split at h <;> first | rfl | exact h.elim
def zeJ:Sd:=λds S Q ex=>match ds with
 | [.ref m,.int r,.int c]=>∃(M:List (List Int)) (i j n:Nat),n≤1∧r=i∧c=j∧i≤n∧j≤n∧zbp S m M∧Sq (n+1) M∧Big M∧Q (.int (sgn (zaL n (za8 M i j)) (i+j))) S
 | _=>False
theorem zul:Ln (zeJ) 3:=λds S Q ex h=>by unfold zeJ at h; split at h <;> first | rfl | exact h.elim
def zfR:Sd:=λds S Q ex=>match ds with
 | [.ref m,.int r,.int c]=>∃(M:List (List Int)) (i j n:Nat),n≤2∧r=i∧c=j∧i≤n∧j≤n∧zbp S m M∧Sq (n+1) M∧Big M∧Q (.int (sgn (zaL n (za8 M i j)) (i+j))) S
 | _=>False
theorem zyV:Ln (zfR) 3:=λds S Q ex h=>by unfold zfR at h; split at h <;> first | rfl | exact h.elim
def zee:Sd:=λds S Q ex=>match ds with
 | [.ref m,.int r,.int c]=>∃(M:List (List Int)) (i j n:Nat),n≤3∧r=i∧c=j∧i≤n∧j≤n∧zbp S m M∧Sq (n+1) M∧Big M∧Q (.int (sgn (zaL n (za8 M i j)) (i+j))) S
 | _=>False
theorem zup:Ln (zee) 3:=λds S Q ex h=>by unfold zee at h; split at h <;> first | rfl | exact h.elim
def zgE:Sd:=λds S Q ex=>match ds with
 | [.ref m]=>∃(M:List (List Int)) (n:Nat),n≤0∧zbp S m M∧Sq n M∧Big M∧Q (.int (zaL n M)) S
 | _=>False
theorem zwY:Ln (zgE) 1:=λds S Q ex h=>by unfold zgE at h; split at h <;> first | rfl | exact h.elim
def zf9:Sd:=λds S Q ex=>match ds with
 | [.ref m]=>∃(M:List (List Int)) (n:Nat),n≤1∧zbp S m M∧Sq n M∧Big M∧Q (.int (zaL n M)) S
 | _=>False
theorem zsH:Ln (zf9) 1:=λds S Q ex h=>by unfold zf9 at h; split at h <;> first | rfl | exact h.elim
def zg1:Sd:=λds S Q ex=>match ds with
 | [.ref m]=>∃(M:List (List Int)) (n:Nat),n≤2∧zbp S m M∧Sq n M∧Big M∧Q (.int (zaL n M)) S
 | _=>False
theorem zs7:Ln (zg1) 1:=λds S Q ex h=>by unfold zg1 at h; split at h <;> first | rfl | exact h.elim
def zh6:Sd:=λds S Q ex=>match ds with
 | [.ref m]=>∃(M:List (List Int)) (n:Nat),n≤3∧zbp S m M∧Sq n M∧Big M∧Q (.int (zaL n M)) S
 | _=>False
theorem zvI:Ln (zh6) 1:=λds S Q ex h=>by unfold zh6 at h; split at h <;> first | rfl | exact h.elim
def ziy:Sd:=λds S Q ex=>match ds with
 | [.ref m]=>∃(M:List (List Int)) (n:Nat),n≤4∧zbp S m M∧Sq n M∧Big M∧Q (.int (zaL n M)) S
 | _=>False
theorem zxj:Ln (ziy) 1:=λds S Q ex h=>by unfold ziy at h; split at h <;> first | rfl | exact h.elim
def zg9:Sd:=λds S Q ex=>match ds with
 | [.ref m,.int w,.int r,.int c,.int g]=>∃(M:List (List Int)) (i j n:Nat),n≤3∧r=i∧c=j∧i≤n∧j≤n∧zbp S m M∧Sq (n+1) M∧Big M∧(w≠0∧Sz 4140 w)∧(1≤g∧g≤1000000)∧Q (.int (zhM M n w g i j)) S
 | _=>False
theorem zsY:Ln (zg9) 5:=λds S Q ex h=>by unfold zg9 at h; split at h <;> first | rfl | exact h.elim
def zgS:Sd:=λds S Q ex=>match ds with
 | [.ref m,.int w,.int r,.int g]=>∃(M:List (List Int)) (i n:Nat),n≤3∧r=i∧i≤n∧zbp S m M∧Sq (n+1) M∧Big M∧(w≠0∧Sz 4140 w)∧(1≤g∧g≤1000000)∧Q (.ref S.length) (S++[.lst ((zeb M n w g i).map D.int)])
 | _=>False
theorem zzm:Ln (zgS) 4:=λds S Q ex h=>by unfold zgS at h; split at h <;> first | rfl | exact h.elim
def zf8:Sd:=λds S Q ex=>match ds with
 | [.ref m,.int g]=>∃(M:List (List Int)) (n:Nat),n≤3∧zbp S m M∧Sq (n+1) M∧Big M∧(1≤g∧g≤1000000)∧(zaL (n+1) M=0→Q .non S)∧(zaL (n+1) M≠0→∀(T:Sto) (k:Nat),Pre S T→zbp T k (zbO M n (zaL (n+1) M) g)→Q (.ref k) T)
 | _=>False
theorem zyK:Ln (zf8) 2:=λds S Q ex h=>by unfold zf8 at h; split at h <;> first | rfl | exact h.elim
def zhd:Sd:=λds S Q ex=>match ds with
 | [.tup [.int a,.int b]]=>Q (.int ((a+b)/2)) S
 | _=>False
theorem zs5:Ln (zhd) 1:=λds S Q ex h=>by unfold zhd at h; split at h <;> first | rfl | exact h.elim
def zeC:Sd:=λds S Q ex=>match ds with
 | [.ref s]=>∃vs:List (Int×Int),S[s]?=some (.lst (vs.map frD))∧vs.length≤900∧Q (.ref S.length) (S++[.lst (vs.map λp=>.int (mid p))])
 | _=>False
theorem ztP:Ln (zeC) 1:=λds S Q ex h=>by unfold zeC at h; split at h <;> first | rfl | exact h.elim
def zeM:Sd:=λds S Q ex=>match ds with
 | [.ref b]=>∃vs:List (Int×Int),S[b]?=some (.lst (vs.map frD))∧vs.length≤900∧∀(T:Sto) (m:Nat),Pre S T→S.length≤m→T[m]?=some (.lst ((vs.map zaW).map frD))→Q (.ref m) T
 | _=>False
theorem zti:Ln (zeM) 1:=λds S Q ex h=>by unfold zeM at h; split at h <;> first | rfl | exact h.elim
def ze4:Sd:=λds S Q ex=>match ds with
 | [.ref a,.ref b,.int g]=>∃(us vs:List (Int×Int)),S[a]?=some (.lst (us.map frD))∧S[b]?=some (.lst (vs.map frD))∧us.length≤60∧Bd 20000 us∧Bd 20000 vs∧(1≤g∧g≤1000000)∧Q (frD (sumP g us vs)) S
 | _=>False
theorem zrP:Ln (ze4) 3:=λds S Q ex h=>by unfold ze4 at h; split at h <;> first | rfl | exact h.elim
def zgi:Sd:=λds S Q ex=>match ds with
 | [.int k,.int c,.ref t,.ref s,.int g]=>∃(q kn cn:Nat) (ts:List (Int×Int)) (R:List (List (Int×Int))) (ds:List D),k=(kn:Nat)∧c=(cn:Nat)∧S[t]?=some (.lst (ts.map frD))∧S[s]?=some (.lst ds)∧za2 S 0 ds R∧(∀r∈R,r.length=q∧Bd 2000 r)∧cn<q∧ts.length≤60∧R.length≤60∧Bd 20000 ts∧(1≤g∧g≤1000000)∧Q (frD (zbZ g kn cn ts R)) S
 | _=>False
theorem zv0:Ln (zgi) 5:=λds S Q ex h=>by unfold zgi at h; split at h <;> first | rfl | exact h.elim
def zhl:Sd:=λds S Q ex=>match ds with
 | [.int ki,.ref b,.int g,.ref e,.ref t,.ref s]=>∃(k:Nat) (box thin:List (Int×Int)) (es:List Int) (R:List (List (Int×Int))) (ds:List D),ki=(k:Nat)∧k<box.length∧S[e]?=some (.lst (es.map D.int))∧es.length≤4∧(∀x∈es,Sz 4000 x)∧S[b]?=some (.lst (box.map frD))∧S[t]?=some (.lst (thin.map frD))∧S[s]?=some (.lst ds)∧za2 S 0 ds R∧(∀r∈R,r.length=box.length∧Bd 2000 r)∧(1≤box.length∧box.length≤4)∧R.length≤4∧thin.length≤4∧Bd 60 box∧Bd 2000 thin∧(1≤g∧g≤1000000)∧Q (frD (zbh g box thin R k es)) S
 | _=>False
theorem zsl:Ln (zhl) 6:=λds S Q ex h=>by unfold zhl at h; split at h <;> first | rfl | exact h.elim
def zgg:Sd:=λds S Q ex=>match ds with
 | [.ref b,.int g,.ref u,.ref t,.ref s]=>∃(box thin:List (Int×Int)) (M:List (List Int)) (ms:List D) (R:List (List (Int×Int))) (ds:List D),S[u]?=some (.lst ms)∧zex S ms M∧M.length=box.length∧(∀r∈M,r.length≤4∧∀x∈r,Sz 4000 x)∧S[b]?=some (.lst (box.map frD))∧S[t]?=some (.lst (thin.map frD))∧S[s]?=some (.lst ds)∧za2 S 0 ds R∧(∀r∈R,r.length=box.length∧Bd 2000 r)∧(1≤box.length∧box.length≤4)∧R.length≤4∧thin.length≤4∧Bd 60 box∧Bd 2000 thin∧(1≤g∧g≤1000000)∧Q (.ref S.length) (S++[.lst ((M.mapIdx λk es=>zbh g box thin R k es).map frD)])
 | _=>False
theorem zvw:Ln (zgg) 5:=λds S Q ex h=>by unfold zgg at h; split at h <;> first | rfl | exact h.elim
def zgA:Sd:=λds S Q ex=>match ds with
 | [.ref a,.ref p,.ref b,.int g]=>∃(ns:List Nd) (ws:List Nat) (bs:List (Int×Int)) (is:List Nat),S[a]?=some (.lst (ns.map Nd.d))∧S[b]?=some (.lst (bs.map frD))∧zaH bs.length ns ws∧Spn 51 bs∧(1≤g∧g≤1000000)∧ns.length≤70∧bs.length≤900∧S[p]?=some (.lst (is.map wtD))∧is.length≤900∧(∀i∈is,i<ns.length)∧∀(T:Sto) (m:Nat),Pre S T→S.length≤m→T[m]?=some (.lst ((is.map λ(i:Nat)=>gt (zau (bs.map zaW) g ns) i).map frD))→Q (.ref m) T
 | _=>False
theorem zsV:Ln (zgA) 4:=λds S Q ex h=>by unfold zgA at h; split at h <;> first | rfl | exact h.elim
def zhO:Sd:=λds S Q ex=>match ds with
 | [.tup [.int a,.int b],.tup [.int c,.int d]]=>Q (.bl (decide (c<a)&&decide (b<d))) S
 | _=>False
theorem zy0:Ln (zhO) 2:=λds S Q ex h=>by unfold zhO at h; split at h <;> first | rfl | exact h.elim
def zix:Sd:=λds S Q ex=>match ds with
 | [.ref m,.ref n]=>∃us vs:List (Int×Int),S[m]?=some (.lst (us.map frD))∧S[n]?=some (.lst (vs.map frD))∧us.length≤1000∧Q (.bl (zf1 us vs)) S
 | _=>False
theorem zuI:Ln (zix) 2:=λds S Q ex h=>by unfold zix at h; split at h <;> first | rfl | exact h.elim
def zh7:Sd:=λds S Q ex=>match ds with
 | [.str w,.tup [.int a,.int b]]=>(w="zero"∧Q (.bl (decide (a=0)&&decide (b=0))) S)∨(w="least"∧Q (.bl (decide (0≤a))) S)
 | _=>False
theorem ztt:Ln (zh7) 2:=λds S Q ex h=>by unfold zh7 at h; split at h <;> first | rfl | exact h.elim
def zin:Sd:=λds S Q ex=>match ds with
 | [.ref r,.ref s]=>∃(rows:List (Bool×Nat)) (vs:List (Int×Int)),S[r]?=some (.lst (rows.map rwD))∧S[s]?=some (.lst (vs.map frD))∧rows.length≤900∧(∀r∈rows,r.2<vs.length)∧Q (.bl (zkx rows vs)) S
 | _=>False
theorem zt2:Ln (zin) 2:=λds S Q ex h=>by unfold zin at h; split at h <;> first | rfl | exact h.elim
def zhr:Sd:=λds S Q ex=>match ds with
 | [.ref a,.ref r,.ref b,.int g]=>∃(ns:List Nd) (ws:List Nat) (bs:List (Int×Int)) (rows:List (Bool×Nat)),S[a]?=some (.lst (ns.map Nd.d))∧S[b]?=some (.lst (bs.map frD))∧zaH bs.length ns ws∧Spn 51 bs∧(1≤g∧g≤1000000)∧ns.length≤70∧bs.length≤900∧S[r]?=some (.lst (rows.map rwD))∧rows.length≤900∧(∀r∈rows,r.2<ns.length)∧(1≤bs.length∧bs.length≤4)∧(alS g bs ns rows=none→∀T:Sto,Pre S T→Q .non T)∧(∀(M:List (List Int)) (near:List (Int×Int)),alS g bs ns rows=some (M,near)→∀(T:Sto) (m n:Nat) (ms:List D),Pre S T→T[m]?=some (.lst ms)→zex T ms M→T[n]?=some (.lst (near.map frD))→S.length≤n→Q (.tup [.ref m,.ref n]) T)
 | _=>False
theorem zsq:Ln (zhr) 4:=λds S Q ex h=>by unfold zhr at h; split at h <;> first | rfl | exact h.elim
def zg5:Sd:=λds S Q ex=>match ds with
 | [.ref f,.ref b]=>∃us vs:List (Int×Int),S[f]?=some (.lst (us.map frD))∧S[b]?=some (.lst (vs.map frD))∧us.length=vs.length∧vs.length≤900∧(∀k:Nat,k<vs.length→(gt vs (k:Int)).1<(gt us (k:Int)).1∧(gt us (k:Int)).2<(gt vs (k:Int)).2)∧Q (.bl true) S
 | _=>False
theorem zzc:Ln (zg5) 2:=λds S Q ex h=>by unfold zg5 at h; split at h <;> first | rfl | exact h.elim
def zgf:Sd:=λds S Q ex=>match ds with
 | [.ref b,.ref pa,.int W,.int g]=>∃(bs:List (Int×Int)) (ts:List Int),S[b]?=some (.lst (bs.map frD))∧S[pa]?=some (.lst (ts.map D.int))∧bs.length=ts.length∧bs.length≤900∧Spn 51 bs∧(1≤W∧W≤1000000)∧(∀t∈ts,0≤t∧t≤W)∧(1≤g∧g≤1000000)∧∀(T:Sto) (m:Nat),Pre S T→S.length≤m→T[m]?=some (.lst ((pts bs ts W g bs.length).map frD))→Q (.ref m) T
 | _=>False
theorem zya:Ln (zgf) 4:=λds S Q ex h=>by unfold zgf at h; split at h <;> first | rfl | exact h.elim
def ziI:Sd:=λds S Q ex=>match ds with
 | [.int _]=>Q (.bl true) S
 | _=>False
theorem zvk:Ln (ziI) 1:=λds S Q ex h=>by unfold ziI at h; split at h <;> first | rfl | exact h.elim
def ziR:Sd:=λds S Q ex=>match ds with
 | [.tup [.int a,.int b]]=>a≤b∧Q (.bl true) S
 | _=>False
theorem zxR:Ln (ziR) 1:=λds S Q ex h=>by unfold ziR at h; split at h <;> first | rfl | exact h.elim
def ziV:Sd:=λds S Q ex=>match ds with
 | [.ref a,.int m]=>∃vs:List (Int×Int),S[a]?=some (.lst (vs.map frD))∧m=vs.length∧(∀p∈vs,p.1≤p.2)∧Q (.bl true) S
 | _=>False
theorem zsb:Ln (ziV) 2:=λds S Q ex h=>by unfold ziV at h; split at h <;> first | rfl | exact h.elim
section
variable {P:Program}{w:World}{K:PySem.W.Frag}{mg:Str→Option Value}{base:Heap}
def zwW  (zka:Df K mg "_law_grid" zkj zh4):Fk P w K mg base 1 "_law_grid" zh4 zis:=
 zka.mk' (zat (k:=0) zka.F ztz (zzg) λcdv A outer s H E hr=>⟨_,(zaf (zaI (zaK (zaZ hr) (zad zbf (dv 0) zab) zab (zaE _)) (zae (zaq (zad zaO zab (zad zbf (zad zbD (dv 0) zab) zab)))) zaN) (zaf (zaI (zaK (zaZ hr) (zad zbf (dv 0) zab) zab (zaE _)) (zae (zaq (zad zaO zab (zad zbf (zad zbD (dv 0) zab) zab)))) zaN) (zae (zaq zab)))),λds S Q ex h=>by
  unfold zis at h
  split at h
  ·rename_i c
   refine ifD (λe=>?_) (λe=>?_)
   ·exact h _ (by omega) (by omega)
   ·refine ifD (λe=>?_) (λe=>?_)
    ·exact h _ (by omega) (by omega)
    ·exact h _ (by decide) (by decide)
  ·exact h.elim⟩)
def zxf  (znf:Df K mg "_law_free" zkY zdS)(zay:mg "len"=none):Fk P w K mg base 1 "_law_free" zdS zdy:=
 znf.mk' (zat (k:=0) znf.F ztO (zs6) λcdv A outer s H E hr=>⟨_,(zae (zaq (zeT (zcU zqp (zaM (zaQ za5) rfl zay Boot.«len» (zaa (dv 0) zac)) zab (zaE _)) (zgr (zcU (zaZ hr) (zad zbf (zaD (dv 0) zab (λ_ _=>rfl)) zab) zab (zaE _)))))),λds S Q ex h=>by
  unfold zdy at h
  split at h
  ·rename_i sc
   obtain⟨cs,hs,h⟩:=h
   refine zh9 hs ?_
   rw[Vab]
   unfold frS at h
   refine ifD (λc=>?_) (λc=>?_)
   ·have c':0<cs.length:=by omega
    refine zaC (o:=.frz (cs.map D.int)) hs (zhS (by decide) (by omega)) ?_
    rw[decide_eq_true c',Bool.true_and] at h
    exact h
   ·rw[decide_eq_false (show ¬ 0<cs.length by omega),Bool.false_and] at h
    exact h
  ·exact h.elim⟩)
def zyr  (zlU:Df K mg "_law_cell" zmE zdL)(zcq:Fk P w K mg base 1 "_law_free" zdS zdy)(zay:mg "len"=none):Fk P w K mg base 2 "_law_cell" zdL zd7:=
 zlU.mk' (zat (k:=1) zlU.F zio (zuu) λcdv A outer s H E hr=>⟨_,(zaf (zaI (zce (zak zcq hr (zaa (dv 0) zac))) (zaf (zaI (zaK (zaZ hr) (dv 1) zab (zaE _)) (zae (zaq (zad zbD (zaD (dv 0) zab (λ_ _=>rfl)) zab))) zaN) (zaf (zaI (zaK zdZ (dv 1) (zaM (zaQ za5) rfl zay Boot.«len» (zaa (dv 0) zac)) (zaE _)) (zae (zaq (zaD (dv 0) (dv 1) (λ_ _=>rfl)))) zaN) (zae (zaq zab)))) zaN) (zaf (zax (i:=2) zio.nd rfl (Or.inl rfl) zab) (zaf (zaI (zaK zqp (zaM (zaQ za5) rfl zay Boot.«len» (zaa (dv 0) zac)) zab (zaE _)) (zae (zax (i:=2) zio.nd rfl (Or.inl rfl) (zad zbs (zaD (dv 0) (zad zbs (dv 1) (zaM (zaQ za5) rfl zay Boot.«len» (zaa (dv 0) zac))) (λ_ _=>rfl)) (zad zhx zab zab)))) zaN) (zaf (zax (i:=3) zio.nd rfl (Or.inl rfl) (zad zbs (zad zaJ (zad zaO (zad zaO (zad zaO (dv 2) (zad zaJ (zad zaJ zab (dv 1)) (dv 1))) (zad zaJ zab (dv 1))) zab) zab) zab)) (zaf (zax (i:=4) zio.nd rfl (Or.inl rfl) (zad zbs (zad zaO (zad zaJ (dv 3) (dv 3)) (dv 1)) zab)) (zae (zaq (zad zbs (zad zaO (zad zaJ (dv 4) zab) (dv 3)) zab)))))))),λds S Q ex h=>by
  unfold zd7 at h
  split at h
  ·rename_i sc k
   obtain⟨cs,hs,⟨k0,k1⟩,h⟩:=h
   refine⟨cs,hs,?_⟩
   cases ef:frS cs
   ·refine zbm ?_
    try dsimp only[zj2]
    refine zjI (λdl2 S2=>S=S2∧∃c:Int,dl2=[some (.ref sc),some (.int k),some (.int c),none,none]) (λnx hn=>?_) ?_
    ·refine zh9 hs ?_
     rw[Vab]
     refine ifD (λc=>?_) (λc=>?_)
     ·refine zh9 hs ?_
      rw[Vab]
      have r:=zbj (a:=k) c
      refine⟨c,?_⟩
      refine zaC (o:=.frz (cs.map D.int)) hs (zhS r.1 r.2) ?_
      exact⟨show (0:Int)<10^Int.toNat 18 by decide,hn _ _ ⟨rfl,_,rfl⟩⟩
     ·exact hn _ _ ⟨rfl,_,rfl⟩
    ·rintro dl2 S2 ⟨rfl,c,rfl⟩
     have sk:Sz 10 k:=Sz.of 1000 (by omega)
     have s7:Sz 14 (7*k):=Sz.of 10000 (by omega)
     have r1:=zbj (a:=(c+7*k*k+13*k+5)*48271) (b:=2147483647) (by decide)
     have sf:Sz 32 ((c+7*k*k+13*k+5)*48271%2147483647):=Sz.of 2147483647 (by omega)
     refine⟨IntMulOk.of_left (by decide),zaF s7 sk,IntMulOk.of_left (by decide),IntMulOk.of_right (by decide),show (0:Int)<2147483647 by decide,?_⟩
     refine⟨zaF sf sf,show (0:Int)<1000000007 by decide,?_⟩
     refine⟨IntMulOk.of_right (by decide),show (0:Int)<2147483629 by decide,?_⟩
     exact h _
   ·refine zbM ?_
    have hc:0<cs.length:=by
     unfold frS at ef
     simp only[Bool.and_eq_true,decide_eq_true_eq] at ef
     exact ef.1
    refine ifD (λc=>?_) (λc=>?_)
    ·refine zaC (o:=.frz (cs.map D.int)) hs (zhS (by decide) (by omega)) ?_
     exact h _
    ·refine zh9 hs ?_
     rw[Vab]
     refine ifD (λc2=>?_) (λc2=>?_)
     ·refine zaC (o:=.frz (cs.map D.int)) hs (zhS k0 c2) ?_
      exact h _
     ·exact h _
  ·exact h.elim⟩)
def zxb  (zkX:Df K mg "_law_room" zkN zhz)(zcq:Fk P w K mg base 1 "_law_free" zdS zdy)(zbi:Fk P w K mg base 2 "_law_cell" zdL zd7)(zaG:mg "range"=none):Fk P w K mg base 3 "_law_room" zhz ziw:=
 zkX.mk' (zat (k:=2) zkX.F zde (zrR) λcdv A outer s H E hr=>⟨_,(zaf (zax (i:=3) zde.nd rfl (Or.inl rfl) (zb2 zac)) (zaf (zdp (i:=4) PassesOwn.never rfl zde.nd rfl (Or.inl rfl) rfl zaG (zaa (dv 1) zac) (zaf (zax (i:=5) zde.nd rfl (Or.inl rfl) (zak zbi hr (zaa (dv 0) (zaa (zad zaO zab (dv 4)) zac)))) (zaf (zax (i:=6) zde.nd rfl (Or.inl rfl) (zad zaO zab (zad zbs (zak zbi hr (zaa (dv 0) (zaa (zad zaO zab (dv 4)) zac))) (zad zaJ zab (dv 2))))) (zaf (zax (i:=7) zde.nd rfl (Or.inl rfl) (zad zcg (zad zbs (zad zbD (dv 5) zab) (zad zaJ zab (dv 2))) (zad zaJ zab (dv 2)))) (zaf (zaI (zaK (zaZ hr) (zad zbf (dv 5) zab) zab (zaE _)) (zae (zax (i:=7) zde.nd rfl (Or.inl rfl) (zgB zgb (zad zbD (dv 6) zab)))) zaN) (zaf (zaI (zce (zak zcq hr (zaa (dv 0) zac))) (zaf (zax (i:=7) zde.nd rfl (Or.inl rfl) (zad zaO (zad zcg (zad zbs (dv 5) (zad zcg (zad zaJ zab (zad zhx zab zab)) zab)) (zad zhx zab zab)) zab)) (zae (zax (i:=6) zde.nd rfl (Or.inl rfl) (zad zbs (zak zbi hr (zaa (dv 0) (zaa (zad zaO zab (dv 4)) zac))) (zad zcg (zad zhx zab zab) (dv 7)))))) zaN) (zae (zbr (zca (dv 3) (zaR (zaa (dv 7) (zaa (zad zaO (dv 7) (dv 6)) zac)))))))))))) (zae (zaq (dv 3))))),λds S Q ex h=>by
  unfold ziw at h
  split at h
  ·rename_i sc qi g
   obtain⟨cs,q,hsc,⟨rfl,q3⟩,hg,h⟩:=h
   refine⟨⟨by omega,by omega⟩,λk dl' S'=>k≤q∧Pre S S'∧(∃B:List (Int×Int),S'[S.length]?=some (.lst (B.map frD))∧B.length=k∧Spn 51 B∧(frS cs=false→∀p∈B,p.1.natAbs≤4*g.natAbs∧p.2.natAbs≤4*g.natAbs))∧∃u1 u2 u3 u4:Option D,dl'=[some (.ref sc),some (.int (q:Nat)),some (.int g),some (.ref S.length),u1,u2,u3,u4],⟨Vaj _,Pre.refl.push,⟨[],zav _ _,rfl,λp hp=>by simp at hp,λ_ p hp=>by simp at hp⟩,_,_,_,_,rfl⟩,?_⟩
   rintro k dl' S' ⟨hk,pr,⟨B,hB,lB,sB,zB⟩,u1,u2,u3,u4,rfl⟩
   rw[Vah]
   refine zcx (λc=>?_) (λc=>?_)
   ·have hs:=pr _ _ hsc
    have m2:∀z:Int,IntMulOk 2 z:=λz=>IntMulOk.of_left (by decide)
    have m4:∀z:Int,IntMulOk 4 z:=λz=>IntMulOk.of_left (by decide)
    have e15:(10:Int)^Int.toNat 15=1000000000000000:=rfl
    try dsimp only
    refine zuy (λdl2 S2=>S'=S2∧∃x lo wi:Int,(0≤wi∧wi≤2*g∧-(2*g)≤lo∧lo≤2*g)∧dl2=[some (.ref sc),some (.int (q:Nat)),some (.int g),some (.ref S.length),some (.int (k:Nat)),some (.int x),some (.int wi),some (.int lo)]) (λnx hn=>?_) ?_
    ·refine⟨cs,hs,⟨show (0:Int)≤3+(k:Int) by omega,show 3+(k:Int)≤1000 by omega⟩,λx=>?_⟩
     refine⟨cs,hs,⟨show (0:Int)≤6+(k:Int) by omega,show 6+(k:Int)≤1000 by omega⟩,λy=>?_⟩
     have g2:(0:Int)<2*g:=by omega
     have g4:(0:Int)<4*g:=by omega
     have ry:=zbj (a:=y) g2
     have rx:=zbj (a:=x/3) g4
     refine⟨m2 _,g2,m4 _,g4,m2 _,?_⟩
     refine ifD (λe=>?_) (λe=>?_)
     ·exact hn _ _ ⟨rfl,_,_,_,⟨by omega,by omega,by omega,by omega⟩,rfl⟩
     ·exact hn _ _ ⟨rfl,_,_,_,⟨by omega,by omega,by omega,by omega⟩,rfl⟩
    rintro dl2 S2 ⟨rfl,x,lo,wi,⟨w0,w1,o0,o1⟩,rfl⟩
    have fin:∀lo hi:Int,lo≤hi→lo.natAbs≤10^15→hi.natAbs≤10^15→(frS cs=false→lo.natAbs≤4*g.natAbs∧hi.natAbs≤4*g.natAbs)→k+1≤q∧Pre S (S'.set S.length (.lst (B.map frD++[frD (lo,hi)])))∧∃B2:List (Int×Int),(S'.set S.length (.lst (B.map frD++[frD (lo,hi)])))[S.length]?=some (.lst (B2.map frD))∧B2.length=k+1∧Spn 51 B2∧(frS cs=false→∀p∈B2,p.1.natAbs≤4*g.natAbs∧p.2.natAbs≤4*g.natAbs):=λlo hi h1 h2 h3 h4=>
     ⟨by omega,zeD pr (Vaa _),B++[(lo,hi)],by rw[VaD]; exact zb5 hB,by rw[Vas,lB]; rfl,λp hp=>by
      rcases VaL.mp hp with w | w
      ·exact sB p w
      ·rw[Vbd.mp w]; exact⟨h1,Sz.of (n:=51) (10^15) h2,Sz.of (n:=51) (10^15) h3⟩,λe p hp=>by
      rcases VaL.mp hp with w | w
      ·exact zB e p w
      ·rw[Vbd.mp w]; exact h4 e⟩
    refine⟨cs,hs,?_⟩
    refine zcx (λef=>?_) (λef=>?_)
    ·refine⟨m2 _,show (0:Int)<2*10^Int.toNat 15-1 by decide,?_⟩
     have rl:=zbj (a:=x) (b:=2*10^Int.toNat 15-1) (by decide)
     refine⟨cs,hs,⟨show (0:Int)≤6+(k:Int) by omega,show 6+(k:Int)≤1000 by omega⟩,λz=>?_⟩
     have wp:(0:Int)<10^Int.toNat 15-(x%(2*10^Int.toNat 15-1)-10^Int.toNat 15+1):=by omega
     have rw':=zbj (a:=z) wp
     refine⟨wp,?_⟩
     refine zd6 (n:=S.length) (S1:=S') (xs:=B.map frD) (y:=frD (_,_)) (λK hK=>by exact hK) hB (λK hK=>by exact hK) (by rw[Vab]; omega) ?_
     obtain⟨f1,f2,f3⟩:=fin (x%(2*10^Int.toNat 15-1)-10^Int.toNat 15+1) (x%(2*10^Int.toNat 15-1)-10^Int.toNat 15+1+z%(10^Int.toNat 15-(x%(2*10^Int.toNat 15-1)-10^Int.toNat 15+1))) (by omega) (by omega) (by omega) (λe=>by rw[ef] at e; cases e)
     exact⟨f1,f2,f3,_,_,_,_,rfl⟩
    ·refine zd6 (n:=S.length) (S1:=S') (xs:=B.map frD) (y:=frD (lo,lo+wi)) (λK hK=>by exact hK) hB (λK hK=>by exact hK) (by rw[Vab]; omega) ?_
     obtain⟨f1,f2,f3⟩:=fin lo (lo+wi) (by omega) (by omega) (by omega) (λ_=>by omega)
     exact⟨f1,f2,f3,_,_,_,_,rfl⟩
   ·have e:k=q:=by omega
    subst e
    exact h _ _ B pr (Vaa _) hB lB sB zB
  ·exact h.elim⟩)
def zvl  (zlI:Df K mg "_law_lowest" znb zd3)(zdO:mg "abs"=none):Fk P w K mg base 1 "_law_lowest" zd3 zdE:=
 zlI.mk' (zat (k:=0) zlI.F zlg (zty) λcdv A outer s H E hr=>⟨_,(zaf (zax (i:=2) zlg.nd rfl (Or.inl rfl) (zaM zte rfl zdO Boot.«abs» (zaa (dv 0) zac))) (zaf (zax (i:=3) zlg.nd rfl (Or.inl rfl) (dv 1)) (zaf (zvC PassesOwn.never (zaK (zfj hr) (dv 3) zab (zaE _)) (zae (zwb (i:=2) (j:=3) rfl zlg.nd rfl rfl (by decide) rfl rfl (zaa (dv 3) (zaa (zad zbs (dv 2) (dv 3)) zac))))) (zae (zaq (zaR (zaa (zad zdr (dv 0) (dv 2)) (zaa (zad zdr (dv 1) (dv 2)) zac)))))))),λds S Q ex h=>by
  unfold zdE at h
  split at h
  ·rename_i T B
   obtain⟨⟨hB,sB⟩,h⟩:=h
   have f:=zzk (T:=T) (B:=B) (d:=((Int.gcd T B:Nat):Int)) (by omega) (by rw[if_neg (by omega)])
   obtain⟨f1,f2,f3,f4,f5,f6⟩:=f
   have gp:(0:Int)<((Int.gcd T B:Nat):Int):=by omega
   have gle:((Int.gcd T B:Nat):Int)≤B:=Int.le_of_dvd hB (Int.gcd_dvd_right T B)
   have sg:Sz 4000 ((Int.gcd T B:Nat):Int):=by
    unfold Sz at sB ⊢
    omega
   have eg:Int.gcd (zc2 T) B=Int.gcd T B:=by
    have z:=zw8 T B
    rw[show zc2 B=B by unfold zc2; split <;> omega] at z
    exact z
   refine⟨λm dl' S'=>S'=S∧∃(x y:Int),dl'=[some (.int T),some (.int B),some (.int x),some (.int y)]∧0≤x∧0≤y∧Int.gcd x y=Int.gcd T B∧m=y.toNat,⟨B.toNat,rfl,zc2 T,B,rfl,zxe T,by omega,eg,rfl⟩,?_⟩
   rintro m dl' S' ⟨rfl,x,y,rfl,hx,hy,hg,rfl⟩
   refine ifN (λc=>?_) (λc=>?_)
   ·have c':0<y:=by omega
    exact⟨c',⟨(x%y).toNat,by have:=zbj (a:=x) c'; omega,rfl,y,x%y,rfl,hy,(zbj (a:=x) c').1,(zsz x y).trans hg,rfl⟩⟩
   ·subst c
    have e:((Int.gcd T B:Nat):Int)=x:=by rw[← hg,Int.gcd_zero_right]; omega
    have e1:T/((Int.gcd T B:Nat):Int)=T.fdiv ((Int.gcd T B:Nat):Int):=(Int.fdiv_eq_ediv_of_nonneg _ (by omega)).symm
    have e2:B/((Int.gcd T B:Nat):Int)=B.fdiv ((Int.gcd T B:Nat):Int):=(Int.fdiv_eq_ediv_of_nonneg _ (by omega)).symm
    have q:=h _ _ f4 f5 f6 (zro f1 f2) (by have:=zro f1 f3; omega)
    rw[← e1,← e2] at q
    rw[e] at q sg gp
    exact⟨sg.fd gp,sg.fd gp,q⟩
  ·exact h.elim⟩)
def zu0  (zle:Df K mg "_law_little" zmi zgD)(zcF:Fk P w K mg base 1 "_law_lowest" zd3 zdE):Fk P w K mg base 2 "_law_little" zgD zhA:=
 zle.mk' (zat (k:=1) zle.F zuh (ztS) λcdv A outer s H E hr=>⟨_,(zae (zaq (zak zcF hr (zaa (zad zcg (zad zbf (dv 0) zab) zab) (zaa (zad zaO zab (zad zbf (zad zbD (dv 0) zab) zab)) zac))))),λds S Q ex h=>by
  unfold zhA at h
  split at h
  ·rename_i c
   refine⟨⟨show 0<1+c/9%4 by omega,Sz.of (n:=4000) 10 (by show (1+c/9%4).natAbs≤_; omega)⟩,λt b h1 h2 _ h4 h5=>?_⟩
   exact h t b ⟨h1,by omega⟩ h2 (by omega)
  ·exact h.elim⟩)
def zyT  (zjh:Df K mg "_law_put" zkQ zgk)(zay:mg "len"=none):Fk P w K mg base 1 "_law_put" zgk zgY:=
 zjh.mk' (zat (k:=0) zjh.F zxk (zsa) λcdv A outer s H E hr=>⟨_,(zaf (zaI (zaK (zxA hr) (dv 2) (dv 0) rfl) (zae (zaq (zqA (k:=1) hr (by decide) (dv 0) (zaa (dv 2) zac)))) zaN) (zaf (zbr (zca (dv 0) (dv 2))) (zaf (zbr (zca (dv 1) (dv 3))) (zae (zaq (zad zcg (zaM (zaQ za5) rfl zay Boot.«len» (zaa (dv 0) zac)) zab)))))),λds S Q ex h=>by
  unfold zgY at h
  split at h
  ·rename_i a b d w
   obtain⟨v,ns,ws,rfl,ha,hb,ne,rfl,l1,l2,h1,h2⟩:=h
   obtain⟨o,e1,e2,e3⟩:=zmH v ns
   refine zzb (o:=o) ha e2 ?_
   cases o with
   | some j=>
    refine zbM ?_
    exact zn7 (n:=a) (v:=v) (ns:=ns) (λK hK=>by exact hK) (λK hK=>by exact hK) ha e1 (h1 j (e3 j rfl))
   | none=>
    refine zbm ?_
    refine zd6 (n:=a) (S1:=S) (xs:=ns.map Nd.d) (y:=v.d) (λK hK=>by exact hK) ha (λK hK=>by exact hK) (by rw[Vab]; omega) ?_
    refine zd6 (n:=b) (S1:=S.set a (.lst (ns.map Nd.d++[v.d]))) (xs:=ws.map wtD) (y:=wtD (v.wt ws)) (λK hK=>by exact hK) (zcz hb ne) (λK hK=>by exact hK) (by rw[Vab]; omega) ?_
    refine zbn (xs:=ns.map Nd.d++[v.d]) (zcz (zb5 ha) (Ne.symm ne)) ?_
    have q:=h2 (((ns.map Nd.d++[v.d]).length:Nat)-1) (by simp)
    rw[VaD,VaD] at q
    exact q
  ·exact h.elim⟩)
def zyl  (zlO:Df K mg "_law_any" zkH zgL)(zcF:Fk P w K mg base 1 "_law_lowest" zd3 zdE):Fk P w K mg base 2 "_law_any" zgL zg4:=
 zlO.mk' (zat (k:=1) zlO.F zrZ (zvZ) λcdv A outer s H E hr=>⟨_,(zae (zaq (zak zcF hr (zaa (zad zcg (zad zbs (dv 0) zab) zab) (zaa (zad zaO zab (zad zbf (zad zdr (dv 0) zab) zab)) zac))))),λds S Q ex h=>by
  unfold zg4 at h
  split at h
  ·rename_i c
   have r1:=zbj (a:=c) (b:=1999999999) (by decide)
   have r2:=zbj (a:=c/1999999999) (b:=999999999) (by decide)
   refine⟨show (0:Int)<1999999999 by decide,?_⟩
   refine⟨⟨by decide,by decide⟩,?_⟩
   refine⟨⟨show 0<1+c/1999999999%999999999 by omega,Sz.of (10^10) (by show (1+c/1999999999%999999999).natAbs≤_; omega)⟩,λt b h1 h2 _ h4 h5=>?_⟩
   exact h t b ⟨h1,by omega⟩ h2 (by omega)
  ·exact h.elim⟩)
def zxG  (zms:Df K mg "_law_grow" zml zfV)(zhW:Fk P w K mg base 1 "_law_put" zgk zgY)(zoQ:Fk P w K mg base 2 "_law_any" zgL zg4)(znQ:Fk P w K mg base 2 "_law_little" zgD zhA)(zay:mg "len"=none):Fk P w K mg base 3 "_law_grow" zfV zeA:=
 zms.mk' (zat (k:=2) zms.F zdC (zwD) λcdv A outer s H E hr=>⟨_,(zaf (zax (i:=5) zdC.nd rfl (Or.inl rfl) (zad zbs (zad zbf (zad zbD (dv 2) zab) zab) (zaM (zaQ za5) rfl zay Boot.«len» (zaa (dv 0) zac)))) (zaf (zax (i:=6) zdC.nd rfl (Or.inl rfl) (zad zbs (zad zbf (zad zbD (dv 2) zab) zab) (zaM (zaQ za5) rfl zay Boot.«len» (zaa (dv 0) zac)))) (zaf (zax (i:=7) zdC.nd rfl (Or.inl rfl) (zad zaO (zaD (dv 1) (dv 5) (λ_ _=>rfl)) (zaD (dv 1) (dv 6) (λ_ _=>rfl)))) (zae (zaI (zaK (zaZ hr) (zad zbf (dv 2) zab) zab (zaE _)) (zaf (zax (i:=8) zdC.nd rfl (Or.inl rfl) (zak znQ hr (zaa (zad zbD (dv 2) zab) zac))) (zaf (zaI (zce (dv 4)) (zae (zax (i:=8) zdC.nd rfl (Or.inl rfl) (zak zoQ hr (zaa (zad zbD (dv 2) zab) zac)))) zaN) (zae (zbr (zak zhW hr (zaa (dv 0) (zaa (dv 1) (zaa (zaR (zaa za1 (zaa (zap (dv 8) zab (λ_ _=>rfl)) (zaa (zap (dv 8) zab (λ_ _=>rfl)) zac)))) (zaa zab zac))))))))) (zae (zaI (zaK (zaZ hr) (zad zbf (dv 2) zab) zab (zaE _)) (zaf (zax (i:=9) zdC.nd rfl (Or.inl rfl) (zad zaO zab (zad zbf (zad zbD (dv 2) zab) zab))) (zae (zaI (zaK zn3 (zad zaJ (dv 9) (zaD (dv 1) (dv 5) (λ_ _=>rfl))) (dv 3) (zaE _)) (zae (zbr (zak zhW hr (zaa (dv 0) (zaa (dv 1) (zaa (zaR (zaa za1 (zaa (dv 5) (zaa (dv 9) zac)))) (zaa (zad zaJ (dv 9) (zaD (dv 1) (dv 5) (λ_ _=>rfl))) zac))))))) zaN))) (zae (zaI (zaK zn3 (dv 7) (dv 3) (zaE _)) (zaf (zax (i:=10) zdC.nd rfl (Or.inl rfl) (zaD (zb2 (zaa za1 (zaa za1 (zaa za1 zac)))) (zad zbf (zad zbf (dv 2) zab) zab) (λ_ _=>rfl))) (zae (zbr (zak zhW hr (zaa (dv 0) (zaa (dv 1) (zaa (zaR (zaa (dv 10) (zaa (dv 5) (zaa (dv 6) zac)))) (zaa (dv 7) zac)))))))) zaN))))))))),λds S Q ex h=>by
  unfold zeA at h
  split at h
  ·rename_i a b c most fr
   obtain⟨qn,ns,ws,ha,hb,ne,net,l1,l9,hm,h⟩:=h
   have lw:=net.len
   have pos:(0:Int)<((ns.length:Nat):Int):=by omega
   have ro:=zbj (a:=c/6%64) pos
   have rj:=zbj (a:=c/384%64) pos
   have ho:inR ((ns.length:Nat):Int) (c/6%64%((ns.length:Nat):Int)):=ro
   have hj:inR ((ns.length:Nat):Int) (c/384%64%((ns.length:Nat):Int)):=rj
   have ho':inR ((ws.length:Nat):Int) (c/6%64%((ns.length:Nat):Int)):=by rw[lw]; exact ho
   have hj':inR ((ws.length:Nat):Int) (c/384%64%((ns.length:Nat):Int)):=by rw[lw]; exact hj
   have wo:=net.w1 ho
   have wj:=net.w1 hj
   have on:∀(T:Sto),(∀(x:Nat) (o:Ob),S[x]?=some o→T[x]?=some o)→S.length≤T.length→Q .non T:=λT k l=>h T [] ws (by rw[Va2]; exact net) ⟨[],by simp,λw hw=>by simp at hw⟩ (λ_ v hv=>by simp at hv) (by simp) (by rw[Va2]; exact k _ _ ha) (k _ _ hb) l λx o _ _ e=>k x o e
   have put:∀(v:Nd) (T:Sto),(∀(x:Nat) (o:Ob),S[x]?=some o→T[x]?=some o)→S.length≤T.length→v.ok ((ns.length:Nat):Int) ((qn:Nat):Int)→v.wt ws≤16→(v.wt ws=1∨((v.wt ws:Nat):Int)≤most)→(fr=false→v.lit)→Q .non ((T.set a (.lst ((ns++[v]).map Nd.d))).set b (.lst ((ws++[v.wt ws]).map wtD))):=λv T k l ok h16 hmo hli=>
    h _ [v] _ (net.snoc ok h16) ⟨[v.wt ws],rfl,λw hw=>by rw[Vbd.mp hw]; exact hmo⟩ (λe u hu=>by rw[Vbd.mp hu]; exact hli e) (by simp) (zcz (zb5 (k _ _ ha)) (Ne.symm ne)) (zb5 (zcz (k _ _ hb) ne)) (by simpa using l) λx o h1 h2 e=>zcz (zcz (k x o e) (Ne.symm h1)) (Ne.symm h2)
   refine zbn ha ?_
   rw[Vab]
   refine⟨pos,?_⟩
   refine zbn ha ?_
   rw[Vab]
   refine⟨pos,?_⟩
   refine zaC (o:=.lst (ws.map wtD)) hb (zmr ho') ?_
   refine zaC (o:=.lst (ws.map wtD)) hb (zmr hj') ?_
   refine ifD (λe4=>?_) (λe4=>?_)
   ·refine λt d h1 h2 h3=>?_
    cases fr
    ·refine⟨.number t d,ns,ws,rfl,ha,hb,ne,rfl,by omega,by omega,λj _=>on S (λ_ _ e=>e) (Vaa _),λi _=>?_⟩
     exact put (.number t d) S (λ_ _ e=>e) (Vaa _) ⟨⟨h1.1,by omega⟩,h2,by omega⟩ (show 1≤16 by decide) (Or.inl rfl) (λ_=>h3)
    ·refine λt d h1 h2 h3=>⟨.number t d,ns,ws,rfl,ha,hb,ne,rfl,by omega,by omega,λj _=>on S (λ_ _ e=>e) (Vaa _),λi _=>?_⟩
     exact put (.number t d) S (λ_ _ e=>e) (Vaa _) ⟨h1,h2,h3⟩ (show 1≤16 by decide) (Or.inl rfl) (λe=>nomatch e)
   ·refine ifD (λe3=>?_) (λe3=>?_)
    ·have r5:=zbj (a:=c/24576) (b:=5) (by decide)
     refine zaC (o:=.lst (ws.map wtD)) hb (zmr ho') ?_
     have mo:IntMulOk (2+c/24576%5) ((ws.getD (c/6%64%((ns.length:Nat):Int)).toNat 0:Nat):Int):=zaF (m:=400) (n:=400) (Sz.of (10^20) (by omega)) (Sz.of (10^20) (by omega))
     have ew:(2+c/24576%5)*((ws.getD (c/6%64%((ns.length:Nat):Int)).toNat 0:Nat):Int)=((Nd.wt ws (.power (c/6%64%((ns.length:Nat):Int)) (2+c/24576%5)):Nat):Int):=by
      simp only[Nd.wt]
      rw[Int.natCast_mul]
      rw[Int.toNat_of_nonneg (by omega)]
     refine⟨mo,?_⟩
     refine ifD (λe5=>?_) (λe5=>on S (λ_ _ e=>e) (Vaa _))
     refine zaC (o:=.lst (ws.map wtD)) hb (zmr ho') ?_
     refine⟨mo,?_⟩
     refine⟨.power (c/6%64%((ns.length:Nat):Int)) (2+c/24576%5),ns,ws,rfl,ha,hb,ne,ew,by omega,by omega,λj _=>on S (λ_ _ e=>e) (Vaa _),λi _=>?_⟩
     exact put (.power (c/6%64%((ns.length:Nat):Int)) (2+c/24576%5)) S (λ_ _ e=>e) (Vaa _) ⟨ho,by omega,by omega⟩ (by rw[ew] at e5; omega) (Or.inr (by rw[ew] at e5; exact e5)) (λ_=>trivial)
    ·refine ifD (λe5=>?_) (λe5=>on S (λ_ _ e=>e) (Vaa _))
     have go:∀(v:Nd) (T:Sto),T=S++[.lst [.str "plus",.str "minus",.str "times"]]→v.ok ((ns.length:Nat):Int) ((qn:Nat):Int)→v.wt ws=ws.getD (c/6%64%((ns.length:Nat):Int)).toNat 0+ws.getD (c/384%64%((ns.length:Nat):Int)).toNat 0→(fr=false→v.lit)→∃(v':Nd) (ns':List Nd) (ws':List Nat),v.d=v'.d∧T[a]?=some (.lst (ns'.map Nd.d))∧T[b]?=some (.lst (ws'.map wtD))∧a≠b∧((ws.getD (c/6%64%((ns.length:Nat):Int)).toNat 0:Nat):Int)+((ws.getD (c/384%64%((ns.length:Nat):Int)).toNat 0:Nat):Int)=(v'.wt ws':Nat)∧ns'.length<900∧ws'.length<900∧(∀j:Nat,ns'[j]?=some v'→Q .non T)∧∀i:Int,i=(ns'.length:Nat)→Q .non ((T.set a (.lst ((ns'++[v']).map Nd.d))).set b (.lst ((ws'++[v'.wt ws']).map wtD))):=λv T e ok ew hli=>by
      subst e
      refine⟨v,ns,ws,rfl,zaz ha,zaz hb,ne,by rw[ew]; omega,by omega,by omega,λj _=>on _ (λ_ _ e=>zaz e) (by simp),λi _=>?_⟩
      exact put v _ (λ_ _ e=>zaz e) (by simp) ok (by rw[ew]; omega) (Or.inr (by rw[ew]; omega)) hli
     have three:∀i:Int,inR 3 i→i=0∨i=1∨i=2:=λi hi=>by have:=hi.1; have:=hi.2; omega
     rcases three (c%6%3) (zbj (by decide)) with e6 | e6 | e6
     ·refine zaC (o:=.lst [.str "plus",.str "minus",.str "times"]) (zav _ _) (d:=.str "plus") (by rw[e6]; rfl) ?_
      exact go (.plus _ _) _ rfl ⟨ho,hj⟩ rfl (λ_=>trivial)
     ·refine zaC (o:=.lst [.str "plus",.str "minus",.str "times"]) (zav _ _) (d:=.str "minus") (by rw[e6]; rfl) ?_
      exact go (.minus _ _) _ rfl ⟨ho,hj⟩ rfl (λ_=>trivial)
     ·refine zaC (o:=.lst [.str "plus",.str "minus",.str "times"]) (zav _ _) (d:=.str "times") (by rw[e6]; rfl) ?_
      exact go (.times _ _) _ rfl ⟨ho,hj⟩ rfl (λ_=>trivial)
  ·exact h.elim⟩)
def zvD  (zlR:Df K mg "_law_any_system" ziG ziJ)(zbi:Fk P w K mg base 2 "_law_cell" zdL zd7)(zez:Fk P w K mg base 3 "_law_grow" zfV zeA)(zaG:mg "range"=none)(zay:mg "len"=none)(zbJ:mg "min"=none):Fk P w K mg base 4 "_law_any_system" ziJ zhY:=
 zlR.mk' (zat (k:=3) zlR.F zfc (zs2) λcdv A outer s H E hr=>⟨_,(zaf (zax (i:=3) zfc.nd rfl (Or.inl rfl) (zaM (zaQ za5) rfl zay Boot.«len» (zaa (dv 1) zac))) (zaf (zq1 (i:=4) PassesOwn.never rfl zfc.nd rfl (Or.inl rfl) rfl zaG (zaa zab (zaa (zaM (zku rfl) rfl zbJ Boot.«min» (zaa (zaM (zaQ za5) rfl zay Boot.«len» (zaa (dv 0) zac)) (zaa zab zac))) zac)) (zae (zbr (zak zez hr (zaa (dv 1) (zaa (dv 2) (zaa (zaD (dv 0) (dv 4) (λ_ _=>rfl)) (zaa zab (zaa zb7 zac))))))))) (zaf (zfw (x:="_law_j") (N:=["_law_script","_law_nodes"]) (caps:=[0,1]) (ar:=zam ziG) rfl rfl csc rfl (by decide) (i:=5) zfc.nd rfl rfl rfl zaG (zaa (dv 3) zac) (λ_ _ _ _ _ _=>zbu) (λ_ _ _ _ _ _=>(zaR (zaa za1 (zaa (zad zbs (zak zbi hr (zaa (dv 1) (zaa (zad zaO zab (dv 0)) zac))) (zaM (zaQ za5) rfl zay Boot.«len» (zaa (dv 2) zac))) zac))))) (zaf (zdp (i:=6) PassesOwn.never rfl zfc.nd rfl (Or.inl rfl) rfl zaG (zaa (zad zbf (zak zbi hr (zaa (dv 0) (zaa zab zac))) zab) zac) (zaf (zax (i:=7) zfc.nd rfl (Or.inl rfl) (zak zbi hr (zaa (dv 0) (zaa (zad zaO zab (dv 6)) zac)))) (zae (zbr (ztK (dv 5) (zaa (zad zbs (dv 7) (zad zaO (zaM (zaQ za5) rfl zay Boot.«len» (zaa (dv 5) zac)) zab)) (zaa (zaR (zaa za1 (zaa (zad zbs (zad zbD (dv 7) zab) (zaM (zaQ za5) rfl zay Boot.«len» (zaa (dv 1) zac))) zac))) zac))))))) (zae (zaq (zaR (zaa (dv 1) (zaa (dv 5) zac))))))))),λds S Q ex h=>by
  unfold zhY at h
  split at h
  ·rename_i sc a b
   obtain⟨cs,q,ns,ws,hsc,ha,hb,ab,net,⟨n1,n3⟩,nq,c63,h⟩:=h
   have asc:sc≠a:=λe=>by rw[e,ha] at hsc; cases hsc
   have bsc:sc≠b:=λe=>by rw[e,hb] at hsc; cases hsc
   refine zbn ha ?_
   rw[Vab]
   refine zh9 hsc ?_
   rw[Vab]
   obtain⟨hi,ehi,h32,hlen⟩:∃hi:Int,(if (32:Int)<((cs.length:Nat):Int) then (32:Int) else ((cs.length:Nat):Int))=hi∧(0≤hi∧hi≤32)∧hi≤((cs.length:Nat):Int):=by
    split
    ·exact⟨_,rfl,by omega,by omega⟩
    ·exact⟨_,rfl,by omega,by omega⟩
   have la:=zbg ha
   refine⟨⟨by decide,by decide,?_,?_⟩,λk dl' S'=>k≤(hi-14).toNat∧(∃(ns':List Nd) (ws':List Nat),zaH q ns' ws'∧1≤ns'.length∧ns'.length≤3+k∧S'[a]?=some (.lst (ns'.map Nd.d))∧S'[b]?=some (.lst (ws'.map wtD))∧S.length≤S'.length∧∀(x:Nat) (o:Ob),x≠a→x≠b→S[x]?=some o→S'[x]?=some o)∧∃u:Option D,dl'=[some (.ref sc),some (.ref a),some (.ref b),some (.int ((ns.length:Nat):Int)),u,none,none,none],⟨Vaj _,⟨ns,ws,net,n1,by omega,ha,hb,Vaa _,λ_ _ _ _ e=>e⟩,_,rfl⟩,?_⟩
   ·show -(2^62)≤(if (32:Int)<((cs.length:Nat):Int) then (32:Int) else ((cs.length:Nat):Int))
    rw[ehi]
    omega
   ·show (if (32:Int)<((cs.length:Nat):Int) then (32:Int) else ((cs.length:Nat):Int))<2^62
    rw[ehi]
    omega
   rintro k dl' S' ⟨hk,⟨ns',ws',net',l1,l3,e1,e2,lS,kp⟩,u,rfl⟩
   show if k<((if (32:Int)<((cs.length:Nat):Int) then (32:Int) else ((cs.length:Nat):Int))-14).toNat then _ else _
   rw[ehi]
   refine zcx (λc=>?_) (λc=>?_)
   ·refine zaC (o:=.frz (cs.map D.int)) (kp _ _ asc bsc hsc) (zhS (k:=14+(k:Int)) (by omega) (by omega)) ?_
    refine⟨q,ns',ws',e1,e2,ab,net',l1,by omega,by decide,λT ms us n2 hu li lm t1 t2 lT kT=>?_⟩
    exact⟨by omega,⟨ns'++ms,us,n2,by rw[Vas]; omega,by rw[Vas]; omega,t1,t2,by omega,λx o hx hy e=>kT x o hx hy (kp x o hx hy e)⟩,_,rfl⟩
   ·clear c
    have hs:=kp _ _ asc bsc hsc
    refine zoU (j:=((ns.length:Nat):Int)) (S1:=S') (λ_ d=>∃r:Bool×Nat,d=rwD r∧r.2<ns'.length) (λK hK=>by exact hK) ⟨by omega,by omega⟩ (λk hk S2 K pr hK=>?_) (λxs lx hx=>?_)
    ·refine⟨cs,pr _ _ hs,⟨show (0:Int)≤32+(k:Int) by omega,show 32+(k:Int)≤1000 by omega⟩,λv=>?_⟩
     refine zbn (pr _ _ e1) ?_
     rw[Vab]
     have np:(0:Int)<((ns'.length:Nat):Int):=by omega
     have r:=zbj (a:=v) np
     refine⟨np,hK _ ⟨(true,(v%((ns'.length:Nat):Int)).toNat),?_,by show (v%((ns'.length:Nat):Int)).toNat<_; omega⟩⟩
     have e:(((v%((ns'.length:Nat):Int)).toNat:Nat):Int)=v%((ns'.length:Nat):Int):=by omega
     show _=D.tup [.str "zero",.int (((v%((ns'.length:Nat):Int)).toNat:Nat):Int)]
     rw[e]
    obtain⟨rows,rfl,zr⟩:=zqr xs hx
    rw[Vab] at lx
    have lx3:rows.length≤3:=by omega
    have ls':=zbg e1
    have lb':=zbg e2
    refine⟨cs,zaz hs,⟨by decide,by decide⟩,λv=>?_⟩
    have r3:=zbj (a:=v) (b:=3) (by decide)
    refine⟨⟨by omega,by omega⟩,λk dl' S2=>k≤(v%3).toNat∧(∃rows2:List (Bool×Nat),S2[S'.length]?=some (.lst (rows2.map rwD))∧rows2.length≤3+k∧(∀r∈rows2,r.2<ns'.length)∧∀(x:Nat) (o:Ob),S'[x]?=some o→S2[x]?=some o)∧∃u1 u2:Option D,dl'=[some (.ref sc),some (.ref a),some (.ref b),some (.int ((ns.length:Nat):Int)),u,some (.ref S'.length),u1,u2],⟨Vaj _,⟨rows,zav _ _,by omega,zr,λx o e=>zaz e⟩,_,_,rfl⟩,?_⟩
    rintro k dl' S2 ⟨hk2,⟨rows2,hR,lr2,zr2,kp2⟩,u1,u2,rfl⟩
    refine zcx (λc=>?_) (λc=>?_)
    ·have hk3:k<3:=by omega
     refine⟨cs,kp2 _ _ hs,⟨show (0:Int)≤45+(k:Int) by omega,show 45+(k:Int)≤1000 by omega⟩,λw=>?_⟩
     have np:(0:Int)<((rows2.length:Nat):Int)+1:=by omega
     have nq':(0:Int)<((ns'.length:Nat):Int):=by omega
     have xr:=zbj (a:=w) np
     have yr:=zbj (a:=w/16) nq'
     obtain⟨y,hy⟩:∃y:Nat,w/16%((ns'.length:Nat):Int)=(y:Int):=⟨(w/16%((ns'.length:Nat):Int)).toNat,by omega⟩
     refine ztj (n:=S'.length) (S1:=S2) (S2:=S2) (i:=w%(((rows2.length:Nat):Int)+1)) (y:=rwD (false,y)) (xs:=rows2.map rwD) (λK hK=>by exact hK) hR (λK hK=>?_) hR ⟨xr.1,by rw[Vab]; omega,by rw[Vab]; omega⟩ ?_
     ·refine zbn hR ?_
      rw[Vab]
      refine⟨np,?_⟩
      refine zbn (kp2 _ _ e1) ?_
      rw[Vab]
      refine⟨nq',?_⟩
      have e:D.tup [.str "least",.int (w/16%((ns'.length:Nat):Int))]=rwD (false,y):=congrArg (λz:Int=>D.tup [.str "least",.int z]) hy
      rw[← e] at hK
      exact hK
     ·generalize (w%(((rows2.length:Nat):Int)+1)).toNat=i
      have lt2:=zbg hR
      refine⟨by omega,⟨rows2.take i++(false,y)::rows2.drop i,?_,?_,λr hr=>?_,λx o e=>?_⟩,_,_,rfl⟩
      ·rw[VaD,VaX,List.map_take,List.map_drop]
       exact zb5 hR
      ·rw[Vas,VaC,Vao,Va7]
       omega
      ·rcases VaL.mp hr with z | z
       ·exact zr2 r (List.mem_of_mem_take z)
       ·rcases Vau.mp z with z | z
        ·rw[z]
         show y<ns'.length
         omega
        ·exact zr2 r (Vbj z)
      ·have:=zbg e
       exact zcz (kp2 x o e) (by omega)
    ·have k3:k≤3:=by omega
     exact h _ _ ns' ws' rows2 net' l1 (by omega) (kp2 _ _ e1) hR (by omega) zr2 lS λx o hx hy e=>kp2 x o (kp x o hx hy e)
  ·exact h.elim⟩)
def zrT  (zmq:Df K mg "_law_at" zki zdY):Fk P w K mg base 1 "_law_at" zdY zd4:=
 zmq.mk' (zat (k:=0) zmq.F zuA (zxJ) λcdv A outer s H E hr=>⟨_,(zaf (zaI (zaK (zr6 hr) (dv 1) (dv 0) rfl) (zae (zbr (zca (dv 0) (dv 1)))) zaN) (zae (zaq (zqA (k:=1) hr (by decide) (dv 0) (zaa (dv 1) zac))))),λds S Q ex h=>by
  unfold zd4 at h
  split at h
  ·rename_i a d
   obtain⟨q,v,ns,ws,rfl,ha,l9,net,ok,h16,h⟩:=h
   have fin:∀(T:Sto) (j:Nat) (ns':List Nd) (ws':List Nat),Gr q a 1 S ns ws T ns' ws'→ns'[j]?=some v→Q (.int (j:Int)) T:=λT j ns' ws' gr hj=>by
    refine h T j ns' ws' gr (Vad.mp hj).1 hj ?_ (zyi gr ok hj)
    rw[(gr.net.ok j v hj).2.1]
    exact zvc gr net ok
   obtain⟨o,e1,e2,e3⟩:=zmH v ns
   refine zva (o:=o) ha e2 ?_
   cases o with
   | some j=>
    refine zbm ?_
    refine zn7 (n:=a) (v:=v) (ns:=ns) (λK hK=>by exact hK) (λK hK=>by exact hK) ha e1 ?_
    exact fin S j ns ws ((Gr.refl net ha).mono (by decide)) (e3 j rfl)
   | none=>
    refine zbM ?_
    refine zd6 (n:=a) (S1:=S) (xs:=ns.map Nd.d) (y:=v.d) (λK hK=>by exact hK) ha (λK hK=>by exact hK) (by rw[Vab]; omega) ?_
    have hm:(S.set a (.lst (ns.map Nd.d++[v.d])))[a]?=some (.lst ((ns++[v]).map Nd.d)):=by
     rw[VaD]
     exact zb5 ha
    obtain⟨o2,f1,f2,f3⟩:=zmH v (ns++[v])
    cases o2 with
    | none=>
     obtain⟨k,hk⟩:∃k,(ns++[v])[k]?=some v:=⟨ns.length,by simp⟩
     exact absurd f2 (any_some hk)
    | some j=>
     refine zn7 (n:=a) (v:=v) (ns:=ns++[v]) (λK hK=>by exact hK) (λK hK=>by exact hK) hm f1 ?_
     exact fin _ j (ns++[v]) (ws++[v.wt ws]) ⟨net.snoc ok h16,⟨[v],rfl,by simp⟩,⟨_,rfl⟩,hm,by simp,λx o hx e=>zcz e (Ne.symm hx)⟩ (f3 j rfl)
  ·exact h.elim⟩)
def zug  (zjp:Df K mg "_law_often" zju zhu)(zaG:mg "range"=none):Fk P w K mg base 1 "_law_often" zhu ziq:=
 zjp.mk' (zat (k:=0) zjp.F zld (zxc) λcdv A outer s H E hr=>⟨_,(zaf (zax (i:=2) zld.nd rfl (Or.inl rfl) zab) (zaf (zdp (i:=3) PassesOwn.never rfl zld.nd rfl (Or.inl rfl) rfl zaG (zaa (dv 1) zac) (zae (zax (i:=2) zld.nd rfl (Or.inl rfl) (zad zaJ (dv 2) (dv 0))))) (zae (zaq (dv 2))))),λds S Q ex h=>by
  unfold ziq at h
  split at h
  ·rename_i x n
   obtain⟨⟨h0,h6,sx⟩,h⟩:=h
   refine⟨⟨by omega,by omega⟩,λk dl' S'=>S'=S∧k≤n.toNat∧∃(z:Int) (o:Option D),z=x^k∧dl'=[some (.int x),some (.int n),some (.int z),o],⟨rfl,Vaj _,1,none,(VaZ x).symm,rfl⟩,?_⟩
   rintro k dl' S' ⟨rfl,hk,z,o,rfl,rfl⟩
   refine zcx (λc=>?_) (λc=>?_)
   ·exact⟨zaF (m:=12001) (n:=2000) ((sx.pow k).mono (by omega)) sx,rfl,by omega,_,_,(Vam x k).symm,rfl⟩
   ·have e:k=n.toNat:=by omega
    subst e
    exact h
  ·exact h.elim⟩)
def zw5  (zlj:Df K mg "_law_of_parts" zjj zhU)(zjZ:Fk P w K mg base 1 "_law_often" zhu ziq):Fk P w K mg base 2 "_law_of_parts" zhU zg7:=
 zlj.mk' (zat (k:=1) zlj.F zgs (zuM) λcdv A outer s H E hr=>⟨_,(zaf (zax (i:=2) zgs.nd rfl (Or.inl rfl) (zaD (dv 1) (zap (dv 0) zab (λ_ _=>rfl)) (λ_ _=>rfl))) (zaf (zaI (zaK (zaZ hr) (zap (dv 0) zab (λ_ _=>rfl)) za1 (zaE _)) (zae (zaq (zaR (zaa (zak zjZ hr (zaa (zap (dv 2) zab (λ_ _=>rfl)) (zaa (zap (dv 0) zab (λ_ _=>rfl)) zac))) (zaa (zak zjZ hr (zaa (zap (dv 2) zab (λ_ _=>rfl)) (zaa (zap (dv 0) zab (λ_ _=>rfl)) zac))) zac))))) zaN) (zaf (zax (i:=3) zgs.nd rfl (Or.inl rfl) (zaD (dv 1) (zap (dv 0) zab (λ_ _=>rfl)) (λ_ _=>rfl))) (zaf (zaI (zaK (zaZ hr) (zap (dv 0) zab (λ_ _=>rfl)) za1 (zaE _)) (zae (zaq (zaR (zaa (zad zaJ (zap (dv 2) zab (λ_ _=>rfl)) (zap (dv 3) zab (λ_ _=>rfl))) (zaa (zad zaJ (zap (dv 2) zab (λ_ _=>rfl)) (zap (dv 3) zab (λ_ _=>rfl))) zac))))) zaN) (zaf (zax (i:=4) zgs.nd rfl (Or.inl rfl) zab) (zaf (zaI (zaK (zaZ hr) (zap (dv 0) zab (λ_ _=>rfl)) za1 (zaE _)) (zae (zax (i:=4) zgs.nd rfl (Or.inl rfl) (zgB zgb zab))) zaN) (zae (zaq (zaR (zaa (zad zaO (zad zaJ (zap (dv 2) zab (λ_ _=>rfl)) (zap (dv 3) zab (λ_ _=>rfl))) (zad zaJ (zad zaJ (dv 4) (zap (dv 3) zab (λ_ _=>rfl))) (zap (dv 2) zab (λ_ _=>rfl)))) (zaa (zad zaJ (zap (dv 2) zab (λ_ _=>rfl)) (zap (dv 3) zab (λ_ _=>rfl))) zac))))))))))),λds S Q ex h=>by
  unfold zg7 at h
  split at h
  ·rename_i d s
   obtain⟨v,fs,ps,rfl,op,hs,ok,pz,h⟩:=h
   cases v with
   | number t b=>exact op.elim
   | unknown k=>exact op.elim
   | power i n=>
    have a:=pz.at ok.1
    obtain⟨ok1,m2,m6⟩:=ok
    refine zaC (o:=.lst (fs.map frD)) hs (zaY ok1) ?_
    exact⟨⟨by omega,m6,a.2.1.mono (by decide)⟩,⟨by omega,m6,a.2.2.mono (by decide)⟩,h⟩
   | times i j=>
    have a:=pz.at ok.1
    have b:=pz.at ok.2
    refine zaC (o:=.lst (fs.map frD)) hs (zaY ok.1) ?_
    refine zaC (o:=.lst (fs.map frD)) hs (zaY ok.2) ?_
    exact⟨zaF a.2.1 b.2.1,zaF a.2.2 b.2.2,h⟩
   | plus i j=>
    have a:=pz.at ok.1
    have b:=pz.at ok.2
    have one:Sz 1 (1:Int):=by unfold Sz; decide
    refine zaC (o:=.lst (fs.map frD)) hs (zaY ok.1) ?_
    refine zaC (o:=.lst (fs.map frD)) hs (zaY ok.2) ?_
    refine⟨zaF a.2.1 b.2.2,zaF one b.2.1,zaF (m:=1801) (one.mul b.2.1 |>.mono (by decide)) a.2.2,zaF a.2.2 b.2.2,?_⟩
    have e:Nd.due fs ps (.plus i j)=((gt fs i).1*(gt fs j).2+1*(gt fs j).1*(gt fs i).2,(gt fs i).2*(gt fs j).2):=by
     rw[Int.one_mul]
     rfl
    rw[e] at h
    exact h
   | minus i j=>
    have a:=pz.at ok.1
    have b:=pz.at ok.2
    have one:Sz 1 (-1:Int):=by unfold Sz; decide
    refine zaC (o:=.lst (fs.map frD)) hs (zaY ok.1) ?_
    refine zaC (o:=.lst (fs.map frD)) hs (zaY ok.2) ?_
    refine⟨zaF a.2.1 b.2.2,zaF one b.2.1,zaF (m:=1801) (one.mul b.2.1 |>.mono (by decide)) a.2.2,zaF a.2.2 b.2.2,?_⟩
    have e:Nd.due fs ps (.minus i j)=((gt fs i).1*(gt fs j).2 + -1*(gt fs j).1*(gt fs i).2,(gt fs i).2*(gt fs j).2):=by
     have e2:(gt fs i).1*(gt fs j).2 + -1*(gt fs j).1*(gt fs i).2=(gt fs i).1*(gt fs j).2-(gt fs j).1*(gt fs i).2:=by grind
     rw[e2]
     rfl
    rw[e] at h
    exact h
  ·exact h.elim⟩)
def zve  (zkr:Df K mg "_law_exacts" zjH zfd)(zpk:Fk P w K mg base 2 "_law_of_parts" zhU zg7):Fk P w K mg base 3 "_law_exacts" zfd zfJ:=
 zkr.mk' (zat (k:=2) zkr.F znJ (zuC) λcdv A outer s H E hr=>⟨_,(zaf (zax (i:=2) znJ.nd rfl (Or.inl rfl) (zb2 zac)) (zaf (ze8 (i:=3) PassesOwn.never rfl znJ.nd rfl (Or.inl rfl) (dv 0) (zae (zaI (zaK (zaZ hr) (zap (dv 3) zab (λ_ _=>rfl)) za1 (zaE _)) (zae (zbr (zca (dv 2) (zaR (zaa (zap (dv 3) zab (λ_ _=>rfl)) (zaa (zap (dv 3) zab (λ_ _=>rfl)) zac)))))) (zae (zaI (zaK (zaZ hr) (zap (dv 3) zab (λ_ _=>rfl)) za1 (zaE _)) (zae (zbr (zca (dv 2) (zaD (dv 1) (zap (dv 3) zab (λ_ _=>rfl)) (λ_ _=>rfl))))) (zae (zbr (zca (dv 2) (zak zpk hr (zaa (dv 3) (zaa (dv 2) zac))))))))))) (zae (zaq (dv 2))))),λds S Q ex h=>by
  unfold zfJ at h
  split at h
  ·rename_i a b
   obtain⟨ns,ws,ps,ha,hb,net,zp,hl,h⟩:=h
   refine zfu (n:=a) (o:=.lst (ns.map Nd.d)) (λk dl' S'=>k≤ns.length∧Pre S S'∧S'[S.length]?=some (.lst ((zar ps (ns.take k)).map frD))∧∃u:Option D,dl'=[some (.ref a),some (.ref b),some (.ref S.length),u]) ⟨Vaj _,Pre.refl.push,zav _ _,_,rfl⟩ (λk dl' S' z=>z.2.1 _ _ ha) ?_ ?_
   ·rintro k x dl' S' nx ct ex' ⟨hk,pr,hf,u,rfl⟩ hn
    have ex2:(ns.map Nd.d)[k]?=some x:=ex'
    rw[Vae] at ex2
    obtain⟨v,hv,rfl⟩:=Van.mp ex2
    have hk':=(Vad.mp hv).1
    have ln:(zar ps (ns.take k)).length=k:=by rw[zbS,Vao]; omega
    have okv:v.ok (zar ps (ns.take k)).length ps.length:=by rw[ln]; exact(net.ok k v hv).1
    have pz:Pz 1800 (zar ps (ns.take k)):=Pz.of_w (zdv net rfl zp k (by omega)) λj hj=>(net.w1 (i:=j) ⟨by omega,by omega⟩).2
    have go:∀te:TDE,(∀K:DK,K (frD (v.due (zar ps (ns.take k)) ps)) S'→te [some (.ref a),some (.ref b),some (.ref S.length),some v.d] S' K)→zqC (zdk (zcC 2) te) { nx:=nx,rt:=Q,bk:=λ_ _=>True,ct:=ct } [some (.ref a),some (.ref b),some (.ref S.length),some v.d] S':=λte ht=>by
     refine zd6 (n:=S.length) (S1:=S') (xs:=(zar ps (ns.take k)).map frD) (y:=frD (v.due (zar ps (ns.take k)) ps)) (λK hK=>by exact hK) hf ht (by rw[Vab,ln]; omega) ?_
     refine hn _ _ ⟨by omega,zeD pr (Vaa _),?_,_,rfl⟩
     rw[zbU hv,zdl,VaD]
     exact zb5 hf
    have opv:∀(o:v.op) (K:DK),K (frD (v.due (zar ps (ns.take k)) ps)) S'→∃(v':Nd) (fs ps':List (Int×Int)),v.d=v'.d∧v'.op∧S'[S.length]?=some (.lst (fs.map frD))∧v'.ok fs.length ps'.length∧Pz 1800 fs∧K (frD (v'.due fs ps')) S':=λo K hK=>⟨v,_,ps,rfl,o,hf,okv,pz,hK⟩
    cases v with
    | number t d=>exact go _ λK hK=>hK
    | unknown j=>exact go _ λK hK=>zaC (o:=.lst (ps.map frD)) (pr _ _ hb) (zaY okv) hK
    | plus i j=>exact go _ λK hK=>opv trivial K hK
    | minus i j=>exact go _ λK hK=>opv trivial K hK
    | times i j=>exact go _ λK hK=>opv trivial K hK
    | power i j=>exact go _ λK hK=>opv trivial K hK
   ·rintro dl' S' ⟨hk,pr,hf,u,rfl⟩
    have e:ns.take (zao (.lst (ns.map Nd.d))).length=ns:=by
     show ns.take (ns.map Nd.d).length=ns
     rw[Vab,VaA]
    rw[e] at hf
    exact h _ _ pr (Vaa _) hf
  ·exact h.elim⟩)
def zsj  (zlQ:Df K mg "_law_shift" zhj zgU)(zbP:Fk P w K mg base 1 "_law_at" zdY zd4)(zcF:Fk P w K mg base 1 "_law_lowest" zd3 zdE)(zem:Fk P w K mg base 3 "_law_exacts" zfd zfJ):Fk P w K mg base 4 "_law_shift" zgU zhP:=
 zlQ.mk' (zat (k:=3) zlQ.F zjC (zvR) λcdv A outer s H E hr=>⟨_,(zaf (zkl (x:="_law_span_here") (N:=["_law_grid_here"]) (caps:=[3]) (ar:=zam zhj) rfl rfl csc rfl (by decide) (i:=5) zjC.nd rfl rfl (dv 2) (λ_ _ _ _ _ _=>zbu) (λ_ _ _ _ _ _=>(zaR (zaa (zad zbD (zad zaO (zap (dv 0) zab (λ_ _=>rfl)) (zap (dv 0) zab (λ_ _=>rfl))) zab) (zaa (dv 1) zac))))) (zaf (zax (i:=6) zjC.nd rfl (Or.inl rfl) (zaD (zak zem hr (zaa (dv 0) (zaa (dv 5) zac))) (dv 1) (λ_ _=>rfl))) (zaf (zax (i:=7) zjC.nd rfl (Or.inl rfl) (zak zcF hr (zaa (zad zdr (zad zaJ (zap (dv 6) zab (λ_ _=>rfl)) (dv 4)) (zap (dv 6) zab (λ_ _=>rfl))) (zaa (dv 4) zac)))) (zae (zaq (zak zbP hr (zaa (dv 0) (zaa (zaR (zaa za1 (zaa (zap (dv 7) zab (λ_ _=>rfl)) (zaa (zap (dv 7) zab (λ_ _=>rfl)) zac)))) zac)))))))),λds S Q ex h=>by
  unfold zhP at h
  split at h
  ·rename_i a at' b g parts
   obtain⟨q,ns,ws,bs,j,ha,hb,ab,net,hq,q4,rfl,hj,l7,hg,hp,zb,vj,h⟩:=h
   have la:=zbg ha
   refine zcZ (n:=b) (S1:=S) (o:=.lst (bs.map frD)) (λd=>match d with | .tup [.int x,.int y]=>.tup [.int ((x+y)/2),.int g] | _=>.non) (λK hK=>by exact hK) hb (by show (bs.map frD).length≤1000; rw[Vab]; omega) (λx hx S2 K pr hK=>?_) ?_
   ·have hx':x∈bs.map frD:=hx
    obtain⟨p,_,rfl⟩:=Vag.mp hx'
    exact hK
   have e2:(zao (.lst (bs.map frD))).map (λd=>match d with | .tup [.int x,.int y]=>.tup [.int ((x+y)/2),.int g] | _=>.non)=(bs.map λp=>(mid p,g)).map frD:=by
    show (bs.map frD).map _=_
    rw[Vap]
    rw[Vap]
    rfl
   rw[e2]
   have zP:Pz 110 (bs.map λp=>(mid p,g)):=λp hp'=>by
    obtain⟨x,hx,er⟩:=Vag.mp hp'
    subst er
    have z:=zb x hx
    refine⟨hg.1,Sz.of (n:=110) (10^9) ?_,Sz.of (n:=110) (10^9) (by show g.natAbs≤_; omega)⟩
    show (mid x).natAbs≤10^9
    unfold mid
    omega
   have lC:(bs.map λp=>(mid p,g)).length=bs.length:=Vab ..
   have netC:zaH ((bs.map λp=>(mid p,g)).length:Nat) ns ws:=by rw[lC,← hq]; exact net
   refine⟨ns,ws,_,zaz ha,zav _ _,netC,zP,l7,λT m pr lm hm=>?_⟩
   have jr:inR (((zar (bs.map λp=>(mid p,g)) ns).length:Nat):Int) (j:Int):=⟨by omega,by rw[zbS]; omega⟩
   refine zaC (o:=.lst _) hm (zaY jr) ?_
   have w16:∀k:Nat,k<ns.length→ws.getD k 0≤16:=λk hk=>(net.w1 (i:=k) ⟨by omega,by omega⟩).2
   have pz:Pz 1800 (zar (bs.map λp=>(mid p,g)) ns):=by
    have z:=zdv netC rfl zP ns.length (Vaa _)
    rw[VaA] at z
    exact Pz.of_w z λk hk=>w16 k (by rw[zbS] at hk; exact hk)
   have z:=pz.at jr
   have sp:Sz 12 parts:=Sz.of 1000 (by omega)
   refine⟨zaF z.2.1 sp,(z.2.2.mono (by decide)).fd (n:=2000) (by omega),?_⟩
   have vj2:=vj.2
   have vj1:=vj.1
   generalize gt (zar (bs.map λp=>(mid p,g)) ns) (j:Int)=w at vj1 vj2
   have tb:(w.1*parts/w.2).natAbs≤100000001:=by
    have n1:(w.1*parts).natAbs≤100000000*w.2.natAbs:=by
     rw[VaY]
     have a:=Va0 vj2 (show parts.natAbs≤1000 by omega)
     have e:100000*w.2.natAbs*1000=100000000*w.2.natAbs:=by omega
     omega
    have u1:w.1*parts/w.2≤100000000:=Int.ediv_le_of_le_mul (by omega) (by omega)
    have u2:-100000000≤w.1*parts/w.2:=Int.le_ediv_of_mul_le (by omega) (by omega)
    omega
   refine⟨⟨show 0<parts by omega,Sz.of (n:=4000) 1000 (by omega)⟩,λt d h1 h2 _ h4 h5=>?_⟩
   have pT:Pre S T:=λx o e=>pr _ _ (zaz e)
   refine⟨q,.number t d,ns,ws,rfl,pT _ _ ha,by omega,net,⟨⟨h1,by omega⟩,h2,by omega⟩,show 1≤16 by decide,λT2 i ns' ws' gr li hi wi _=>?_⟩
   refine h T2 i ns' ws' ⟨gr.net,gr.pn,gr.pw,gr.nd,by have:=gr.len; have:=zfP pT; omega,λx o hx e=>gr.kp x o hx (pT _ _ e)⟩ li wi
  ·exact h.elim⟩)
def zzl  (zl4:Df K mg "_law_sum" zjR zgh)(zbP:Fk P w K mg base 1 "_law_at" zdY zd4):Fk P w K mg base 2 "_law_sum" zgh zhH:=
 zl4.mk' (zat (k:=1) zl4.F zk2 (ztf) λcdv A outer s H E hr=>⟨_,(zaf (zax (i:=2) zk2.nd rfl (Or.inl rfl) (zaD (dv 1) zab (λ_ _=>rfl))) (zaf (ze8 (i:=3) PassesOwn.never rfl zk2.nd rfl (Or.inl rfl) (ziL (dv 1) (ziH zab) ziW) (zae (zax (i:=2) zk2.nd rfl (Or.inl rfl) (zak zbP hr (zaa (dv 0) (zaa (zaR (zaa za1 (zaa (dv 2) (zaa (dv 3) zac)))) zac)))))) (zae (zaq (dv 2))))),λds S Q ex h=>by
  unfold zhH at h
  split at h
  ·rename_i a p
   obtain⟨q,B,ns,ws,is,ha,hp,ap,net,⟨i1,i4⟩,b16,l8,his,h⟩:=h
   have h0:is[0]?=some is[0]:=Vac (by omega)
   generalize is[0]=j0 at h0
   have z0:=his j0 (Vai h0)
   refine zaC (o:=.lst (is.map wtD)) hp (d:=.int (j0:Int)) (zd8 (j:=0) (by show (is.map wtD)[0]?=_; rw[Vae,h0]; rfl)) ?_
   refine zia (n:=p) (o:=.lst (is.map wtD)) (lo:=some 1) (hi:=none) (S3:=S) (λK hK=>by exact hK) (λK hK=>by exact hK) (λK hK=>by exact hK) hp ?_
   have ec:zb1 (is.map wtD) (some 1) none=(is.drop 1).map wtD:=by rw[zwS,List.map_drop]
   have ecut:(zao (Ob.lst (zb1 (is.map wtD) (some 1) none))).length=is.length-1:=by
    show (zb1 (is.map wtD) (some 1) none).length=_
    rw[ec,Vab,Va7]
   have la:=zbg ha
   refine zfu (n:=S.length) (o:=.lst (zb1 (is.map wtD) (some 1) none)) (λk dl' S'=>∃(j:Nat) (ns':List Nd) (ws':List Nat),Gr q a k S ns ws S' ns' ws'∧j<ns'.length∧ws'.getD j 0≤(k+1)*B∧(∀(P:List (Int×Int)) (V:Nat→Int×Int→Prop),(∀i∈is,V 1 (gt (zar P ns) (i:Int)))→(∀k x y,V k x→V 1 y→V (k+1) (x.1*y.2+y.1*x.2,x.2*y.2))→V (k+1) (gt (zar P ns') (j:Int)))∧S'[S.length]?=some (.lst (zb1 (is.map wtD) (some 1) none))∧∃u:Option D,dl'=[some (.ref a),some (.ref p),some (.int (j:Int)),u]) ⟨j0,ns,ws,Gr.push net ha _,z0.1,by have:=z0.2; omega,λP V hz _=>hz j0 (Vai h0),zav _ _,_,rfl⟩ (λk dl' S' ⟨_,_,_,_,_,_,_,e,_⟩=>e) ?_ ?_
   ·rintro k x dl' S' nx ct ex' ⟨j,ns',ws',gr,hj,wj,dj,e4,u,rfl⟩ hn
    have hx:(zb1 (is.map wtD) (some 1) none)[k]?=some x:=ex'
    have hk:=(Vad.mp hx).1
    rw[ec] at hx
    rw[ec,Vab,Va7] at hk
    rw[Vae] at hx
    obtain⟨i,hi,rfl⟩:=Van.mp hx
    have him':=Vbj (Vai hi)
    have him:=his i him'
    have ln:=gr.ln
    have hi':i<ns'.length:=by omega
    have wi:=gr.wt net him.1
    have hB:(k+1+1)*B≤16:=VaB (Nat.mul_le_mul_right B (show k+1+1≤is.length by omega)) b16
    have eB:(k+1+1)*B=(k+1)*B+B:=Nat.succ_mul (k+1) B
    have wv:Nd.wt ws' (.plus (j:Int) (i:Int))≤(k+1+1)*B:=by
     show ws'.getD ((j:Nat):Int).toNat 0+ws'.getD ((i:Nat):Int).toNat 0≤_
     rw[Vah,Vah,wi]
     have:=him.2
     omega
    refine⟨q,.plus j i,ns',ws',rfl,gr.nd,by omega,gr.net,⟨⟨by omega,by omega⟩,⟨by omega,by omega⟩⟩,by omega,λT j2 ns2 ws2 gr2 lj2 hj2 wj2 dj2=>?_⟩
    refine hn _ _ ⟨j2,ns2,ws2,gr.trans gr2,lj2,by rw[wj2]; exact wv,λP V hz st=>?_,gr2.kp _ _ (by omega) e4,_,rfl⟩
    rw[dj2 P]
    have z:=st (k+1) (gt (zar P ns') (j:Int)) (gt (zar P ns') (i:Int)) (dj P V hz st) (by rw[gr.due P him.1]; exact hz i him')
    exact z
   ·rintro dl' S' ⟨j,ns',ws',gr,hj,wj,dj,e4,u,rfl⟩
    rw[ecut] at gr wj dj
    rw[show is.length-1+1=is.length by omega] at dj
    exact h _ j ns' ws' (gr.mono (by omega)) hj (by rw[show is.length-1+1=is.length by omega] at wj; exact wj) dj
  ·exact h.elim⟩)
def zvX  (zjF:Df K mg "_law_linear" zj7 zhg)(znM:Fk P w K mg base 2 "_law_sum" zgh zhH)(zbP:Fk P w K mg base 1 "_law_at" zdY zd4)(zaG:mg "range"=none)(zay:mg "len"=none):Fk P w K mg base 3 "_law_linear" zhg zgQ:=
 zjF.mk' (zat (k:=2) zjF.F zkb (zvO) λcdv A outer s H E hr=>⟨_,(zaf (zax (i:=3) zkb.nd rfl (Or.inl rfl) (zb2 zac)) (zaf (zdp (i:=4) PassesOwn.never rfl zkb.nd rfl (Or.inl rfl) rfl zaG (zaa (zaM (zaQ za5) rfl zay Boot.«len» (zaa (dv 1) zac)) zac) (zaf (zax (i:=5) zkb.nd rfl (Or.inl rfl) (zak zbP hr (zaa (dv 0) (zaa (zaR (zaa za1 (zaa (zaD (dv 1) (dv 4) (λ_ _=>rfl)) (zaa zab zac)))) zac)))) (zae (zaI (zce (dv 2)) (zae (zbr (zca (dv 3) (zak zbP hr (zaa (dv 0) (zaa (zaR (zaa za1 (zaa (dv 4) (zaa (dv 5) zac)))) zac)))))) (zae (zbr (zca (dv 3) (zak zbP hr (zaa (dv 0) (zaa (zaR (zaa za1 (zaa (dv 5) (zaa (dv 4) zac)))) zac)))))))))) (zae (zaq (zak znM hr (zaa (dv 0) (zaa (dv 3) zac))))))),λds S Q ex h=>by
  unfold zgQ at h
  split at h
  ·rename_i a e tu
   obtain⟨q,ns,ws,es,ha,he,ae,net,le,⟨q1,q3⟩,unk,ze,l6,h⟩:=h
   have la:=zbg ha
   refine zjI (λdl' S'=>∃(ps:List Nat) (ns':List Nd) (ws':List Nat),Gr q a (2*q) S ns ws S' ns' ws'∧S'[S.length]?=some (.lst (ps.map wtD))∧ps.length=q∧(∀i∈ps,i<ns'.length∧ws'.getD i 0≤2∧∀P:List (Int×Int),(∀k:Int,inR q k→vB 4 (gt P k))→vB 32 (gt (zar P ns') (i:Int)))∧∃u1 u2:Option D,dl'=[some (.ref a),some (.ref e),some (.bl tu),some (.ref S.length),u1,u2]) (λnx hn=>?_) ?_
   ·refine zbn (zaz he) ?_
    rw[Vab,le]
    refine⟨⟨by omega,by omega⟩,λk dl' S'=>k≤q∧(∃(ps:List Nat) (ns':List Nd) (ws':List Nat),Gr q a (2*k) S ns ws S' ns' ws'∧S'[S.length]?=some (.lst (ps.map wtD))∧ps.length=k∧∀i∈ps,i<ns'.length∧ws'.getD i 0≤2∧∀P:List (Int×Int),(∀k:Int,inR q k→vB 4 (gt P k))→vB 32 (gt (zar P ns') (i:Int)))∧∃u1 u2:Option D,dl'=[some (.ref a),some (.ref e),some (.bl tu),some (.ref S.length),u1,u2],⟨Vaj _,⟨[],ns,ws,Gr.push net ha _,zav _ _,rfl,λi hi=>by simp at hi⟩,_,_,rfl⟩,?_⟩
    rintro k dl' S' ⟨hk,⟨ps,ns',ws',gr,hP,lp,zp⟩,u1,u2,rfl⟩
    rw[Vah]
    refine zcx (λc=>?_) (λc=>?_)
    ·have ln:=gr.ln
     have ltp:=zbg hP
     have he':=gr.kp _ _ (Ne.symm ae) he
     refine zaC (o:=.lst (es.map D.int)) he' (zpa (by omega)) ?_
     have zx:(es.getD k 0).natAbs≤8:=by
      have e:es.getD k 0=es[k]:=by simp[show k<es.length by omega]
      rw[e]
      exact ze _ (VaM (by omega))
     generalize es.getD k 0=x at zx
     refine⟨q,.number x 1,ns',ws',rfl,gr.nd,by omega,gr.net,⟨⟨by decide,by decide⟩,Int.gcd_one_right _,by omega⟩,show 1≤16 by decide,λT j ns2 ws2 gr2 lj hj wj dj=>?_⟩
     have ln2:=gr2.ln
     have uk:ns2[k]?=some (.unknown (k:Int)):=gr2.get (gr.get (unk k c))
     have lk:=(Vad.mp uk).1
     have wk:ws2.getD k 0=1:=(gr2.net.ok k _ uk).2.1
     have wj':ws2.getD j 0=1:=wj
     have dk:∀P,gt (zar P ns2) (k:Int)=gt P (k:Int):=λP=>by rw[znE (P:=P) gr2.net uk]; rfl
     have b8:vB 8 ((x,1):Int×Int):=⟨Vav _,by show x.natAbs≤8*(1:Int).natAbs; simpa using zx⟩
     have fin:∀v:Nd,(v=.times (k:Int) (j:Int)∨v=.times (j:Int) (k:Int))→v.ok ns2.length q∧v.wt ws2=2∧∀P:List (Int×Int),(∀k:Int,inR q k→vB 4 (gt P k))→vB 32 (v.due (zar P ns2) P):=λv hv=>by
      rcases hv with rfl | rfl
      ·refine⟨⟨⟨by omega,by omega⟩,⟨by omega,by omega⟩⟩,?_,λP hP=>?_⟩
       ·show ws2.getD ((k:Nat):Int).toNat 0+ws2.getD ((j:Nat):Int).toNat 0=2
        rw[Vah,Vah,wk,wj']
       ·show vB 32 ((gt (zar P ns2) (k:Int)).1*(gt (zar P ns2) (j:Int)).1,(gt (zar P ns2) (k:Int)).2*(gt (zar P ns2) (j:Int)).2)
        rw[dk P,dj P]
        exact(hP (k:Int) ⟨by omega,by omega⟩).times b8
      ·refine⟨⟨⟨by omega,by omega⟩,⟨by omega,by omega⟩⟩,?_,λP hP=>?_⟩
       ·show ws2.getD ((j:Nat):Int).toNat 0+ws2.getD ((k:Nat):Int).toNat 0=2
        rw[Vah,Vah,wk,wj']
       ·show vB 32 ((gt (zar P ns2) (j:Int)).1*(gt (zar P ns2) (k:Int)).1,(gt (zar P ns2) (j:Int)).2*(gt (zar P ns2) (k:Int)).2)
        rw[dk P,dj P]
        exact b8.times (hP (k:Int) ⟨by omega,by omega⟩)
     have done:∀(v:Nd) (T2:Sto) (j2:Nat) (ns3:List Nd) (ws3:List Nat),(v.ok ns2.length q∧v.wt ws2=2∧∀P:List (Int×Int),(∀k:Int,inR q k→vB 4 (gt P k))→vB 32 (v.due (zar P ns2) P))→Gr q a 1 T ns2 ws2 T2 ns3 ws3→j2<ns3.length→ws3.getD j2 0=v.wt ws2→(∀P,gt (zar P ns3) (j2:Int)=v.due (zar P ns2) P)→T2[S.length]?=some (.lst (ps.map wtD))→k+1≤q∧∃(ps':List Nat) (ns':List Nd) (ws':List Nat),Gr q a (2*(k+1)) S ns ws (T2.set S.length (.lst (ps.map wtD++[.int (j2:Int)]))) ns' ws'∧(T2.set S.length (.lst (ps.map wtD++[.int (j2:Int)])))[S.length]?=some (.lst (ps'.map wtD))∧ps'.length=k+1∧∀i∈ps',i<ns'.length∧ws'.getD i 0≤2∧∀P:List (Int×Int),(∀k:Int,inR q k→vB 4 (gt P k))→vB 32 (gt (zar P ns') (i:Int)):=λv T2 j2 ns3 ws3 hv gr3 lj2 wj2 dj2 hP2=>by
      refine⟨by omega,ps++[j2],ns3,ws3,(((gr.trans gr2).trans gr3).put (by omega) (Vaa _)).mono (by omega),by rw[VaD]; exact zb5 hP2,by rw[Vas,lp]; rfl,λi hi=>?_⟩
      rcases VaL.mp hi with y | y
      ·obtain⟨z1,z2,z3⟩:=zp i y
       have g23:=gr2.trans gr3
       exact⟨by have:=g23.ln; omega,by rw[g23.wt gr.net z1]; exact z2,λP hP=>by rw[g23.due P z1]; exact z3 P hP⟩
      ·rw[Vbd.mp y]
       exact⟨lj2,by rw[wj2,hv.2.1]; exact Vaa _,λP hP=>by rw[dj2 P]; exact hv.2.2 P hP⟩
     have hPT:=gr2.kp _ _ (show S.length≠a by omega) hP
     cases tu
     ·refine zid (n:=S.length) (xs:=ps.map wtD) (λK hK=>by exact hK) hPT (λK hK=>?_) (by rw[Vab]; omega)
      have fv:=fin (.times j k) (.inr rfl)
      refine⟨q,.times j k,ns2,ws2,rfl,gr2.nd,by omega,gr2.net,fv.1,by rw[fv.2.1]; decide,λT2 j2 ns3 ws3 gr3 lj2 hj2 wj2 dj2=>?_⟩
      have hP2:=gr3.kp _ _ (show S.length≠a by omega) hPT
      obtain⟨d1,d2⟩:=done _ T2 j2 ns3 ws3 fv gr3 lj2 wj2 dj2 hP2
      exact hK _ _ hP2 ⟨d1,d2,_,_,rfl⟩
     ·refine zid (n:=S.length) (xs:=ps.map wtD) (λK hK=>by exact hK) hPT (λK hK=>?_) (by rw[Vab]; omega)
      have fv:=fin (.times k j) (.inl rfl)
      refine⟨q,.times k j,ns2,ws2,rfl,gr2.nd,by omega,gr2.net,fv.1,by rw[fv.2.1]; decide,λT2 j2 ns3 ws3 gr3 lj2 hj2 wj2 dj2=>?_⟩
      have hP2:=gr3.kp _ _ (show S.length≠a by omega) hPT
      obtain⟨d1,d2⟩:=done _ T2 j2 ns3 ws3 fv gr3 lj2 wj2 dj2 hP2
      exact hK _ _ hP2 ⟨d1,d2,_,_,rfl⟩
    ·have e:k=q:=by omega
     subst e
     exact hn _ _ ⟨ps,ns',ws',gr,hP,lp,zp,_,_,rfl⟩
   ·rintro dl' S' ⟨ps,ns',ws',gr,hP,lp,zp,u1,u2,rfl⟩
    have ln:=gr.ln
    refine⟨q,2,ns',ws',ps,gr.nd,hP,by omega,gr.net,⟨by omega,by omega⟩,by omega,by omega,λi hi=>⟨(zp i hi).1,(zp i hi).2.1⟩,λT j ns2 ws2 gr2 lj wj dj=>?_⟩
    refine h T j ns2 ws2 ((gr.trans gr2).mono (by omega)) lj (by omega) λP hP=>?_
    have z:=dj P (λk x=>vB (32*k) x) (λi hi=>((zp i hi).2.2 P hP).mono (by omega)) (λk x y h1 h2=>(h1.plus h2).mono (by omega))
    exact z.mono (by omega)
  ·exact h.elim⟩)
def ztY  (zkB:Df K mg "_law_system" zfg zhk)(zbP:Fk P w K mg base 1 "_law_at" zdY zd4)(znU:Fk P w K mg base 4 "_law_shift" zgU zhP)(zbi:Fk P w K mg base 2 "_law_cell" zdL zd7)(zoT:Fk P w K mg base 3 "_law_linear" zhg zgQ)(zcF:Fk P w K mg base 1 "_law_lowest" zd3 zdE)(zez:Fk P w K mg base 3 "_law_grow" zfV zeA)(zcq:Fk P w K mg base 1 "_law_free" zdS zdy)(zos:Fk P w K mg base 4 "_law_any_system" ziJ zhY)(zaG:mg "range"=none)(zck:mg "int"=none)(zay:mg "len"=none):Fk P w K mg base 5 "_law_system" zhk zhb:=
 zkB.mk' (zat (k:=4) zkB.F zcb (zw7) λcdv A outer s H E hr=>⟨_,(zaf (zfw (x:="_law_k") (N:=[]) (caps:=[]) (ar:=zam zfg) rfl rfl csc rfl (by decide) (i:=4) zcb.nd rfl rfl rfl zaG (zaa (dv 1) zac) (λ_ _ _ _ _ _=>zbu) (λ_ _ _ _ _ _=>(zaR (zaa za1 (zaa (dv 0) zac))))) (zaf (zfw (x:="_law_k") (N:=[]) (caps:=[]) (ar:=zam zfg) rfl rfl csc rfl (by decide) (i:=5) zcb.nd rfl rfl rfl zaG (zaa (dv 1) zac) (λ_ _ _ _ _ _=>zbu) (λ_ _ _ _ _ _=>zab)) (zaf (zaI (zce (zak zcq hr (zaa (dv 0) zac))) (zae (zaq (zak zos hr (zaa (dv 0) (zaa (dv 4) (zaa (dv 5) zac)))))) zaN) (zaf (zq1 (i:=6) PassesOwn.never rfl zcb.nd rfl (Or.inl rfl) rfl zaG (zaa zab (zaa zab zac)) (zae (zbr (zak zez hr (zaa (dv 4) (zaa (dv 5) (zaa (zak zbi hr (zaa (dv 0) (zaa (dv 6) zac))) (zaa zab (zaa zb7 zac))))))))) (zaf (zax (i:=7) zcb.nd rfl (Or.inl rfl) (zaM (zaQ za5) rfl zay Boot.«len» (zaa (dv 4) zac))) (zaf (zax (i:=8) zcb.nd rfl (Or.inl rfl) (zb2 zac)) (zaf (zdp (i:=9) PassesOwn.never rfl zcb.nd rfl (Or.inl rfl) rfl zaG (zaa (dv 1) zac) (zaf (zax (i:=10) zcb.nd rfl (Or.inl rfl) (zb2 zac)) (zaf (zdp (i:=6) PassesOwn.never rfl zcb.nd rfl (Or.inl rfl) rfl zaG (zaa (dv 1) zac) (zae (zbr (zca (dv 10) (zad zaO (zad zcg (zad zbf (zak zbi hr (zaa (dv 0) (zaa (zad zaO (zad zaO zab (zad zaJ zab (dv 9))) (dv 6)) zac))) zab) zab) (zad zaJ zab (zf2 zqQ rfl zck Boot.«int» (zaa (zcU (zaZ hr) (dv 9) (dv 6) (zaE _)) zac)))))))) (zaf (zax (i:=11) zcb.nd rfl (Or.inl rfl) (zak zbi hr (zaa (dv 0) (zaa (zad zaO zab (dv 9)) zac)))) (zaf (zax (i:=12) zcb.nd rfl (Or.inl rfl) (zak zcF hr (zaa (zad zcg (zad zbf (dv 11) zab) zab) (zaa (zad zaO zab (zad zbf (zad zbD (dv 11) zab) zab)) zac)))) (zaf (zax (i:=13) zcb.nd rfl (Or.inl rfl) (zak zbP hr (zaa (dv 4) (zaa (zaR (zaa za1 (zaa (zap (dv 12) zab (λ_ _=>rfl)) (zaa (zap (dv 12) zab (λ_ _=>rfl)) zac)))) zac)))) (zaf (zax (i:=14) zcb.nd rfl (Or.inl rfl) (zak zbP hr (zaa (dv 4) (zaa (zaR (zaa za1 (zaa (dv 13) (zaa (zad zbs (zad zbD (dv 11) zab) (dv 7)) zac)))) zac)))) (zaf (zax (i:=15) zcb.nd rfl (Or.inl rfl) (zak zbP hr (zaa (dv 4) (zaa (zaR (zaa za1 (zaa (zak zoT hr (zaa (dv 4) (zaa (dv 10) (zaa (zcU (zaZ hr) (zad zbf (zad zbD (dv 11) zab) zab) zab (zaE _)) zac)))) (zaa (dv 14) zac)))) zac)))) (zaf (zax (i:=13) zcb.nd rfl (Or.inl rfl) (zak znU hr (zaa (dv 4) (zaa (dv 15) (zaa (dv 3) (zaa (dv 2) (zaa (zad zaO zab (zad zbf (zak zbi hr (zaa (dv 0) (zaa (zad zaO zab (dv 9)) zac))) zab)) zac))))))) (zae (zbr (zca (dv 8) (zaR (zaa za1 (zaa (zak zbP hr (zaa (dv 4) (zaa (zaR (zaa za1 (zaa (dv 15) (zaa (dv 13) zac)))) zac))) zac))))))))))))))) (zae (zaq (zaR (zaa (dv 4) (zaa (dv 8) zac)))))))))))),λds S Q ex h=>by
  unfold zhb at h
  split at h
  ·rename_i sc qi g b
   obtain⟨cs,q,bs,hsc,⟨rfl,q1,q3⟩,hb,lb,c63,hg,zb,h⟩:=h
   have net0:=zvn q
   refine zif (j:=((q:Nat):Int)) (S1:=S) (λk=>.tup [.str "unknown",.int (k:Int)]) (λK hK=>by exact hK) ⟨by omega,by omega⟩ (λk hk S2 K pr hK=>by exact hK) ?_
   have eN:((List.range ((q:Nat):Int).toNat).map λ(k:Nat)=>D.tup [.str "unknown",.int (k:Int)])=((List.range q).map λ(k:Nat)=>Nd.unknown (k:Int)).map Nd.d:=by
    rw[Vap,Vah]
    rfl
   rw[eN]
   refine zif (j:=((q:Nat):Int)) (S1:=S++[.lst (((List.range q).map λ(k:Nat)=>Nd.unknown (k:Int)).map Nd.d)]) (λ_=>.int 1) (λK hK=>by exact hK) ⟨by omega,by omega⟩ (λk hk S2 K pr hK=>by exact hK) ?_
   have eW:((List.range ((q:Nat):Int).toNat).map λ(_:Nat)=>D.int 1)=((List.range q).map λ_=>(1:Nat)).map wtD:=by
    rw[Vap,Vah]
    rfl
   rw[eW]
   have lns:((List.range q).map λ(k:Nat)=>Nd.unknown (k:Int)).length=q:=by rw[Vab,Vbh]
   have unk:∀k:Nat,k<q→((List.range q).map λ(k:Nat)=>Nd.unknown (k:Int))[k]?=some (.unknown (k:Int)):=λk hk=>by rw[Vae,Va5 hk]; rfl
   have ha:(S++[.lst (((List.range q).map λ(k:Nat)=>Nd.unknown (k:Int)).map Nd.d)]++[.lst (((List.range q).map λ_=>(1:Nat)).map wtD)])[S.length]?=some (.lst (((List.range q).map λ(k:Nat)=>Nd.unknown (k:Int)).map Nd.d)):=zaz (zav _ _)
   have hw:(S++[.lst (((List.range q).map λ(k:Nat)=>Nd.unknown (k:Int)).map Nd.d)]++[.lst (((List.range q).map λ_=>(1:Nat)).map wtD)])[(S++[Ob.lst (((List.range q).map λ(k:Nat)=>Nd.unknown (k:Int)).map Nd.d)]).length]?=some (.lst (((List.range q).map λ_=>(1:Nat)).map wtD)):=zav _ _
   have eL:(S++[Ob.lst (((List.range q).map λ(k:Nat)=>Nd.unknown (k:Int)).map Nd.d)]).length=S.length+1:=by simp
   rw[eL] at hw ⊢
   have pS:Pre S (S++[.lst (((List.range q).map λ(k:Nat)=>Nd.unknown (k:Int)).map Nd.d)]++[.lst (((List.range q).map λ_=>(1:Nat)).map wtD)]):=zcP (zcP Pre.refl _) _
   have lS:(S++[Ob.lst (((List.range q).map λ(k:Nat)=>Nd.unknown (k:Int)).map Nd.d)]++[Ob.lst (((List.range q).map λ_=>(1:Nat)).map wtD)]).length=S.length+2:=by simp
   have lit0:∀v∈((List.range q).map λ(k:Nat)=>Nd.unknown (k:Int)),v.lit:=λv hv=>by
    obtain⟨k,_,er⟩:=Vag.mp hv
    subst er
    trivial
   have w80:∀i:Nat,((List.range q).map λ_=>(1:Nat)).getD i 0≤8:=λi=>by
    rw[Vak,Vae]
    cases (List.range q)[i]? with
    | none=>exact Vaj _
    | some _=>show 1≤8; decide
   generalize S++[.lst (((List.range q).map λ(k:Nat)=>Nd.unknown (k:Int)).map Nd.d)]++[.lst (((List.range q).map λ_=>(1:Nat)).map wtD)]=S0 at ha hw pS lS ⊢
   generalize ((List.range q).map λ(k:Nat)=>Nd.unknown (k:Int))=ns at ha net0 lns unk lit0
   generalize ((List.range q).map λ_=>(1:Nat))=ws at hw net0 w80
   clear eN eW eL
   have hs0:=pS _ _ hsc
   refine⟨cs,hs0,?_⟩
   refine zcx (λef=>?_) (λef=>?_)
   ·refine⟨cs,q,ns,ws,hs0,ha,hw,by omega,net0,⟨by omega,by omega⟩,lns,c63,λT m ns' ws' rows n' l1 l60 hT hR r10 zr lm kp=>?_⟩
    exact h T _ m ns' ws' rows n' l1 l60 hT hR r10 zr (Vaa _) (by omega) (by omega) λx o e=>kp x o (by have:=zbg e; omega) (by have:=zbg e; omega) (pS _ _ e)
   ·rw[Bool.not_eq_true] at ef
    have zb:=zb ef
    dsimp only[zj2]
    refine zgV (λdl2 S2=>(∃(ns':List Nd) (ws':List Nat),zaH q ns' ws'∧(∀v∈ns',v.lit)∧(∀k:Nat,k<q→ns'[k]?=some (.unknown (k:Int)))∧(∀i:Nat,ws'.getD i 0≤8)∧ns'.length≤9∧S2[S.length]?=some (.lst (ns'.map Nd.d))∧Pre S S2∧S.length+2≤S2.length)∧∃u:Option D,dl2=[some (.ref sc),some (.int ((q:Nat):Int)),some (.int g),some (.ref b),some (.ref S.length),some (.ref (S.length+1)),u,none,none,none,none,none,none,none,none,none]) (λnx hn=>?_) ?_
    ·refine⟨⟨by decide,by decide,by decide,by decide⟩,λk dl' S'=>k≤6∧(∃(ns':List Nd) (ws':List Nat),zaH q ns' ws'∧(∀v∈ns',v.lit)∧(∀k:Nat,k<q→ns'[k]?=some (.unknown (k:Int)))∧(∀i:Nat,ws'.getD i 0≤8)∧ns'.length≤3+k∧S'[S.length]?=some (.lst (ns'.map Nd.d))∧S'[S.length+1]?=some (.lst (ws'.map wtD))∧Pre S S'∧S.length+2≤S'.length)∧∃u:Option D,dl'=[some (.ref sc),some (.int ((q:Nat):Int)),some (.int g),some (.ref b),some (.ref S.length),some (.ref (S.length+1)),u,none,none,none,none,none,none,none,none,none],⟨Vaj _,⟨ns,ws,net0,lit0,unk,w80,by omega,ha,hw,pS,by omega⟩,_,rfl⟩,?_⟩
     rintro k dl' S' ⟨hk,⟨ns',ws',net',li,un,w8,l3,e1,e2,pr,lS'⟩,u,rfl⟩
     show if k<((20:Int)-14).toNat then _ else _
     have lq:q≤ns'.length:=by
      have:=(Vad.mp (un (q-1) (by omega))).1
      omega
     refine zcx (λc=>?_) (λc=>?_)
     ·have c6:k<6:=c
      refine⟨cs,pr _ _ hsc,⟨show (0:Int)≤14+(k:Int) by omega,show 14+(k:Int)≤1000 by omega⟩,λv=>?_⟩
      refine⟨q,ns',ws',e1,e2,by omega,net',by omega,by omega,by decide,λT ms us n2 hu lt lm t1 t2 lT kT=>?_⟩
      obtain⟨u2,rfl,hu⟩:=hu
      refine⟨by omega,⟨ns'++ms,ws'++u2,n2,λv hv=>?_,λk hk=>?_,λi=>?_,by rw[Vas]; omega,t1,t2,λx o e=>?_,by omega⟩,_,rfl⟩
      ·rcases VaL.mp hv with z | z
       ·exact li v z
       ·exact lt rfl v z
      ·rw[Val (by omega)]
       exact un k hk
      ·by_cases ci:i<ws'.length
       ·rw[zpI ci]
        exact w8 i
       ·rw[Vak,VaF (by omega)]
        cases ew:u2[i-ws'.length]? with
        | none=>exact Vaj _
        | some w=>
         have z:=hu w (Vai ew)
         show w≤8
         omega
      ·have:=zbg e
       exact kT x o (by omega) (by omega) (pr _ _ e)
     ·exact hn _ _ ⟨⟨ns',ws',net',li,un,w8,by omega,e1,pr,lS'⟩,_,rfl⟩
    rintro dl2 S2 ⟨⟨ns',ws',net',li,un,w8,l9,e1,pr,lS2⟩,u,rfl⟩
    have lq:q≤ns'.length:=by
     have:=(Vad.mp (un (q-1) (by omega))).1
     omega
    have hP:∀k:Int,inR q k→vB 4 (gt (bs.map λp=>(mid p,g)) k):=λk hk=>by
     have h0:=hk.1
     have h1:=hk.2
     have e:=zvQ (bs:=bs) (λp=>(mid p,g)) (i:=k) ⟨h0,by omega⟩
     rw[e]
     have z:=zb _ (zli (vs:=bs) (i:=k) ⟨h0,by omega⟩)
     refine⟨hg.1,?_⟩
     show (mid (gt bs k)).natAbs≤4*g.natAbs
     unfold mid
     omega
    have vb:=zts net' li hP
    have vb8:∀j:Nat,j<ns'.length→vB 65536 (gt (zar (bs.map λp=>(mid p,g)) ns') (j:Int)):=λj hj=>(vb j hj).mono (VaB (Nat.pow_le_pow_right (by decide) (w8 j)) (by decide))
    refine zbn e1 ?_
    rw[Vab]
    refine⟨⟨by omega,by omega⟩,λk dl' S'=>k≤q∧(∃(rs:List Nat) (ns2:List Nd) (ws2:List Nat),Gr q S.length (16*k) S2 ns' ws' S' ns2 ws2∧S'[S2.length]?=some (.lst (rs.map λi=>rwD (true,i)))∧rs.length=k∧∀i∈rs,i<ns2.length)∧∃u6 u9 u10 u11 u12 u13 u14 u15:Option D,dl'=[some (.ref sc),some (.int ((q:Nat):Int)),some (.int g),some (.ref b),some (.ref S.length),some (.ref (S.length+1)),u6,some (.int ((ns'.length:Nat):Int)),some (.ref S2.length),u9,u10,u11,u12,u13,u14,u15],⟨Vaj _,⟨[],ns',ws',Gr.push net' e1 _,zav _ _,rfl,λi hi=>by simp at hi⟩,_,_,_,_,_,_,_,_,rfl⟩,?_⟩
    rintro k dl' S' ⟨hk,⟨rs,ns2,ws2,gr,hR,lr,zr⟩,u6,u9,u10,u11,u12,u13,u14,u15,rfl⟩
    rw[Vah]
    have lsc:=zbg hsc
    have lbb:=zbg hb
    refine zcx (λc=>?_) (λc=>?_)
    ·have lt:=zbg hR
     have ln:=gr.ln
     have hsS:=gr.kp _ _ (show sc≠S.length by omega) (pr _ _ hsc)
     have hbS:=gr.kp _ _ (show b≠S.length by omega) (pr _ _ hb)
     try dsimp only
     refine zjI (λdl2 S3=>∃es:List Int,S3=S'++[Ob.lst (es.map D.int)]∧es.length=q∧(∀x∈es,x.natAbs≤8)∧∃u6 u11 u12 u13 u14 u15:Option D,dl2=[some (.ref sc),some (.int ((q:Nat):Int)),some (.int g),some (.ref b),some (.ref S.length),some (.ref (S.length+1)),u6,some (.int ((ns'.length:Nat):Int)),some (.ref S2.length),some (.int (k:Nat)),some (.ref S'.length),u11,u12,u13,u14,u15]) (λnx hn=>?_) ?_
     ·refine⟨⟨by omega,by omega⟩,λl dl2 S3=>l≤q∧(∃es:List Int,S3=S'++[Ob.lst (es.map D.int)]∧es.length=l∧∀x∈es,x.natAbs≤8)∧∃u6 u11 u12 u13 u14 u15:Option D,dl2=[some (.ref sc),some (.int ((q:Nat):Int)),some (.int g),some (.ref b),some (.ref S.length),some (.ref (S.length+1)),u6,some (.int ((ns'.length:Nat):Int)),some (.ref S2.length),some (.int (k:Nat)),some (.ref S'.length),u11,u12,u13,u14,u15],⟨Vaj _,⟨[],rfl,rfl,λx hx=>by simp at hx⟩,_,_,_,_,_,_,rfl⟩,?_⟩
      rintro l dl2 S3 ⟨hl,⟨es,rfl,le,ze⟩,v6,v11,v12,v13,v14,v15,rfl⟩
      rw[Vah]
      refine zcx (λc2=>?_) (λc2=>?_)
      ·refine zid (n:=S'.length) (xs:=es.map D.int) (λK hK=>by exact hK) (zav _ _) (λK hK=>?_) (by rw[Vab]; omega)
       refine⟨IntMulOk.of_left (by decide),cs,zaz hsS,⟨show (0:Int)≤20+3*(k:Int)+(l:Int) by omega,show 20+3*(k:Int)+(l:Int)≤1000 by omega⟩,λv=>?_⟩
       refine⟨IntMulOk.of_left (by decide),?_⟩
       obtain⟨e,he⟩:∃e:Int,(if decide ((k:Int)=(l:Int))=true then (1:Int) else 0)=e:=⟨_,rfl⟩
       have e01:0≤e∧e≤1:=by rw[← he]; split <;> omega
       refine hK _ _ (zav _ _) ⟨by omega,⟨es++[v%7-3+5*e],?_,by rw[Vas,le]; rfl,λx hx=>?_⟩,_,_,_,_,_,_,rfl⟩
       ·rw[VaD,← he]
        exact zgl _ _ _
       ·rcases VaL.mp hx with w | w
        ·exact ze x w
        ·rw[Vbd.mp w]
         omega
      ·have e:l=q:=by omega
       subst e
       exact hn _ _ ⟨es,rfl,le,ze,_,_,_,_,_,_,rfl⟩
     ·rintro dl2 S3 ⟨es,rfl,le,ze,v6,v11,v12,v13,v14,v15,rfl⟩
      have gp:Gr q S.length 0 S' ns2 ws2 (S'++[Ob.lst (es.map D.int)]) ns2 ws2:=Gr.push gr.net gr.nd _
      have hE:=zav S' (.lst (es.map D.int))
      refine⟨cs,zaz hsS,⟨show (0:Int)≤29+(k:Int) by omega,show 29+(k:Int)≤1000 by omega⟩,λx=>?_⟩
      refine⟨⟨show 0<1+x/3%200 by omega,Sz.of (n:=4000) 200 (by show (1+x/3%200).natAbs≤_; omega)⟩,λt d b1 tg _ tt td=>?_⟩
      have t1:t.natAbs≤1:=by omega
      refine⟨q,.number t d,ns2,ws2,rfl,gp.nd,by omega,gr.net,⟨⟨b1,by omega⟩,tg,by omega⟩,show 1≤16 by decide,λT3 j3 ns3 ws3 gr3 lj3 hj3 wj3 dj3=>?_⟩
      have np:(0:Int)<((ns'.length:Nat):Int):=by omega
      have rw':=zbj (a:=x/600) np
      obtain⟨w,hw'⟩:∃w:Nat,x/600%((ns'.length:Nat):Int)=(w:Int):=⟨(x/600%((ns'.length:Nat):Int)).toNat,by omega⟩
      have wl:w<ns'.length:=by omega
      have ln3:=gr3.ln
      have grw:=(gr.trans gp).trans gr3
      have ww:ws3.getD w 0≤8:=by rw[grw.wt net' wl]; exact w8 w
      have wj3':ws3.getD j3 0=1:=wj3
      have w4:Nd.wt ws3 (.times (j3:Int) (w:Int))≤9:=by
       show ws3.getD ((j3:Nat):Int).toNat 0+ws3.getD ((w:Nat):Int).toNat 0≤9
       rw[Vah,Vah,wj3']
       omega
      refine⟨np,?_⟩
      refine⟨q,.times j3 w,ns3,ws3,congrArg (λz:Int=>D.tup [.str "times",.int (j3:Int),.int z]) hw',gr3.nd,by omega,gr3.net,⟨⟨by omega,by omega⟩,⟨by omega,by omega⟩⟩,by omega,λT4 j4 ns4 ws4 gr4 lj4 hj4 wj4 dj4=>?_⟩
      have ln4:=gr4.ln
      have v4:vB 65536 (gt (zar (bs.map λp=>(mid p,g)) ns4) (j4:Int)):=by
       rw[dj4]
       have a1:vB 1 (gt (zar (bs.map λp=>(mid p,g)) ns3) (j3:Int)):=by
        rw[dj3]
        exact⟨b1,by show t.natAbs≤1*d.natAbs; omega⟩
       have a2:vB 65536 (gt (zar (bs.map λp=>(mid p,g)) ns3) (w:Int)):=by
        rw[grw.due _ wl]
        exact vb8 w wl
       exact(a1.times a2).mono (by decide)
      have hE4:=gr4.kp _ _ (show S'.length≠S.length by omega) (gr3.kp _ _ (by omega) hE)
      refine⟨q,ns4,ws4,es,gr4.nd,hE4,by omega,gr4.net,le,⟨q1,q3⟩,λk hk=>gr4.get (grw.get (un k hk)),ze,by omega,λT5 j5 ns5 ws5 gr5 lj5 wj5 vj5=>?_⟩
      have ln5:=gr5.ln
      have wj4':ws5.getD j4 0≤9:=by rw[gr5.wt gr4.net lj4,wj4]; exact w4
      have v4':vB 65536 (gt (zar (bs.map λp=>(mid p,g)) ns5) (j4:Int)):=by rw[gr5.due _ lj4]; exact v4
      have w5:Nd.wt ws5 (.plus (j5:Int) (j4:Int))≤15:=by
       show ws5.getD ((j5:Nat):Int).toNat 0+ws5.getD ((j4:Nat):Int).toNat 0≤15
       rw[Vah,Vah]
       omega
      refine⟨q,.plus j5 j4,ns5,ws5,rfl,gr5.nd,by omega,gr5.net,⟨⟨by omega,by omega⟩,⟨by omega,by omega⟩⟩,by omega,λT6 j6 ns6 ws6 gr6 lj6 hj6 wj6 dj6=>?_⟩
      have ln6:=gr6.ln
      have v6':vB 100000 (gt (zar (bs.map λp=>(mid p,g)) ns6) (j6:Int)):=by
       rw[dj6]
       exact((vj5 _ hP).plus v4').mono (by decide)
      have gr36:=((gr3.trans gr4).trans gr5).trans gr6
      have hs6:=gr36.kp _ _ (show sc≠S.length by omega) (zaz hsS)
      have hb6:=gr36.kp _ _ (show b≠S.length by omega) (zaz hbS)
      refine⟨cs,hs6,⟨show (0:Int)≤32+(k:Int) by omega,show 32+(k:Int)≤1000 by omega⟩,λy=>?_⟩
      refine⟨q,ns6,ws6,bs,j6,gr6.nd,hb6,by omega,gr6.net,lb.symm,by omega,rfl,lj6,by omega,hg,⟨show 1≤1+y%1000 by omega,show 1+y%1000≤1000 by omega⟩,λp hp=>by have:=zb p hp; omega,v6',λT7 j7 ns7 ws7 gr7 lj7 wj7=>?_⟩
      have ln7:=gr7.ln
      have hR7:=gr7.kp _ _ (show S2.length≠S.length by omega) (gr36.kp _ _ (show S2.length≠S.length by omega) (zaz hR))
      refine zid (n:=S2.length) (xs:=rs.map λi=>rwD (true,i)) (λK hK=>by exact hK) hR7 (λK hK=>?_) (by rw[Vab]; omega)
      have w7:Nd.wt ws7 (.minus (j6:Int) (j7:Int))≤16:=by
       show ws7.getD ((j6:Nat):Int).toNat 0+ws7.getD ((j7:Nat):Int).toNat 0≤16
       rw[Vah,Vah,wj7,gr7.wt gr6.net lj6,wj6]
       omega
      refine⟨q,.minus j6 j7,ns7,ws7,rfl,gr7.nd,by omega,gr7.net,⟨⟨by omega,by omega⟩,⟨by omega,by omega⟩⟩,w7,λT8 j8 ns8 ws8 gr8 lj8 hj8 wj8 dj8=>?_⟩
      have hR8:=gr8.kp _ _ (show S2.length≠S.length by omega) hR7
      have grA:=(((gr.trans gp).trans gr36).trans gr7).trans gr8
      refine hK _ _ hR8 ⟨by omega,⟨rs++[j8],ns8,ws8,(grA.put (by omega) (Vaa _)).mono (by omega),by rw[VaD]; exact zb5 hR8,by rw[Vas,lr]; rfl,λi hi=>?_⟩,_,_,_,_,_,_,_,_,rfl⟩
      rcases VaL.mp hi with z | z
      ·have:=zr i z
       have:=((gp.trans gr36).trans gr7).trans gr8 |>.ln
       omega
      ·rw[Vbd.mp z]
       exact lj8
    ·have e:k=q:=by omega
     subst e
     have eR:(rs.map λi=>rwD (true,i))=(rs.map λi=>((true,i):Bool×Nat)).map rwD:=by rw[Vap]; rfl
     rw[eR] at hR
     have ln:=gr.ln
     exact h _ _ _ ns2 ws2 _ gr.net (by omega) (by omega) gr.nd hR (by rw[Vab]; omega) (λr hr=>by
      obtain⟨i,hi,er⟩:=Vag.mp hr
      subst er
      exact zr i hi) (Vaa _) (by omega) (by omega) λx o e=>gr.kp x o (by have:=zbg e; omega) (pr _ _ e)
  ·exact h.elim⟩)
def zuw  (zjb:Df K mg "equation_places" ziz zgt):Fk P w K mg base 1 "equation_places" zgt ziv:=
 zjb.mk' (zat (k:=0) zjb.F zxm (zsP) λcdv A outer s H E hr=>⟨_,(zae (zaq (zc3 (x:="row") (N:=[]) (caps:=[]) (ar:=zam ziz) rfl rfl csc rfl (by decide) (dv 0) (λ_ _ _ _ _ _=>zop (zaK (zaZ hr) (zap (dv 0) zab (λ_ _=>rfl)) za1 (zaE _))) (λ_ _ _ _ _ _=>(zap (dv 0) zab (λ_ _=>rfl)))))),λds S Q ex h=>by
  unfold ziv at h
  split at h
  ·rename_i r
   obtain⟨rows,hr,l9,h⟩:=h
   refine zoc (n:=r) (S1:=S) (o:=.lst (rows.map rwD)) (λd=>match d with | .tup [.str w,.int at']=>if w="zero" then some (.int at') else none | _=>none) (λK hK=>by exact hK) hr (by show (rows.map rwD).length≤1000; rw[Vab]; omega) (λx hx S2 K pr hK=>?_) (λx hx y hy S2 K pr hK=>?_) ?_
   ·have hx':x∈rows.map rwD:=hx
    obtain⟨⟨b,n⟩,_,rfl⟩:=Vag.mp hx'
    cases b
    ·exact hK
    ·exact hK
   ·have hx':x∈rows.map rwD:=hx
    obtain⟨⟨b,n⟩,_,rfl⟩:=Vag.mp hx'
    cases b
    ·exact absurd hy (by
      simp[rwD]
      intro z
      exact absurd z (by decide))
    ·cases hy
     exact hK
   ·have e:(zao (.lst (rows.map rwD))).filterMap (λd=>match d with | .tup [.str w,.int at']=>if w="zero" then some (.int at') else none | _=>none)=(eqs rows).map wtD:=by
     show (rows.map rwD).filterMap _=_
     unfold eqs
     rw[List.filterMap_map,List.map_filterMap]
     congr 1
     funext ⟨b,n⟩
     cases b <;> rfl
    rw[e]
    exact h
  ·exact h.elim⟩)
def ztL  (zkn:Df K mg "picked" zgN zeU):Fk P w K mg base 1 "picked" zeU zff:=
 zkn.mk' (zat (k:=0) zkn.F zrO (zvm) λcdv A outer s H E hr=>⟨_,(zae (zaq (zc3 (x:="place") (N:=["each"]) (caps:=[0]) (ar:=zam zgN) rfl rfl csc rfl (by decide) (dv 1) (λ_ _ _ _ _ _=>zbu) (λ_ _ _ _ _ _=>(zaD (dv 1) (dv 0) (λ_ _=>rfl)))))),λds S Q ex h=>by
  unfold zff at h
  split at h
  ·rename_i e p
   obtain⟨xs,is,he,hp,l9,hi,h⟩:=h
   refine zcZ (n:=p) (S1:=S) (o:=.lst (is.map wtD)) (λd=>match d with | .int i=>xs.getD i.toNat .non | _=>.non) (λK hK=>by exact hK) hp (by show (is.map wtD).length≤1000; rw[Vab]; omega) (λx hx S2 K pr hK=>?_) ?_
   ·have hx':x∈is.map wtD:=hx
    obtain⟨i,him,rfl⟩:=Vag.mp hx'
    have hl:=hi i him
    refine zaC (o:=.lst xs) (pr _ _ he) (zd8 (j:=i) (v:=xs.getD i .non) (by show xs[i]?=_; rw[Vac hl]; simp[hl])) ?_
    exact hK
   ·have e2:(zao (.lst (is.map wtD))).map (λd=>match d with | .int i=>xs.getD i.toNat .non | _=>.non)=is.map λi=>xs.getD i .non:=by
     show (is.map wtD).map _=_
     rw[Vap]
     rfl
    rw[e2]
    exact h
  ·exact h.elim⟩)
def zr9  (zi3:Df K mg "less" zlh ziA):Fk P w K mg base 1 "less" ziA ziO:=
 zi3.mk' (zat (k:=0) zi3.F zrY (zvB) λcdv A outer s H E hr=>⟨_,(zae (zaq (zcU zdZ (zad zaJ (zap (dv 0) zab (λ_ _=>rfl)) (zap (dv 1) zab (λ_ _=>rfl))) (zad zaJ (zap (dv 1) zab (λ_ _=>rfl)) (zap (dv 0) zab (λ_ _=>rfl))) (zaE _)))),λds S Q ex h=>by
  unfold ziO at h
  split at h
  ·obtain⟨⟨h1,h2⟩,h⟩:=h
   exact⟨h1,h2,h⟩
  ·exact h.elim⟩)
def zvx  (zkK:Df K mg "rounded_up" zk1 zek):Fk P w K mg base 1 "rounded_up" zek zeh:=
 zkK.mk' (zat (k:=0) zkK.F zwH (zyg) λcdv A outer s H E hr=>⟨_,(zae (zaq (zgB zgb (zad zdr (zgB zgb (dv 0)) (dv 1))))),λds S Q ex h=>by
  unfold zeh at h
  split at h
  ·exact h
  ·exact h.elim⟩)
def zwJ  (zjr:Df K mg "span_of" zm8 zhm)(zdm:Fk P w K mg base 1 "rounded_up" zek zeh)(zoL:Fk P w K mg base 1 "less" ziA ziO):Fk P w K mg base 2 "span_of" zhm zgH:=
 zjr.mk' (zat (k:=1) zjr.F ztU (zvP) λcdv A outer s H E hr=>⟨_,(zaf (zaI (zce (zak zoL hr (zaa (dv 1) (zaa (dv 0) zac)))) (zae zwB) zaN) (zae (zaq (zaR (zaa (zad zdr (zad zaJ (zap (dv 0) zab (λ_ _=>rfl)) (dv 2)) (zap (dv 0) zab (λ_ _=>rfl))) (zaa (zak zdm hr (zaa (zad zaJ (zap (dv 1) zab (λ_ _=>rfl)) (dv 2)) (zaa (zap (dv 1) zab (λ_ _=>rfl)) zac))) zac)))))),λds S Q ex h=>by
  unfold zgH at h
  split at h
  ·obtain⟨⟨⟨m1,m2⟩,nl,m3,m4,f1,f2⟩,h⟩:=h
   refine⟨⟨m1,m2⟩,ifF (decide_eq_false nl) ?_⟩
   exact⟨m3,f1,m4,f2,h⟩
  ·exact h.elim⟩)
def zun  (zal:zbT K mg)(zan:zbV K mg)(zag:zbE K mg)(zah:zbG K mg)(zai:zbF K mg)(zaj:zbI K mg)(zj0:Dm K zal.C "forth" "Number.forth" zkf zgC)(zpn:Fk P w K mg base 2 "span_of" zhm zgH):Fm P w K mg base 3 zal.C "forth" zgC (zeO zal.C zan.C zag.C zah.C zai.C zaj.C):=
 zj0.mk' (zat (k:=2) zj0.F zpy (zuG zal.C zan.C zag.C zah.C zai.C zaj.C) λcdv A outer s H E hr=>⟨_,(zaf (zax (i:=4) zpy.nd rfl (Or.inl rfl) (zaR (zaa (za9 zal.cl zal.n_top (dv 0)) (zaa (za9 zal.cl zal.n_bottom (dv 0)) zac)))) (zae (zaq (zak zpn hr (zaa (dv 4) (zaa (dv 4) (zaa (dv 3) zac))))))),λds S Q ex h=>by
  unfold zeO at h
  split at h
  ·rename_i n w p g
   obtain⟨x,y,vs,bs,hn,hw,hp,ok,s1,hg,h⟩:=h
   have sg:Sz 21 g:=Sz.of 1000000 (by omega)
   have sx:Sz 31 x:=Sz.of (10^9) ok.2.2
   have sy:Sz 31 y:=Sz.of (10^9) (by have:=ok.1; omega)
   refine zba (n:=n) (λK hK=>by exact hK) hn rfl ?_
   refine zba (n:=n) (λK hK=>by exact hK) hn rfl ?_
   exact⟨⟨⟨zaF sx sy,zaF sx sy⟩,by omega,zaF sx sg,zaF sx sg,sy.fd (by have:=ok.1; omega),sy.fd (by have:=ok.1; omega)⟩,h⟩
  ·exact h.elim⟩)
def zsu  (zan:zbV K mg)(zal:zbT K mg)(zag:zbE K mg)(zah:zbG K mg)(zai:zbF K mg)(zaj:zbI K mg)(zmg:Dm K zan.C "forth" "Unknown.forth" zkO zg3):Fm P w K mg base 1 zan.C "forth" zg3 (zeZ zal.C zan.C zag.C zah.C zai.C zaj.C):=
 zmg.mk' (zat (k:=0) zmg.F zs9 (zxW zal.C zan.C zag.C zah.C zai.C zaj.C) λcdv A outer s H E hr=>⟨_,(zae (zaq (zaD (dv 2) (za9 zan.cl zan.n_place (dv 0)) (λ_ _=>rfl)))),λds S Q ex h=>by
  unfold zeZ at h
  split at h
  ·rename_i n w p g
   obtain⟨k,vs,bs,hn,hw,hp,ok,s1,hg,h⟩:=h
   refine zba (n:=n) (λK hK=>by exact hK) hn rfl ?_
   exact zaC (o:=.lst (bs.map frD)) hp (zaY ok) h
  ·exact h.elim⟩)
def zuz  (zmB:Df K mg "add_spans" zl6 zdt):Fk P w K mg base 1 "add_spans" zdt zdj:=
 zmB.mk' (zat (k:=0) zmB.F zyh (ztI) λcdv A outer s H E hr=>⟨_,(zae (zaq (zaR (zaa (zad zaO (zap (dv 0) zab (λ_ _=>rfl)) (zap (dv 1) zab (λ_ _=>rfl))) (zaa (zad zaO (zap (dv 0) zab (λ_ _=>rfl)) (zap (dv 1) zab (λ_ _=>rfl))) zac))))),λds S Q ex h=>by
  unfold zdj at h
  split at h
  ·exact h
  ·exact h.elim⟩)
def zuW  (zag:zbE K mg)(zal:zbT K mg)(zan:zbV K mg)(zah:zbG K mg)(zai:zbF K mg)(zaj:zbI K mg)(zmW:Dm K zag.C "forth" "Plus.forth" zlF zh0)(zb4:Fk P w K mg base 1 "add_spans" zdt zdj):Fm P w K mg base 2 zag.C "forth" zh0 (zfn zal.C zan.C zag.C zah.C zai.C zaj.C):=
 zmW.mk' (zat (k:=1) zmW.F zxD (zsn zal.C zan.C zag.C zah.C zai.C zaj.C) λcdv A outer s H E hr=>⟨_,(zae (zaq (zak zb4 hr (zaa (zaD (dv 1) (za9 zag.cl zag.n_one (dv 0)) (λ_ _=>rfl)) (zaa (zaD (dv 1) (za9 zag.cl zag.n_other (dv 0)) (λ_ _=>rfl)) zac))))),λds S Q ex h=>by
  unfold zfn at h
  split at h
  ·rename_i n w p g
   obtain⟨i,j,vs,bs,hn,hw,hp,ok,s1,hg,h⟩:=h
   refine zba (n:=n) (λK hK=>by exact hK) hn rfl ?_
   refine zaC (o:=.lst (vs.map frD)) hw (zaY ok.1) ?_
   refine zba (n:=n) (λK hK=>by exact hK) hn rfl ?_
   refine zaC (o:=.lst (vs.map frD)) hw (zaY ok.2) ?_
   exact h
  ·exact h.elim⟩)
def zyU  (zkg:Df K mg "take_spans" zmQ zd0):Fk P w K mg base 1 "take_spans" zd0 zdA:=
 zkg.mk' (zat (k:=0) zkg.F zxI (zs1) λcdv A outer s H E hr=>⟨_,(zae (zaq (zaR (zaa (zad zcg (zap (dv 0) zab (λ_ _=>rfl)) (zap (dv 1) zab (λ_ _=>rfl))) (zaa (zad zcg (zap (dv 0) zab (λ_ _=>rfl)) (zap (dv 1) zab (λ_ _=>rfl))) zac))))),λds S Q ex h=>by
  unfold zdA at h
  split at h
  ·exact h
  ·exact h.elim⟩)
def zsh  (zah:zbG K mg)(zal:zbT K mg)(zan:zbV K mg)(zag:zbE K mg)(zai:zbF K mg)(zaj:zbI K mg)(zlB:Dm K zah.C "forth" "Minus.forth" zlq zg6)(zcu:Fk P w K mg base 1 "take_spans" zd0 zdA):Fm P w K mg base 2 zah.C "forth" zg6 (zeP zal.C zan.C zag.C zah.C zai.C zaj.C):=
 zlB.mk' (zat (k:=1) zlB.F zud (zrN zal.C zan.C zag.C zah.C zai.C zaj.C) λcdv A outer s H E hr=>⟨_,(zae (zaq (zak zcu hr (zaa (zaD (dv 1) (za9 zah.cl zah.n_one (dv 0)) (λ_ _=>rfl)) (zaa (zaD (dv 1) (za9 zah.cl zah.n_other (dv 0)) (λ_ _=>rfl)) zac))))),λds S Q ex h=>by
  unfold zeP at h
  split at h
  ·rename_i n w p g
   obtain⟨i,j,vs,bs,hn,hw,hp,ok,s1,hg,h⟩:=h
   refine zba (n:=n) (λK hK=>by exact hK) hn rfl ?_
   refine zaC (o:=.lst (vs.map frD)) hw (zaY ok.1) ?_
   refine zba (n:=n) (λK hK=>by exact hK) hn rfl ?_
   refine zaC (o:=.lst (vs.map frD)) hw (zaY ok.2) ?_
   exact h
  ·exact h.elim⟩)
def ztE  (zl2:Df K mg "mul_spans" zmf zdK)(zdm:Fk P w K mg base 1 "rounded_up" zek zeh)(zcm:mg "max"=none)(zbJ:mg "min"=none):Fk P w K mg base 2 "mul_spans" zdK zdT:=
 zl2.mk' (zb9 (zat (k:=1) zl2.F zrC (zcd (zus)) λcdv A outer s H E hr=>⟨_,(zaf (zax (i:=3) zrC.nd rfl (Or.inl rfl) (zb2 (zaa (zad zaJ (zap (dv 0) zab (λ_ _=>rfl)) (zap (dv 1) zab (λ_ _=>rfl))) (zaa (zad zaJ (zap (dv 0) zab (λ_ _=>rfl)) (zap (dv 1) zab (λ_ _=>rfl))) (zaa (zad zaJ (zap (dv 0) zab (λ_ _=>rfl)) (zap (dv 1) zab (λ_ _=>rfl))) (zaa (zad zaJ (zap (dv 0) zab (λ_ _=>rfl)) (zap (dv 1) zab (λ_ _=>rfl))) zac)))))) (zae (zaq (zaR (zaa (zad zdr (zaM (zaQ (zku rfl)) rfl zbJ Boot.«min» (zaa (dv 3) zac)) (dv 2)) (zaa (zak zdm hr (zaa (zaM (zaQ (zoX rfl)) rfl zcm Boot.«max» (zaa (dv 3) zac)) (zaa (dv 2) zac))) zac)))))),λds S Q ex h=>by
  obtain⟨Q0,ex0,rfl,rfl,h⟩:=h
  unfold zdT at h
  split at h
  ·rename_i a b c d g
   obtain⟨⟨⟨m1,m2,m3,m4⟩,hg⟩,h⟩:=h
   refine⟨m1,m2,m3,m4,?_⟩
   apply zdW
   ·exact zav _ _
   ·rfl
   ·simp
   intro mn n1 n2
   refine⟨hg,?_⟩
   apply zdW
   ·exact zav _ _
   ·rfl
   ·simp
   intro mx x1 x2
   refine⟨hg,?_⟩
   exact⟨Pre.refl.push,zf0,h mn mx (zfo.of n1 n2 x1 x2)⟩
  ·exact h.elim⟩))
def zys  (zai:zbF K mg)(zal:zbT K mg)(zan:zbV K mg)(zag:zbE K mg)(zah:zbG K mg)(zaj:zbI K mg)(zjE:Dm K zai.C "forth" "Times.forth" zi1 zg0)(zcs:Fk P w K mg base 2 "mul_spans" zdK zdT):Fm P w K mg base 3 zai.C "forth" zg0 (zfU zal.C zan.C zag.C zah.C zai.C zaj.C):=
 zjE.mk' (zat (k:=2) zjE.F zyy (zw4 zal.C zan.C zag.C zah.C zai.C zaj.C) λcdv A outer s H E hr=>⟨_,(zae (zaq (zak zcs hr (zaa (zaD (dv 1) (za9 zai.cl zai.n_one (dv 0)) (λ_ _=>rfl)) (zaa (zaD (dv 1) (za9 zai.cl zai.n_other (dv 0)) (λ_ _=>rfl)) (zaa (dv 3) zac)))))),λds S Q ex h=>by
  unfold zfU at h
  split at h
  ·rename_i n w p g
   obtain⟨i,j,vs,bs,hn,hw,hp,ok,s1,hg,h⟩:=h
   refine zba (n:=n) (λK hK=>by exact hK) hn rfl ?_
   refine zaC (o:=.lst (vs.map frD)) hw (zaY ok.1) ?_
   refine zba (n:=n) (λK hK=>by exact hK) hn rfl ?_
   refine zaC (o:=.lst (vs.map frD)) hw (zaY ok.2) ?_
   have a:=s1.at ok.1
   have b:=s1.at ok.2
   have sg:Sz 21 g:=Sz.of 1000000 (by omega)
   refine⟨⟨⟨zaF a.2.1 b.2.1,zaF a.2.1 b.2.2,zaF a.2.2 b.2.1,zaF a.2.2 b.2.2⟩,sg.fd (by omega)⟩,λmn mx hc=>?_⟩
   obtain⟨rfl,rfl⟩:=hc.eq
   exact h
  ·exact h.elim⟩)
def zrW  (zjY:Df K mg "raised" zlP zhV)(zaG:mg "range"=none):Fk P w K mg base 1 "raised" zhV zgy:=
 zjY.mk' (zat (k:=0) zjY.F zlH (zwi) λcdv A outer s H E hr=>⟨_,(zaf (zax (i:=2) zlH.nd rfl (Or.inl rfl) zab) (zaf (zdp (i:=3) PassesOwn.never rfl zlH.nd rfl (Or.inl rfl) rfl zaG (zaa (dv 1) zac) (zae (zax (i:=2) zlH.nd rfl (Or.inl rfl) (zad zaJ (dv 2) (dv 0))))) (zae (zaq (dv 2))))),λds S Q ex h=>by
  unfold zgy at h
  split at h
  ·rename_i x n
   obtain⟨⟨h0,h6,sx⟩,h⟩:=h
   refine⟨⟨by omega,by omega⟩,λk dl' S'=>S'=S∧k≤n.toNat∧∃(z:Int) (o:Option D),z=x^k∧dl'=[some (.int x),some (.int n),some (.int z),o],⟨rfl,Vaj _,1,none,(VaZ x).symm,rfl⟩,?_⟩
   rintro k dl' S' ⟨rfl,hk,z,o,rfl,rfl⟩
   refine zcx (λc=>?_) (λc=>?_)
   ·exact⟨zaF (m:=12001) (n:=2000) ((sx.pow k).mono (by omega)) sx,rfl,by omega,_,_,(Vam x k).symm,rfl⟩
   ·have e:k=n.toNat:=by omega
    subst e
    exact h
  ·exact h.elim⟩)
def zrM  (zm3:Df K mg "raise_span" zic zfL)(zdm:Fk P w K mg base 1 "rounded_up" zek zeh)(zks:Fk P w K mg base 1 "raised" zhV zgy)(zcm:mg "max"=none)(zbJ:mg "min"=none):Fk P w K mg base 2 "raise_span" zfL zft:=
 zm3.mk' (zb9 (zat (k:=1) zm3.F zmN (zcd (zsC)) λcdv A outer s H E hr=>⟨_,(zaf (zax (i:=3) zmN.nd rfl (Or.inl rfl) (zb2 (zaa (zap (dv 0) zab (λ_ _=>rfl)) (zaa (zap (dv 0) zab (λ_ _=>rfl)) zac)))) (zaf (zaI (zvV zdZ zdZ (zap (dv 0) zab (λ_ _=>rfl)) zab (zap (dv 0) zab (λ_ _=>rfl))) (zae (zbr (zca (dv 3) zab))) zaN) (zaf (zkl (x:="place") (N:=["grid","many"]) (caps:=[2,1]) (ar:=zam zic) rfl rfl csc rfl (by decide) (i:=4) zmN.nd rfl rfl (dv 3) (λ_ _ _ _ _ _=>zbu) (λ_ _ _ _ _ _=>(zad zaJ (zak zks hr (zaa (dv 0) (zaa (dv 2) zac))) (dv 1)))) (zaf (zax (i:=5) zmN.nd rfl (Or.inl rfl) (zak zks hr (zaa (dv 2) (zaa (dv 1) zac)))) (zae (zaq (zaR (zaa (zad zdr (zaM (zaQ (zku rfl)) rfl zbJ Boot.«min» (zaa (dv 4) zac)) (dv 5)) (zaa (zak zdm hr (zaa (zaM (zaQ (zoX rfl)) rfl zcm Boot.«max» (zaa (dv 4) zac)) (zaa (dv 5) zac))) zac))))))))),λds S Q ex h=>by
  obtain⟨Q0,ex0,rfl,rfl,h⟩:=h
  unfold zft at h
  split at h
  ·rename_i a b n g
   obtain⟨⟨n2,n6,za,zb,hg,zg⟩,h⟩:=h
   refine ifD (λc1=>?_) (λc1=>?_)
   ·refine ifD (λc2=>?_) (λc2=>?_)
    ·refine zd6 (n:=S.length) (λK hK=>hK) (zav _ _) (λK hK=>hK) (by simp) ?_
     refine zcZ (n:=S.length) (o:=.lst [.int a,.int b,.int 0]) (λd=>match d with | .int v=>.int (v^n.toNat*g) | _=>.non) (λK hK=>hK) (by simp) (by simp[zao]) (λx hx S2 K _ hK=>?_) ?_
     ·have hx':x=.int a∨x=.int b∨x=.int 0:=by simpa [zao] using hx
      rcases hx' with rfl | rfl | rfl
      all_goals exact⟨⟨by omega,n6,by first | exact za.mono (by decide) | exact zb.mono (by decide) | exact Sz.of (n:=2000) 0 (by decide)⟩,zaF (m:=12001) (n:=1400) (((Sz.mono (n:=2000) (by first | exact za | exact zb | exact Sz.of (n:=1400) 0 (by decide)) (by decide)).pow _).mono (by omega)) zg,hK⟩
     refine⟨⟨by omega,n6,zg.mono (by decide)⟩,?_⟩
     have gp:(0:Int)<g^n.toNat:=VaJ (by omega)
     have zgp:Sz 8401 (g^n.toNat):=(zg.pow _).mono (by omega)
     apply zdW
     ·exact zav _ _
     ·rfl
     ·simp
     intro mn q1 q2
     refine⟨zgp.fd gp,?_⟩
     apply zdW
     ·exact zav _ _
     ·rfl
     ·simp
     intro mx x1 x2
     refine⟨zgp.fd gp,?_⟩
     obtain⟨m,M,hP,rfl,rfl⟩:=zdF.of (n:=n.toNat) hg (.inr ⟨rfl,c1,c2⟩) (by omega) q1 q2 x1 x2
     have r:=h m M hP
     rw[← zfm hg (by omega),← zfm hg (by omega),VaU] at r
     exact⟨(λi o e=>zcV (by rw[List.set_append_right _ _ (Vaa _),Val (Vad.mp e).1]; exact e)),zf0,r⟩
    ·skip
     refine zcZ (n:=S.length) (o:=.lst [.int a,.int b]) (λd=>match d with | .int v=>.int (v^n.toNat*g) | _=>.non) (λK hK=>hK) (zav _ _) (by simp[zao]) (λx hx S2 K _ hK=>?_) ?_
     ·have hx':x=.int a∨x=.int b:=by simpa [zao] using hx
      rcases hx' with rfl | rfl
      all_goals exact⟨⟨by omega,n6,by first | exact za.mono (by decide) | exact zb.mono (by decide) | exact Sz.of (n:=2000) 0 (by decide)⟩,zaF (m:=12001) (n:=1400) (((Sz.mono (n:=2000) (by first | exact za | exact zb | exact Sz.of (n:=1400) 0 (by decide)) (by decide)).pow _).mono (by omega)) zg,hK⟩
     refine⟨⟨by omega,n6,zg.mono (by decide)⟩,?_⟩
     have gp:(0:Int)<g^n.toNat:=VaJ (by omega)
     have zgp:Sz 8401 (g^n.toNat):=(zg.pow _).mono (by omega)
     apply zdW
     ·exact zav _ _
     ·rfl
     ·simp
     intro mn q1 q2
     refine⟨zgp.fd gp,?_⟩
     apply zdW
     ·exact zav _ _
     ·rfl
     ·simp
     intro mx x1 x2
     refine⟨zgp.fd gp,?_⟩
     obtain⟨m,M,hP,rfl,rfl⟩:=zdF.of (n:=n.toNat) hg (.inl ⟨rfl,λc=>c2 c.2⟩) (by omega) q1 q2 x1 x2
     have r:=h m M hP
     rw[← zfm hg (by omega),← zfm hg (by omega),VaU] at r
     exact⟨Pre.refl.push.push,zf0,r⟩
   ·skip
    refine zcZ (n:=S.length) (o:=.lst [.int a,.int b]) (λd=>match d with | .int v=>.int (v^n.toNat*g) | _=>.non) (λK hK=>hK) (zav _ _) (by simp[zao]) (λx hx S2 K _ hK=>?_) ?_
    ·have hx':x=.int a∨x=.int b:=by simpa [zao] using hx
     rcases hx' with rfl | rfl
     all_goals exact⟨⟨by omega,n6,by first | exact za.mono (by decide) | exact zb.mono (by decide) | exact Sz.of (n:=2000) 0 (by decide)⟩,zaF (m:=12001) (n:=1400) (((Sz.mono (n:=2000) (by first | exact za | exact zb | exact Sz.of (n:=1400) 0 (by decide)) (by decide)).pow _).mono (by omega)) zg,hK⟩
    refine⟨⟨by omega,n6,zg.mono (by decide)⟩,?_⟩
    have gp:(0:Int)<g^n.toNat:=VaJ (by omega)
    have zgp:Sz 8401 (g^n.toNat):=(zg.pow _).mono (by omega)
    apply zdW
    ·exact zav _ _
    ·rfl
    ·simp
    intro mn q1 q2
    refine⟨zgp.fd gp,?_⟩
    apply zdW
    ·exact zav _ _
    ·rfl
    ·simp
    intro mx x1 x2
    refine⟨zgp.fd gp,?_⟩
    obtain⟨m,M,hP,rfl,rfl⟩:=zdF.of (n:=n.toNat) hg (.inl ⟨rfl,λc=>c1 c.1⟩) (by omega) q1 q2 x1 x2
    have r:=h m M hP
    rw[← zfm hg (by omega),← zfm hg (by omega),VaU] at r
    exact⟨Pre.refl.push.push,zf0,r⟩
  ·exact h.elim⟩))
def zrU  (zaj:zbI K mg)(zal:zbT K mg)(zan:zbV K mg)(zag:zbE K mg)(zah:zbG K mg)(zai:zbF K mg)(zmL:Dm K zaj.C "forth" "Power.forth" znk zf3)(zfS:Fk P w K mg base 2 "raise_span" zfL zft):Fm P w K mg base 3 zaj.C "forth" zf3 (ze7 zal.C zan.C zag.C zah.C zai.C zaj.C):=
 zmL.mk' (zat (k:=2) zmL.F zuH (zxP zal.C zan.C zag.C zah.C zai.C zaj.C) λcdv A outer s H E hr=>⟨_,(zae (zaq (zak zfS hr (zaa (zaD (dv 1) (za9 zaj.cl zaj.n_one (dv 0)) (λ_ _=>rfl)) (zaa (za9 zaj.cl zaj.n_many (dv 0)) (zaa (dv 3) zac)))))),λds S Q ex h=>by
  unfold ze7 at h
  split at h
  ·rename_i n w p g
   obtain⟨i,m,vs,bs,hn,hw,hp,ok,s1,hg,h⟩:=h
   refine zba (n:=n) (λK hK=>by exact hK) hn rfl ?_
   refine zaC (o:=.lst (vs.map frD)) hw (zaY ok.1) ?_
   refine zba (n:=n) (λK hK=>by exact hK) hn rfl ?_
   have a:=s1.at ok.1
   have sg:Sz 21 g:=Sz.of 1000000 (by omega)
   refine⟨⟨by have:=ok.2.1; omega,ok.2.2,a.2.1,a.2.2,hg.1,sg.mono (by decide)⟩,λm' M' hP=>?_⟩
   obtain⟨rfl,rfl⟩:=hP.eq (by have:=ok.2.1; omega)
   exact h
  ·exact h.elim⟩)
def zs4  (zaj:zbI K mg)(zi6:Dm K zaj.C "__init__" "Power.__init__" zkD zhX):Fm P w K mg base 1 zaj.C "__init__" zhX (ziU zaj.C):=
 zi6.mk' (zat (k:=0) zi6.F zu8 (zwd zaj.C) λcdv A outer s H E hr=>⟨_,(zaf (zcM zaj.cl zaj.n_one (dv 0) (dv 1)) (zae (zcM zaj.cl zaj.n_many (dv 0) (dv 2)))),λds S Q ex h=>by
  unfold ziU at h
  split at h
  ·rename_i n x y
   obtain⟨T,rfl,rfl,h⟩:=h
   refine zcR (v:=x) (S1:=T++[Ob.ins zaj.C []]) (S2:=T++[Ob.ins zaj.C []]) (n:=T.length) (fs:=[]) (λK hK=>by exact hK) (λK hK=>by exact hK) (zcT ..) (by simp) ?_
   rw[zcO]
   refine zcR (v:=y) (S1:=T++[Ob.ins zaj.C [("one",x)]]) (S2:=T++[Ob.ins zaj.C [("one",x)]]) (n:=T.length) (fs:=[("one",x)]) (λK hK=>by exact hK) (λK hK=>by exact hK) (zcT ..) (by simp) ?_
   rw[zcO]
   exact h
  ·exact h.elim⟩)
def zu1  (zal:zbT K mg)(zi2:Dm K zal.C "__init__" "Number.__init__" zm7 zgJ):Fm P w K mg base 1 zal.C "__init__" zgJ (zhG zal.C):=
 zi2.mk' (zat (k:=0) zi2.F zyq (zwA zal.C) λcdv A outer s H E hr=>⟨_,(zaf (zcM zal.cl zal.n_top (dv 0) (dv 1)) (zae (zcM zal.cl zal.n_bottom (dv 0) (dv 2)))),λds S Q ex h=>by
  unfold zhG at h
  split at h
  ·rename_i n x y
   obtain⟨T,rfl,rfl,h⟩:=h
   refine zcR (v:=x) (S1:=T++[Ob.ins zal.C []]) (S2:=T++[Ob.ins zal.C []]) (n:=T.length) (fs:=[]) (λK hK=>by exact hK) (λK hK=>by exact hK) (zcT ..) (by simp) ?_
   rw[zcO]
   refine zcR (v:=y) (S1:=T++[Ob.ins zal.C [("top",x)]]) (S2:=T++[Ob.ins zal.C [("top",x)]]) (n:=T.length) (fs:=[("top",x)]) (λK hK=>by exact hK) (λK hK=>by exact hK) (zcT ..) (by simp) ?_
   rw[zcO]
   exact h
  ·exact h.elim⟩)
def zw0  (zan:zbV K mg)(zmC:Dm K zan.C "__init__" "Unknown.__init__" zjk zgF):Fm P w K mg base 1 zan.C "__init__" zgF (zie zan.C):=
 zmC.mk' (zat (k:=0) zmC.F zvr (zt1 zan.C) λcdv A outer s H E hr=>⟨_,(zae (zcM zan.cl zan.n_place (dv 0) (dv 1))),λds S Q ex h=>by
  unfold zie at h
  split at h
  ·rename_i n x
   obtain⟨T,rfl,rfl,h⟩:=h
   refine zcR (v:=x) (S1:=T++[Ob.ins zan.C []]) (S2:=T++[Ob.ins zan.C []]) (n:=T.length) (fs:=[]) (λK hK=>by exact hK) (λK hK=>by exact hK) (zcT ..) (by simp) ?_
   rw[zcO]
   exact h
  ·exact h.elim⟩)
def zuS  (zag:zbE K mg)(zmO:Dm K zag.C "__init__" "Pair.__init__" zlx zhf):Fm P w K mg base 1 zag.C "__init__" zhf (zgd zag.C):=
 zmO.mk' (zat (k:=0) zmO.F zvs (zsU zag.C) λcdv A outer s H E hr=>⟨_,(zaf (zcM zag.cl zag.n_one (dv 0) (dv 1)) (zae (zcM zag.cl zag.n_other (dv 0) (dv 2)))),λds S Q ex h=>by
  unfold zgd at h
  split at h
  ·rename_i n x y
   obtain⟨T,rfl,rfl,h⟩:=h
   refine zcR (v:=x) (S1:=T++[Ob.ins zag.C []]) (S2:=T++[Ob.ins zag.C []]) (n:=T.length) (fs:=[]) (λK hK=>by exact hK) (λK hK=>by exact hK) (zcT ..) (by simp) ?_
   rw[zcO]
   refine zcR (v:=y) (S1:=T++[Ob.ins zag.C [("one",x)]]) (S2:=T++[Ob.ins zag.C [("one",x)]]) (n:=T.length) (fs:=[("one",x)]) (λK hK=>by exact hK) (λK hK=>by exact hK) (zcT ..) (by simp) ?_
   rw[zcO]
   exact h
  ·exact h.elim⟩)
def zxY  (zah:zbG K mg)(zmj:Dm K zah.C "__init__" "Pair.__init__" zky zim):Fm P w K mg base 1 zah.C "__init__" zim (zhD zah.C):=
 zmj.mk' (zat (k:=0) zmj.F zsD (ztV zah.C) λcdv A outer s H E hr=>⟨_,(zaf (zcM zah.cl zah.n_one (dv 0) (dv 1)) (zae (zcM zah.cl zah.n_other (dv 0) (dv 2)))),λds S Q ex h=>by
  unfold zhD at h
  split at h
  ·rename_i n x y
   obtain⟨T,rfl,rfl,h⟩:=h
   refine zcR (v:=x) (S1:=T++[Ob.ins zah.C []]) (S2:=T++[Ob.ins zah.C []]) (n:=T.length) (fs:=[]) (λK hK=>by exact hK) (λK hK=>by exact hK) (zcT ..) (by simp) ?_
   rw[zcO]
   refine zcR (v:=y) (S1:=T++[Ob.ins zah.C [("one",x)]]) (S2:=T++[Ob.ins zah.C [("one",x)]]) (n:=T.length) (fs:=[("one",x)]) (λK hK=>by exact hK) (λK hK=>by exact hK) (zcT ..) (by simp) ?_
   rw[zcO]
   exact h
  ·exact h.elim⟩)
def zxN  (zai:zbF K mg)(zjz:Dm K zai.C "__init__" "Pair.__init__" zjS zh1):Fm P w K mg base 1 zai.C "__init__" zh1 (zgX zai.C):=
 zjz.mk' (zat (k:=0) zjz.F zuO (zx6 zai.C) λcdv A outer s H E hr=>⟨_,(zaf (zcM zai.cl zai.n_one (dv 0) (dv 1)) (zae (zcM zai.cl zai.n_other (dv 0) (dv 2)))),λds S Q ex h=>by
  unfold zgX at h
  split at h
  ·rename_i n x y
   obtain⟨T,rfl,rfl,h⟩:=h
   refine zcR (v:=x) (S1:=T++[Ob.ins zai.C []]) (S2:=T++[Ob.ins zai.C []]) (n:=T.length) (fs:=[]) (λK hK=>by exact hK) (λK hK=>by exact hK) (zcT ..) (by simp) ?_
   rw[zcO]
   refine zcR (v:=y) (S1:=T++[Ob.ins zai.C [("one",x)]]) (S2:=T++[Ob.ins zai.C [("one",x)]]) (n:=T.length) (fs:=[("one",x)]) (λK hK=>by exact hK) (λK hK=>by exact hK) (zcT ..) (by simp) ?_
   rw[zcO]
   exact h
  ·exact h.elim⟩)
def zuZ  (zaj:zbI K mg)(zai:zbF K mg)(zah:zbG K mg)(zag:zbE K mg)(zan:zbV K mg)(zal:zbT K mg)(zlT:Df K mg "kind_of" zjl zeG)(zfi:Fm P w K mg base 1 zaj.C "__init__" zhX (ziU zaj.C))(zfZ:Fm P w K mg base 1 zai.C "__init__" zh1 (zgX zai.C))(ze0:Fm P w K mg base 1 zah.C "__init__" zim (zhD zah.C))(zfK:Fm P w K mg base 1 zag.C "__init__" zhf (zgd zag.C))(zeX:Fm P w K mg base 1 zan.C "__init__" zgF (zie zan.C))(zeF:Fm P w K mg base 1 zal.C "__init__" zgJ (zhG zal.C)):Fk P w K mg base 3 "kind_of" zeG (zeE zal.C zan.C zag.C zah.C zai.C zaj.C):=
 zlT.mk' (zat (k:=2) zlT.F ztM (ztn zal.C zan.C zag.C zah.C zai.C zaj.C) λcdv A outer s H E hr=>⟨_,(zaf (zaI (zaK (zaZ hr) (zap (dv 0) zab (λ_ _=>rfl)) za1 (zaE _)) (zae (zaq (zeI ⟨zal.makes,zeF.m.at_,zeF.m.fn,zal.kp⟩ zeF.ok (hr.mono (by decide)) rfl zal.m zeF.b zeQ (zaa (zap (dv 0) zab (λ_ _=>rfl)) (zaa (zap (dv 0) zab (λ_ _=>rfl)) zac))))) zaN) (zaf (zaI (zaK (zaZ hr) (zap (dv 0) zab (λ_ _=>rfl)) za1 (zaE _)) (zae (zaq (zeI ⟨zan.makes,zeX.m.at_,zeX.m.fn,zan.kp⟩ zeX.ok (hr.mono (by decide)) rfl zan.m zeX.b zeQ (zaa (zap (dv 0) zab (λ_ _=>rfl)) zac)))) zaN) (zaf (zaI (zaK (zaZ hr) (zap (dv 0) zab (λ_ _=>rfl)) za1 (zaE _)) (zae (zaq (zeI ⟨zag.makes,zfK.m.at_,zfK.m.fn,zag.kp⟩ zfK.ok (hr.mono (by decide)) rfl zag.m zfK.b zeQ (zaa (zap (dv 0) zab (λ_ _=>rfl)) (zaa (zap (dv 0) zab (λ_ _=>rfl)) zac))))) zaN) (zaf (zaI (zaK (zaZ hr) (zap (dv 0) zab (λ_ _=>rfl)) za1 (zaE _)) (zae (zaq (zeI ⟨zah.makes,ze0.m.at_,ze0.m.fn,zah.kp⟩ ze0.ok (hr.mono (by decide)) rfl zah.m ze0.b zeQ (zaa (zap (dv 0) zab (λ_ _=>rfl)) (zaa (zap (dv 0) zab (λ_ _=>rfl)) zac))))) zaN) (zaf (zaI (zaK (zaZ hr) (zap (dv 0) zab (λ_ _=>rfl)) za1 (zaE _)) (zae (zaq (zeI ⟨zai.makes,zfZ.m.at_,zfZ.m.fn,zai.kp⟩ zfZ.ok (hr.mono (by decide)) rfl zai.m zfZ.b zeQ (zaa (zap (dv 0) zab (λ_ _=>rfl)) (zaa (zap (dv 0) zab (λ_ _=>rfl)) zac))))) zaN) (zae (zaq (zeI ⟨zaj.makes,zfi.m.at_,zfi.m.fn,zaj.kp⟩ zfi.ok (hr.mono (by decide)) rfl zaj.m zfi.b zeQ (zaa (zap (dv 0) zab (λ_ _=>rfl)) (zaa (zap (dv 0) zab (λ_ _=>rfl)) zac)))))))))),λds S Q ex h=>by
  unfold zeE at h
  split at h
  ·obtain⟨v,rfl,h⟩:=h
   cases v <;> exact⟨S,rfl,rfl,rfl,h⟩
  ·exact h.elim⟩)
def zta  (zaj:zbI K mg)(zai:zbF K mg)(zah:zbG K mg)(zag:zbE K mg)(zan:zbV K mg)(zal:zbT K mg)(zjs:Df K mg "worths" zkV zed)(znD:Fm P w K mg base 3 zaj.C "forth" zf3 (ze7 zal.C zan.C zag.C zah.C zai.C zaj.C))(znT:Fm P w K mg base 3 zai.C "forth" zg0 (zfU zal.C zan.C zag.C zah.C zai.C zaj.C))(znR:Fm P w K mg base 2 zah.C "forth" zg6 (zeP zal.C zan.C zag.C zah.C zai.C zaj.C))(zo3:Fm P w K mg base 2 zag.C "forth" zh0 (zfn zal.C zan.C zag.C zah.C zai.C zaj.C))(zn9:Fm P w K mg base 1 zan.C "forth" zg3 (zeZ zal.C zan.C zag.C zah.C zai.C zaj.C))(zoa:Fm P w K mg base 3 zal.C "forth" zgC (zeO zal.C zan.C zag.C zah.C zai.C zaj.C))(zeB:Fk P w K mg base 3 "kind_of" zeG (zeE zal.C zan.C zag.C zah.C zai.C zaj.C)):Fk P w K mg base 4 "worths" zed zep:=
 zjs.mk' (zat (k:=3) zjs.F znN (zsc) λcdv A outer s H E hr=>⟨_,(zaf (zax (i:=3) znN.nd rfl (Or.inl rfl) (zb2 zac)) (zaf (ze8 (i:=4) PassesOwn.never rfl znN.nd rfl (Or.inl rfl) (dv 0) (zae (zbr (zca (dv 3) (zrd (zak zeB hr (zaa (dv 4) zac)) (zcE zal.cl zoa (hr.mono (by decide)) (zcE zan.cl zn9 (hr.mono (by decide)) (zcE zag.cl zo3 (hr.mono (by decide)) (zcE zah.cl znR (hr.mono (by decide)) (zcE zai.cl znT (hr.mono (by decide)) (zcE zaj.cl znD (hr.mono (by decide)) zqE)))))) zfD (zaa (dv 3) (zaa (dv 1) (zaa (dv 2) zac)))))))) (zae (zaq (dv 3))))),λds S Q ex h=>by
  unfold zep at h
  split at h
  ·rename_i a b g
   obtain⟨ns,ws,bs,ha,hb,net,sb,hg,hl,h⟩:=h
   have disp:∀v:Nd,∃C fs sd,v.ob zal.C zan.C zag.C zah.C zai.C zaj.C=.ins C fs∧(C,sd)∈[(zal.C,zeO zal.C zan.C zag.C zah.C zai.C zaj.C),(zan.C,zeZ zal.C zan.C zag.C zah.C zai.C zaj.C),(zag.C,zfn zal.C zan.C zag.C zah.C zai.C zaj.C),(zah.C,zeP zal.C zan.C zag.C zah.C zai.C zaj.C),(zai.C,zfU zal.C zan.C zag.C zah.C zai.C zaj.C),(zaj.C,ze7 zal.C zan.C zag.C zah.C zai.C zaj.C)]∧fs.lookup ("forth":Str)=none∧∀(n w p:Nat) (g:Int) (S:Sto) (Q:DK) (ex:Addr→Sto→Prop) (vs bs:List (Int×Int)),S[n]?=some (v.ob zal.C zan.C zag.C zah.C zai.C zaj.C)→S[w]?=some (.lst (vs.map frD))→S[p]?=some (.lst (bs.map frD))→v.ok vs.length bs.length→Spn 1400 vs→(1≤g∧g≤1000000)→Q (frD (v.fw vs bs g)) S→sd [.ref n,.ref w,.ref p,.int g] S Q ex:=by
    intro v
    cases v with
    | number x y=>exact⟨_,_,_,rfl,(.head _),rfl,λn w p g S Q ex vs bs a1 a2 a3 a4 a5 a6 q=>⟨x,y,vs,bs,a1,a2,a3,a4,a5,a6,q⟩⟩
    | unknown k=>exact⟨_,_,_,rfl,(.tail _ (.head _)),rfl,λn w p g S Q ex vs bs a1 a2 a3 a4 a5 a6 q=>⟨k,vs,bs,a1,a2,a3,a4,a5,a6,q⟩⟩
    | plus i j=>exact⟨_,_,_,rfl,(.tail _ (.tail _ (.head _))),rfl,λn w p g S Q ex vs bs a1 a2 a3 a4 a5 a6 q=>⟨i,j,vs,bs,a1,a2,a3,a4,a5,a6,q⟩⟩
    | minus i j=>exact⟨_,_,_,rfl,(.tail _ (.tail _ (.tail _ (.head _)))),rfl,λn w p g S Q ex vs bs a1 a2 a3 a4 a5 a6 q=>⟨i,j,vs,bs,a1,a2,a3,a4,a5,a6,q⟩⟩
    | times i j=>exact⟨_,_,_,rfl,(.tail _ (.tail _ (.tail _ (.tail _ (.head _))))),rfl,λn w p g S Q ex vs bs a1 a2 a3 a4 a5 a6 q=>⟨i,j,vs,bs,a1,a2,a3,a4,a5,a6,q⟩⟩
    | power i m=>exact⟨_,_,_,rfl,(.tail _ (.tail _ (.tail _ (.tail _ (.tail _ (.head _)))))),rfl,λn w p g S Q ex vs bs a1 a2 a3 a4 a5 a6 q=>⟨i,m,vs,bs,a1,a2,a3,a4,a5,a6,q⟩⟩
   have la:=zbg ha
   have lb:=zbg hb
   refine zfu (n:=a) (o:=.lst (ns.map Nd.d)) (λk dl' S'=>k≤ns.length∧Pre S S'∧S'[S.length]?=some (.lst ((zau bs g (ns.take k)).map frD))∧∃u:Option D,dl'=[some (.ref a),some (.ref b),some (.int g),some (.ref S.length),u]) ⟨Vaj _,Pre.refl.push,zav _ _,_,rfl⟩ (λk dl' S' w=>w.2.1 _ _ ha) ?_ ?_
   ·rintro k x dl' S' nx ct ex' ⟨hk,pr,hf,u,rfl⟩ hn
    have ex2:(ns.map Nd.d)[k]?=some x:=ex'
    rw[Vae] at ex2
    obtain⟨v,hv,rfl⟩:=Van.mp ex2
    have hk':=(Vad.mp hv).1
    have ln:(zau bs g (ns.take k)).length=k:=by rw[zcp,Vao]; omega
    have okv:v.ok (zau bs g (ns.take k)).length bs.length:=by rw[ln]; exact(net.ok k v hv).1
    obtain⟨C,fs,sd,eo,hm,hf2,go⟩:=disp v
    have N1:=zav S' (v.ob zal.C zan.C zag.C zah.C zai.C zaj.C)
    refine zsg (n:=S.length) (S1:=S') (S2:=S'++[v.ob zal.C zan.C zag.C zah.C zai.C zaj.C]) (xs:=(zau bs g (ns.take k)).map frD) (y:=frD (v.fw (zau bs g (ns.take k)) bs g)) (λK hK=>by exact hK) hf (λK hK=>?_) (zaz hf) (by rw[Vab,ln]; omega) ?_
    ·refine zpR (n:=S'.length) (C:=C) (sd:=sd) (fs:=fs) (S1:=S'++[v.ob zal.C zan.C zag.C zah.C zai.C zaj.C]) (λK hK=>⟨v,rfl,by exact hK⟩) (by rw[← eo]; exact N1) hm hf2 ?_
     exact go _ _ _ _ _ _ _ (zau bs g (ns.take k)) bs N1 (zaz hf) (zaz (pr _ _ hb)) okv ((zo1 net rfl sb hg k hk).mono (by decide)) hg hK
    ·refine hn _ _ ⟨by omega,zeD (zcP pr _) (Vaa _),?_,_,rfl⟩
     rw[zbU hv,zh2,VaD]
     exact zb5 (zaz hf)
   ·rintro dl' S' ⟨hk,pr,hf,u,rfl⟩
    refine h _ _ pr (Vaa _) ?_
    have e:ns.take (zao (.lst (ns.map Nd.d))).length=ns:=by
     show ns.take (ns.map Nd.d).length=ns
     rw[Vab,VaA]
    rw[e] at hf
    exact hf
  ·exact h.elim⟩)
def zxU  (zal:zbT K mg)(zan:zbV K mg)(zag:zbE K mg)(zah:zbG K mg)(zai:zbF K mg)(zaj:zbI K mg)(zi4:Dm K zal.C "slope" "Number.slope" zmP zha):Fm P w K mg base 1 zal.C "slope" zha (zfp zal.C zan.C zag.C zah.C zai.C zaj.C):=
 zi4.mk' (zat (k:=0) zi4.F zyI (zuc zal.C zan.C zag.C zah.C zai.C zaj.C) λcdv A outer s H E hr=>⟨_,(zae (zaq (zad ztm (zb2 (zaa (zaR (zaa zab (zaa zab zac))) zac)) (dv 3)))),λds S Q ex h=>by
  unfold zfp at h
  split at h
  ·rename_i n w s qi g
   obtain⟨x,y,q,vs,sl,ds,hn,hw,hs,rows,sz,⟨rfl,hq⟩,ok,lv,s1,hg,h⟩:=h
   have sg:Sz 21 g:=Sz.of 1000000 (by omega)
   have fin:∀ys:List D,ys=(zbd vs sl g q (Nd.number x y)).map frD→Q (.ref (S++[Ob.lst [frD (0,0)]]).length) ((S++[.lst [frD (0,0)]])++[.lst ys]):=λys e=>by
    subst e
    exact h _ _ Pre.refl.push.push (by simp) (zav _ _)
   refine zwz (n:=S.length) (k:=((q:Nat):Int)) (xs:=[frD (0,0)]) (zav _ _) ⟨by omega,by omega⟩ (by simp; omega) ?_
   refine fin _ ?_
   rw[Vah,zsI]
   unfold zbd
   rw[Vap]
   rfl
  ·exact h.elim⟩)
def zvb  (zan:zbV K mg)(zal:zbT K mg)(zag:zbE K mg)(zah:zbG K mg)(zai:zbF K mg)(zaj:zbI K mg)(zlc:Dm K zan.C "slope" "Unknown.slope" zgW zhh)(zaG:mg "range"=none):Fm P w K mg base 1 zan.C "slope" zhh (zfz zal.C zan.C zag.C zah.C zai.C zaj.C):=
 zlc.mk' (zat (k:=0) zlc.F zw9 (zwu zal.C zan.C zag.C zah.C zai.C zaj.C) λcdv A outer s H E hr=>⟨_,(zae (zaq (zpc (x:="k") (N:=["grid","self"]) (caps:=[4,0]) (ar:=zam zgW) rfl rfl csc rfl (by decide) rfl zaG (zaa (dv 3) zac) (λ_ _ _ _ _ _=>zbu) (λ_ _ _ _ _ _=>(zo2 (zaK (zaZ hr) (dv 0) (za9 zan.cl zan.n_place (dv 2)) (zaE _)) (zaR (zaa (dv 1) (zaa (dv 1) zac))) (zaR (zaa zab (zaa zab zac)))))))),λds S Q ex h=>by
  unfold zfz at h
  split at h
  ·rename_i n w s qi g
   obtain⟨k,q,vs,sl,ds,hn,hw,hs,rows,sz,⟨rfl,hq⟩,ok,lv,s1,hg,h⟩:=h
   have sg:Sz 21 g:=Sz.of 1000000 (by omega)
   have fin:∀ys:List D,ys=(zbd vs sl g q (Nd.unknown k)).map frD→Q (.ref S.length) (S++[.lst ys]):=λys e=>by
    subst e
    exact h _ _ Pre.refl.push (by simp) (zav _ _)
   refine zif (j:=((q:Nat):Int)) (S1:=S) (λl=>frD (if (l:Int)=k then (g,g) else (0,0))) (λK hK=>by exact hK) ⟨by omega,by omega⟩ (λl hl S2 K pr hK=>?_) ?_
   ·refine zba (n:=n) (λK hK=>by exact hK) (pr _ _ hn) rfl ?_
    refine ifD (λe=>?_) (λe=>?_)
    ·rw[if_pos e] at hK
     exact hK
    ·rw[if_neg e] at hK
     exact hK
   ·refine fin _ ?_
    rw[Vah]
    unfold zbd
    rw[Vap]
    rfl
  ·exact h.elim⟩)
def zx4  (zag:zbE K mg)(zkp:Dm K zag.C "slope_of_both" "Plus.slope_of_both" zlC zhR)(zb4:Fk P w K mg base 1 "add_spans" zdt zdj):Fm P w K mg base 2 zag.C "slope_of_both" zhR (zht zag.C):=
 zkp.mk' (zat (k:=1) zkp.F zye (zzh zag.C) λcdv A outer s H E hr=>⟨_,(zae (zaq (zak zb4 hr (zaa (dv 3) (zaa (dv 4) zac))))),λds S Q ex h=>by
  unfold zht at h
  split at h
  ·exact h
  ·exact h.elim⟩)
def ztA  (zag:zbE K mg)(zal:zbT K mg)(zan:zbV K mg)(zah:zbG K mg)(zai:zbF K mg)(zaj:zbI K mg)(zne:Dm K zag.C "slope" "Pair.slope" zhK zgc)(ziD:Fm P w K mg base 2 zag.C "slope_of_both" zhR (zht zag.C))(zbl:mg "zip"=none):Fm P w K mg base 3 zag.C "slope" zgc (zfH zal.C zan.C zag.C zah.C zai.C zaj.C):=
 zne.mk' (zat (k:=2) zne.F znY (zrL zal.C zan.C zag.C zah.C zai.C zaj.C) λcdv A outer s H E hr=>⟨_,(zaf (zax (i:=5) znY.nd rfl (Or.inr rfl) (zaD (dv 1) (za9 zag.cl zag.n_one (dv 0)) (λ_ _=>rfl))) (zaf (zax (i:=6) znY.nd rfl (Or.inr rfl) (zaD (dv 1) (za9 zag.cl zag.n_other (dv 0)) (λ_ _=>rfl))) (zae (zaq (zlf (x1:="a") (x2:="b") (N:=["x","y","grid","self"]) (caps:=[5,6,4,0]) (ar:=zam zhK) rfl rfl zcL rfl rfl rfl (by decide) rfl zbl Boot.«zip» (zaa (zaD (dv 2) (za9 zag.cl zag.n_one (dv 0)) (λ_ _=>rfl)) (zaa (zaD (dv 2) (za9 zag.cl zag.n_other (dv 0)) (λ_ _=>rfl)) zac)) (λ_ _ _ _ _ _=>(znr (C:=zag.C) (dv 5) zag.cl ziD.m ziD.ok (hr.mono (by decide)) ziD.b zfD (zaa (dv 2) (zaa (dv 3) (zaa (dv 0) (zaa (dv 1) (zaa (dv 4) zac)))))))))))),λds S Q ex h=>by
  unfold zfH at h
  split at h
  ·rename_i n w s qi g
   obtain⟨i,j,q,vs,sl,ds,hn,hw,hs,rows,sz,⟨rfl,hq⟩,ok,lv,s1,hg,h⟩:=h
   have sg:Sz 21 g:=Sz.of 1000000 (by omega)
   have fin:∀ys:List D,ys=(zbd vs sl g q (Nd.plus i j)).map frD→Q (.ref S.length) (S++[.lst ys]):=λys e=>by
    subst e
    exact h _ _ Pre.refl.push (by simp) (zav _ _)
   refine zba (n:=n) (λK hK=>by exact hK) hn rfl ?_
   refine zaC (o:=.lst (vs.map frD)) hw (zaY (i:=i) ⟨ok.1.1,by have:=ok.1.2; omega⟩) ?_
   refine zba (n:=n) (λK hK=>by exact hK) hn rfl ?_
   refine zaC (o:=.lst (vs.map frD)) hw (zaY (i:=j) ⟨ok.2.1,by have:=ok.2.2; omega⟩) ?_
   obtain⟨a1,ea,_,ha⟩:=rows.at ok.1
   obtain⟨a2,eb,_,hb⟩:=rows.at ok.2
   obtain⟨la,za⟩:=sz i ok.1
   obtain⟨lb,zb⟩:=sz j ok.2
   have ci:=s1.at (i:=i) ⟨ok.1.1,by have:=ok.1.2; omega⟩
   have cj:=s1.at (i:=j) ⟨ok.2.1,by have:=ok.2.2; omega⟩
   refine zgm (n:=a1) (n':=a2) (S1:=S) (xs:=(sl.getD i.toNat []).map frD) (ys:=(sl.getD j.toNat []).map frD) (λx y=>match x,y with | .tup [.int a,.int b],.tup [.int c,.int d]=>.tup [.int (a+c),.int (b+d)] | _,_=>.non) (λK hK=>by
    refine zba (n:=n) (λK hK=>by exact hK) hn rfl ?_
    refine zaC (o:=.lst ds) hs ea ?_
    refine zba (n:=n) (λK hK=>by exact hK) hn rfl ?_
    exact zaC (o:=.lst ds) hs eb hK) ha hb (by rw[Vab,la]; omega) (λk x y hx hy S2 K pr hK=>?_) ?_
   ·rw[Vae] at hx hy
    obtain⟨p,hp,rfl⟩:=Van.mp hx
    obtain⟨r,hr,rfl⟩:=Van.mp hy
    have kq:k<q:=by
     have:=(Vad.mp hp).1
     omega
    have e1:gs sl i k=p:=by
     unfold gs
     rw[Vak,hp]
     rfl
    have e2:gs sl j k=r:=by
     unfold gs
     rw[Vak,hr]
     rfl
    have z1:=za k kq
    have z2:=zb k kq
    rw[e1] at z1
    rw[e2] at z2
    refine znL (n:=n) (fs:=[("one",.int i),("other",.int j)]) (λK hK=>by exact hK) (pr _ _ hn) rfl ?_
    exact hK
   ·refine fin _ ?_
    rw[List.zipWith_map]
    unfold zbd
    rw[Vap]
    rw[zob _ _ _ la lb]
    rfl
  ·exact h.elim⟩)
def zvo  (zah:zbG K mg)(zmd:Dm K zah.C "slope_of_both" "Minus.slope_of_both" zj9 zgK)(zcu:Fk P w K mg base 1 "take_spans" zd0 zdA):Fm P w K mg base 2 zah.C "slope_of_both" zgK (zhL zah.C):=
 zmd.mk' (zat (k:=1) zmd.F zx7 (zv3 zah.C) λcdv A outer s H E hr=>⟨_,(zae (zaq (zak zcu hr (zaa (dv 3) (zaa (dv 4) zac))))),λds S Q ex h=>by
  unfold zhL at h
  split at h
  ·exact h
  ·exact h.elim⟩)
def zx3  (zah:zbG K mg)(zal:zbT K mg)(zan:zbV K mg)(zag:zbE K mg)(zai:zbF K mg)(zaj:zbI K mg)(zm4:Dm K zah.C "slope" "Pair.slope" ziB zgT)(zg2:Fm P w K mg base 2 zah.C "slope_of_both" zgK (zhL zah.C))(zbl:mg "zip"=none):Fm P w K mg base 3 zah.C "slope" zgT (zfx zal.C zan.C zag.C zah.C zai.C zaj.C):=
 zm4.mk' (zat (k:=2) zm4.F zno (zyM zal.C zan.C zag.C zah.C zai.C zaj.C) λcdv A outer s H E hr=>⟨_,(zaf (zax (i:=5) zno.nd rfl (Or.inr rfl) (zaD (dv 1) (za9 zah.cl zah.n_one (dv 0)) (λ_ _=>rfl))) (zaf (zax (i:=6) zno.nd rfl (Or.inr rfl) (zaD (dv 1) (za9 zah.cl zah.n_other (dv 0)) (λ_ _=>rfl))) (zae (zaq (zlf (x1:="a") (x2:="b") (N:=["x","y","grid","self"]) (caps:=[5,6,4,0]) (ar:=zam ziB) rfl rfl zcL rfl rfl rfl (by decide) rfl zbl Boot.«zip» (zaa (zaD (dv 2) (za9 zah.cl zah.n_one (dv 0)) (λ_ _=>rfl)) (zaa (zaD (dv 2) (za9 zah.cl zah.n_other (dv 0)) (λ_ _=>rfl)) zac)) (λ_ _ _ _ _ _=>(znr (C:=zah.C) (dv 5) zah.cl zg2.m zg2.ok (hr.mono (by decide)) zg2.b zfD (zaa (dv 2) (zaa (dv 3) (zaa (dv 0) (zaa (dv 1) (zaa (dv 4) zac)))))))))))),λds S Q ex h=>by
  unfold zfx at h
  split at h
  ·rename_i n w s qi g
   obtain⟨i,j,q,vs,sl,ds,hn,hw,hs,rows,sz,⟨rfl,hq⟩,ok,lv,s1,hg,h⟩:=h
   have sg:Sz 21 g:=Sz.of 1000000 (by omega)
   have fin:∀ys:List D,ys=(zbd vs sl g q (Nd.minus i j)).map frD→Q (.ref S.length) (S++[.lst ys]):=λys e=>by
    subst e
    exact h _ _ Pre.refl.push (by simp) (zav _ _)
   refine zba (n:=n) (λK hK=>by exact hK) hn rfl ?_
   refine zaC (o:=.lst (vs.map frD)) hw (zaY (i:=i) ⟨ok.1.1,by have:=ok.1.2; omega⟩) ?_
   refine zba (n:=n) (λK hK=>by exact hK) hn rfl ?_
   refine zaC (o:=.lst (vs.map frD)) hw (zaY (i:=j) ⟨ok.2.1,by have:=ok.2.2; omega⟩) ?_
   obtain⟨a1,ea,_,ha⟩:=rows.at ok.1
   obtain⟨a2,eb,_,hb⟩:=rows.at ok.2
   obtain⟨la,za⟩:=sz i ok.1
   obtain⟨lb,zb⟩:=sz j ok.2
   have ci:=s1.at (i:=i) ⟨ok.1.1,by have:=ok.1.2; omega⟩
   have cj:=s1.at (i:=j) ⟨ok.2.1,by have:=ok.2.2; omega⟩
   refine zgm (n:=a1) (n':=a2) (S1:=S) (xs:=(sl.getD i.toNat []).map frD) (ys:=(sl.getD j.toNat []).map frD) (λx y=>match x,y with | .tup [.int a,.int b],.tup [.int c,.int d]=>.tup [.int (a-d),.int (b-c)] | _,_=>.non) (λK hK=>by
    refine zba (n:=n) (λK hK=>by exact hK) hn rfl ?_
    refine zaC (o:=.lst ds) hs ea ?_
    refine zba (n:=n) (λK hK=>by exact hK) hn rfl ?_
    exact zaC (o:=.lst ds) hs eb hK) ha hb (by rw[Vab,la]; omega) (λk x y hx hy S2 K pr hK=>?_) ?_
   ·rw[Vae] at hx hy
    obtain⟨p,hp,rfl⟩:=Van.mp hx
    obtain⟨r,hr,rfl⟩:=Van.mp hy
    have kq:k<q:=by
     have:=(Vad.mp hp).1
     omega
    have e1:gs sl i k=p:=by
     unfold gs
     rw[Vak,hp]
     rfl
    have e2:gs sl j k=r:=by
     unfold gs
     rw[Vak,hr]
     rfl
    have z1:=za k kq
    have z2:=zb k kq
    rw[e1] at z1
    rw[e2] at z2
    refine znL (n:=n) (fs:=[("one",.int i),("other",.int j)]) (λK hK=>by exact hK) (pr _ _ hn) rfl ?_
    exact hK
   ·refine fin _ ?_
    rw[List.zipWith_map]
    unfold zbd
    rw[Vap]
    rw[zob _ _ _ la lb]
    rfl
  ·exact h.elim⟩)
def zsR  (zai:zbF K mg)(zk4:Dm K zai.C "slope_of_both" "Times.slope_of_both" zkw zgP)(zb4:Fk P w K mg base 1 "add_spans" zdt zdj)(zcs:Fk P w K mg base 2 "mul_spans" zdK zdT):Fm P w K mg base 3 zai.C "slope_of_both" zgP (zhv zai.C):=
 zk4.mk' (zat (k:=2) zk4.F zwq (zxy zai.C) λcdv A outer s H E hr=>⟨_,(zae (zaq (zak zb4 hr (zaa (zak zcs hr (zaa (dv 1) (zaa (dv 4) (zaa (dv 5) zac)))) (zaa (zak zcs hr (zaa (dv 2) (zaa (dv 3) (zaa (dv 5) zac)))) zac))))),λds S Q ex h=>by
  unfold zhv at h
  split at h
  ·rename_i x1 x2 y1 y2 a b c d g
   obtain⟨⟨h1,h2,h3,h4,h5,h6,h7,h8,g1,g2⟩,h⟩:=h
   have sg:Sz 21 g:=Sz.of 1000000 (by omega)
   refine⟨⟨⟨zaF h1 h7,zaF h1 h8,zaF h2 h7,zaF h2 h8⟩,sg.fd (by omega)⟩,λmn mx hc=>?_⟩
   obtain⟨rfl,rfl⟩:=hc.eq
   refine⟨⟨⟨zaF h3 h5,zaF h3 h6,zaF h4 h5,zaF h4 h6⟩,sg.fd (by omega)⟩,λmn mx hc=>?_⟩
   obtain⟨rfl,rfl⟩:=hc.eq
   exact h
  ·exact h.elim⟩)
def zuv  (zai:zbF K mg)(zal:zbT K mg)(zan:zbV K mg)(zag:zbE K mg)(zah:zbG K mg)(zaj:zbI K mg)(zng:Dm K zai.C "slope" "Pair.slope" zgj ziK)(zhc:Fm P w K mg base 3 zai.C "slope_of_both" zgP (zhv zai.C))(zbl:mg "zip"=none):Fm P w K mg base 4 zai.C "slope" ziK (zfO zal.C zan.C zag.C zah.C zai.C zaj.C):=
 zng.mk' (zat (k:=3) zng.F znn (zuV zal.C zan.C zag.C zah.C zai.C zaj.C) λcdv A outer s H E hr=>⟨_,(zaf (zax (i:=5) znn.nd rfl (Or.inr rfl) (zaD (dv 1) (za9 zai.cl zai.n_one (dv 0)) (λ_ _=>rfl))) (zaf (zax (i:=6) znn.nd rfl (Or.inr rfl) (zaD (dv 1) (za9 zai.cl zai.n_other (dv 0)) (λ_ _=>rfl))) (zae (zaq (zlf (x1:="a") (x2:="b") (N:=["x","y","grid","self"]) (caps:=[5,6,4,0]) (ar:=zam zgj) rfl rfl zcL rfl rfl rfl (by decide) rfl zbl Boot.«zip» (zaa (zaD (dv 2) (za9 zai.cl zai.n_one (dv 0)) (λ_ _=>rfl)) (zaa (zaD (dv 2) (za9 zai.cl zai.n_other (dv 0)) (λ_ _=>rfl)) zac)) (λ_ _ _ _ _ _=>(znr (C:=zai.C) (dv 5) zai.cl zhc.m zhc.ok (hr.mono (by decide)) zhc.b zfD (zaa (dv 2) (zaa (dv 3) (zaa (dv 0) (zaa (dv 1) (zaa (dv 4) zac)))))))))))),λds S Q ex h=>by
  unfold zfO at h
  split at h
  ·rename_i n w s qi g
   obtain⟨i,j,q,vs,sl,ds,hn,hw,hs,rows,sz,⟨rfl,hq⟩,ok,lv,s1,hg,h⟩:=h
   have sg:Sz 21 g:=Sz.of 1000000 (by omega)
   have fin:∀ys:List D,ys=(zbd vs sl g q (Nd.times i j)).map frD→Q (.ref S.length) (S++[.lst ys]):=λys e=>by
    subst e
    exact h _ _ Pre.refl.push (by simp) (zav _ _)
   refine zba (n:=n) (λK hK=>by exact hK) hn rfl ?_
   refine zaC (o:=.lst (vs.map frD)) hw (zaY (i:=i) ⟨ok.1.1,by have:=ok.1.2; omega⟩) ?_
   refine zba (n:=n) (λK hK=>by exact hK) hn rfl ?_
   refine zaC (o:=.lst (vs.map frD)) hw (zaY (i:=j) ⟨ok.2.1,by have:=ok.2.2; omega⟩) ?_
   obtain⟨a1,ea,_,ha⟩:=rows.at ok.1
   obtain⟨a2,eb,_,hb⟩:=rows.at ok.2
   obtain⟨la,za⟩:=sz i ok.1
   obtain⟨lb,zb⟩:=sz j ok.2
   have ci:=s1.at (i:=i) ⟨ok.1.1,by have:=ok.1.2; omega⟩
   have cj:=s1.at (i:=j) ⟨ok.2.1,by have:=ok.2.2; omega⟩
   refine zgm (n:=a1) (n':=a2) (S1:=S) (xs:=(sl.getD i.toNat []).map frD) (ys:=(sl.getD j.toNat []).map frD) (λx y=>match x,y with | .tup [.int a,.int b],.tup [.int c,.int d]=>.tup [.int ((zaX (gt vs i) (c,d) g).1+(zaX (gt vs j) (a,b) g).1),.int ((zaX (gt vs i) (c,d) g).2+(zaX (gt vs j) (a,b) g).2)] | _,_=>.non) (λK hK=>by
    refine zba (n:=n) (λK hK=>by exact hK) hn rfl ?_
    refine zaC (o:=.lst ds) hs ea ?_
    refine zba (n:=n) (λK hK=>by exact hK) hn rfl ?_
    exact zaC (o:=.lst ds) hs eb hK) ha hb (by rw[Vab,la]; omega) (λk x y hx hy S2 K pr hK=>?_) ?_
   ·rw[Vae] at hx hy
    obtain⟨p,hp,rfl⟩:=Van.mp hx
    obtain⟨r,hr,rfl⟩:=Van.mp hy
    have kq:k<q:=by
     have:=(Vad.mp hp).1
     omega
    have e1:gs sl i k=p:=by
     unfold gs
     rw[Vak,hp]
     rfl
    have e2:gs sl j k=r:=by
     unfold gs
     rw[Vak,hr]
     rfl
    have z1:=za k kq
    have z2:=zb k kq
    rw[e1] at z1
    rw[e2] at z2
    refine znL (n:=n) (fs:=[("one",.int i),("other",.int j)]) (λK hK=>by exact hK) (pr _ _ hn) rfl ?_
    exact⟨⟨ci.2.1.mono (by decide),ci.2.2.mono (by decide),cj.2.1.mono (by decide),cj.2.2.mono (by decide),z1.2.1.mono (by decide),z1.2.2.mono (by decide),z2.2.1.mono (by decide),z2.2.2.mono (by decide),hg.1,hg.2⟩,hK⟩
   ·refine fin _ ?_
    rw[List.zipWith_map]
    unfold zbd
    rw[Vap]
    rw[zob _ _ _ la lb]
    rfl
  ·exact h.elim⟩)
def zyv  (zmm:Df K mg "scale_span" zlW zgw)(zcm:mg "max"=none)(zbJ:mg "min"=none):Fk P w K mg base 1 "scale_span" zgw zh5:=
 zmm.mk' (zat (k:=0) zmm.F zu7 (zt8) λcdv A outer s H E hr=>⟨_,(zae (zaq (zaR (zaa (zaM (zku rfl) rfl zbJ Boot.«min» (zaa (zad zaJ (zap (dv 0) zab (λ_ _=>rfl)) (dv 1)) (zaa (zad zaJ (zap (dv 0) zab (λ_ _=>rfl)) (dv 1)) zac))) (zaa (zaM (zoX rfl) rfl zcm Boot.«max» (zaa (zad zaJ (zap (dv 0) zab (λ_ _=>rfl)) (dv 1)) (zaa (zad zaJ (zap (dv 0) zab (λ_ _=>rfl)) (dv 1)) zac))) zac))))),λds S Q ex h=>by
  unfold zh5 at h
  split at h
  ·obtain⟨⟨h1,h2⟩,h⟩:=h
   exact⟨h1,h2,h1,h2,h⟩
  ·exact h.elim⟩)
def zxO  (zaj:zbI K mg)(zal:zbT K mg)(zan:zbV K mg)(zag:zbE K mg)(zah:zbG K mg)(zai:zbF K mg)(zm5:Dm K zaj.C "slope" "Power.slope" zig ziQ)(zcs:Fk P w K mg base 2 "mul_spans" zdK zdT)(zox:Fk P w K mg base 1 "scale_span" zgw zh5)(zfS:Fk P w K mg base 2 "raise_span" zfL zft):Fm P w K mg base 3 zaj.C "slope" ziQ (zfk zal.C zan.C zag.C zah.C zai.C zaj.C):=
 zm5.mk' (zat (k:=2) zm5.F znK (ztZ zal.C zan.C zag.C zah.C zai.C zaj.C) λcdv A outer s H E hr=>⟨_,(zaf (zax (i:=5) znK.nd rfl (Or.inl rfl) (zak zfS hr (zaa (zaD (dv 1) (za9 zaj.cl zaj.n_one (dv 0)) (λ_ _=>rfl)) (zaa (zad zcg (za9 zaj.cl zaj.n_many (dv 0)) zab) (zaa (dv 4) zac))))) (zaf (zax (i:=6) znK.nd rfl (Or.inr rfl) (zak zox hr (zaa (dv 5) (zaa (za9 zaj.cl zaj.n_many (dv 0)) zac)))) (zae (zaq (zc3 (x:="a") (N:=["steep","grid"]) (caps:=[6,4]) (ar:=zam zig) rfl rfl csc rfl (by decide) (zaD (dv 2) (za9 zaj.cl zaj.n_one (dv 0)) (λ_ _=>rfl)) (λ_ _ _ _ _ _=>zbu) (λ_ _ _ _ _ _=>(zak zcs hr (zaa (dv 1) (zaa (dv 0) (zaa (dv 2) zac)))))))))),λds S Q ex h=>by
  unfold zfk at h
  split at h
  ·rename_i n w s qi g
   obtain⟨i,m,q,vs,sl,ds,hn,hw,hs,rows,sz,⟨rfl,hq⟩,ok,lv,s1,hg,h⟩:=h
   have sg:Sz 21 g:=Sz.of 1000000 (by omega)
   have fin:∀ys:List D,ys=(zbd vs sl g q (Nd.power i m)).map frD→Q (.ref S.length) (S++[.lst ys]):=λys e=>by
    subst e
    exact h _ _ Pre.refl.push (by simp) (zav _ _)
   obtain⟨a1,ea,_,ha⟩:=rows.at ok.1
   obtain⟨la,za⟩:=sz i ok.1
   have ci:=s1.at (i:=i) ⟨ok.1.1,by have:=ok.1.2; omega⟩
   obtain⟨ok1,m2,m6⟩:=ok
   refine zba (n:=n) (λK hK=>by exact hK) hn rfl ?_
   refine zaC (o:=.lst (vs.map frD)) hw (zaY (i:=i) ⟨ok1.1,by have:=ok1.2; omega⟩) ?_
   refine zba (n:=n) (λK hK=>by exact hK) hn rfl ?_
   refine⟨⟨by omega,by omega,ci.2.1.mono (by decide),ci.2.2.mono (by decide),hg.1,sg.mono (by decide)⟩,λm' M' hP=>?_⟩
   obtain⟨rfl,rfl⟩:=hP.eq (by omega)
   have gp:(1:Int)≤g^((m-1).toNat-1):=VaJ (by omega)
   have lo:=zfX gp (zpg (gt vs i).1 (gt vs i).2 (m-1).toNat)
   have fl:=zsw (gt vs i) (n:=m) (by omega) hg.1
   have p1:Sz 6000 ((gt vs i).1^(m-1).toNat):=(ci.2.1.pow _).mono (by omega)
   have p2:Sz 6000 ((gt vs i).2^(m-1).toNat):=(ci.2.2.pow _).mono (by omega)
   have pl:Sz 6000 (zaP (gt vs i).1 (gt vs i).2 (m-1).toNat):=by
    unfold zaP
    split
    ·exact VaN (by decide)
    ·exact zdf p1 p2
   have sm:Sz 10 m:=Sz.of 6 (by omega)
   refine zba (n:=n) (λK hK=>by exact hK) hn rfl ?_
   refine⟨⟨zaF (pl.div gp) sm,zaF (zeu (zc5 p1 p2) gp) sm⟩,?_⟩
   have e1:(if -(-za4 (gt vs i).1 (gt vs i).2 (m-1).toNat/g^((m-1).toNat-1))*m<zaP (gt vs i).1 (gt vs i).2 (m-1).toNat/g^((m-1).toNat-1)*m then -(-za4 (gt vs i).1 (gt vs i).2 (m-1).toNat/g^((m-1).toNat-1))*m else zaP (gt vs i).1 (gt vs i).2 (m-1).toNat/g^((m-1).toNat-1)*m)=(zbw (gt vs i) m g).1:=by
    rw[if_neg (by have z:(zbw (gt vs i) m g).1≤(zbw (gt vs i) m g).2:=fl; exact Int.not_lt.mpr z)]
    rfl
   have e2:(if -(-za4 (gt vs i).1 (gt vs i).2 (m-1).toNat/g^((m-1).toNat-1))*m > zaP (gt vs i).1 (gt vs i).2 (m-1).toNat/g^((m-1).toNat-1)*m then -(-za4 (gt vs i).1 (gt vs i).2 (m-1).toNat/g^((m-1).toNat-1))*m else zaP (gt vs i).1 (gt vs i).2 (m-1).toNat/g^((m-1).toNat-1)*m)=(zbw (gt vs i) m g).2:=by
    split
    ·rfl
    ·rename_i c
     have z:¬ (zbw (gt vs i) m g).1<(zbw (gt vs i) m g).2:=c
     have z2:(zbw (gt vs i) m g).1=(zbw (gt vs i) m g).2:=by omega
     exact z2
   rw[e1,e2]
   have f1:Sz 6010 (zbw (gt vs i) m g).1:=ziX (e:=10) (pl.div gp) (by omega) (by omega)
   have f2:Sz 6010 (zbw (gt vs i) m g).2:=ziX (e:=10) (zeu (zc5 p1 p2) gp) (by omega) (by omega)
   generalize hfc:zbw (gt vs i) m g=fc at f1 f2
   refine zcZ (n:=a1) (S1:=S) (o:=.lst ((sl.getD i.toNat []).map frD)) (λx=>match x with | .tup [.int a,.int b]=>frD (zaX fc (a,b) g) | _=>.non) (λK hK=>by
    refine zba (n:=n) (λK hK=>by exact hK) hn rfl ?_
    exact zaC (o:=.lst ds) hs ea hK) ha (by show ((sl.getD i.toNat []).map frD).length≤1000; rw[Vab,la]; omega) (λx hx S2 K pr hK=>?_) ?_
   ·have hx':x∈(sl.getD i.toNat []).map frD:=hx
    obtain⟨p,hp,rfl⟩:=Vag.mp hx'
    obtain⟨k,hk,ek⟩:=VaS.mp hp
    have z1:=za k (by omega)
    have e1:gs sl i k=p:=by
     unfold gs
     rw[Vak,Vac hk,ek]
     rfl
    rw[e1] at z1
    refine⟨⟨⟨zaF f1 z1.2.1,zaF f1 z1.2.2,zaF f2 z1.2.1,zaF f2 z1.2.2⟩,sg.fd (by omega)⟩,λmn mx hc=>?_⟩
    obtain⟨rfl,rfl⟩:=hc.eq
    exact hK
   ·refine fin _ ?_
    show ((sl.getD i.toNat []).map frD).map _=_
    rw[Vap,zyW _ _ la]
    unfold zbd
    rw[Vap]
    subst hfc
    rfl
  ·exact h.elim⟩)
def zvT  (zaj:zbI K mg)(zai:zbF K mg)(zah:zbG K mg)(zag:zbE K mg)(zan:zbV K mg)(zal:zbT K mg)(zkc:Df K mg "slopes" znl zhT)(zom:Fm P w K mg base 3 zaj.C "slope" ziQ (zfk zal.C zan.C zag.C zah.C zai.C zaj.C))(znu:Fm P w K mg base 4 zai.C "slope" ziK (zfO zal.C zan.C zag.C zah.C zai.C zaj.C))(zn2:Fm P w K mg base 3 zah.C "slope" zgT (zfx zal.C zan.C zag.C zah.C zai.C zaj.C))(zod:Fm P w K mg base 3 zag.C "slope" zgc (zfH zal.C zan.C zag.C zah.C zai.C zaj.C))(znP:Fm P w K mg base 1 zan.C "slope" zhh (zfz zal.C zan.C zag.C zah.C zai.C zaj.C))(zoP:Fm P w K mg base 1 zal.C "slope" zha (zfp zal.C zan.C zag.C zah.C zai.C zaj.C))(zeB:Fk P w K mg base 3 "kind_of" zeG (zeE zal.C zan.C zag.C zah.C zai.C zaj.C))(zdn:Fk P w K mg base 4 "worths" zed zep)(zay:mg "len"=none):Fk P w K mg base 5 "slopes" zhT zga:=
 zkc.mk' (zat (k:=4) zkc.F zjy (zy4) λcdv A outer s H E hr=>⟨_,(zaf (zax (i:=3) zjy.nd rfl (Or.inl rfl) (zak zdn hr (zaa (dv 0) (zaa (dv 1) (zaa (dv 2) zac))))) (zaf (zax (i:=4) zjy.nd rfl (Or.inl rfl) (zb2 zac)) (zaf (ze8 (i:=5) PassesOwn.never rfl zjy.nd rfl (Or.inl rfl) (dv 0) (zae (zbr (zca (dv 4) (zrd (zak zeB hr (zaa (dv 5) zac)) (zcE zal.cl zoP (hr.mono (by decide)) (zcE zan.cl znP (hr.mono (by decide)) (zcE zag.cl zod (hr.mono (by decide)) (zcE zah.cl zn2 (hr.mono (by decide)) (zcE zai.cl znu (hr.mono (by decide)) (zcE zaj.cl zom (hr.mono (by decide)) zqE)))))) zfD (zaa (dv 3) (zaa (dv 4) (zaa (zaM (zaQ za5) rfl zay Boot.«len» (zaa (dv 1) zac)) (zaa (dv 2) zac))))))))) (zae (zaq (dv 4)))))),λds S Q ex h=>by
  unfold zga at h
  split at h
  ·rename_i a b g
   obtain⟨ns,ws,bs,ha,hb,net,sb,hq9,hg,hl,h⟩:=h
   have disp:∀v:Nd,∃C fs sd,v.ob zal.C zan.C zag.C zah.C zai.C zaj.C=.ins C fs∧(C,sd)∈[(zal.C,zfp zal.C zan.C zag.C zah.C zai.C zaj.C),(zan.C,zfz zal.C zan.C zag.C zah.C zai.C zaj.C),(zag.C,zfH zal.C zan.C zag.C zah.C zai.C zaj.C),(zah.C,zfx zal.C zan.C zag.C zah.C zai.C zaj.C),(zai.C,zfO zal.C zan.C zag.C zah.C zai.C zaj.C),(zaj.C,zfk zal.C zan.C zag.C zah.C zai.C zaj.C)]∧fs.lookup ("slope":Str)=none∧∀(n w s:Nat) (q:Nat) (g:Int) (S:Sto) (Q:DK) (ex:Addr→Sto→Prop) (vs:List (Int×Int)) (sl:List (List (Int×Int))) (ds:List D),S[n]?=some (v.ob zal.C zan.C zag.C zah.C zai.C zaj.C)→S[w]?=some (.lst (vs.map frD))→S[s]?=some (.lst ds)→za2 S 0 ds sl→(∀i:Int,inR sl.length i→(sl.getD i.toNat []).length=q∧∀l,l<q→(gs sl i l).1≤(gs sl i l).2∧Sz 1100 (gs sl i l).1∧Sz 1100 (gs sl i l).2)→q≤900→v.ok sl.length q→sl.length≤vs.length→Spn 1000 vs→(1≤g∧g≤1000000)→(∀(T:Sto) (m:Nat),Pre S T→S.length≤m→T[m]?=some (.lst ((zbd vs sl g q v).map frD))→Q (.ref m) T)→sd [.ref n,.ref w,.ref s,.int (q:Nat),.int g] S Q ex:=by
    intro v
    cases v with
    | number x y=>exact⟨_,_,_,rfl,(.head _),rfl,λn w s q g S Q ex vs sl ds a1 a2 a3 a4 a5 a6 a7 a8 a9 b1 b2=>⟨x,y,q,vs,sl,ds,a1,a2,a3,a4,a5,⟨rfl,a6⟩,a7,a8,a9,b1,b2⟩⟩
    | unknown k=>exact⟨_,_,_,rfl,(.tail _ (.head _)),rfl,λn w s q g S Q ex vs sl ds a1 a2 a3 a4 a5 a6 a7 a8 a9 b1 b2=>⟨k,q,vs,sl,ds,a1,a2,a3,a4,a5,⟨rfl,a6⟩,a7,a8,a9,b1,b2⟩⟩
    | plus i j=>exact⟨_,_,_,rfl,(.tail _ (.tail _ (.head _))),rfl,λn w s q g S Q ex vs sl ds a1 a2 a3 a4 a5 a6 a7 a8 a9 b1 b2=>⟨i,j,q,vs,sl,ds,a1,a2,a3,a4,a5,⟨rfl,a6⟩,a7,a8,a9,b1,b2⟩⟩
    | minus i j=>exact⟨_,_,_,rfl,(.tail _ (.tail _ (.tail _ (.head _)))),rfl,λn w s q g S Q ex vs sl ds a1 a2 a3 a4 a5 a6 a7 a8 a9 b1 b2=>⟨i,j,q,vs,sl,ds,a1,a2,a3,a4,a5,⟨rfl,a6⟩,a7,a8,a9,b1,b2⟩⟩
    | times i j=>exact⟨_,_,_,rfl,(.tail _ (.tail _ (.tail _ (.tail _ (.head _))))),rfl,λn w s q g S Q ex vs sl ds a1 a2 a3 a4 a5 a6 a7 a8 a9 b1 b2=>⟨i,j,q,vs,sl,ds,a1,a2,a3,a4,a5,⟨rfl,a6⟩,a7,a8,a9,b1,b2⟩⟩
    | power i m=>exact⟨_,_,_,rfl,(.tail _ (.tail _ (.tail _ (.tail _ (.tail _ (.head _)))))),rfl,λn w s q g S Q ex vs sl ds a1 a2 a3 a4 a5 a6 a7 a8 a9 b1 b2=>⟨i,m,q,vs,sl,ds,a1,a2,a3,a4,a5,⟨rfl,a6⟩,a7,a8,a9,b1,b2⟩⟩
   refine⟨ns,ws,bs,ha,hb,net,sb,hg,hl,λT1 w pr1 lw hw=>?_⟩
   have szw:=zqf net rfl sb hg
   have lf:(zau bs g ns).length=ns.length:=zcp _ _ _
   have spn:Spn 1000 (zau bs g ns):=szw.spn λk hk=>by
    have z:=(net.w1 (i:=(k:Int)) ⟨by omega,by omega⟩).2
    rwa [Vah] at z
   refine zfu (n:=a) (o:=.lst (ns.map Nd.d)) (λk dl' S'=>k≤ns.length∧Pre T1 S'∧(∃ds:List D,S'[T1.length]?=some (.lst ds)∧za2 S' (T1.length+1) ds (zaS (zau bs g ns) g bs.length (ns.take k)))∧∃u:Option D,dl'=[some (.ref a),some (.ref b),some (.int g),some (.ref w),some (.ref T1.length),u]) ⟨Vaj _,Pre.refl.push,⟨[],zav _ _,za2.nil⟩,_,rfl⟩ (λk dl' S' z=>z.2.1 _ _ (pr1 _ _ ha)) ?_ ?_
   ·rintro k x dl' S' nx ct ex' ⟨hk,pr,⟨ds,hf,rows⟩,u,rfl⟩ hn
    have ex2:(ns.map Nd.d)[k]?=some x:=ex'
    rw[Vae] at ex2
    obtain⟨v,hv,rfl⟩:=Van.mp ex2
    have hk':=(Vad.mp hv).1
    have ln:(zaS (zau bs g ns) g bs.length (ns.take k)).length=k:=by rw[zfa,Vao]; omega
    have okv:v.ok (zaS (zau bs g ns) g bs.length (ns.take k)).length bs.length:=by rw[ln]; exact(net.ok k v hv).1
    have slw:=zpF net szw lf hg k hk
    have ss:=slw.spn λi hi=>by
     have z:=(net.w1 (i:=(i:Int)) ⟨by omega,by omega⟩).2
     rwa [Vah] at z
    obtain⟨C,fs,sd,eo,hm,hf2,go⟩:=disp v
    have N1:=zav S' (v.ob zal.C zan.C zag.C zah.C zai.C zaj.C)
    have ld:ds.length=k:=by rw[rows.1,ln]
    have lt:=zbg hf
    refine zid (n:=T1.length) (xs:=ds) (λK hK=>by exact hK) hf (λK hK=>?_) (by omega)
    refine zpR (n:=S'.length) (C:=C) (sd:=sd) (fs:=fs) (S1:=S'++[v.ob zal.C zan.C zag.C zah.C zai.C zaj.C]) (λK hK=>⟨v,rfl,by exact hK⟩) (by rw[← eo]; exact N1) hm hf2 ?_
    refine zbn (zaz (pr _ _ (pr1 _ _ hb))) ?_
    rw[Vab]
    refine go _ _ _ bs.length _ _ _ _ (zau bs g ns) (zaS (zau bs g ns) g bs.length (ns.take k)) ds N1 (zaz (pr _ _ hw)) (zaz hf) ((rows.low (Vaj _)).pre (zcP Pre.refl _)) ss hq9 okv (by omega) spn hg λT m prT lm hT=>?_
    have hf3:=prT _ _ (zaz hf)
    refine hK _ _ hf3 ?_
    have lS:(S'++[v.ob zal.C zan.C zag.C zah.C zai.C zaj.C]).length=S'.length+1:=by simp
    have rows3:za2 T (T1.length+1) ds (zaS (zau bs g ns) g bs.length (ns.take k)):=rows.pre λi o e=>prT _ _ (zaz e)
    refine hn _ _ ⟨by omega,zeD (pr.trans λi o e=>prT _ _ (zaz e)) (Vaa _),⟨ds++[.ref m],zb5 hf3,?_⟩,_,rfl⟩
    rw[zbU hv,zmT]
    have r4:=rows3.snoc (a:=m) (r:=zbd (zau bs g ns) (zaS (zau bs g ns) g bs.length (ns.take k)) g bs.length v) (by omega) hT
    exact r4.keep λx o hx e=>zcz e (by omega)
   ·rintro dl' S' ⟨hk,pr,⟨ds,hf,rows⟩,u,rfl⟩
    have e:ns.take (zao (.lst (ns.map Nd.d))).length=ns:=by
     show ns.take (ns.map Nd.d).length=ns
     rw[Vab,VaA]
    rw[e] at rows
    refine h _ _ ds (pr1.trans pr) ?_ hf rows
    exact zfP pr1
  ·exact h.elim⟩)
def zvy  (zlL:Df K mg "slopes_at" zlJ zih)(zev:Fk P w K mg base 1 "picked" zeU zff)(zoZ:Fk P w K mg base 5 "slopes" zhT zga):Fk P w K mg base 6 "slopes_at" zih ziC:=
 zlL.mk' (zat (k:=5) zlL.F zw3 (zyE) λcdv A outer s H E hr=>⟨_,(zae (zaq (zak zev hr (zaa (zak zoZ hr (zaa (dv 0) (zaa (dv 2) (zaa (dv 3) zac)))) (zaa (dv 1) zac))))),λds S Q ex h=>by
  unfold ziC at h
  split at h
  ·rename_i a p b g
   obtain⟨ns,ws,bs,is,ha,hb,net,sb,hg,l7,b9,hp,i9,hi,h⟩:=h
   refine⟨ns,ws,bs,ha,hb,net,sb,b9,hg,l7,λT m ds pr lm hm rows=>?_⟩
   have ld:ds.length=ns.length:=by rw[rows.1,zfa]
   refine⟨ds,is,hm,pr _ _ hp,i9,λi him=>by rw[ld]; exact hi i him,?_⟩
   refine h _ _ (is.map λi=>ds.getD i .non) (λx o z=>zaz (pr _ _ z)) (zfP pr) (zav _ _) ⟨by rw[Vab,Vab],λk d r hd hr=>?_⟩
   rw[Vae] at hd hr
   obtain⟨i,hik,rfl⟩:=Van.mp hd
   rw[hik] at hr
   cases hr
   have him:=hi i (Vai hik)
   have h1:ds[i]?=some (ds.getD i .non):=by rw[Vac (show i<ds.length by omega)]; simp[show i<ds.length by omega]
   have ls:=zfa (zau bs g ns) g bs.length ns
   have h2:(zaS (zau bs g ns) g bs.length ns)[i]?=some ((zaS (zau bs g ns) g bs.length ns).getD i []):=by rw[Vac (show i<(zaS (zau bs g ns) g bs.length ns).length by omega)]; simp[show i<(zaS (zau bs g ns) g bs.length ns).length by omega]
   obtain⟨q,eq,_,sq⟩:=rows.2 i _ _ h1 h2
   exact⟨q,eq,Vaj _,zaz sq⟩
  ·exact h.elim⟩)
def ztD  (zjP:Df K mg "signed" zjA zdD):Fk P w K mg base 1 "signed" zdD zdV:=
 zjP.mk' (zat (k:=0) zjP.F zwE (zvJ) λcdv A outer s H E hr=>⟨_,(zae (zaq (zo2 (zaK (zaZ hr) (zad zbf (dv 1) zab) zab (zaE _)) (zgB zgb (dv 0)) (dv 0)))),λds S Q ex h=>by
  unfold zdV at h
  split at h
  ·rename_i i k
   obtain⟨n,rfl,h⟩:=h
   refine ifD (λe=>?_) (λe=>?_)
   ·have z:sgn i n=-i:=by unfold sgn; rw[if_pos (by omega)]
    rw[z] at h
    exact h
   ·have z:sgn i n=i:=by unfold sgn; rw[if_neg (by omega)]
    rw[z] at h
    exact h
  ·exact h.elim⟩)
def zuU  (zjL:Df K mg "without" zhI zdR):Fk P w K mg base 1 "without" zdR zdP:=
 zjL.mk' (zat (k:=0) zjL.F zpz (zyc) λcdv A outer s H E hr=>⟨_,(zaf (zax (i:=3) zpz.nd rfl (Or.inl rfl) (zad zpV (ziL (dv 0) ziW (ziH (dv 1))) (ziL (dv 0) (ziH (zad zaO (dv 1) zab)) ziW))) (zae (zaq (zc3 (x:="entries") (N:=["column"]) (caps:=[2]) (ar:=zam zhI) rfl rfl csc rfl (by decide) (dv 3) (λ_ _ _ _ _ _=>zbu) (λ_ _ _ _ _ _=>(zad zpV (ziL (dv 0) ziW (ziH (dv 1))) (ziL (dv 0) (ziH (zad zaO (dv 1) zab)) ziW))))))),λds S Q ex h=>by
  unfold zdP at h
  split at h
  ·rename_i m r c
   obtain⟨M,i,j,n,rfl,rfl,⟨ds,hm,rows⟩,sq,hn,hi,hj,h⟩:=h
   have lm:ds.length=n+1:=by rw[rows.len]; exact sq.1
   refine zia (n:=m) (o:=.lst ds) (lo:=none) (hi:=some (i:Int)) (λK hK=>by exact hK) (λK hK=>by exact hK) (λK hK=>by exact hK) hm ?_
   refine zia (n:=m) (o:=.lst ds) (lo:=some ((i+1:Nat):Int)) (hi:=none) (λK hK=>by exact hK) (λK hK=>by exact hK) (λK hK=>by exact hK) (zcV hm) ?_
   dsimp only[zao]
   rw[zrv,zql]
   refine zpr (xs:=ds.take i) (ys:=ds.drop (i+1)) (zcV (zav _ _)) (zav _ _) (by simp; omega) ?_
   have p0:Pre S (S++[.lst (ds.take i)]++[.lst (ds.drop (i+1))]++[.lst (ds.take i++ds.drop (i+1))]):=Pre.refl.push.push.push
   have r0:Rows (S++[.lst (ds.take i)]++[.lst (ds.drop (i+1))]++[.lst (ds.take i++ds.drop (i+1))]) 0 (ds.take i++ds.drop (i+1)) (M.take i++M.drop (i+1)):=((rows.take i).app (rows.drop (i+1))).pre p0
   refine zv1 (n:=(S++[Ob.lst (ds.take i)]++[Ob.lst (ds.drop (i+1))]).length) (λe=>e.take j++e.drop (j+1)) (λK hK=>by exact hK) (zav _ _) r0 (by simp; omega) (λa r S2 K hr ha hK=>?_) (λS2 ys p2 e2 r2=>?_)
   ·have lr:r.length≤n+1:=by
     have z:=sq.2 r ((VaL.mp hr).elim List.mem_of_mem_take Vbj)
     omega
    show dOp (zbN ziT) (zfq (zcC 0) zoh (zoY (zcC 1))) (zfq (zcC 0) (zoY (dOp wAdd (zcC 1) (dC (D.int 1)))) zoh) [some (.ref a),some (.int (j:Int))] S2 K
    simp only[dOp]
    refine zia (n:=a) (o:=.lst (r.map D.int)) (lo:=none) (hi:=some (j:Int)) (λK hK=>by exact hK) (λK hK=>by exact hK) (λK hK=>by exact hK) ha ?_
    refine zia (n:=a) (o:=.lst (r.map D.int)) (lo:=some ((j+1:Nat):Int)) (hi:=none) (λK hK=>by exact hK) (λK hK=>by exact hK) (λK hK=>by exact hK) (zcV ha) ?_
    dsimp only[zao]
    rw[zrv,zql]
    refine zpr (xs:=(r.map D.int).take j) (ys:=(r.map D.int).drop (j+1)) (zcV (zav _ _)) (zav _ _) (by simp; omega) ?_
    refine hK _ _ Pre.refl.push.push.push (by simp) ?_
    rw[VaD,List.map_take,List.map_drop]
    exact zav _ _
   ·exact h S2 _ (p0.trans p2) ⟨ys,e2,r2⟩
  ·exact h.elim⟩)
def zwX (zby:Df K mg "determinant" zcw zbR)(zcj:Fk P w K mg base 0 "cofactor" zb3 zrG)(zbt:mg "sum"=none)(zbk:mg "enumerate"=none)(zay:mg "len"=none):Fk P w K mg base 1 "determinant" zbR zgE:=
 zby.mk' (zb9 (zat (k:=0) zby.F zhp (zcd zwY) λcdv A outer s H E hr=>⟨_,(zaf (zaI (zaK (zaZ hr) (zaM (zaQ za5) rfl zay Boot.«len» (zaa (dv 0) zac)) zab (zaE _)) (zae (zaq zab)) zaN) (zae (zaq (zaM (zaQ (zhw rfl)) rfl zbt Boot.«sum» (zaa (zeV (x1:="column") (x2:="entry") (N:=["matrix"]) (caps:=[0]) (ar:=zam zcw) rfl rfl zcL rfl rfl rfl (by decide) rfl zbk Boot.«enumerate» (zaa (zap (dv 0) zab (λ_ _=>rfl)) zac) (λ_ _ _ _ _ _=>(zad zaJ (dv 1) (zak zcj hr (zaa (dv 2) (zaa zab (zaa (dv 0) zac))))))) zac))))),λds S Q ex h=>by
  obtain⟨Q0,ex0,rfl,rfl,h⟩:=h
  unfold zgE at h
  split at h
  ·rename_i m
   obtain⟨M,n,hn,⟨ds,hm,rows⟩,sq,big,h⟩:=h
   have lm:ds.length=n:=by rw[rows.len]; exact sq.1
   refine zbn hm ?_
   refine ifD (λe=>?_) (λe=>?_)
   ·have n0:n=0:=by omega
    subst n0
    exact⟨Pre.refl,.int _,h⟩
   ·exact absurd (show ((ds.length:Nat):Int)=0 by omega) e
  ·exact h.elim⟩))
def zr5 (zbK:Df K mg "cofactor" zei zb3)(zcB:Fk P w K mg base 1 "signed" zdD zdV)(zcN:Fk P w K mg base 1 "determinant" zbR zgE)(zcH:Fk P w K mg base 1 "without" zdR zdP):Fk P w K mg base 2 "cofactor" zb3 zeK:=
 zbK.mk' (zb9 (zat (k:=1) zbK.F zlr (zcd zur) λcdv A outer s H E hr=>⟨_,(zae (zaq (zak zcB hr (zaa (zak zcN hr (zaa (zak zcH hr (zaa (dv 0) (zaa (dv 1) (zaa (dv 2) zac)))) zac)) (zaa (zad zaO (dv 1) (dv 2)) zac))))),λds S Q ex h=>by
  obtain⟨Q0,ex0,rfl,rfl,h⟩:=h
  unfold zeK at h
  split at h
  ·rename_i m r c
   obtain⟨M,i,j,n,hn,rfl,rfl,hi,hj,hm,sq,big,h⟩:=h
   refine⟨M,i,j,n,rfl,rfl,hm,sq,by omega,hi,hj,λT k pt mt=>?_⟩
   refine⟨za8 M i j,n,hn,mt,zdH sq hi hj,big.minor i j,?_⟩
   exact⟨i+j,by omega,pt,.int _,h⟩
  ·exact h.elim⟩))
def zwU (zby:Df K mg "determinant" zcw zbR)(zcj:Fk P w K mg base 2 "cofactor" zb3 zeK)(zbt:mg "sum"=none)(zbk:mg "enumerate"=none)(zay:mg "len"=none):Fk P w K mg base 3 "determinant" zbR zf9:=
 zby.mk' (zb9 (zat (k:=2) zby.F zhp (zcd zsH) λcdv A outer s H E hr=>⟨_,(zaf (zaI (zaK (zaZ hr) (zaM (zaQ za5) rfl zay Boot.«len» (zaa (dv 0) zac)) zab (zaE _)) (zae (zaq zab)) zaN) (zae (zaq (zaM (zaQ (zhw rfl)) rfl zbt Boot.«sum» (zaa (zeV (x1:="column") (x2:="entry") (N:=["matrix"]) (caps:=[0]) (ar:=zam zcw) rfl rfl zcL rfl rfl rfl (by decide) rfl zbk Boot.«enumerate» (zaa (zap (dv 0) zab (λ_ _=>rfl)) zac) (λ_ _ _ _ _ _=>(zad zaJ (dv 1) (zak zcj hr (zaa (dv 2) (zaa zab (zaa (dv 0) zac))))))) zac))))),λds S Q ex h=>by
  obtain⟨Q0,ex0,rfl,rfl,h⟩:=h
  unfold zf9 at h
  split at h
  ·rename_i m
   obtain⟨M,n,hn,⟨ds,hm,rows⟩,sq,big,h⟩:=h
   have lm:ds.length=n:=by rw[rows.len]; exact sq.1
   refine zbn hm ?_
   refine ifD (λe=>?_) (λe=>?_)
   ·have n0:n=0:=by omega
    subst n0
    exact⟨Pre.refl,.int _,h⟩
   ·obtain⟨n,rfl⟩:∃k,n=k+1:=⟨n-1,by omega⟩
    obtain⟨r0,M',rfl⟩:∃r M',M=r::M':=by
     match M,sq.1 with
     | r::M',_=>exact⟨r,M',rfl⟩
    have lr:r0.length=n+1:=sq.2 r0 (by simp)
    obtain⟨a,hd,_,ha⟩:=rows.get' (k:=0) (r:=r0) rfl
    refine zhn (n:=a) (xs:=r0.map D.int) (λk d=>.int (r0.getD k 0*sgn (zaL n (za8 (r0::M') 0 k)) k)) (λK hK=>?_) ha (by simp; omega) (λk x hx S2 K p2 hK=>?_) ?_
    ·show dOp wIx (zcC 0) (dC (D.int 0)) [some (.ref m)] S λx S1=>K [x] S1
     exact zl0 hm hd hK
    ·have hk:k<n+1:=by
      have:=(Vad.mp hx).1
      simpa [lr] using this
     obtain rfl:=zlG hx
     show zeK [.ref m,.int 0,.int (k:Int)] S2 (λy S3=>ziE (.int (r0.getD k 0)) y S3 K) (λ_ _=>False)
     refine⟨r0::M',0,k,n,by omega,rfl,rfl,Vaj _,by omega,(show zbp S m (r0::M') from ⟨ds,hm,rows⟩).pre p2,sq,big,?_⟩
     refine⟨zkA sq big (by omega) (by omega),?_⟩
     rw[Nat.zero_add]
     exact hK
    ·refine zi0 (zav _ _) (zk9 n r0 M') ?_
     exact⟨Pre.refl.push,.int _,h⟩
  ·exact h.elim⟩))
def ztR (zbK:Df K mg "cofactor" zei zb3)(zcB:Fk P w K mg base 1 "signed" zdD zdV)(zcN:Fk P w K mg base 3 "determinant" zbR zf9)(zcH:Fk P w K mg base 1 "without" zdR zdP):Fk P w K mg base 4 "cofactor" zb3 zeJ:=
 zbK.mk' (zb9 (zat (k:=3) zbK.F zlr (zcd zul) λcdv A outer s H E hr=>⟨_,(zae (zaq (zak zcB hr (zaa (zak zcN hr (zaa (zak zcH hr (zaa (dv 0) (zaa (dv 1) (zaa (dv 2) zac)))) zac)) (zaa (zad zaO (dv 1) (dv 2)) zac))))),λds S Q ex h=>by
  obtain⟨Q0,ex0,rfl,rfl,h⟩:=h
  unfold zeJ at h
  split at h
  ·rename_i m r c
   obtain⟨M,i,j,n,hn,rfl,rfl,hi,hj,hm,sq,big,h⟩:=h
   refine⟨M,i,j,n,rfl,rfl,hm,sq,by omega,hi,hj,λT k pt mt=>?_⟩
   refine⟨za8 M i j,n,hn,mt,zdH sq hi hj,big.minor i j,?_⟩
   exact⟨i+j,by omega,pt,.int _,h⟩
  ·exact h.elim⟩))
def zzj (zby:Df K mg "determinant" zcw zbR)(zcj:Fk P w K mg base 4 "cofactor" zb3 zeJ)(zbt:mg "sum"=none)(zbk:mg "enumerate"=none)(zay:mg "len"=none):Fk P w K mg base 5 "determinant" zbR zg1:=
 zby.mk' (zb9 (zat (k:=4) zby.F zhp (zcd zs7) λcdv A outer s H E hr=>⟨_,(zaf (zaI (zaK (zaZ hr) (zaM (zaQ za5) rfl zay Boot.«len» (zaa (dv 0) zac)) zab (zaE _)) (zae (zaq zab)) zaN) (zae (zaq (zaM (zaQ (zhw rfl)) rfl zbt Boot.«sum» (zaa (zeV (x1:="column") (x2:="entry") (N:=["matrix"]) (caps:=[0]) (ar:=zam zcw) rfl rfl zcL rfl rfl rfl (by decide) rfl zbk Boot.«enumerate» (zaa (zap (dv 0) zab (λ_ _=>rfl)) zac) (λ_ _ _ _ _ _=>(zad zaJ (dv 1) (zak zcj hr (zaa (dv 2) (zaa zab (zaa (dv 0) zac))))))) zac))))),λds S Q ex h=>by
  obtain⟨Q0,ex0,rfl,rfl,h⟩:=h
  unfold zg1 at h
  split at h
  ·rename_i m
   obtain⟨M,n,hn,⟨ds,hm,rows⟩,sq,big,h⟩:=h
   have lm:ds.length=n:=by rw[rows.len]; exact sq.1
   refine zbn hm ?_
   refine ifD (λe=>?_) (λe=>?_)
   ·have n0:n=0:=by omega
    subst n0
    exact⟨Pre.refl,.int _,h⟩
   ·obtain⟨n,rfl⟩:∃k,n=k+1:=⟨n-1,by omega⟩
    obtain⟨r0,M',rfl⟩:∃r M',M=r::M':=by
     match M,sq.1 with
     | r::M',_=>exact⟨r,M',rfl⟩
    have lr:r0.length=n+1:=sq.2 r0 (by simp)
    obtain⟨a,hd,_,ha⟩:=rows.get' (k:=0) (r:=r0) rfl
    refine zhn (n:=a) (xs:=r0.map D.int) (λk d=>.int (r0.getD k 0*sgn (zaL n (za8 (r0::M') 0 k)) k)) (λK hK=>?_) ha (by simp; omega) (λk x hx S2 K p2 hK=>?_) ?_
    ·show dOp wIx (zcC 0) (dC (D.int 0)) [some (.ref m)] S λx S1=>K [x] S1
     exact zl0 hm hd hK
    ·have hk:k<n+1:=by
      have:=(Vad.mp hx).1
      simpa [lr] using this
     obtain rfl:=zlG hx
     show zeJ [.ref m,.int 0,.int (k:Int)] S2 (λy S3=>ziE (.int (r0.getD k 0)) y S3 K) (λ_ _=>False)
     refine⟨r0::M',0,k,n,by omega,rfl,rfl,Vaj _,by omega,(show zbp S m (r0::M') from ⟨ds,hm,rows⟩).pre p2,sq,big,?_⟩
     refine⟨zkA sq big (by omega) (by omega),?_⟩
     rw[Nat.zero_add]
     exact hK
    ·refine zi0 (zav _ _) (zk9 n r0 M') ?_
     exact⟨Pre.refl.push,.int _,h⟩
  ·exact h.elim⟩))
def zto (zbK:Df K mg "cofactor" zei zb3)(zcB:Fk P w K mg base 1 "signed" zdD zdV)(zcN:Fk P w K mg base 5 "determinant" zbR zg1)(zcH:Fk P w K mg base 1 "without" zdR zdP):Fk P w K mg base 6 "cofactor" zb3 zfR:=
 zbK.mk' (zb9 (zat (k:=5) zbK.F zlr (zcd zyV) λcdv A outer s H E hr=>⟨_,(zae (zaq (zak zcB hr (zaa (zak zcN hr (zaa (zak zcH hr (zaa (dv 0) (zaa (dv 1) (zaa (dv 2) zac)))) zac)) (zaa (zad zaO (dv 1) (dv 2)) zac))))),λds S Q ex h=>by
  obtain⟨Q0,ex0,rfl,rfl,h⟩:=h
  unfold zfR at h
  split at h
  ·rename_i m r c
   obtain⟨M,i,j,n,hn,rfl,rfl,hi,hj,hm,sq,big,h⟩:=h
   refine⟨M,i,j,n,rfl,rfl,hm,sq,by omega,hi,hj,λT k pt mt=>?_⟩
   refine⟨za8 M i j,n,hn,mt,zdH sq hi hj,big.minor i j,?_⟩
   exact⟨i+j,by omega,pt,.int _,h⟩
  ·exact h.elim⟩))
def zt3 (zby:Df K mg "determinant" zcw zbR)(zcj:Fk P w K mg base 6 "cofactor" zb3 zfR)(zbt:mg "sum"=none)(zbk:mg "enumerate"=none)(zay:mg "len"=none):Fk P w K mg base 7 "determinant" zbR zh6:=
 zby.mk' (zb9 (zat (k:=6) zby.F zhp (zcd zvI) λcdv A outer s H E hr=>⟨_,(zaf (zaI (zaK (zaZ hr) (zaM (zaQ za5) rfl zay Boot.«len» (zaa (dv 0) zac)) zab (zaE _)) (zae (zaq zab)) zaN) (zae (zaq (zaM (zaQ (zhw rfl)) rfl zbt Boot.«sum» (zaa (zeV (x1:="column") (x2:="entry") (N:=["matrix"]) (caps:=[0]) (ar:=zam zcw) rfl rfl zcL rfl rfl rfl (by decide) rfl zbk Boot.«enumerate» (zaa (zap (dv 0) zab (λ_ _=>rfl)) zac) (λ_ _ _ _ _ _=>(zad zaJ (dv 1) (zak zcj hr (zaa (dv 2) (zaa zab (zaa (dv 0) zac))))))) zac))))),λds S Q ex h=>by
  obtain⟨Q0,ex0,rfl,rfl,h⟩:=h
  unfold zh6 at h
  split at h
  ·rename_i m
   obtain⟨M,n,hn,⟨ds,hm,rows⟩,sq,big,h⟩:=h
   have lm:ds.length=n:=by rw[rows.len]; exact sq.1
   refine zbn hm ?_
   refine ifD (λe=>?_) (λe=>?_)
   ·have n0:n=0:=by omega
    subst n0
    exact⟨Pre.refl,.int _,h⟩
   ·obtain⟨n,rfl⟩:∃k,n=k+1:=⟨n-1,by omega⟩
    obtain⟨r0,M',rfl⟩:∃r M',M=r::M':=by
     match M,sq.1 with
     | r::M',_=>exact⟨r,M',rfl⟩
    have lr:r0.length=n+1:=sq.2 r0 (by simp)
    obtain⟨a,hd,_,ha⟩:=rows.get' (k:=0) (r:=r0) rfl
    refine zhn (n:=a) (xs:=r0.map D.int) (λk d=>.int (r0.getD k 0*sgn (zaL n (za8 (r0::M') 0 k)) k)) (λK hK=>?_) ha (by simp; omega) (λk x hx S2 K p2 hK=>?_) ?_
    ·show dOp wIx (zcC 0) (dC (D.int 0)) [some (.ref m)] S λx S1=>K [x] S1
     exact zl0 hm hd hK
    ·have hk:k<n+1:=by
      have:=(Vad.mp hx).1
      simpa [lr] using this
     obtain rfl:=zlG hx
     show zfR [.ref m,.int 0,.int (k:Int)] S2 (λy S3=>ziE (.int (r0.getD k 0)) y S3 K) (λ_ _=>False)
     refine⟨r0::M',0,k,n,by omega,rfl,rfl,Vaj _,by omega,(show zbp S m (r0::M') from ⟨ds,hm,rows⟩).pre p2,sq,big,?_⟩
     refine⟨zkA sq big (by omega) (by omega),?_⟩
     rw[Nat.zero_add]
     exact hK
    ·refine zi0 (zav _ _) (zk9 n r0 M') ?_
     exact⟨Pre.refl.push,.int _,h⟩
  ·exact h.elim⟩))
def zyB (zbK:Df K mg "cofactor" zei zb3)(zcB:Fk P w K mg base 1 "signed" zdD zdV)(zcN:Fk P w K mg base 7 "determinant" zbR zh6)(zcH:Fk P w K mg base 1 "without" zdR zdP):Fk P w K mg base 8 "cofactor" zb3 zee:=
 zbK.mk' (zb9 (zat (k:=7) zbK.F zlr (zcd zup) λcdv A outer s H E hr=>⟨_,(zae (zaq (zak zcB hr (zaa (zak zcN hr (zaa (zak zcH hr (zaa (dv 0) (zaa (dv 1) (zaa (dv 2) zac)))) zac)) (zaa (zad zaO (dv 1) (dv 2)) zac))))),λds S Q ex h=>by
  obtain⟨Q0,ex0,rfl,rfl,h⟩:=h
  unfold zee at h
  split at h
  ·rename_i m r c
   obtain⟨M,i,j,n,hn,rfl,rfl,hi,hj,hm,sq,big,h⟩:=h
   refine⟨M,i,j,n,rfl,rfl,hm,sq,by omega,hi,hj,λT k pt mt=>?_⟩
   refine⟨za8 M i j,n,hn,mt,zdH sq hi hj,big.minor i j,?_⟩
   exact⟨i+j,by omega,pt,.int _,h⟩
  ·exact h.elim⟩))
def zwV (zby:Df K mg "determinant" zcw zbR)(zcj:Fk P w K mg base 8 "cofactor" zb3 zee)(zbt:mg "sum"=none)(zbk:mg "enumerate"=none)(zay:mg "len"=none):Fk P w K mg base 9 "determinant" zbR ziy:=
 zby.mk' (zb9 (zat (k:=8) zby.F zhp (zcd zxj) λcdv A outer s H E hr=>⟨_,(zaf (zaI (zaK (zaZ hr) (zaM (zaQ za5) rfl zay Boot.«len» (zaa (dv 0) zac)) zab (zaE _)) (zae (zaq zab)) zaN) (zae (zaq (zaM (zaQ (zhw rfl)) rfl zbt Boot.«sum» (zaa (zeV (x1:="column") (x2:="entry") (N:=["matrix"]) (caps:=[0]) (ar:=zam zcw) rfl rfl zcL rfl rfl rfl (by decide) rfl zbk Boot.«enumerate» (zaa (zap (dv 0) zab (λ_ _=>rfl)) zac) (λ_ _ _ _ _ _=>(zad zaJ (dv 1) (zak zcj hr (zaa (dv 2) (zaa zab (zaa (dv 0) zac))))))) zac))))),λds S Q ex h=>by
  obtain⟨Q0,ex0,rfl,rfl,h⟩:=h
  unfold ziy at h
  split at h
  ·rename_i m
   obtain⟨M,n,hn,⟨ds,hm,rows⟩,sq,big,h⟩:=h
   have lm:ds.length=n:=by rw[rows.len]; exact sq.1
   refine zbn hm ?_
   refine ifD (λe=>?_) (λe=>?_)
   ·have n0:n=0:=by omega
    subst n0
    exact⟨Pre.refl,.int _,h⟩
   ·obtain⟨n,rfl⟩:∃k,n=k+1:=⟨n-1,by omega⟩
    obtain⟨r0,M',rfl⟩:∃r M',M=r::M':=by
     match M,sq.1 with
     | r::M',_=>exact⟨r,M',rfl⟩
    have lr:r0.length=n+1:=sq.2 r0 (by simp)
    obtain⟨a,hd,_,ha⟩:=rows.get' (k:=0) (r:=r0) rfl
    refine zhn (n:=a) (xs:=r0.map D.int) (λk d=>.int (r0.getD k 0*sgn (zaL n (za8 (r0::M') 0 k)) k)) (λK hK=>?_) ha (by simp; omega) (λk x hx S2 K p2 hK=>?_) ?_
    ·show dOp wIx (zcC 0) (dC (D.int 0)) [some (.ref m)] S λx S1=>K [x] S1
     exact zl0 hm hd hK
    ·have hk:k<n+1:=by
      have:=(Vad.mp hx).1
      simpa [lr] using this
     obtain rfl:=zlG hx
     show zee [.ref m,.int 0,.int (k:Int)] S2 (λy S3=>ziE (.int (r0.getD k 0)) y S3 K) (λ_ _=>False)
     refine⟨r0::M',0,k,n,by omega,rfl,rfl,Vaj _,by omega,(show zbp S m (r0::M') from ⟨ds,hm,rows⟩).pre p2,sq,big,?_⟩
     refine⟨zkA sq big (by omega) (by omega),?_⟩
     rw[Nat.zero_add]
     exact hK
    ·refine zi0 (zav _ _) (zk9 n r0 M') ?_
     exact⟨Pre.refl.push,.int _,h⟩
  ·exact h.elim⟩))
def zvW  (zkz:Df K mg "inverse_entry" zkt zhF)(zcj:Fk P w K mg base 8 "cofactor" zb3 zee):Fk P w K mg base 9 "inverse_entry" zhF zg9:=
 zkz.mk' (zat (k:=8) zkz.F zsS (zsY) λcdv A outer s H E hr=>⟨_,(zae (zaq (zad zuN (zad zaJ (zad zaJ (zak zcj hr (zaa (dv 0) (zaa (dv 3) (zaa (dv 2) zac)))) (dv 4)) (dv 4)) (dv 1)))),λds S Q ex h=>by
  unfold zg9 at h
  split at h
  ·rename_i m w r c g
   obtain⟨M,i,j,n,hn,rfl,rfl,hi,hj,hm,sq,big,hw,hg,h⟩:=h
   refine⟨M,j,i,n,hn,rfl,rfl,hj,hi,hm,sq,big,?_⟩
   have e2:Sz 4140 (sgn (zaL n (za8 M j i)) (j+i)):=zmb (znq (zdH sq hj hi) (big.minor j i) (by omega))
   have eg:Sz 20 g:=Sz.of 1000000 (by omega)
   refine⟨zaF e2 eg,zaF (e2.mul eg) eg,⟨hw.1,hw.2.log hw.1⟩,?_⟩
   exact h
  ·exact h.elim⟩)
def zy5  (zkE:Df K mg "inverse_row" zg8 ziP)(zo9:Fk P w K mg base 9 "inverse_entry" zhF zg9)(zaG:mg "range"=none)(zay:mg "len"=none):Fk P w K mg base 10 "inverse_row" ziP zgS:=
 zkE.mk' (zat (k:=9) zkE.F zuB (zzm) λcdv A outer s H E hr=>⟨_,(zae (zaq (zpc (x:="column") (N:=["matrix","whole","row","grid"]) (caps:=[0,1,2,3]) (ar:=zam zg8) rfl rfl csc rfl (by decide) rfl zaG (zaa (zaM (zaQ za5) rfl zay Boot.«len» (zaa (dv 0) zac)) zac) (λ_ _ _ _ _ _=>zbu) (λ_ _ _ _ _ _=>(zak zo9 hr (zaa (dv 1) (zaa (dv 2) (zaa (dv 3) (zaa (dv 0) (zaa (dv 4) zac)))))))))),λds S Q ex h=>by
  unfold zgS at h
  split at h
  ·rename_i m w r g
   obtain⟨M,i,n,hn,rfl,hi,hm,sq,big,hw,hg,h⟩:=h
   obtain⟨ds,hds,rows⟩:=id hm
   have lm:ds.length=n+1:=by rw[rows.len]; exact sq.1
   refine zif (j:=((n+1:Nat):Int)) (S1:=S) (λk=>.int (zhM M n w g i k)) (λK hK=>?_) (by omega) (λk hk S2 K p2 hK=>?_) ?_
   ·refine zbn hds ?_
    rw[lm]
    exact hK
   ·exact⟨M,i,k,n,hn,rfl,rfl,hi,by omega,hm.pre p2,sq,big,hw,hg,hK⟩
   ·have e:(List.range ((n+1:Nat):Int).toNat).map (λk=>D.int (zhM M n w g i k))=(zeb M n w g i).map D.int:=by
     unfold zeb
     rw[Vap]
     rfl
    rw[e]
    exact h
  ·exact h.elim⟩)
def zv6  (zmv:Df K mg "inverse" zgz ziF)(zpb:Fk P w K mg base 10 "inverse_row" ziP zgS)(zcN:Fk P w K mg base 9 "determinant" zbR ziy)(zaG:mg "range"=none)(zay:mg "len"=none):Fk P w K mg base 11 "inverse" ziF zf8:=
 zmv.mk' (zat (k:=10) zmv.F zrD (zyK) λcdv A outer s H E hr=>⟨_,(zaf (zax (i:=2) zrD.nd rfl (Or.inr rfl) (zak zcN hr (zaa (dv 0) zac))) (zaf (zaI (zaK (zaZ hr) (dv 2) zab (zaE _)) (zae (zaq zfb)) zaN) (zae (zaq (zpc (x:="row") (N:=["matrix","whole","grid"]) (caps:=[0,2,1]) (ar:=zam zgz) rfl rfl csc rfl (by decide) rfl zaG (zaa (zaM (zaQ za5) rfl zay Boot.«len» (zaa (dv 0) zac)) zac) (λ_ _ _ _ _ _=>zbu) (λ_ _ _ _ _ _=>(zak zpb hr (zaa (dv 1) (zaa (dv 2) (zaa (dv 0) (zaa (dv 3) zac))))))))))),λds S Q ex h=>by
  unfold zf8 at h
  split at h
  ·rename_i m g
   obtain⟨M,n,hn,hm,sq,big,hg,h0,h1⟩:=h
   obtain⟨ds,hds,rows⟩:=id hm
   have lm:ds.length=n+1:=by rw[rows.len]; exact sq.1
   refine⟨M,n+1,by omega,hm,sq,big,?_⟩
   refine ifD (c:=zaL (n+1) M=0) (λc=>?_) (λc=>?_)
   ·exact h0 c
   ·refine zxd (j:=n+1) (T0:=S) (zeb M n (zaL (n+1) M) g) (λK hK=>?_) (by omega) (λk S2 K hk p2 hK=>?_) (λS2 ys p2 e2 r2=>?_)
    ·refine zbn hds ?_
     rw[lm]
     exact hK
    ·refine⟨M,k,n,hn,rfl,by omega,hm.pre p2,sq,big,⟨c,znq sq big (by omega)⟩,hg,?_⟩
     exact hK _ _ Pre.refl.push (Vaa _) (zav _ _)
    ·exact h1 c S2 _ p2 ⟨ys,e2,r2⟩
  ·exact h.elim⟩)
def zyZ  (zlV:Df K mg "middle" zlX ziS):Fk P w K mg base 1 "middle" ziS zhd:=
 zlV.mk' (zat (k:=0) zlV.F zvq (zs5) λcdv A outer s H E hr=>⟨_,(zae (zaq (zad zbD (zad zaO (zap (dv 0) zab (λ_ _=>rfl)) (zap (dv 0) zab (λ_ _=>rfl))) zab))),λds S Q ex h=>by
  unfold zhd at h
  split at h
  ·exact h
  ·exact h.elim⟩)
def zvH  (zkk:Df K mg "middles" zii zfN)(zoD:Fk P w K mg base 1 "middle" ziS zhd):Fk P w K mg base 2 "middles" zfN zeC:=
 zkk.mk' (zat (k:=1) zkk.F zvN (ztP) λcdv A outer s H E hr=>⟨_,(zae (zaq (zc3 (x:="span") (N:=[]) (caps:=[]) (ar:=zam zii) rfl rfl csc rfl (by decide) (dv 0) (λ_ _ _ _ _ _=>zbu) (λ_ _ _ _ _ _=>(zak zoD hr (zaa (dv 0) zac)))))),λds S Q ex h=>by
  unfold zeC at h
  split at h
  ·rename_i s
   obtain⟨vs,hs,l9,h⟩:=h
   refine zcZ (n:=s) (S1:=S) (o:=.lst (vs.map frD)) (λd=>match d with | .tup [.int a,.int b]=>.int ((a+b)/2) | _=>.non) (λK hK=>by exact hK) hs (by show (vs.map frD).length≤1000; rw[Vab]; omega) (λx hx S2 K pr hK=>?_) ?_
   ·have hx':x∈vs.map frD:=hx
    obtain⟨p,_,rfl⟩:=Vag.mp hx'
    exact hK
   ·have e2:(zao (.lst (vs.map frD))).map (λd=>match d with | .tup [.int a,.int b]=>.int ((a+b)/2) | _=>.non)=vs.map λp=>D.int (mid p):=by
     show (vs.map frD).map _=_
     rw[Vap]
     rfl
    rw[e2]
    exact h
  ·exact h.elim⟩)
def zze  (zjK:Df K mg "box_of_middles" ziN zeL)(zeR:Fk P w K mg base 2 "middles" zfN zeC):Fk P w K mg base 3 "box_of_middles" zeL zeM:=
 zjK.mk' (zat (k:=2) zjK.F zyP (zti) λcdv A outer s H E hr=>⟨_,(zae (zaq (zc3 (x:="place") (N:=[]) (caps:=[]) (ar:=zam ziN) rfl rfl csc rfl (by decide) (zak zeR hr (zaa (dv 0) zac)) (λ_ _ _ _ _ _=>zbu) (λ_ _ _ _ _ _=>(zaR (zaa (dv 0) (zaa (dv 0) zac))))))),λds S Q ex h=>by
  unfold zeM at h
  split at h
  ·rename_i b
   obtain⟨vs,hb,l9,h⟩:=h
   refine zcZ (n:=S.length) (S1:=S++[.lst (vs.map λp=>.int (mid p))]) (o:=.lst (vs.map λp=>.int (mid p))) (λd=>.tup [d,d]) (λK hK=>⟨vs,hb,l9,hK⟩) (zav _ _) (by show (vs.map _).length≤1000; rw[Vab]; omega) (λx hx S2 K pr hK=>by exact hK) ?_
   refine h _ _ Pre.refl.push.push (by simp) ?_
   have e:(zao (.lst (vs.map λp=>D.int (mid p)))).map (λd=>D.tup [d,d])=(vs.map zaW).map frD:=by
    show (vs.map λp=>D.int (mid p)).map _=_
    rw[Vap]
    rw[Vap]
    rfl
   rw[e]
   exact zav _ _
  ·exact h.elim⟩)
def zw1  (zjT:Df K mg "sum_of_products" zja zfY)(zb4:Fk P w K mg base 1 "add_spans" zdt zdj)(zcs:Fk P w K mg base 2 "mul_spans" zdK zdT)(zbl:mg "zip"=none):Fk P w K mg base 3 "sum_of_products" zfY ze4:=
 zjT.mk' (zat (k:=2) zjT.F zmu (zrP) λcdv A outer s H E hr=>⟨_,(zaf (zax (i:=3) zmu.nd rfl (Or.inl rfl) (zaR (zaa zab (zaa zab zac)))) (zaf (zt7 (is:=[4,5]) PassesOwn.never rfl zmu.nd (Nms.cons (i:=4) rfl (Or.inl rfl) (by first | exact .inl rfl | exact .inr rfl) (Nms.cons (i:=5) rfl (Or.inl rfl) (by first | exact .inl rfl | exact .inr rfl) Nms.nil)) rfl rfl zbl Boot.«zip» (zaa (dv 0) (zaa (dv 1) zac)) (zae (zax (i:=3) zmu.nd rfl (Or.inl rfl) (zak zb4 hr (zaa (dv 3) (zaa (zak zcs hr (zaa (dv 4) (zaa (dv 5) (zaa (dv 2) zac)))) zac)))))) (zae (zaq (dv 3))))),λds S Q ex h=>by
  unfold ze4 at h
  split at h
  ·rename_i a b g
   obtain⟨us,vs,ha,hb,l6,z1,z2,hg,h⟩:=h
   have sg:Sz 21 g:=Sz.of 1000000 (by omega)
   refine zum (n:=a) (n':=b) (xs:=us.map frD) (ys:=vs.map frD) (S:=S) (λk dl'=>∃u1 u2:Option D,dl'=[some (.ref a),some (.ref b),some (.int g),some (frD (sumP g (us.take k) (vs.take k))),u1,u2]) (λK hK=>by exact hK) ha hb ⟨_,_,rfl⟩ ?_ ?_
   ·rintro k x y dl' nx ct hx hy ⟨u1,u2,rfl⟩ hn
    rw[Vae] at hx hy
    obtain⟨p,hp,rfl⟩:=Van.mp hx
    obtain⟨r,hr,rfl⟩:=Van.mp hy
    have zp:=z1 _ (Vai hp)
    have zr:=z2 _ (Vai hr)
    refine⟨⟨⟨zaF zp.1 zr.1,zaF zp.1 zr.2,zaF zp.2 zr.1,zaF zp.2 zr.2⟩,sg.fd (by omega)⟩,λmn mx hc=>?_⟩
    obtain⟨rfl,rfl⟩:=hc.eq
    refine hn _ ⟨some (frD p),some (frD r),?_⟩
    rw[zgG g us vs k hp hr]
    rfl
   ·rintro dl' ⟨u1,u2,rfl⟩
    rw[Vab,Vab,znB]
    exact h
  ·exact h.elim⟩)
def zy7  (zjB:Df K mg "lacking" zho zgR)(zcu:Fk P w K mg base 1 "take_spans" zd0 zdA)(zet:Fk P w K mg base 3 "sum_of_products" zfY ze4):Fk P w K mg base 4 "lacking" zgR zgi:=
 zjB.mk' (zb9 (zat (k:=3) zjB.F zpl (zcd (zv0)) λcdv A outer s H E hr=>⟨_,(zaf (zax (i:=5) zpl.nd rfl (Or.inl rfl) (zo2 (zaK (zaZ hr) (dv 0) (dv 1) (zaE _)) (zaR (zaa (dv 4) (zaa (dv 4) zac))) (zaR (zaa zab (zaa zab zac))))) (zaf (zkl (x:="slant") (N:=["column"]) (caps:=[1]) (ar:=zam zho) rfl rfl csc rfl (by decide) (i:=6) zpl.nd rfl rfl (dv 3) (λ_ _ _ _ _ _=>zbu) (λ_ _ _ _ _ _=>(zaD (dv 0) (dv 1) (λ_ _=>rfl)))) (zae (zaq (zak zcu hr (zaa (dv 5) (zaa (zak zet hr (zaa (dv 2) (zaa (dv 6) (zaa (dv 4) zac)))) zac))))))),λds S Q ex h=>by
  obtain⟨Q0,ex0,rfl,rfl,h⟩:=h
  unfold zgi at h
  split at h
  ·rename_i k c t s g
   obtain⟨q,kn,cn,ts,R,ds,rfl,rfl,ht,hs,rows,zr,hc,l6,r6,z1,hg,h⟩:=h
   have tail:∀whole:Int×Int,whole=(if kn=cn then (g,g) else (0,0))→∀K:DK,K (frD (zbZ g kn cn ts R)) (S++[.lst ((R.map λr=>r.getD cn (0,0)).map frD)])→True:=λ_ _ _ _=>trivial
   have col:∀(k:Nat) (r:List (Int×Int)),R[k]?=some r→atI (r.map frD) ((cn:Nat):Int)=some (frD (r.getD cn (0,0))):=λk r hr=>by
    have hl:=(zr r (Vai hr)).1
    have z:=zaY (vs:=r) (i:=((cn:Nat):Int)) ⟨by omega,by rw[hl]; omega⟩
    rw[z]
    have e:gt r ((cn:Nat):Int)=r.getD cn (0,0):=by
     have ll:cn<r.length:=by rw[hl]; exact hc
     unfold gt
     rw[Vah]
     simp[ll]
    rw[e]
   have bd:Bd 20000 (R.map λr=>r.getD cn (0,0)):=λp hp=>by
    obtain⟨r,hr,er⟩:=Vag.mp hp
    subst er
    obtain⟨hl,b⟩:=zr r hr
    have ll:cn<r.length:=by rw[hl]; exact hc
    have e:r.getD cn (0,0)=r[cn]:=by simp[ll]
    rw[e]
    exact⟨(b _ (VaM ll)).1.mono (by decide),(b _ (VaM ll)).2.mono (by decide)⟩
   have rest:∀whole:Int×Int,whole=(if kn=cn then (g,g) else (0,0))→Gc S Q0 (.tup [.int (whole.1-(sumP g ts (R.map λr=>r.getD cn (0,0))).2),.int (whole.2-(sumP g ts (R.map λr=>r.getD cn (0,0))).1)]) (S++[.lst ((R.map λr=>r.getD cn (0,0)).map frD)]):=λwhole e=>by
    subst e
    exact⟨Pre.refl.push,zf0,h⟩
   refine ifD (λe=>?_) (λe=>?_)
   ·refine zrs (n:=s) (S1:=S) (o:=.lst ds) (λk d=>∃r,R[k]?=some r∧d=frD (r.getD cn (0,0))) (λK hK=>by exact hK) hs (by show ds.length≤1000; rw[rows.1]; omega) (λk x hx S2 K pr hK=>?_) (λxs lx hx=>?_)
    ·have hx':ds[k]?=some x:=hx
     have hk:k<R.length:=by
      have:=(Vad.mp hx').1
      rw[rows.1] at this
      exact this
     obtain⟨a,rfl,_,ha⟩:=rows.2 k x _ hx' (Vac hk)
     refine zaC (o:=.lst _) (pr _ _ ha) (col k _ (Vac hk)) ?_
     exact hK _ ⟨_,Vac hk,rfl⟩
    ·have e2:xs=(R.map λr=>r.getD cn (0,0)).map frD:=by
      refine Vbc λk=>?_
      by_cases hk:k<xs.length
      ·obtain⟨r,hr,e⟩:=hx k _ (Vac hk)
       rw[Vac hk,Vae,Vae,hr,e]
       rfl
      ·have lx':xs.length=R.length:=by rw[lx]; exact rows.1
       rw[VaK (by omega),VaK (by simp; omega)]
     subst e2
     refine⟨ts,_,zaz ht,zav _ _,l6,z1,bd,hg,?_⟩
     exact rest (g,g) (by rw[if_pos (by omega)])
   ·refine zrs (n:=s) (S1:=S) (o:=.lst ds) (λk d=>∃r,R[k]?=some r∧d=frD (r.getD cn (0,0))) (λK hK=>by exact hK) hs (by show ds.length≤1000; rw[rows.1]; omega) (λk x hx S2 K pr hK=>?_) (λxs lx hx=>?_)
    ·have hx':ds[k]?=some x:=hx
     have hk:k<R.length:=by
      have:=(Vad.mp hx').1
      rw[rows.1] at this
      exact this
     obtain⟨a,rfl,_,ha⟩:=rows.2 k x _ hx' (Vac hk)
     refine zaC (o:=.lst _) (pr _ _ ha) (col k _ (Vac hk)) ?_
     exact hK _ ⟨_,Vac hk,rfl⟩
    ·have e2:xs=(R.map λr=>r.getD cn (0,0)).map frD:=by
      refine Vbc λk=>?_
      by_cases hk:k<xs.length
      ·obtain⟨r,hr,e⟩:=hx k _ (Vac hk)
       rw[Vac hk,Vae,Vae,hr,e]
       rfl
      ·have lx':xs.length=R.length:=by rw[lx]; exact rows.1
       rw[VaK (by omega),VaK (by simp; omega)]
     subst e2
     refine⟨ts,_,zaz ht,zav _ _,l6,z1,bd,hg,?_⟩
     exact rest (0,0) (by rw[if_neg (by omega)])
  ·exact h.elim⟩))
def zt5  (zmG:Df K mg "span_by" zel zhi)(zb4:Fk P w K mg base 1 "add_spans" zdt zdj)(zet:Fk P w K mg base 3 "sum_of_products" zfY ze4)(zcu:Fk P w K mg base 1 "take_spans" zd0 zdA)(zoz:Fk P w K mg base 4 "lacking" zgR zgi)(zfl:Fk P w K mg base 3 "box_of_middles" zeL zeM)(zbl:mg "zip"=none)(zaG:mg "range"=none)(zay:mg "len"=none):Fk P w K mg base 5 "span_by" zhi zhl:=
 zmG.mk' (zb9 (zat (k:=4) zmG.F zfC (zcd (zsl)) λcdv A outer s H E hr=>⟨_,(zaf (zax (i:=6) zfC.nd rfl (Or.inr rfl) (zc3 (x:="entry") (N:=[]) (caps:=[]) (ar:=zam zel) rfl rfl csc rfl (by decide) (dv 3) (λ_ _ _ _ _ _=>zbu) (λ_ _ _ _ _ _=>(zaR (zaa (dv 0) (zaa (dv 0) zac)))))) (zaf (zax (i:=7) zfC.nd rfl (Or.inl rfl) (zak zfl hr (zaa (dv 1) zac))) (zaf (zax (i:=8) zfC.nd rfl (Or.inl rfl) (zak zcu hr (zaa (zaD (dv 7) (dv 0) (λ_ _=>rfl)) (zaa (zak zet hr (zaa (dv 6) (zaa (dv 4) (zaa (dv 2) zac)))) zac)))) (zaf (zfw (x:="column") (N:=["k","turns","slants","grid"]) (caps:=[0,6,5,2]) (ar:=zam zel) rfl rfl csc rfl (by decide) (i:=9) zfC.nd rfl rfl rfl zaG (zaa (zaM (zaQ za5) rfl zay Boot.«len» (zaa (dv 1) zac)) zac) (λ_ _ _ _ _ _=>zbu) (λ_ _ _ _ _ _=>(zak zoz hr (zaa (dv 1) (zaa (dv 0) (zaa (dv 2) (zaa (dv 3) (zaa (dv 4) zac)))))))) (zaf (zuJ (x1:="span") (x2:="centre") (N:=[]) (caps:=[]) (ar:=zam zel) rfl rfl zcL rfl rfl rfl (by decide) (i:=10) zfC.nd rfl rfl rfl zbl Boot.«zip» (zaa (dv 1) (zaa (dv 7) zac)) (λ_ _ _ _ _ _=>(zak zcu hr (zaa (dv 0) (zaa (dv 1) zac))))) (zae (zaq (zak zb4 hr (zaa (dv 8) (zaa (zak zet hr (zaa (dv 9) (zaa (dv 10) (zaa (dv 2) zac)))) zac)))))))))),λds S Q ex h=>by
  obtain⟨Q0,ex0,rfl,rfl,h⟩:=h
  unfold zhl at h
  split at h
  ·rename_i ki b g e t s
   obtain⟨k,box,thin,es,R,ds,rfl,hk,he,e4,ze,hb,ht,hs,rows,zr,bl,r4,t4,zb,zt,hg,h⟩:=h
   have bdE:Bd 20000 (es.map λx=>(x,x)):=λp hp=>by
    obtain⟨x,hx,rfl⟩:=Vag.mp hp
    exact⟨(ze x hx).mono (by decide),(ze x hx).mono (by decide)⟩
   have bdT:Bd 20000 thin:=λp hp=>⟨(zt p hp).1.mono (by decide),(zt p hp).2.mono (by decide)⟩
   have lE:(es.map λx=>(x,x)).length≤60:=by rw[Vab]; omega
   refine zcZ (n:=e) (S1:=S) (o:=.lst (es.map D.int)) (λd=>.tup [d,d]) (λK hK=>by exact hK) he (by show (es.map D.int).length≤1000; rw[Vab]; omega) (λx hx S2 K pr hK=>by exact hK) ?_
   have eE:(zao (.lst (es.map D.int))).map (λd=>D.tup [d,d])=(es.map λx=>(x,x)).map frD:=by
    show (es.map D.int).map _=_
    rw[Vap]
    rw[Vap]
    rfl
   rw[eE]
   have T0:=zav S (.lst ((es.map λx=>(x,x)).map frD))
   refine⟨box,zaz hb,by omega,λT m pr lm hm=>?_⟩
   have P0:Pre S T:=λx o z=>pr _ _ (zaz z)
   have hT:=pr _ _ T0
   have kc:inR (((box.map zaW).length:Nat):Int) (k:Int):=⟨by omega,by rw[Vab]; omega⟩
   have ec:gt (box.map zaW) (k:Int)=zaW (gt box k):=by
    unfold gt
    rw[Vah]
    simp[hk]
   have ac:=zaY kc
   rw[ec] at ac
   refine zaC (o:=.lst ((box.map zaW).map frD)) hm ac ?_
   refine⟨_,thin,hT,P0 _ _ ht,lE,bdE,bdT,hg,?_⟩
   have lk:∀c:Nat,c<box.length→∀(S2:Sto) (K:DK),Pre T S2→K (frD (zbZ g k c (es.map λx=>(x,x)) R)) S2→∃(q kn cn:Nat) (ts:List (Int×Int)) (R':List (List (Int×Int))) (ds':List D),((k:Nat):Int)=(kn:Nat)∧((c:Nat):Int)=(cn:Nat)∧S2[S.length]?=some (.lst (ts.map frD))∧S2[s]?=some (.lst ds')∧za2 S2 0 ds' R'∧(∀r∈R',r.length=q∧Bd 2000 r)∧cn<q∧ts.length≤60∧R'.length≤60∧Bd 20000 ts∧(1≤g∧g≤1000000)∧K (frD (zbZ g kn cn ts R')) S2:=λc hc S2 K p2 hK=>⟨box.length,k,c,_,R,ds,rfl,rfl,p2 _ _ hT,p2 _ _ (P0 _ _ hs),rows.pre λx o z=>p2 _ _ (P0 _ _ z),zr,hc,lE,by omega,bdE,hg,hK⟩
   refine zif (j:=((box.length:Nat):Int)) (S1:=T) (λc=>frD (zbZ g k c (es.map λx=>(x,x)) R)) (λK hK=>by
    refine zbn (P0 _ _ hb) ?_
    rw[Vab]
    exact hK) ⟨by omega,by omega⟩ (λc hc S2 K p2 hK=>lk c (by omega) S2 K p2 hK) ?_
   rw[Vah]
   have eL:((List.range box.length).map λc=>frD (zbZ g k c (es.map λx=>(x,x)) R))=((List.range box.length).map λc=>zbZ g k c (es.map λx=>(x,x)) R).map frD:=by
    rw[Vap]
    rfl
   rw[eL]
   have T1:=zav T (.lst (((List.range box.length).map λc=>zbZ g k c (es.map λx=>(x,x)) R).map frD))
   refine zgm (n:=b) (n':=m) (S1:=T++[.lst (((List.range box.length).map λc=>zbZ g k c (es.map λx=>(x,x)) R).map frD)]) (xs:=box.map frD) (ys:=(box.map zaW).map frD) (λx y=>match x,y with | .tup [.int a,.int b],.tup [.int c,.int d]=>.tup [.int (a-d),.int (b-c)] | _,_=>.non) (λK hK=>by exact hK) (zaz (P0 _ _ hb)) (zaz hm) (by rw[Vab]; omega) (λj x y hx hy S2 K p2 hK=>?_) ?_
   ·rw[Vae] at hx hy
    obtain⟨p,hp,rfl⟩:=Van.mp hx
    obtain⟨r,hr,rfl⟩:=Van.mp hy
    exact hK
   have eW:List.zipWith (λx y=>match x,y with | .tup [.int a,.int b],.tup [.int c,.int d]=>.tup [.int (a-d),.int (b-c)] | _,_=>.non) (box.map frD) ((box.map zaW).map frD)=(box.map λp=>zbA p (zaW p)).map frD:=by
    rw[Vap,List.zipWith_map,Vap,List.zipWith_self]
    rfl
   rw[eW]
   have zm:Bd 62 (box.map λp=>zbA p (zaW p)):=λp hp=>by
    obtain⟨x,hx,rfl⟩:=Vag.mp hp
    have z:=zb x hx
    have zmid:=zqq z.1 z.2
    exact(zqY (B:=60) (C:=61) z ⟨zmid,zmid⟩).imp (λz=>z.mono (by decide)) (λz=>z.mono (by decide))
   have zl:Bd 20000 ((List.range box.length).map λc=>zbZ g k c (es.map λx=>(x,x)) R):=λp hp=>by
    obtain⟨c,hc,rfl⟩:=Vag.mp hp
    have hc':=Va1.mp hc
    have bR:Bd 2000 (R.map λr=>r.getD c (0,0)):=λp hp=>by
     obtain⟨r,hr,er⟩:=Vag.mp hp
     subst er
     obtain⟨hl,b⟩:=zr r hr
     have ll:c<r.length:=by rw[hl]; exact hc'
     have e:r.getD c (0,0)=r[c]:=by simp[ll]
     rw[e]
     exact b _ (VaM ll)
    have bE:Bd 4000 (es.map λx=>(x,x)):=λp hp=>by
     obtain⟨x,hx,rfl⟩:=Vag.mp hp
     exact⟨ze x hx,ze x hx⟩
    have z:=zue hg.1 bE bR lE
    have sg:Sz 21 g:=Sz.of 1000000 (by omega)
    unfold zbZ
    have w:Sz 21 (if k=c then (g,g) else (0,0)).1∧Sz 21 (if k=c then (g,g) else (0,0)).2:=by
     split
     ·exact⟨sg,sg⟩
     ·exact⟨VaN (by decide),VaN (by decide)⟩
    exact(zqY w z).imp (λz=>z.mono (by decide)) (λz=>z.mono (by decide))
   refine⟨_,_,zaz T1,zav _ _,by rw[Vab,Vbh]; omega,zl,λp hp=>⟨(zm p hp).1.mono (by decide),(zm p hp).2.mono (by decide)⟩,hg,?_⟩
   exact⟨λx o z=>zaz (zaz (P0 _ _ z)),zf0,h⟩
  ·exact h.elim⟩))
def zwn  (zjw:Df K mg "step_by" zge zib)(zpm:Fk P w K mg base 5 "span_by" zhi zhl)(zbk:mg "enumerate"=none):Fk P w K mg base 6 "step_by" zib zgg:=
 zjw.mk' (zat (k:=5) zjw.F zsM (zvw) λcdv A outer s H E hr=>⟨_,(zae (zaq (zeV (x1:="k") (x2:="entries") (N:=["box","grid","thin","slants"]) (caps:=[0,1,3,4]) (ar:=zam zge) rfl rfl zcL rfl rfl rfl (by decide) rfl zbk Boot.«enumerate» (zaa (dv 2) zac) (λ_ _ _ _ _ _=>(zak zpm hr (zaa (dv 0) (zaa (dv 2) (zaa (dv 3) (zaa (dv 1) (zaa (dv 4) (zaa (dv 5) zac))))))))))),λds S Q ex h=>by
  unfold zgg at h
  split at h
  ·rename_i b g u t s
   obtain⟨box,thin,M,ms,R,ds,hu,mi,lM,zM,hb,ht,hs,rows,zr,bl,r4,t4,zb,zt,hg,h⟩:=h
   refine zhn (n:=u) (S1:=S) (xs:=ms) (λk d=>frD (zbh g box thin R k (M.getD k []))) (λK hK=>by exact hK) hu (by rw[mi.1]; omega) (λk x hx S2 K pr hK=>?_) ?_
   ·have hk:k<M.length:=by
     have:=(Vad.mp hx).1
     rw[mi.1] at this
     exact this
    obtain⟨a,rfl,ha⟩:=mi.2 k x _ hx (Vac hk)
    have eM:M.getD k []=M[k]:=by simp[hk]
    rw[eM] at hK
    have z:=zM _ (VaM hk)
    exact⟨k,box,thin,M[k],R,ds,rfl,by omega,pr _ _ ha,z.1,z.2,pr _ _ hb,pr _ _ ht,pr _ _ hs,rows.pre pr,zr,bl,r4,t4,zb,zt,hg,hK⟩
   ·have e:(ms.mapIdx λk d=>frD (zbh g box thin R k (M.getD k [])))=(M.mapIdx λk es=>zbh g box thin R k es).map frD:=by
     refine Vbc λk=>?_
     rw[List.getElem?_mapIdx,Vae,List.getElem?_mapIdx]
     by_cases hk:k<M.length
     ·rw[Vac (show k<ms.length by rw[mi.1]; exact hk),Vac hk]
      simp[hk]
     ·rw[VaK (by rw[mi.1]; omega),VaK (show M.length≤k by omega)]
      rfl
    rw[e]
    exact h
  ·exact h.elim⟩)
def zsW  (zj3:Df K mg "thin_worths" zk5 zh8)(zev:Fk P w K mg base 1 "picked" zeU zff)(zdn:Fk P w K mg base 4 "worths" zed zep)(zfl:Fk P w K mg base 3 "box_of_middles" zeL zeM):Fk P w K mg base 5 "thin_worths" zh8 zgA:=
 zj3.mk' (zat (k:=4) zj3.F zvA (zsV) λcdv A outer s H E hr=>⟨_,(zae (zaq (zak zev hr (zaa (zak zdn hr (zaa (dv 0) (zaa (zak zfl hr (zaa (dv 2) zac)) (zaa (dv 3) zac)))) (zaa (dv 1) zac))))),λds S Q ex h=>by
  unfold zgA at h
  split at h
  ·rename_i a p b g
   obtain⟨ns,ws,bs,is,ha,hb,net,sb,hg,l7,b9,hp,i9,hi,h⟩:=h
   refine⟨bs,hb,b9,λT m pr lm hm=>?_⟩
   refine⟨ns,ws,bs.map zaW,pr _ _ ha,hm,by rw[Vab]; exact net,znz sb,hg,l7,λT1 m1 pr1 lm1 h1=>?_⟩
   refine⟨_,is,h1,pr1 _ _ (pr _ _ hp),i9,λi him=>by rw[Vab,zcp]; exact hi i him,?_⟩
   have e:(is.map λi=>((zau (bs.map zaW) g ns).map frD).getD i .non)=(is.map λ(i:Nat)=>gt (zau (bs.map zaW) g ns) i).map frD:=by
    rw[Vap]
    refine List.map_congr_left λi him=>?_
    have hl:i<(zau (bs.map zaW) g ns).length:=by rw[zcp]; exact hi i him
    show _=frD (gt (zau (bs.map zaW) g ns) (i:Int))
    unfold gt
    rw[Vah]
    simp[hl]
   rw[e]
   refine h _ _ (λx o z=>zaz (pr1 _ _ (pr _ _ z))) ?_ (zav _ _)
   have:=zfP pr
   have:=zfP pr1
   omega
  ·exact h.elim⟩)
def zyY  (zjo:Df K mg "deep" zj5 zhC):Fk P w K mg base 1 "deep" zhC zhO:=
 zjo.mk' (zat (k:=0) zjo.F zwQ (zy0) λcdv A outer s H E hr=>⟨_,(zae (zaq (zeT (zcU zdZ (zap (dv 1) zab (λ_ _=>rfl)) (zap (dv 0) zab (λ_ _=>rfl)) (zaE _)) (zgr (zcU zdZ (zap (dv 0) zab (λ_ _=>rfl)) (zap (dv 1) zab (λ_ _=>rfl)) (zaE _)))))),λds S Q ex h=>by
  unfold zhO at h
  split at h
  ·refine ifD (λe=>?_) (λe=>?_)
   ·rw[decide_eq_true e,Bool.true_and] at h
    exact h
   ·rw[decide_eq_false e,Bool.false_and] at h
    exact h
  ·exact h.elim⟩)
def zx5  (zjf:Df K mg "all_deep" zgq zgM)(zoi:Fk P w K mg base 1 "deep" zhC zhO)(zcS:mg "all"=none)(zbl:mg "zip"=none):Fk P w K mg base 2 "all_deep" zgM zix:=
 zjf.mk' (zb9 (zat (k:=1) zjf.F ztg (zcd (zuI)) λcdv A outer s H E hr=>⟨_,(zae (zaq (zaM (zaQ (zqL rfl)) rfl zcS Boot.«all» (zaa (zlf (x1:="new") (x2:="old") (N:=[]) (caps:=[]) (ar:=zam zgq) rfl rfl zcL rfl rfl rfl (by decide) rfl zbl Boot.«zip» (zaa (dv 0) (zaa (dv 1) zac)) (λ_ _ _ _ _ _=>(zak zoi hr (zaa (dv 0) (zaa (dv 1) zac))))) zac)))),λds S Q ex h=>by
  obtain⟨Q0,ex0,rfl,rfl,h⟩:=h
  unfold zix at h
  split at h
  ·rename_i m n
   obtain⟨us,vs,h1,h2,hl,h⟩:=h
   refine zgm (n:=m) (n':=n) (S1:=S) (xs:=us.map frD) (ys:=vs.map frD) (λx y=>match x,y with | .tup [.int a,.int b],.tup [.int c,.int d]=>.bl (decide (c<a)&&decide (b<d)) | _,_=>.non) (λK hK=>by exact hK) h1 h2 (by rw[Vab]; exact hl) (λk x y hx hy S2 K pr hK=>?_) ?_
   ·obtain⟨p,_,rfl⟩:=Vag.mp (Vai hx)
    obtain⟨q,_,rfl⟩:=Vag.mp (Vai hy)
    exact hK
   ·refine zqj (n:=S.length) (o:=.lst _) (bs:=List.zipWith zfh us vs) (zav _ _) (zwg us vs) ?_
    exact⟨Pre.refl.push,.bl _,h⟩
  ·exact h.elim⟩))
def zza  (zkd:Df K mg "sure" zme ziM):Fk P w K mg base 1 "sure" ziM zh7:=
 zkd.mk' (zat (k:=0) zkd.F zwN (ztt) λcdv A outer s H E hr=>⟨_,(zaf (zaI (zaK (zaZ hr) (dv 0) za1 (zaE _)) (zae (zaq (zeT (zcU (zaZ hr) (zap (dv 1) zab (λ_ _=>rfl)) zab (zaE _)) (zgr (zcU (zaZ hr) (zap (dv 1) zab (λ_ _=>rfl)) zab (zaE _)))))) zaN) (zae (zaq (zcU do_ge (zap (dv 1) zab (λ_ _=>rfl)) zab (zaE _))))),λds S Q ex h=>by
  unfold zh7 at h
  split at h
  ·rcases h with ⟨rfl,h⟩ | ⟨rfl,h⟩
   ·refine ifD (λc=>?_) (λc=>?_)
    ·rw[decide_eq_true c,Bool.true_and] at h
     exact h
    ·rw[decide_eq_false c,Bool.false_and] at h
     exact h
   ·exact h
  ·exact h.elim⟩)
def zsA  (zji:Df K mg "leasts_are_sure" zhB zf6)(znV:Fk P w K mg base 1 "sure" ziM zh7)(zcS:mg "all"=none):Fk P w K mg base 2 "leasts_are_sure" zf6 zin:=
 zji.mk' (zb9 (zat (k:=1) zji.F zyR (zcd (zt2)) λcdv A outer s H E hr=>⟨_,(zae (zaq (zaM (zaQ (zqL rfl)) rfl zcS Boot.«all» (zaa (zc3 (x:="row") (N:=["spans"]) (caps:=[1]) (ar:=zam zhB) rfl rfl csc rfl (by decide) (dv 0) (λ_ _ _ _ _ _=>zop (zaK (zaZ hr) (zap (dv 0) zab (λ_ _=>rfl)) za1 (zaE _))) (λ_ _ _ _ _ _=>(zak znV hr (zaa (zap (dv 0) zab (λ_ _=>rfl)) (zaa (zaD (dv 1) (zap (dv 0) zab (λ_ _=>rfl)) (λ_ _=>rfl)) zac))))) zac)))),λds S Q ex h=>by
  obtain⟨Q0,ex0,rfl,rfl,h⟩:=h
  unfold zin at h
  split at h
  ·rename_i r s
   obtain⟨rows,vs,hr,hs,l9,hi,h⟩:=h
   refine zoc (n:=r) (S1:=S) (o:=.lst (rows.map rwD)) (λd=>match d with | .tup [.str w,.int at']=>if w="least" then some (.bl (decide (0≤(gt vs at').1))) else none | _=>none) (λK hK=>by exact hK) hr (by show (rows.map rwD).length≤1000; rw[Vab]; omega) (λx hx S2 K pr hK=>?_) (λx hx y hy S2 K pr hK=>?_) ?_
   ·have hx':x∈rows.map rwD:=hx
    obtain⟨⟨b,n⟩,_,rfl⟩:=Vag.mp hx'
    cases b
    ·exact hK
    ·exact hK
   ·have hx':x∈rows.map rwD:=hx
    obtain⟨⟨b,n⟩,hm,rfl⟩:=Vag.mp hx'
    cases b
    ·cases hy
     refine zaC (o:=.lst (vs.map frD)) (pr _ _ hs) (zaY (vs:=vs) (i:=(n:Int)) ⟨by omega,by have:=hi _ hm; dsimp only at this; omega⟩) ?_
     exact .inr ⟨rfl,hK⟩
    ·exact absurd hy (by
      simp[rwD]
      intro z
      exact absurd z (by decide))
   ·refine zqj (n:=S.length) (o:=.lst _) (zav _ _) (znO vs rows) ?_
    rw[← zo7 vs rows] at h
    exact⟨Pre.refl.push,.bl _,h⟩
  ·exact h.elim⟩))
def zvu  (zjW:Df K mg "alone" zf4 zil)(zo5:Fk P w K mg base 2 "all_deep" zgM zix)(zo6:Fk P w K mg base 6 "step_by" zib zgg)(zpp:Fk P w K mg base 5 "thin_worths" zh8 zgA)(zoV:Fk P w K mg base 11 "inverse" ziF zf8)(zeR:Fk P w K mg base 2 "middles" zfN zeC)(zoy:Fk P w K mg base 6 "slopes_at" zih ziC)(zor:Fk P w K mg base 2 "leasts_are_sure" zf6 zin)(zdn:Fk P w K mg base 4 "worths" zed zep)(zoe:Fk P w K mg base 1 "equation_places" zgt ziv)(zay:mg "len"=none):Fk P w K mg base 12 "alone" zil zhr:=
 zjW.mk' (zat (k:=11) zjW.F zhN (zsq) λcdv A outer s H E hr=>⟨_,(zaf (zax (i:=4) zhN.nd rfl (Or.inl rfl) (zak zoe hr (zaa (dv 1) zac))) (zaf (zaI (PDW.pt (zfA (zaK (zfj hr) (zaM (zaQ za5) rfl zay Boot.«len» (zaa (dv 4) zac)) (zaM (zaQ za5) rfl zay Boot.«len» (zaa (dv 2) zac)) (zaE _)) (zit (zcY (zce (zak zor hr (zaa (dv 1) (zaa (zak zdn hr (zaa (dv 0) (zaa (dv 2) (zaa (dv 3) zac)))) zac)))))))) (zae (zaq zfb)) zaN) (zaf (zax (i:=5) zhN.nd rfl (Or.inl rfl) (zak zoy hr (zaa (dv 0) (zaa (dv 4) (zaa (dv 2) (zaa (dv 3) zac)))))) (zaf (zax (i:=6) zhN.nd rfl (Or.inl rfl) (zak zoV hr (zaa (zc3 (x:="slant") (N:=[]) (caps:=[]) (ar:=zam zf4) rfl rfl csc rfl (by decide) (dv 5) (λ_ _ _ _ _ _=>zbu) (λ_ _ _ _ _ _=>(zak zeR hr (zaa (dv 0) zac)))) (zaa (dv 3) zac)))) (zaf (zaI (zaK zq6 (dv 6) zfb (zaE _)) (zae (zaq zfb)) zaN) (zaf (zax (i:=7) zhN.nd rfl (Or.inl rfl) (zak zo6 hr (zaa (dv 2) (zaa (dv 3) (zaa (dv 6) (zaa (zak zpp hr (zaa (dv 0) (zaa (dv 4) (zaa (dv 2) (zaa (dv 3) zac))))) (zaa (dv 5) zac))))))) (zaf (zaI (zcY (zce (zak zo5 hr (zaa (dv 7) (zaa (dv 2) zac))))) (zae (zaq zfb)) zaN) (zae (zaq (zaR (zaa (dv 6) (zaa (dv 7) zac)))))))))))),λds S Q ex h=>by
  unfold zhr at h
  split at h
  ·rename_i a r b g
   obtain⟨ns,ws,bs,rows,ha,hb,net,sb,hg,l7,b9,hr,r9,hi,bl,hN,hY⟩:=h
   have hi':∀i∈eqs rows,i<ns.length:=λi him=>hi _ (zqU him)
   refine⟨rows,hr,r9,?_⟩
   have P0:Pre S (S++[Ob.lst ((eqs rows).map wtD)]):=Pre.refl.push
   have hp:=zav S (.lst ((eqs rows).map wtD))
   refine zbn hp ?_
   refine zbn (P0 _ _ hb) ?_
   rw[Vab,Vab]
   refine ifN (λc=>?_) (λc=>?_)
   ·refine zbM ?_
    exact hN (by unfold alS; rw[if_neg (λz=>c (by rw[z.1]))]) _ P0
   have lq:(eqs rows).length=bs.length:=by omega
   refine⟨ns,ws,bs,P0 _ _ ha,P0 _ _ hb,net,sb,hg,l7,λT1 m1 p1 lm1 h1=>?_⟩
   have P1:Pre S T1:=λx o z=>p1 _ _ (P0 _ _ z)
   refine⟨rows,zau bs g ns,P1 _ _ hr,h1,r9,λr hr=>by rw[zcp]; exact hi r hr,?_⟩
   cases eL:zkx rows (zau bs g ns)
   ·refine zbM ?_
    exact hN (by unfold alS; rw[if_neg (λz=>by rw[eL] at z; cases z.2)]) _ P1
   refine zbm ?_
   refine⟨ns,ws,bs,eqs rows,P1 _ _ ha,P1 _ _ hb,net,sb,hg,l7,b9,p1 _ _ hp,by omega,hi',λT2 m2 ds p2 lm2 h2 rowsT=>?_⟩
   have P2:Pre S T2:=λx o z=>p2 _ _ (P1 _ _ z)
   have hp2:=p2 _ _ (p1 _ _ hp)
   refine zqJ (S1:=T2) (n:=m2) (o:=.lst ds) (λk ys S2=>Pre T2 S2∧S2[T2.length]?=some (.lst ys)∧ys.length=k∧Rows S2 (T2.length+1) ys (((zcc g bs ns rows).take k).map λr=>r.map mid)) (λK hK=>by exact hK) h2 (λk ys S2 w=>⟨w.1 _ _ h2,w.2.1,w.2.2.1⟩) (by show ds.length≤1000; rw[rowsT.1,Vab]; omega) ⟨Pre.refl.push,zav _ _,rfl,by simpa using Rows.nil⟩ (λk x ys S2 K hx w hK=>?_) (λys S2 w=>?_)
   ·obtain⟨y1,y2,y3,y4⟩:=w
    have hx':ds[k]?=some x:=hx
    have hk:k<(zcc g bs ns rows).length:=by
     have:=(Vad.mp hx').1
     rw[rowsT.1] at this
     exact this
    have hr:=Vac hk
    generalize (zcc g bs ns rows)[k]=r at hr
    obtain⟨ar,rfl,_,har⟩:=rowsT.2 k x r hx' hr
    have zr':=znW net sb hg hi' r (Vai hr)
    refine⟨r,y1 _ _ har,by rw[zr'.1]; omega,?_⟩
    have lt:=zbg y2
    refine hK _ _ (zaz y2) ⟨zeD (zcP y1 _) (Vaa _),zb5 (zaz y2),by simp[y3],?_⟩
    rw[zbU hr,VaD]
    refine Rows.snoc (y4.keep λa o l q=>?_) (by omega) ?_
    ·exact zcz (zaz q) (by omega)
    ·refine zcz ?_ (by omega)
     have e:(r.map mid).map D.int=r.map λp=>D.int (mid p):=by rw[Vap]; rfl
     rw[e]
     exact zav _ _
   obtain⟨y1,y2,y3,y4⟩:=w
   have e9:(zcc g bs ns rows).take (zao (.lst ds)).length=zcc g bs ns rows:=Vaz (by show (zcc g bs ns rows).length≤ds.length; rw[rowsT.1]; exact Vaa _)
   rw[e9] at y4
   have P3:Pre S S2:=λx o z=>y1 _ _ (P2 _ _ z)
   have hn:bs.length-1+1=bs.length:=by omega
   have sq:Sq (bs.length-1+1) (za7 g bs ns rows):=⟨by unfold za7 zcc; rw[Vab,Vab]; omega,λr hr=>by
    obtain⟨x,hx,rfl⟩:=Vag.mp hr
    rw[Vab,(znW net sb hg hi' x hx).1,hn]⟩
   have bigM:Big (za7 g bs ns rows):=λr hr x hx=>by
    obtain⟨z,hz,rfl⟩:=Vag.mp hr
    obtain⟨p,hp,rfl⟩:=Vag.mp hx
    have z2:=(zrh net sb hg hi' z hz).2 p hp
    exact(zqq z2.1 z2.2).mono (by decide)
   refine⟨za7 g bs ns rows,bs.length-1,by omega,⟨ys,y2,y4.low (Vaj _)⟩,sq,bigM,hg,λdz=>?_,λdz T4 k4 p4 mt=>?_⟩
   ·rw[hn] at dz
    exact hN (by unfold alS; rw[if_pos ⟨lq,eL⟩,if_pos dz]) _ P3
   rw[hn] at dz mt
   have P4:Pre S T4:=λx o z=>p4 _ _ (P3 _ _ z)
   obtain⟨tds,ht,rowsM⟩:=mt
   refine⟨ns,ws,bs,eqs rows,P4 _ _ ha,P4 _ _ hb,net,sb,hg,l7,b9,p4 _ _ (y1 _ _ hp2),by omega,hi',λT5 m5 p5 lm5 h5=>?_⟩
   have P5:Pre S T5:=λx o z=>p5 _ _ (P4 _ _ z)
   have lI:=zpL (za7 g bs ns rows) (bs.length-1) (zaL bs.length (za7 g bs ns rows)) g
   refine⟨bs,zeq g bs ns rows,zbO (za7 g bs ns rows) (bs.length-1) (zaL bs.length (za7 g bs ns rows)) g,tds,zcc g bs ns rows,ds,p5 _ _ ht,rowsM.toI.pre p5,by omega,λr hr=>⟨by have:=zrA r hr; omega,zvE sq bigM (by omega) dz hg r hr⟩,P5 _ _ hb,h5,p5 _ _ (p4 _ _ (y1 _ _ h2)),rowsT.pre λx o z=>p5 _ _ (p4 _ _ (y1 _ _ z)),znW net sb hg hi',bl,by unfold zcc; rw[Vab]; omega,by unfold zeq; rw[Vab]; omega,λp hp=>⟨(sb p hp).2.1.mono (by decide),(sb p hp).2.2.mono (by decide)⟩,zuQ net sb hg hi',hg,?_⟩
   refine⟨zc9 g bs ns rows (zbO (za7 g bs ns rows) (bs.length-1) (zaL bs.length (za7 g bs ns rows)) g),bs,zav _ _,zaz (P5 _ _ hb),by unfold zc9; rw[List.length_mapIdx]; omega,?_⟩
   cases eD:zf1 (zc9 g bs ns rows (zbO (za7 g bs ns rows) (bs.length-1) (zaL bs.length (za7 g bs ns rows)) g)) bs
   ·refine zbM ?_
    exact hN (by unfold alS; rw[if_pos ⟨lq,eL⟩,if_neg dz,if_neg (by rw[eD]; decide)]) _ (zcP P5 _)
   refine zbm ?_
   have:=zfP P5
   exact hY (zbO (za7 g bs ns rows) (bs.length-1) (zaL bs.length (za7 g bs ns rows)) g) (zc9 g bs ns rows (zbO (za7 g bs ns rows) (bs.length-1) (zaL bs.length (za7 g bs ns rows)) g)) (by unfold alS; rw[if_pos ⟨lq,eL⟩,if_neg dz,if_pos eD]) _ _ _ _ (zcP P5 _) (zaz (p5 _ _ ht)) ((rowsM.toI.pre p5).pre (zcP Pre.refl _)) (zav _ _) this
  ·exact h.elim⟩)
def zr7  (zmw:Df K mg "_law_deep" zlb zgI)(zaG:mg "range"=none)(zay:mg "len"=none):Fk P w K mg base 1 "_law_deep" zgI zg5:=
 zmw.mk' (zat (k:=0) zmw.F zqi (zzc) λcdv A outer s H E hr=>⟨_,(zaf (zdp (i:=2) PassesOwn.never rfl zqi.nd rfl (Or.inl rfl) rfl zaG (zaa (zaM (zaQ za5) rfl zay Boot.«len» (zaa (dv 1) zac)) zac) (zae (zaI (PDW.pt (zfA (zcY (zaK zdZ (zap (zaD (dv 1) (dv 2) (λ_ _=>rfl)) zab (λ_ _=>rfl)) (zap (zaD (dv 0) (dv 2) (λ_ _=>rfl)) zab (λ_ _=>rfl)) (zaE _))) (zit (zcY (zaK zdZ (zap (zaD (dv 0) (dv 2) (λ_ _=>rfl)) zab (λ_ _=>rfl)) (zap (zaD (dv 1) (dv 2) (λ_ _=>rfl)) zab (λ_ _=>rfl)) (zaE _)))))) (zae (zaq zb7)) zaN))) (zae (zaq zb7))),λds S Q ex h=>by
  unfold zg5 at h
  split at h
  ·rename_i f b
   obtain⟨us,vs,hu,hv,l,l9,wi,h⟩:=h
   refine zbn hv ?_
   rw[Vab]
   refine⟨⟨by omega,by omega⟩,λk dl' S'=>S=S'∧k≤vs.length∧∃u:Option D,dl'=[some (.ref f),some (.ref b),u],⟨rfl,Vaj _,_,rfl⟩,?_⟩
   rintro k dl' S' ⟨rfl,hk,u,rfl⟩
   rw[Vah]
   refine zcx (λc=>?_) (λc=>h)
   have kv:inR ((vs.length:Nat):Int) (k:Int):=⟨by omega,by omega⟩
   have ku:inR ((us.length:Nat):Int) (k:Int):=⟨by omega,by omega⟩
   obtain⟨w1,w2⟩:=wi k c
   refine zaC (o:=.lst (vs.map frD)) hv (zaY kv) ?_
   refine zaC (o:=.lst (us.map frD)) hu (zaY ku) ?_
   refine ifNF w1 ?_
   refine zaC (o:=.lst (us.map frD)) hu (zaY ku) ?_
   refine zaC (o:=.lst (vs.map frD)) hv (zaY kv) ?_
   refine ifNF w2 ?_
   exact⟨rfl,c,_,rfl⟩
  ·exact h.elim⟩)
def zsm  (zmn:Df K mg "_law_point" zlt zhs)(zaG:mg "range"=none)(zay:mg "len"=none):Fk P w K mg base 1 "_law_point" zhs zgf:=
 zmn.mk' (zat (k:=0) zmn.F znt (zya) λcdv A outer s H E hr=>⟨_,(zaf (zax (i:=4) znt.nd rfl (Or.inl rfl) (zb2 zac)) (zaf (zdp (i:=5) PassesOwn.never rfl znt.nd rfl (Or.inl rfl) rfl zaG (zaa (zaM (zaQ za5) rfl zay Boot.«len» (zaa (dv 0) zac)) zac) (zae (zbr (zca (dv 4) (zaR (zaa (zad zaO (zad zaJ (zap (zaD (dv 0) (dv 5) (λ_ _=>rfl)) zab (λ_ _=>rfl)) (dv 2)) (zad zaJ (zad zcg (zap (zaD (dv 0) (dv 5) (λ_ _=>rfl)) zab (λ_ _=>rfl)) (zap (zaD (dv 0) (dv 5) (λ_ _=>rfl)) zab (λ_ _=>rfl))) (zaD (dv 1) (dv 5) (λ_ _=>rfl)))) (zaa (zad zaJ (dv 3) (dv 2)) zac))))))) (zae (zaq (dv 4))))),λds S Q ex h=>by
  unfold zgf at h
  split at h
  ·rename_i b pa W g
   obtain⟨bs,ts,hb,hp,hl,h9,sb,hw,ht,hg,h⟩:=h
   have sg:Sz 21 g:=Sz.of 1000000 (by omega)
   have sw:Sz 20 W:=Sz.of 1000000 (by omega)
   refine zbn (zaz hb) ?_
   rw[Vab]
   refine⟨⟨by omega,by omega⟩,λk dl' S'=>k≤bs.length∧Pre S S'∧S'[S.length]?=some (.lst ((pts bs ts W g k).map frD))∧∃u:Option D,dl'=[some (.ref b),some (.ref pa),some (.int W),some (.int g),some (.ref S.length),u],⟨Vaj _,Pre.refl.push,zav _ _,_,rfl⟩,?_⟩
   rintro k dl' S' ⟨hk,pr,hs,u,rfl⟩
   rw[Vah]
   refine zcx (λc=>?_) (λc=>?_)
   ·have kb:inR ((bs.length:Nat):Int) (k:Int):=⟨by omega,by omega⟩
    obtain⟨t,_,m1,m2,_⟩:=zpi (k:=k) sb hw ht hg c hl
    refine zd6 (n:=S.length) (S1:=S') (xs:=(pts bs ts W g k).map frD) (y:=frD (zdM bs ts W g k)) (λK hK=>by exact hK) hs (λK hK=>?_) (by rw[Vab,zlK]; omega) ?_
    ·refine zaC (o:=.lst (bs.map frD)) (pr _ _ hb) (zaY kb) ?_
     refine⟨m1,?_⟩
     refine zaC (o:=.lst (bs.map frD)) (pr _ _ hb) (zaY kb) ?_
     refine zaC (o:=.lst (bs.map frD)) (pr _ _ hb) (zaY kb) ?_
     refine zaC (o:=.lst (ts.map D.int)) (pr _ _ hp) (zpa (by omega)) ?_
     exact⟨m2,zaF sg sw,hK⟩
    ·refine⟨by omega,zeD pr (Vaa _),?_,_,rfl⟩
     rw[zvz,VaD]
     exact zb5 hs
   ·have e:k=bs.length:=by omega
    subst e
    exact h _ _ pr (Vaa _) hs
  ·exact h.elim⟩)
def zxT  (zl3:Df K mg "_law_whole" zmh zir)(zbH:mg "isinstance"=none)(zdw:mg "bool"=none)(zck:mg "int"=none)(zeN:Kit K "bool")(zfv:Kit K "int"):Fk P w K mg base 1 "_law_whole" zir ziI:=
 zl3.mk' (zat (k:=0) zl3.F zuo (zvk) λcdv A outer s H E hr=>⟨_,(zae (zaq (zeT (zmz zfv rfl zbH rfl zck Boot.«int» (dv 0)) (zgr (zxh (zmz zeN rfl zbH rfl zdw Boot.«bool» (dv 0))))))),λds S Q ex h=>by
  unfold ziI at h
  split at h
  ·exact h
  ·exact h.elim⟩)
def zxM  (zm6:Df K mg "_law_span" zj6 zgx)(zk8:Fk P w K mg base 1 "_law_whole" zir ziI)(zay:mg "len"=none)(zbH:mg "isinstance"=none)(zcW:mg "tuple"=none)(zdi:Kit K "tuple"):Fk P w K mg base 2 "_law_span" zgx ziR:=
 zm6.mk' (zat (k:=1) zm6.F zu3 (zxR) λcdv A outer s H E hr=>⟨_,(zaf (zaI (PDW.pt (zfA (zcY (zce (zmz zdi rfl zbH rfl zcW Boot.«tuple» (dv 0)))) (zit (zaK (zfj hr) (zaM za5 rfl zay Boot.«len» (zaa (dv 0) zac)) zab (zaE _))))) (zae (zaq zb7)) zaN) (zae (zaq (zeT (zak zk8 hr (zaa (zap (dv 0) zab (λ_ _=>rfl)) zac)) (zeT (zak zk8 hr (zaa (zap (dv 0) zab (λ_ _=>rfl)) zac)) (zgr (zcU zn3 (zap (dv 0) zab (λ_ _=>rfl)) (zap (dv 0) zab (λ_ _=>rfl)) (zaE _)))))))),λds S Q ex h=>by
  unfold ziR at h
  split at h
  ·obtain⟨hab,h⟩:=h
   exact qt (Q:=Q) (decide_eq_true hab) h
  ·exact h.elim⟩)
def zzd  (zk7:Df K mg "_law_spans" zly ziu)(zok:Fk P w K mg base 2 "_law_span" zgx ziR)(zay:mg "len"=none)(zbH:mg "isinstance"=none)(zcr:mg "list"=none):Fk P w K mg base 3 "_law_spans" ziu ziV:=
 zk7.mk' (zat (k:=2) zk7.F zqW (zsb) λcdv A outer s H E hr=>⟨_,(zaf (zaI (PDW.pt (zfA (zcY (zce (zr4 (zx9 _) rfl zbH rfl zcr Boot.«list» (dv 0)))) (zit (zaK (zfj hr) (zaM (zaQ za5) rfl zay Boot.«len» (zaa (dv 0) zac)) (dv 1) (zaE _))))) (zae (zaq zb7)) zaN) (zaf (ze8 (i:=2) PassesOwn.never rfl zqW.nd rfl (Or.inl rfl) (dv 0) (zae (zaI (zcY (zce (zak zok hr (zaa (dv 2) zac)))) (zae (zaq zb7)) zaN))) (zae (zaq zb7)))),λds S Q ex h=>by
  unfold ziV at h
  split at h
  ·rename_i a m
   obtain⟨vs,h1,rfl,hp,h⟩:=h
   refine zwT (n:=a) (λK hK=>by exact hK) h1 ?_
   refine zbm ?_
   refine zbn h1 ?_
   rw[Vab]
   refine ifN (λc=>absurd rfl c) (λ_=>?_)
   refine zfu (n:=a) (o:=.lst (vs.map frD)) (λk dl' S'=>S'=S∧∃u:Option D,dl'=[some (.ref a),some (.int (vs.length:Nat)),u]) ⟨rfl,_,rfl⟩ (λk dl' S' w=>by rw[w.1]; exact h1) ?_ (λdl' S' w=>by rw[w.1]; exact h)
   rintro k x dl' S' nx ct ex' ⟨rfl,u,rfl⟩ hn
   obtain⟨p,hpm,rfl⟩:=Vag.mp (Vai ex')
   refine⟨hp p hpm,?_⟩
   exact hn _ _ ⟨rfl,_,rfl⟩
  ·exact h.elim⟩)
def zsK  (zkU:Df K mg "law" zcQ zkv)(zem:Fk P w K mg base 3 "_law_exacts" zfd zfJ)(zmy:Fk P w K mg base 1 "_law_point" zhs zgf)(zcq:Fk P w K mg base 1 "_law_free" zdS zdy)(zbi:Fk P w K mg base 2 "_law_cell" zdL zd7)(zoB:Fk P w K mg base 1 "_law_deep" zgI zg5)(zo4:Fk P w K mg base 3 "_law_spans" ziu ziV)(zon:Fk P w K mg base 12 "alone" zil zhr)(zoJ:Fk P w K mg base 5 "_law_system" zhk zhb)(zoO:Fk P w K mg base 3 "_law_room" zhz ziw)(znC:Fk P w K mg base 1 "_law_grid" zh4 zis)(zaG:mg "range"=none)(zck:mg "int"=none)(zay:mg "len"=none)(zbH:mg "isinstance"=none)(zcW:mg "tuple"=none)(zcr:mg "list"=none)(zdi:Kit K "tuple"):Fk P w K mg base 13 "law" zkv zfI:=
 zkU.mk' (zat (k:=12) zkU.F zbW zst λcdv A outer s H E hr=>⟨_,(zaf (zax (i:=1) zbW.nd rfl (Or.inl rfl) (zaD (zb2 (zaa zab (zaa zab (zaa zab (zaa zab zac))))) (zad zbf (zak zbi hr (zaa (dv 0) (zaa zab zac))) zab) (λ_ _=>rfl))) (zaf (zax (i:=2) zbW.nd rfl (Or.inl rfl) (zak znC hr (zaa (zak zbi hr (zaa (dv 0) (zaa zab zac))) zac))) (zaf (zax (i:=3) zbW.nd rfl (Or.inl rfl) (zak zoO hr (zaa (dv 0) (zaa (dv 1) (zaa (dv 2) zac))))) (zaf (ztb (is:=[4,5]) rfl zbW.nd (Nms.cons (i:=4) rfl (Or.inl rfl) (by first | exact .inl rfl | exact .inr rfl) (Nms.cons (i:=5) rfl (Or.inl rfl) (by first | exact .inl rfl | exact .inr rfl) Nms.nil)) (zak zoJ hr (zaa (dv 0) (zaa (dv 1) (zaa (dv 2) (zaa (dv 3) zac)))))) (zaf (zax (i:=6) zbW.nd rfl (Or.inl rfl) (zb2 (zaa (zf2 (zaQ zoE) rfl zcr Boot.«list» (zaa (dv 4) zac)) (zaa (zf2 (zaQ zoE) rfl zcr Boot.«list» (zaa (dv 5) zac)) (zaa (zf2 (zaQ zoE) rfl zcr Boot.«list» (zaa (dv 3) zac)) zac))))) (zaf (zax (i:=7) zbW.nd rfl (Or.inl rfl) (zak zon hr (zaa (zaD (dv 6) zab (λ_ _=>rfl)) (zaa (zaD (dv 6) zab (λ_ _=>rfl)) (zaa (zaD (dv 6) zab (λ_ _=>rfl)) (zaa (dv 2) zac)))))) (zaf (zaI (zaK (zyQ hr) (dv 6) (zb2 (zaa (dv 4) (zaa (dv 5) (zaa (dv 3) zac)))) (zaE _)) (zae (zaq zb7)) zaN) (zaf (zaI (zaK zq6 (dv 7) zfb (zaE _)) (zae (zaq zb7)) zaN) (zaf (zaI (PDW.pt (zfA (zcY (zce (zmz zdi rfl zbH rfl zcW Boot.«tuple» (dv 7)))) (zfA (zaK (zfj hr) (zaM (zaQ za5) rfl zay Boot.«len» (zaa (dv 7) zac)) zab (zaE _)) (zit (zcY (zce (zak zo4 hr (zaa (zap (dv 7) zab (λ_ _=>rfl)) (zaa (dv 1) zac))))))))) (zae (zaq zb7)) zaN) (zaf (zaI (zcY (zce (zak zoB hr (zaa (zap (dv 7) zab (λ_ _=>rfl)) (zaa (dv 3) zac))))) (zae (zaq zb7)) zaN) (zaf (zax (i:=8) zbW.nd rfl (Or.inr rfl) (zad zaO zab (zad zbs (zak zbi hr (zaa (dv 0) (zaa zab zac))) (zaD (zb2 (zaa zab (zaa (zad zhx zab zab) zac))) (zf2 zqQ rfl zck Boot.«int» (zaa (zak zcq hr (zaa (dv 0) zac)) zac)) (λ_ _=>rfl))))) (zaf (zfw (x:="_law_k") (N:=["_law_script","_law_share"]) (caps:=[0,8]) (ar:=zam zcQ) rfl rfl csc rfl (by decide) (i:=9) zbW.nd rfl rfl rfl zaG (zaa (dv 1) zac) (λ_ _ _ _ _ _=>zbu) (λ_ _ _ _ _ _=>(zad zbs (zak zbi hr (zaa (dv 1) (zaa (zad zaO zab (dv 0)) zac))) (zad zaO (dv 2) zab)))) (zaf (zfw (x:="_law_k") (N:=["_law_script","_law_share"]) (caps:=[0,8]) (ar:=zam zcQ) rfl rfl csc rfl (by decide) (i:=10) zbW.nd rfl rfl rfl zaG (zaa (dv 1) zac) (λ_ _ _ _ _ _=>zbu) (λ_ _ _ _ _ _=>(zad zbs (zak zbi hr (zaa (dv 1) (zaa (zad zaO zab (dv 0)) zac))) (zad zaO (dv 2) zab)))) (zaf (zaI (PDW.pt (zvv (zaK (zaZ hr) (zad zbf (zad zbD (zak zbi hr (zaa (dv 0) (zaa zab zac))) zab) zab) zab (zaE _)) (zyO (zcY (zce (zak zcq hr (zaa (dv 0) zac))))))) (zae (zkl (x:="_law_part") (N:=["_law_share"]) (caps:=[8]) (ar:=zam zcQ) rfl rfl csc rfl (by decide) (i:=10) zbW.nd rfl rfl (dv 9) (λ_ _ _ _ _ _=>zbu) (λ_ _ _ _ _ _=>(zad zcg (dv 1) (dv 0))))) zaN) (zaf (zaI (zaK (ztH hr) (dv 9) (dv 10) (zaE _)) (zae (zaq zb7)) zaN) (zaf (zax (i:=11) zbW.nd rfl (Or.inl rfl) (zak zem hr (zaa (dv 4) (zaa (zak zmy hr (zaa (dv 3) (zaa (dv 9) (zaa (dv 8) (zaa (dv 2) zac))))) zac)))) (zaf (zax (i:=12) zbW.nd rfl (Or.inl rfl) (zak zem hr (zaa (dv 4) (zaa (zak zmy hr (zaa (dv 3) (zaa (dv 10) (zaa (dv 8) (zaa (dv 2) zac))))) zac)))) (zaf (ze8 (i:=13) PassesOwn.never rfl zbW.nd rfl (Or.inl rfl) (zc3 (x:="_law_row") (N:=[]) (caps:=[]) (ar:=zam zcQ) rfl rfl csc rfl (by decide) (dv 5) (λ_ _ _ _ _ _=>zop (zaK (zaZ hr) (zap (dv 0) zab (λ_ _=>rfl)) za1 (zaE _))) (λ_ _ _ _ _ _=>(dv 0))) (zaf (zax (i:=14) zbW.nd rfl (Or.inl rfl) (zaD (dv 11) (zap (dv 13) zab (λ_ _=>rfl)) (λ_ _=>rfl))) (zaf (zax (i:=15) zbW.nd rfl (Or.inl rfl) (zaD (dv 12) (zap (dv 13) zab (λ_ _=>rfl)) (λ_ _=>rfl))) (zae (zaI (zaK (zfj hr) (zad zaJ (zap (dv 14) zab (λ_ _=>rfl)) (zap (dv 15) zab (λ_ _=>rfl))) (zad zaJ (zap (dv 15) zab (λ_ _=>rfl)) (zap (dv 14) zab (λ_ _=>rfl))) (zaE _)) (zae (zaq zb7)) zaN))))) (zae (zaq zb7)))))))))))))))))))),λds S Q ex h=>by
  obtain⟨ns,rfl,rfl,hl,h⟩:=h
  refine⟨ns,rfl,by decide,λv0=>?_⟩
  obtain⟨q,eq4,q1,q3⟩:∃q:Nat,atI [D.int 2,.int 1,.int 2,.int 3] (v0%4)=some (.int (q:Int))∧1≤q∧q≤3:=by
   have r8:=zbj (a:=v0) (b:=4) (by decide)
   generalize v0%4=z at r8
   have e:z=0∨z=1∨z=2∨z=3:=by omega
   rcases e with rfl | rfl | rfl | rfl
   ·exact⟨2,rfl,by decide,by decide⟩
   ·exact⟨1,rfl,by decide,by decide⟩
   ·exact⟨2,rfl,by decide,by decide⟩
   ·exact⟨3,rfl,by decide,by decide⟩
  refine zaC (n:=1) (o:=.lst [D.int 2,.int 1,.int 2,.int 3]) rfl eq4 ?_
  refine⟨ns,rfl,by decide,λv1=>?_⟩
  intro g hg g2
  refine⟨ns,q,rfl,⟨rfl,q3⟩,⟨hg,g2⟩,λT1 mb B p1 lmb hB lB sB zB=>?_⟩
  have h01:=p1 _ _ (show [Ob.frz (ns.map D.int),.lst [D.int 2,.int 1,.int 2,.int 3]][0]?=some (.frz (ns.map D.int)) from rfl)
  refine⟨ns,q,B,h01,⟨rfl,q1,q3⟩,hB,lB,hl,⟨hg,g2⟩,zB,λT2 ma mr xs wx rows net l1 l60 hN hR r10 zr lma lmr amr p2=>?_⟩
  have h02:=p2 _ _ h01
  have hB2:=p2 _ _ hB
  have ltb:=zbg hB
  clear p1 h01 zB
  refine⟨rfl,?_⟩
  refine zof (zaU hN rfl) ?_
  refine zof (zaU (zaz hR) rfl) ?_
  refine zof (zaU (zaz (zaz hB2)) rfl) ?_
  dsimp only[zao]
  have A1:(T2++[Ob.lst (xs.map Nd.d)]++[Ob.lst (rows.map rwD)]++[Ob.lst (B.map frD)])[T2.length]?=some (.lst (xs.map Nd.d)):=zaz (zaz (zav _ _))
  have A2:(T2++[Ob.lst (xs.map Nd.d)]++[Ob.lst (rows.map rwD)]++[Ob.lst (B.map frD)])[(T2++[Ob.lst (xs.map Nd.d)]).length]?=some (.lst (rows.map rwD)):=zaz (zav _ _)
  have A3:(T2++[Ob.lst (xs.map Nd.d)]++[Ob.lst (rows.map rwD)]++[Ob.lst (B.map frD)])[(T2++[Ob.lst (xs.map Nd.d)]++[Ob.lst (rows.map rwD)]).length]?=some (.lst (B.map frD)):=zav _ _
  have pu:Pre T2 (T2++[Ob.lst (xs.map Nd.d)]++[Ob.lst (rows.map rwD)]++[Ob.lst (B.map frD)]):=zcP (zcP (zcP Pre.refl _) _) _
  have B0:=pu _ _ h02
  have B1:=pu _ _ hN
  have B2:=pu _ _ hR
  have B3:=pu _ _ hB2
  generalize (T2++[Ob.lst (xs.map Nd.d)]).length=i2 at A2 ⊢
  generalize (T2++[Ob.lst (xs.map Nd.d)]++[Ob.lst (rows.map rwD)]).length=i3 at A3 ⊢
  generalize T2.length=i1 at A1 ⊢
  clear pu hN hR hB2 h02
  generalize T2++[Ob.lst (xs.map Nd.d)]++[Ob.lst (rows.map rwD)]++[Ob.lst (B.map frD)]=V at A1 A2 A3 B0 B1 B2 B3 ⊢
  have H:=zav V (.lst [.ref i1,.ref i2,.ref i3])
  refine zaC (o:=.lst [.ref i1,.ref i2,.ref i3]) H (d:=.ref i1) rfl ?_
  refine zaC (o:=.lst [.ref i1,.ref i2,.ref i3]) H (d:=.ref i2) rfl ?_
  refine zaC (o:=.lst [.ref i1,.ref i2,.ref i3]) H (d:=.ref i3) rfl ?_
  have pV:Pre V (V++[Ob.lst [.ref i1,.ref i2,.ref i3]]):=Pre.refl.push
  have netB:zaH B.length xs wx:=by rw[lB]; exact net
  have al:∀(T:Sto),Pre (V++[Ob.lst [.ref i1,.ref i2,.ref i3]]) T→∀(k:Nat) (d e:D),[D.ref i1,.ref i2,.ref i3][k]?=some d→[D.ref ma,.ref mr,.ref mb][k]?=some e→∃a b ys zs,d=.ref a∧e=.ref b∧(T++[Ob.lst [.ref ma,.ref mr,.ref mb]])[a]?=some (.lst ys)∧(T++[Ob.lst [.ref ma,.ref mr,.ref mb]])[b]?=some (.lst zs)∧eqL (eqN 1) ys zs=some true:=λT pT k d e hd he=>by
   match k with
   | 0=>
    cases hd; cases he
    exact⟨_,_,_,_,rfl,rfl,zaz (pT _ _ (pV _ _ A1)),zaz (pT _ _ (pV _ _ B1)),zrn _⟩
   | 1=>
    cases hd; cases he
    exact⟨_,_,_,_,rfl,rfl,zaz (pT _ _ (pV _ _ A2)),zaz (pT _ _ (pV _ _ B2)),zqP _⟩
   | 2=>
    cases hd; cases he
    exact⟨_,_,_,_,rfl,rfl,zaz (pT _ _ (pV _ _ A3)),zaz (pT _ _ (pV _ _ B3)),zrf _⟩
   | k+3=>simp at hd
  refine⟨xs,wx,B,rows,pV _ _ A1,pV _ _ A3,netB,sB,⟨hg,g2⟩,by omega,by omega,pV _ _ A2,by omega,zr,⟨by omega,by omega⟩,λeN T pT=>?_,λM near eS T m n ms pT h1 rI h2 _=>?_⟩
  ·refine zqg (ds:=[.ref i1,.ref i2,.ref i3]) (es:=[.ref ma,.ref mr,.ref mb]) (zaz (pT _ _ H)) (zav _ _) rfl (al T pT) ?_
   refine zbm ?_
   exact h _
  refine zqg (ds:=[.ref i1,.ref i2,.ref i3]) (es:=[.ref ma,.ref mr,.ref mb]) (zaz (pT _ _ H)) (zav _ _) rfl (al T pT) ?_
  refine zbm ?_
  have pE:Pre V (T++[Ob.lst [.ref ma,.ref mr,.ref mb]]):=λx o e=>zaz (pT _ _ (pV _ _ e))
  have B0:=pE _ _ B0
  have B1:=pE _ _ B1
  have B2:=pE _ _ B2
  have B3:=pE _ _ B3
  have h2:(T++[Ob.lst [.ref ma,.ref mr,.ref mb]])[n]?=some (.lst (near.map frD)):=zaz h2
  clear pE pT al H A1 A2 A3 h1 rI
  generalize T++[Ob.lst [.ref ma,.ref mr,.ref mb]]=U at B0 B1 B2 B3 h2 ⊢
  have hi':∀i∈eqs rows,i<xs.length:=λi hi=>zr _ (zqU hi)
  obtain⟨ln,dn,sn⟩:=zrQ eS (by omega) netB sB ⟨hg,g2⟩ hi'
  obtain⟨le,lM,lE,_,_,hk⟩:=zpY eS (by omega)
  dsimp only[zj2]
  refine zgV (λdl2 S2=>U=S2∧dl2=[some (.ref 0),some (.int (q:Nat)),some (.int g),some (.ref mb),some (.ref ma),some (.ref mr),some (.ref V.length),some (.tup [.ref m,.ref n]),none,none,none,none,none,none,none,none]) (λnx hn=>hn _ _ ⟨rfl,rfl⟩) ?_
  rintro dl2 S2 ⟨rfl,rfl⟩
  refine zgV (λdl2 S2=>U=S2∧dl2=[some (.ref 0),some (.int (q:Nat)),some (.int g),some (.ref mb),some (.ref ma),some (.ref mr),some (.ref V.length),some (.tup [.ref m,.ref n]),none,none,none,none,none,none,none,none]) (λnx hn=>?_) ?_
  ·refine zy8 ?_
   refine⟨near,h2,by rw[ln,lB],λp hp=>(sn p hp).1,?_⟩
   refine zbm ?_
   exact hn _ _ ⟨rfl,rfl⟩
  rintro dl2 S2 ⟨rfl,rfl⟩
  refine zgV (λdl2 S2=>U=S2∧dl2=[some (.ref 0),some (.int (q:Nat)),some (.int g),some (.ref mb),some (.ref ma),some (.ref mr),some (.ref V.length),some (.tup [.ref m,.ref n]),none,none,none,none,none,none,none,none]) (λnx hn=>?_) ?_
  ·refine⟨near,B,h2,B3,ln,by omega,λk hk=>⟨(dn k hk).1,(dn k hk).2.2⟩,?_⟩
   refine zbm ?_
   exact hn _ _ ⟨rfl,rfl⟩
  rintro dl2 S2 ⟨rfl,rfl⟩
  refine zgV (λdl2 S2=>Pre U S2∧∃W:Int,(1≤W∧W≤1000000)∧dl2=[some (.ref 0),some (.int (q:Nat)),some (.int g),some (.ref mb),some (.ref ma),some (.ref mr),some (.ref V.length),some (.tup [.ref m,.ref n]),some (.int W),none,none,none,none,none,none,none]) (λnx hn=>?_) ?_
  ·refine⟨ns,B0,⟨by decide,by decide⟩,λv2=>?_⟩
   refine⟨ns,zaz B0,?_⟩
   obtain⟨z,ez,z1,z2⟩:∃z:Int,atI [D.int 60,.int (10^Int.toNat 6)] (if frS ns=true then (1:Int) else 0)=some (.int z)∧1≤z∧z≤1000000:=by
    cases frS ns
    ·exact⟨60,rfl,by decide,by decide⟩
    ·exact⟨10^Int.toNat 6,rfl,by decide,by decide⟩
   refine zaC (o:=.lst [D.int 60,.int (10^Int.toNat 6)]) (zav _ _) ez ?_
   have r:=zbj (a:=v2) (b:=z) (by omega)
   exact⟨show (0:Int)<z by omega,hn _ _ ⟨Pre.refl.push,_,⟨by omega,by omega⟩,rfl⟩⟩
  rintro dl2 S2 ⟨p2,W,⟨W1,W6⟩,rfl⟩
  have B0:=p2 _ _ B0
  have B1:=p2 _ _ B1
  have B2:=p2 _ _ B2
  have B3:=p2 _ _ B3
  clear p2
  refine zoU (j:=(q:Nat)) (S1:=S2) (λ_ d=>∃t:Int,d=.int t∧(0≤t∧t≤W)) (λK hK=>by exact hK) ⟨by omega,by omega⟩ (λk hk S3 K pr hK=>?_) (λys ly hy=>?_)
  ·refine⟨ns,pr _ _ B0,⟨show (0:Int)≤9+(k:Int) by omega,show 9+(k:Int)≤1000 by omega⟩,λv=>?_⟩
   have rz:=zbj (a:=v) (b:=W+1) (by omega)
   exact⟨show (0:Int)<W+1 by omega,hK _ ⟨_,rfl,rz.1,by omega⟩⟩
  obtain⟨ts,rfl,gts⟩:=zoW ys hy
  rw[Vab] at ly
  have lts:B.length=ts.length:=by omega
  try dsimp only
  refine zjI (λdl2 S3=>Pre (S2++[Ob.lst (ts.map D.int)]) S3∧∃(rs:List Int) (mo:Nat),rs.length=ts.length∧(∀t∈rs,0≤t∧t≤W)∧S3[mo]?=some (.lst (rs.map D.int))∧dl2=[some (.ref 0),some (.int (q:Nat)),some (.int g),some (.ref mb),some (.ref ma),some (.ref mr),some (.ref V.length),some (.tup [.ref m,.ref n]),some (.int W),some (.ref S2.length),some (.ref mo),none,none,none,none,none]) (λnx hn=>?_) ?_
  ·refine zoU (j:=(q:Nat)) (S1:=S2++[.lst (ts.map D.int)]) (λ_ d=>∃t:Int,d=.int t∧(0≤t∧t≤W)) (λK hK=>by exact hK) ⟨by omega,by omega⟩ (λk hk S3 K pr hK=>?_) (λys ly2 hy=>?_)
   ·refine⟨ns,pr _ _ (zaz B0),⟨show (0:Int)≤35+(k:Int) by omega,show 35+(k:Int)≤1000 by omega⟩,λv=>?_⟩
    have rz:=zbj (a:=v) (b:=W+1) (by omega)
    exact⟨show (0:Int)<W+1 by omega,hK _ ⟨_,rfl,rz.1,by omega⟩⟩
   obtain⟨rs,rfl,grs⟩:=zoW ys hy
   rw[Vab] at ly2
   have keep:nx [some (.ref 0),some (.int (q:Nat)),some (.int g),some (.ref mb),some (.ref ma),some (.ref mr),some (.ref V.length),some (.tup [.ref m,.ref n]),some (.int W),some (.ref S2.length),some (.ref (S2++[Ob.lst (ts.map D.int)]).length),none,none,none,none,none] (S2++[.lst (ts.map D.int)]++[.lst (rs.map D.int)]):=hn _ _ ⟨Pre.refl.push,rs,_,by omega,grs,zav _ _,rfl⟩
   refine⟨ns,zaz (zaz B0),⟨by decide,by decide⟩,λv=>?_⟩
   refine ifD (λe=>?_) (λe=>?_)
   ·refine⟨ns,zaz (zaz B0),?_⟩
    cases frS ns
    ·refine zbM ?_
     refine zcZ (n:=S2.length) (S1:=S2++[.lst (ts.map D.int)]++[.lst (rs.map D.int)]) (o:=.lst (ts.map D.int)) (λd=>match d with | .int t=>.int (W-t) | _=>.non) (λK hK=>by exact hK) (zaz (zav _ _)) (by show (ts.map D.int).length≤1000; rw[Vab]; omega) (λx hx S3 K pr hK=>?_) ?_
     ·have hx':x∈ts.map D.int:=hx
      obtain⟨t,_,rfl⟩:=Vag.mp hx'
      exact hK
     ·have e2:(zao (.lst (ts.map D.int))).map (λd=>match d with | .int t=>.int (W-t) | _=>.non)=(ts.map λt=>W-t).map D.int:=by
       show (ts.map D.int).map _=_
       rw[Vap]
       rw[Vap]
       rfl
      rw[e2]
      refine hn _ _ ⟨Pre.refl.push.push,ts.map λt=>W-t,_,by rw[Vab],λt ht=>?_,zav _ _,rfl⟩
      obtain⟨x,hx,er⟩:=Vag.mp ht
      subst er
      have:=gts x hx
      omega
    ·refine zbm ?_
     exact keep
   ·refine zbm ?_
    exact keep
  rintro dl2 S3 ⟨p3,rs,mo,lrs,grs,hrs,rfl⟩
  have hts:=p3 _ _ (zav S2 (.lst (ts.map D.int)))
  have B1:=p3 _ _ (zaz B1)
  have B2:=p3 _ _ (zaz B2)
  have B3:=p3 _ _ (zaz B3)
  refine zxF hts hrs (zqo ts rs lrs.symm) ?_
  refine ifD (λ_=>h _) (λne=>?_)
  have lrsB:B.length=rs.length:=by omega
  have hW:1≤W∧W≤1000000:=⟨W1,W6⟩
  have zt:=zqn sB hW gts ⟨hg,g2⟩ lts
  have zq:=zqn sB hW grs ⟨hg,g2⟩ lrsB
  have it:=zq9 sB hW gts ⟨hg,g2⟩ lts
  have iq:=zq9 sB hW grs ⟨hg,g2⟩ lrsB
  have lPt:=zlK B ts W g B.length
  have lPr:=zlK B rs W g B.length
  have fact:(∀i∈eqs rows,(gt (zar (pts B ts W g B.length) xs) (i:Int)).1*(gt (zar (pts B rs W g B.length) xs) (i:Int)).2=(gt (zar (pts B rs W g B.length) xs) (i:Int)).1*(gt (zar (pts B ts W g B.length) xs) (i:Int)).2)→False:=λsame=>by
   have nt:=zxq (is:=eqs rows) (M:=M) netB rfl lPt.symm lPr.symm sB ⟨hg,g2⟩ W1 it iq zt zq (λj hj=>by rw[zgv hj]; rfl) (λj hj=>by rw[zgv hj]; rfl) hi' same lM (λes he=>by rw[lE es he,le]) (λk es hm=>(hk k es hm).2)
   refine ne (Vbc λk=>?_)
   by_cases ck:k<B.length
   ·have z:=nt k ck
    have kr:inR ((B.length:Nat):Int) (k:Int):=⟨by omega,by omega⟩
    rw[zgv kr,zgv kr] at z
    unfold zdM at z
    rw[Vah] at z
    have d:=dn k ck
    have z2:((gt B (k:Int)).2-(gt B (k:Int)).1)*ts.getD k 0=((gt B (k:Int)).2-(gt B (k:Int)).1)*rs.getD k 0:=by
     dsimp only at z
     omega
    have z3:=Int.eq_of_mul_eq_mul_left (show (gt B (k:Int)).2-(gt B (k:Int)).1≠0 by omega) z2
    rw[Vac (show k<ts.length by omega),Vac (show k<rs.length by omega)]
    rw[Vak,Vak,Vac (show k<ts.length by omega),Vac (show k<rs.length by omega)] at z3
    exact congrArg some z3
   ·rw[VaK (by omega),VaK (by omega)]
  refine⟨B,ts,B3,hts,lts,by omega,sB,hW,gts,⟨hg,g2⟩,λT4 m4 p4 lm4 h4=>?_⟩
  refine⟨xs,wx,pts B ts W g B.length,p4 _ _ B1,h4,by rw[lPt]; exact netB,zt,by omega,λT5 m5 p5 lm5 h5=>?_⟩
  have p35:Pre S3 T5:=λx o e=>p5 _ _ (p4 _ _ e)
  refine⟨B,rs,p35 _ _ B3,p35 _ _ hrs,lrsB,by omega,sB,hW,grs,⟨hg,g2⟩,λT6 m6 p6 lm6 h6=>?_⟩
  refine⟨xs,wx,pts B rs W g B.length,p6 _ _ (p35 _ _ B1),h6,by rw[lPr]; exact netB,zq,by omega,λT7 m7 p7 lm7 h7=>?_⟩
  have p37:Pre S3 T7:=λx o e=>p7 _ _ (p6 _ _ (p35 _ _ e))
  have h5:=p7 _ _ (p6 _ _ h5)
  have B2:=p37 _ _ B2
  clear p37 p35 p4 p5 p6 p7 h4 h6
  have w16:∀k:Nat,k<xs.length→wx.getD k 0≤16:=λk hk=>(net.w1 (i:=k) ⟨by omega,by omega⟩).2
  have pz1:Pz 1800 (zar (pts B ts W g B.length) xs):=by
   have z:=zdv (by rw[lPt]; exact netB) rfl zt xs.length (Vaa _)
   rw[VaA] at z
   exact Pz.of_w z λj hj=>w16 j (by rw[zbS] at hj; exact hj)
  have pz2:Pz 1800 (zar (pts B rs W g B.length) xs):=by
   have z:=zdv (by rw[lPr]; exact netB) rfl zq xs.length (Vaa _)
   rw[VaA] at z
   exact Pz.of_w z λj hj=>w16 j (by rw[zbS] at hj; exact hj)
  have l1d:=zbS (pts B ts W g B.length) xs
  have l2d:=zbS (pts B rs W g B.length) xs
  generalize zar (pts B ts W g B.length) xs=F at h5 fact pz1 l1d
  generalize zar (pts B rs W g B.length) xs=L at h7 fact pz2 l2d
  refine zoc (n:=mr) (S1:=T7) (o:=.lst (rows.map rwD)) (λd=>match d with | .tup [.str w,.int at']=>if w="zero" then some (.tup [.str w,.int at']) else none | _=>none) (λK hK=>by exact hK) B2 (by show (rows.map rwD).length≤1000; rw[Vab]; omega) (λx hx S4 K pr hK=>?_) (λx hx y hy S4 K pr hK=>?_) ?_
  ·have hx':x∈rows.map rwD:=hx
   obtain⟨⟨b,i⟩,_,rfl⟩:=Vag.mp hx'
   cases b
   ·exact hK
   ·exact hK
  ·have hx':x∈rows.map rwD:=hx
   obtain⟨⟨b,i⟩,_,rfl⟩:=Vag.mp hx'
   cases b
   ·exact absurd hy (by
     simp[rwD]
     intro z
     exact absurd z (by decide))
   ·cases hy
    exact hK
  have eE:(zao (.lst (rows.map rwD))).filterMap (λd=>match d with | .tup [.str w,.int at']=>if w="zero" then some (.tup [.str w,.int at']) else none | _=>none)=(eqs rows).map λi=>rwD (true,i):=by
   show (rows.map rwD).filterMap _=_
   unfold eqs
   rw[List.filterMap_map,List.map_filterMap]
   congr 1
   funext ⟨b,i⟩
   cases b <;> rfl
  rw[eE]
  refine zfu (n:=T7.length) (o:=.lst ((eqs rows).map λi=>rwD (true,i))) (λk dl' S4=>S4=T7++[.lst ((eqs rows).map λi=>rwD (true,i))]∧(∀(j i:Nat),j<k→(eqs rows)[j]?=some i→(gt F (i:Int)).1*(gt L (i:Int)).2=(gt L (i:Int)).1*(gt F (i:Int)).2)∧∃u1 u2 u3:Option D,dl'=[some (.ref 0),some (.int (q:Nat)),some (.int g),some (.ref mb),some (.ref ma),some (.ref mr),some (.ref V.length),some (.tup [.ref m,.ref n]),some (.int W),some (.ref S2.length),some (.ref mo),some (.ref m5),some (.ref m7),u1,u2,u3]) ⟨rfl,λj i hj=>by omega,_,_,_,rfl⟩ (λk dl' S4 ⟨e,_⟩=>by rw[e]; exact zav _ _) ?_ ?_
  ·rintro k x dl' S4 nx ct ex' ⟨rfl,all,u1,u2,u3,rfl⟩ hn
   have hx:((eqs rows).map λi=>rwD (true,i))[k]?=some x:=ex'
   rw[Vae] at hx
   obtain⟨i,hi,rfl⟩:=Van.mp hx
   have him:=hi' i (Vai hi)
   have k1:inR ((F.length:Nat):Int) (i:Int):=⟨by omega,by omega⟩
   have k2:inR ((L.length:Nat):Int) (i:Int):=⟨by omega,by omega⟩
   refine zaC (o:=.lst (F.map frD)) (zaz h5) (zaY k1) ?_
   refine zaC (o:=.lst (L.map frD)) (zaz h7) (zaY k2) ?_
   have z1:=pz1.at k1
   have z2:=pz2.at k2
   refine⟨zaF z1.2.1 z2.2.2,zaF z2.2.1 z1.2.2,?_⟩
   refine ifN (λ_=>h _) (λe=>?_)
   refine hn _ _ ⟨rfl,λj i2 hj hi2=>?_,_,_,_,rfl⟩
   by_cases ej:j=k
   ·subst ej
    rw[hi] at hi2
    cases hi2
    exact e
   ·exact all j i2 (by omega) hi2
  rintro dl' S4 ⟨rfl,all,u1,u2,u3,rfl⟩
  refine(fact λi hi=>?_).elim
  obtain⟨j,hj⟩:=List.mem_iff_getElem?.mp hi
  refine all j i ?_ hj
  show j<((eqs rows).map λi=>rwD (true,i)).length
  rw[Vab]
  exact(Vad.mp hj).1⟩)
end
theorem zvp {l:PySem.W.OpenLaw}{w:World}{K:PySem.W.Frag}{h:Heap}{mg:Str→Option Value}{fa:Addr}(X:K.In h)(G:h.Ns mainGlobals mg)(hfa:mg "law"=some (.ref fa))
  {zcv:Addr}(zk6:PySem.W.nsIn K mainGlobals "Number"=some (some (.ref zcv)))(zjd:PySem.W.plainGet K zcv Str.empty=true)(znh:PySem.W.hasDictIn K zcv=true)(zkM:PySem.W.plainOver K zcv=true)(zkI:PySem.W.findIn K (.ref zcv) "__setattr__"=some (some (.builtin "object.__setattr__")))(zi9:PySem.W.makesIn K zcv=true)(znm:PySem.W.keepIn K (.ref zcv)=true)
  (zl1:PySem.W.findIn K (.ref zcv) "bottom"=some none)
  (zjg:PySem.W.findIn K (.ref zcv) "top"=some none)
  {zcG:Addr}(ziY:PySem.W.nsIn K mainGlobals "Unknown"=some (some (.ref zcG)))(zlo:PySem.W.plainGet K zcG Str.empty=true)(zjt:PySem.W.hasDictIn K zcG=true)(zl9:PySem.W.plainOver K zcG=true)(zje:PySem.W.findIn K (.ref zcG) "__setattr__"=some (some (.builtin "object.__setattr__")))(zkT:PySem.W.makesIn K zcG=true)(zmc:PySem.W.keepIn K (.ref zcG)=true)
  (zkL:PySem.W.findIn K (.ref zcG) "place"=some none)
  {zcl:Addr}(zjN:PySem.W.nsIn K mainGlobals "Plus"=some (some (.ref zcl)))(zni:PySem.W.plainGet K zcl Str.empty=true)(zkJ:PySem.W.hasDictIn K zcl=true)(zkR:PySem.W.plainOver K zcl=true)(zkS:PySem.W.findIn K (.ref zcl) "__setattr__"=some (some (.builtin "object.__setattr__")))(zla:PySem.W.makesIn K zcl=true)(zk3:PySem.W.keepIn K (.ref zcl)=true)
  (zlp:PySem.W.findIn K (.ref zcl) "other"=some none)
  (zmR:PySem.W.findIn K (.ref zcl) "one"=some none)
  {zci:Addr}(zjQ:PySem.W.nsIn K mainGlobals "Minus"=some (some (.ref zci)))(zmX:PySem.W.plainGet K zci Str.empty=true)(zm0:PySem.W.hasDictIn K zci=true)(zkP:PySem.W.plainOver K zci=true)(zj8:PySem.W.findIn K (.ref zci) "__setattr__"=some (some (.builtin "object.__setattr__")))(zl7:PySem.W.makesIn K zci=true)(zjO:PySem.W.keepIn K (.ref zci)=true)
  (zls:PySem.W.findIn K (.ref zci) "other"=some none)
  (zjm:PySem.W.findIn K (.ref zci) "one"=some none)
  {zcf:Addr}(zjD:PySem.W.nsIn K mainGlobals "Times"=some (some (.ref zcf)))(zjx:PySem.W.plainGet K zcf Str.empty=true)(zmk:PySem.W.hasDictIn K zcf=true)(zlw:PySem.W.plainOver K zcf=true)(zmM:PySem.W.findIn K (.ref zcf) "__setattr__"=some (some (.builtin "object.__setattr__")))(zkZ:PySem.W.makesIn K zcf=true)(zlz:PySem.W.keepIn K (.ref zcf)=true)
  (zlN:PySem.W.findIn K (.ref zcf) "other"=some none)
  (zlZ:PySem.W.findIn K (.ref zcf) "one"=some none)
  {zco:Addr}(zjX:PySem.W.nsIn K mainGlobals "Power"=some (some (.ref zco)))(zlE:PySem.W.plainGet K zco Str.empty=true)(zlD:PySem.W.hasDictIn K zco=true)(zlM:PySem.W.plainOver K zco=true)(zkC:PySem.W.findIn K (.ref zco) "__setattr__"=some (some (.builtin "object.__setattr__")))(zmA:PySem.W.makesIn K zco=true)(ziZ:PySem.W.keepIn K (.ref zco)=true)
  (zj1:PySem.W.findIn K (.ref zco) "many"=some none)
  (zmY:PySem.W.findIn K (.ref zco) "one"=some none)
  {f0 h0:Addr}{m0:Value}(a0:nsA K "_law_grid" f0)(l0:lkA K f0 "_law_grid" "_law_grid" zkj m0 h0)(c0:cdA K h0 "_law_grid")
  {f1 h1:Addr}{m1:Value}(a1:nsA K "_law_free" f1)(l1:lkA K f1 "_law_free" "_law_free" zkY m1 h1)(c1:cdA K h1 "_law_free")
  {f2 h2:Addr}{m2:Value}(a2:nsA K "_law_cell" f2)(l2:lkA K f2 "_law_cell" "_law_cell" zmE m2 h2)(c2:cdA K h2 "_law_cell")
  {f3 h3:Addr}{m3:Value}(a3:nsA K "_law_room" f3)(l3:lkA K f3 "_law_room" "_law_room" zkN m3 h3)(c3:cdA K h3 "_law_room")
  {f4 h4:Addr}{m4:Value}(a4:nsA K "_law_lowest" f4)(l4:lkA K f4 "_law_lowest" "_law_lowest" znb m4 h4)(c4:cdA K h4 "_law_lowest")
  {f5 h5:Addr}{m5:Value}(a5:nsA K "_law_little" f5)(l5:lkA K f5 "_law_little" "_law_little" zmi m5 h5)(c5:cdA K h5 "_law_little")
  {f6 h6:Addr}{m6:Value}(a6:nsA K "_law_put" f6)(l6:lkA K f6 "_law_put" "_law_put" zkQ m6 h6)(c6:cdA K h6 "_law_put")
  {f7 h7:Addr}{m7:Value}(a7:nsA K "_law_any" f7)(l7:lkA K f7 "_law_any" "_law_any" zkH m7 h7)(c7:cdA K h7 "_law_any")
  {f8 h8:Addr}{m8:Value}(a8:nsA K "_law_grow" f8)(l8:lkA K f8 "_law_grow" "_law_grow" zml m8 h8)(c8:cdA K h8 "_law_grow")
  {f9 h9:Addr}{m9:Value}(a9:nsA K "_law_any_system" f9)(l9:lkA K f9 "_law_any_system" "_law_any_system" ziG m9 h9)(c9:cdA K h9 "_law_any_system")
  {f10 h10:Addr}{m10:Value}(a10:nsA K "_law_at" f10)(l10:lkA K f10 "_law_at" "_law_at" zki m10 h10)(c10:cdA K h10 "_law_at")
  {f11 h11:Addr}{m11:Value}(a11:nsA K "_law_often" f11)(l11:lkA K f11 "_law_often" "_law_often" zju m11 h11)(c11:cdA K h11 "_law_often")
  {f12 h12:Addr}{m12:Value}(a12:nsA K "_law_of_parts" f12)(l12:lkA K f12 "_law_of_parts" "_law_of_parts" zjj m12 h12)(c12:cdA K h12 "_law_of_parts")
  {f13 h13:Addr}{m13:Value}(a13:nsA K "_law_exacts" f13)(l13:lkA K f13 "_law_exacts" "_law_exacts" zjH m13 h13)(c13:cdA K h13 "_law_exacts")
  {f14 h14:Addr}{m14:Value}(a14:nsA K "_law_shift" f14)(l14:lkA K f14 "_law_shift" "_law_shift" zhj m14 h14)(c14:cdA K h14 "_law_shift")
  {f15 h15:Addr}{m15:Value}(a15:nsA K "_law_sum" f15)(l15:lkA K f15 "_law_sum" "_law_sum" zjR m15 h15)(c15:cdA K h15 "_law_sum")
  {f16 h16:Addr}{m16:Value}(a16:nsA K "_law_linear" f16)(l16:lkA K f16 "_law_linear" "_law_linear" zj7 m16 h16)(c16:cdA K h16 "_law_linear")
  {f17 h17:Addr}{m17:Value}(a17:nsA K "_law_system" f17)(l17:lkA K f17 "_law_system" "_law_system" zfg m17 h17)(c17:cdA K h17 "_law_system")
  {f18 h18:Addr}{m18:Value}(a18:nsA K "equation_places" f18)(l18:lkA K f18 "equation_places" "equation_places" ziz m18 h18)(c18:cdA K h18 "equation_places")
  {f19 h19:Addr}{m19:Value}(a19:nsA K "picked" f19)(l19:lkA K f19 "picked" "picked" zgN m19 h19)(c19:cdA K h19 "picked")
  {f20 h20:Addr}{m20:Value}(a20:nsA K "less" f20)(l20:lkA K f20 "less" "less" zlh m20 h20)(c20:cdA K h20 "less")
  {f21 h21:Addr}{m21:Value}(a21:nsA K "rounded_up" f21)(l21:lkA K f21 "rounded_up" "rounded_up" zk1 m21 h21)(c21:cdA K h21 "rounded_up")
  {f22 h22:Addr}{m22:Value}(a22:nsA K "span_of" f22)(l22:lkA K f22 "span_of" "span_of" zm8 m22 h22)(c22:cdA K h22 "span_of")
  {f23 h23:Addr}{m23:Value}(a23:fdA K zcv "forth" f23)(l23:lkA K f23 "forth" "Number.forth" zkf m23 h23)(c23:cdA K h23 "Number.forth")
  {f24 h24:Addr}{m24:Value}(a24:fdA K zcG "forth" f24)(l24:lkA K f24 "forth" "Unknown.forth" zkO m24 h24)(c24:cdA K h24 "Unknown.forth")
  {f25 h25:Addr}{m25:Value}(a25:nsA K "add_spans" f25)(l25:lkA K f25 "add_spans" "add_spans" zl6 m25 h25)(c25:cdA K h25 "add_spans")
  {f26 h26:Addr}{m26:Value}(a26:fdA K zcl "forth" f26)(l26:lkA K f26 "forth" "Plus.forth" zlF m26 h26)(c26:cdA K h26 "Plus.forth")
  {f27 h27:Addr}{m27:Value}(a27:nsA K "take_spans" f27)(l27:lkA K f27 "take_spans" "take_spans" zmQ m27 h27)(c27:cdA K h27 "take_spans")
  {f28 h28:Addr}{m28:Value}(a28:fdA K zci "forth" f28)(l28:lkA K f28 "forth" "Minus.forth" zlq m28 h28)(c28:cdA K h28 "Minus.forth")
  {f29 h29:Addr}{m29:Value}(a29:nsA K "mul_spans" f29)(l29:lkA K f29 "mul_spans" "mul_spans" zmf m29 h29)(c29:cdA K h29 "mul_spans")
  {f30 h30:Addr}{m30:Value}(a30:fdA K zcf "forth" f30)(l30:lkA K f30 "forth" "Times.forth" zi1 m30 h30)(c30:cdA K h30 "Times.forth")
  {f31 h31:Addr}{m31:Value}(a31:nsA K "raised" f31)(l31:lkA K f31 "raised" "raised" zlP m31 h31)(c31:cdA K h31 "raised")
  {f32 h32:Addr}{m32:Value}(a32:nsA K "raise_span" f32)(l32:lkA K f32 "raise_span" "raise_span" zic m32 h32)(c32:cdA K h32 "raise_span")
  {f33 h33:Addr}{m33:Value}(a33:fdA K zco "forth" f33)(l33:lkA K f33 "forth" "Power.forth" znk m33 h33)(c33:cdA K h33 "Power.forth")
  {f34 h34:Addr}{m34:Value}(a34:fdA K zco "__init__" f34)(l34:lkA K f34 "__init__" "Power.__init__" zkD m34 h34)(c34:cdA K h34 "Power.__init__")
  {f35 h35:Addr}{m35:Value}(a35:fdA K zcv "__init__" f35)(l35:lkA K f35 "__init__" "Number.__init__" zm7 m35 h35)(c35:cdA K h35 "Number.__init__")
  {f36 h36:Addr}{m36:Value}(a36:fdA K zcG "__init__" f36)(l36:lkA K f36 "__init__" "Unknown.__init__" zjk m36 h36)(c36:cdA K h36 "Unknown.__init__")
  {f37 h37:Addr}{m37:Value}(a37:fdA K zcl "__init__" f37)(l37:lkA K f37 "__init__" "Pair.__init__" zlx m37 h37)(c37:cdA K h37 "Pair.__init__")
  {f38 h38:Addr}{m38:Value}(a38:fdA K zci "__init__" f38)(l38:lkA K f38 "__init__" "Pair.__init__" zky m38 h38)(c38:cdA K h38 "Pair.__init__")
  {f39 h39:Addr}{m39:Value}(a39:fdA K zcf "__init__" f39)(l39:lkA K f39 "__init__" "Pair.__init__" zjS m39 h39)(c39:cdA K h39 "Pair.__init__")
  {f40 h40:Addr}{m40:Value}(a40:nsA K "kind_of" f40)(l40:lkA K f40 "kind_of" "kind_of" zjl m40 h40)(c40:cdA K h40 "kind_of")
  {f41 h41:Addr}{m41:Value}(a41:nsA K "worths" f41)(l41:lkA K f41 "worths" "worths" zkV m41 h41)(c41:cdA K h41 "worths")
  {f42 h42:Addr}{m42:Value}(a42:fdA K zcv "slope" f42)(l42:lkA K f42 "slope" "Number.slope" zmP m42 h42)(c42:cdA K h42 "Number.slope")
  {f43 h43:Addr}{m43:Value}(a43:fdA K zcG "slope" f43)(l43:lkA K f43 "slope" "Unknown.slope" zgW m43 h43)(c43:cdA K h43 "Unknown.slope")
  {f44 h44:Addr}{m44:Value}(a44:fdA K zcl "slope_of_both" f44)(l44:lkA K f44 "slope_of_both" "Plus.slope_of_both" zlC m44 h44)(c44:cdA K h44 "Plus.slope_of_both")
  {f45 h45:Addr}{m45:Value}(a45:fdA K zcl "slope" f45)(l45:lkA K f45 "slope" "Pair.slope" zhK m45 h45)(c45:cdA K h45 "Pair.slope")
  {f46 h46:Addr}{m46:Value}(a46:fdA K zci "slope_of_both" f46)(l46:lkA K f46 "slope_of_both" "Minus.slope_of_both" zj9 m46 h46)(c46:cdA K h46 "Minus.slope_of_both")
  {f47 h47:Addr}{m47:Value}(a47:fdA K zci "slope" f47)(l47:lkA K f47 "slope" "Pair.slope" ziB m47 h47)(c47:cdA K h47 "Pair.slope")
  {f48 h48:Addr}{m48:Value}(a48:fdA K zcf "slope_of_both" f48)(l48:lkA K f48 "slope_of_both" "Times.slope_of_both" zkw m48 h48)(c48:cdA K h48 "Times.slope_of_both")
  {f49 h49:Addr}{m49:Value}(a49:fdA K zcf "slope" f49)(l49:lkA K f49 "slope" "Pair.slope" zgj m49 h49)(c49:cdA K h49 "Pair.slope")
  {f50 h50:Addr}{m50:Value}(a50:nsA K "scale_span" f50)(l50:lkA K f50 "scale_span" "scale_span" zlW m50 h50)(c50:cdA K h50 "scale_span")
  {f51 h51:Addr}{m51:Value}(a51:fdA K zco "slope" f51)(l51:lkA K f51 "slope" "Power.slope" zig m51 h51)(c51:cdA K h51 "Power.slope")
  {f52 h52:Addr}{m52:Value}(a52:nsA K "slopes" f52)(l52:lkA K f52 "slopes" "slopes" znl m52 h52)(c52:cdA K h52 "slopes")
  {f53 h53:Addr}{m53:Value}(a53:nsA K "slopes_at" f53)(l53:lkA K f53 "slopes_at" "slopes_at" zlJ m53 h53)(c53:cdA K h53 "slopes_at")
  {f54 h54:Addr}{m54:Value}(a54:nsA K "signed" f54)(l54:lkA K f54 "signed" "signed" zjA m54 h54)(c54:cdA K h54 "signed")
  {f55 h55:Addr}{m55:Value}(a55:nsA K "without" f55)(l55:lkA K f55 "without" "without" zhI m55 h55)(c55:cdA K h55 "without")
  {f56 h56:Addr}{m56:Value}(a56:nsA K "cofactor" f56)(l56:lkA K f56 "cofactor" "cofactor" zei m56 h56)(c56:cdA K h56 "cofactor")
  {f57 h57:Addr}{m57:Value}(a57:nsA K "determinant" f57)(l57:lkA K f57 "determinant" "determinant" zcw m57 h57)(c57:cdA K h57 "determinant")
  {f58 h58:Addr}{m58:Value}(a58:nsA K "inverse_entry" f58)(l58:lkA K f58 "inverse_entry" "inverse_entry" zkt m58 h58)(c58:cdA K h58 "inverse_entry")
  {f59 h59:Addr}{m59:Value}(a59:nsA K "inverse_row" f59)(l59:lkA K f59 "inverse_row" "inverse_row" zg8 m59 h59)(c59:cdA K h59 "inverse_row")
  {f60 h60:Addr}{m60:Value}(a60:nsA K "inverse" f60)(l60:lkA K f60 "inverse" "inverse" zgz m60 h60)(c60:cdA K h60 "inverse")
  {f61 h61:Addr}{m61:Value}(a61:nsA K "middle" f61)(l61:lkA K f61 "middle" "middle" zlX m61 h61)(c61:cdA K h61 "middle")
  {f62 h62:Addr}{m62:Value}(a62:nsA K "middles" f62)(l62:lkA K f62 "middles" "middles" zii m62 h62)(c62:cdA K h62 "middles")
  {f63 h63:Addr}{m63:Value}(a63:nsA K "box_of_middles" f63)(l63:lkA K f63 "box_of_middles" "box_of_middles" ziN m63 h63)(c63:cdA K h63 "box_of_middles")
  {f64 h64:Addr}{m64:Value}(a64:nsA K "sum_of_products" f64)(l64:lkA K f64 "sum_of_products" "sum_of_products" zja m64 h64)(c64:cdA K h64 "sum_of_products")
  {f65 h65:Addr}{m65:Value}(a65:nsA K "lacking" f65)(l65:lkA K f65 "lacking" "lacking" zho m65 h65)(c65:cdA K h65 "lacking")
  {f66 h66:Addr}{m66:Value}(a66:nsA K "span_by" f66)(l66:lkA K f66 "span_by" "span_by" zel m66 h66)(c66:cdA K h66 "span_by")
  {f67 h67:Addr}{m67:Value}(a67:nsA K "step_by" f67)(l67:lkA K f67 "step_by" "step_by" zge m67 h67)(c67:cdA K h67 "step_by")
  {f68 h68:Addr}{m68:Value}(a68:nsA K "thin_worths" f68)(l68:lkA K f68 "thin_worths" "thin_worths" zk5 m68 h68)(c68:cdA K h68 "thin_worths")
  {f69 h69:Addr}{m69:Value}(a69:nsA K "deep" f69)(l69:lkA K f69 "deep" "deep" zj5 m69 h69)(c69:cdA K h69 "deep")
  {f70 h70:Addr}{m70:Value}(a70:nsA K "all_deep" f70)(l70:lkA K f70 "all_deep" "all_deep" zgq m70 h70)(c70:cdA K h70 "all_deep")
  {f71 h71:Addr}{m71:Value}(a71:nsA K "sure" f71)(l71:lkA K f71 "sure" "sure" zme m71 h71)(c71:cdA K h71 "sure")
  {f72 h72:Addr}{m72:Value}(a72:nsA K "leasts_are_sure" f72)(l72:lkA K f72 "leasts_are_sure" "leasts_are_sure" zhB m72 h72)(c72:cdA K h72 "leasts_are_sure")
  {f73 h73:Addr}{m73:Value}(a73:nsA K "alone" f73)(l73:lkA K f73 "alone" "alone" zf4 m73 h73)(c73:cdA K h73 "alone")
  {f74 h74:Addr}{m74:Value}(a74:nsA K "_law_deep" f74)(l74:lkA K f74 "_law_deep" "_law_deep" zlb m74 h74)(c74:cdA K h74 "_law_deep")
  {f75 h75:Addr}{m75:Value}(a75:nsA K "_law_point" f75)(l75:lkA K f75 "_law_point" "_law_point" zlt m75 h75)(c75:cdA K h75 "_law_point")
  {f76 h76:Addr}{m76:Value}(a76:nsA K "_law_whole" f76)(l76:lkA K f76 "_law_whole" "_law_whole" zmh m76 h76)(c76:cdA K h76 "_law_whole")
  {f77 h77:Addr}{m77:Value}(a77:nsA K "_law_span" f77)(l77:lkA K f77 "_law_span" "_law_span" zj6 m77 h77)(c77:cdA K h77 "_law_span")
  {f78 h78:Addr}{m78:Value}(a78:nsA K "_law_spans" f78)(l78:lkA K f78 "_law_spans" "_law_spans" zly m78 h78)(c78:cdA K h78 "_law_spans")
  {f79 h79:Addr}{m79:Value}(a79:nsA K "law" f79)(l79:lkA K f79 "law" "law" zcQ m79 h79)(c79:cdA K h79 "law")
  (zay:PySem.W.nsIn K mainGlobals "len"=some none)
  (zaG:PySem.W.nsIn K mainGlobals "range"=some none)
  (zdO:PySem.W.nsIn K mainGlobals "abs"=some none)
  (zbJ:PySem.W.nsIn K mainGlobals "min"=some none)
  (zck:PySem.W.nsIn K mainGlobals "int"=some none)
  (zcm:PySem.W.nsIn K mainGlobals "max"=some none)
  (zbl:PySem.W.nsIn K mainGlobals "zip"=some none)
  (zbt:PySem.W.nsIn K mainGlobals "sum"=some none)
  (zbk:PySem.W.nsIn K mainGlobals "enumerate"=some none)
  (zcS:PySem.W.nsIn K mainGlobals "all"=some none)
  (zbH:PySem.W.nsIn K mainGlobals "isinstance"=some none)
  (zdw:PySem.W.nsIn K mainGlobals "bool"=some none)
  (zcW:PySem.W.nsIn K mainGlobals "tuple"=some none)
  (zcr:PySem.W.nsIn K mainGlobals "list"=some none)
  (zeN:Kit K "bool")
  (zfv:Kit K "int")
  (zdi:Kit K "tuple")
  :∃fd:FuncData,(∀(s:Shared) (v:Value),BindsTo s fd ⟨[v],[]⟩ [("_law_script",v)])∧∀base:Heap,K.In base→base.Ns mainGlobals mg→zbq l.prog w K mg base (CXE l.prog w) 13 fa fd ["_law_script"] (upF K zfI):=by
 have e:=hfa.symm.trans (PySem.W.mg_of X G a79)
 cases e
 let zal:zbT K mg:=⟨zcv,PySem.W.mg_of X G zk6,⟨zjd,znh,zkM,zkI⟩,zl1,zjg,zi9,znm⟩
 let zan:zbV K mg:=⟨zcG,PySem.W.mg_of X G ziY,⟨zlo,zjt,zl9,zje⟩,zkL,zkT,zmc⟩
 let zag:zbE K mg:=⟨zcl,PySem.W.mg_of X G zjN,⟨zni,zkJ,zkR,zkS⟩,zlp,zmR,zla,zk3⟩
 let zah:zbG K mg:=⟨zci,PySem.W.mg_of X G zjQ,⟨zmX,zm0,zkP,zj8⟩,zls,zjm,zl7,zjO⟩
 let zai:zbF K mg:=⟨zcf,PySem.W.mg_of X G zjD,⟨zjx,zmk,zlw,zmM⟩,zlN,zlZ,zkZ,zlz⟩
 let zaj:zbI K mg:=⟨zco,PySem.W.mg_of X G zjX,⟨zlE,zlD,zlM,zkC⟩,zj1,zmY,zmA,ziZ⟩
 let zka:Df K mg "_law_grid" zkj zh4:=dfo X G a0 l0 c0 λ_ _ _ _ _ _=>ln1 λ_=>rfl
 let znf:Df K mg "_law_free" zkY zdS:=dfo X G a1 l1 c1 λ_ _ _ _ _ _=>ln1 λ_=>rfl
 let zlU:Df K mg "_law_cell" zmE zdL:=dfo X G a2 l2 c2 λ_ _ _ _ _ _=>ln2 λ_ _=>rfl
 let zkX:Df K mg "_law_room" zkN zhz:=dfo X G a3 l3 c3 λ_ _ _ _ _ _=>ln3 λ_ _ _=>rfl
 let zlI:Df K mg "_law_lowest" znb zd3:=dfo X G a4 l4 c4 λ_ _ _ _ _ _=>ln2 λ_ _=>rfl
 let zle:Df K mg "_law_little" zmi zgD:=dfo X G a5 l5 c5 λ_ _ _ _ _ _=>ln1 λ_=>rfl
 let zjh:Df K mg "_law_put" zkQ zgk:=dfo X G a6 l6 c6 λ_ _ _ _ _ _=>ln4 λ_ _ _ _=>rfl
 let zlO:Df K mg "_law_any" zkH zgL:=dfo X G a7 l7 c7 λ_ _ _ _ _ _=>ln1 λ_=>rfl
 let zms:Df K mg "_law_grow" zml zfV:=dfo X G a8 l8 c8 λ_ _ _ _ _ _=>ln5 λ_ _ _ _ _=>rfl
 let zlR:Df K mg "_law_any_system" ziG ziJ:=dfo X G a9 l9 c9 λ_ _ _ _ _ _=>ln3 λ_ _ _=>rfl
 let zmq:Df K mg "_law_at" zki zdY:=dfo X G a10 l10 c10 λ_ _ _ _ _ _=>ln2 λ_ _=>rfl
 let zjp:Df K mg "_law_often" zju zhu:=dfo X G a11 l11 c11 λ_ _ _ _ _ _=>ln2 λ_ _=>rfl
 let zlj:Df K mg "_law_of_parts" zjj zhU:=dfo X G a12 l12 c12 λ_ _ _ _ _ _=>ln2 λ_ _=>rfl
 let zkr:Df K mg "_law_exacts" zjH zfd:=dfo X G a13 l13 c13 λ_ _ _ _ _ _=>ln2 λ_ _=>rfl
 let zlQ:Df K mg "_law_shift" zhj zgU:=dfo X G a14 l14 c14 λ_ _ _ _ _ _=>ln5 λ_ _ _ _ _=>rfl
 let zl4:Df K mg "_law_sum" zjR zgh:=dfo X G a15 l15 c15 λ_ _ _ _ _ _=>ln2 λ_ _=>rfl
 let zjF:Df K mg "_law_linear" zj7 zhg:=dfo X G a16 l16 c16 λ_ _ _ _ _ _=>ln3 λ_ _ _=>rfl
 let zkB:Df K mg "_law_system" zfg zhk:=dfo X G a17 l17 c17 λ_ _ _ _ _ _=>ln4 λ_ _ _ _=>rfl
 let zjb:Df K mg "equation_places" ziz zgt:=dfo X G a18 l18 c18 λ_ _ _ _ _ _=>ln1 λ_=>rfl
 let zkn:Df K mg "picked" zgN zeU:=dfo X G a19 l19 c19 λ_ _ _ _ _ _=>ln2 λ_ _=>rfl
 let zi3:Df K mg "less" zlh ziA:=dfo X G a20 l20 c20 λ_ _ _ _ _ _=>ln2 λ_ _=>rfl
 let zkK:Df K mg "rounded_up" zk1 zek:=dfo X G a21 l21 c21 λ_ _ _ _ _ _=>ln2 λ_ _=>rfl
 let zjr:Df K mg "span_of" zm8 zhm:=dfo X G a22 l22 c22 λ_ _ _ _ _ _=>ln3 λ_ _ _=>rfl
 let zj0:Dm K zal.C "forth" "Number.forth" zkf zgC:=dmo a23 l23 c23 λ_ _ _ _ _ _=>ln4 λ_ _ _ _=>rfl
 let zmg:Dm K zan.C "forth" "Unknown.forth" zkO zg3:=dmo a24 l24 c24 λ_ _ _ _ _ _=>ln4 λ_ _ _ _=>rfl
 let zmB:Df K mg "add_spans" zl6 zdt:=dfo X G a25 l25 c25 λ_ _ _ _ _ _=>ln2 λ_ _=>rfl
 let zmW:Dm K zag.C "forth" "Plus.forth" zlF zh0:=dmo a26 l26 c26 λ_ _ _ _ _ _=>ln4 λ_ _ _ _=>rfl
 let zkg:Df K mg "take_spans" zmQ zd0:=dfo X G a27 l27 c27 λ_ _ _ _ _ _=>ln2 λ_ _=>rfl
 let zlB:Dm K zah.C "forth" "Minus.forth" zlq zg6:=dmo a28 l28 c28 λ_ _ _ _ _ _=>ln4 λ_ _ _ _=>rfl
 let zl2:Df K mg "mul_spans" zmf zdK:=dfo X G a29 l29 c29 λ_ _ _ _ _ _=>ln3 λ_ _ _=>rfl
 let zjE:Dm K zai.C "forth" "Times.forth" zi1 zg0:=dmo a30 l30 c30 λ_ _ _ _ _ _=>ln4 λ_ _ _ _=>rfl
 let zjY:Df K mg "raised" zlP zhV:=dfo X G a31 l31 c31 λ_ _ _ _ _ _=>ln2 λ_ _=>rfl
 let zm3:Df K mg "raise_span" zic zfL:=dfo X G a32 l32 c32 λ_ _ _ _ _ _=>ln3 λ_ _ _=>rfl
 let zmL:Dm K zaj.C "forth" "Power.forth" znk zf3:=dmo a33 l33 c33 λ_ _ _ _ _ _=>ln4 λ_ _ _ _=>rfl
 let zi6:Dm K zaj.C "__init__" "Power.__init__" zkD zhX:=dmo a34 l34 c34 λ_ _ _ _ _ _=>ln3 λ_ _ _=>rfl
 let zi2:Dm K zal.C "__init__" "Number.__init__" zm7 zgJ:=dmo a35 l35 c35 λ_ _ _ _ _ _=>ln3 λ_ _ _=>rfl
 let zmC:Dm K zan.C "__init__" "Unknown.__init__" zjk zgF:=dmo a36 l36 c36 λ_ _ _ _ _ _=>ln2 λ_ _=>rfl
 let zmO:Dm K zag.C "__init__" "Pair.__init__" zlx zhf:=dmo a37 l37 c37 λ_ _ _ _ _ _=>ln3 λ_ _ _=>rfl
 let zmj:Dm K zah.C "__init__" "Pair.__init__" zky zim:=dmo a38 l38 c38 λ_ _ _ _ _ _=>ln3 λ_ _ _=>rfl
 let zjz:Dm K zai.C "__init__" "Pair.__init__" zjS zh1:=dmo a39 l39 c39 λ_ _ _ _ _ _=>ln3 λ_ _ _=>rfl
 let zlT:Df K mg "kind_of" zjl zeG:=dfo X G a40 l40 c40 λ_ _ _ _ _ _=>ln1 λ_=>rfl
 let zjs:Df K mg "worths" zkV zed:=dfo X G a41 l41 c41 λ_ _ _ _ _ _=>ln3 λ_ _ _=>rfl
 let zi4:Dm K zal.C "slope" "Number.slope" zmP zha:=dmo a42 l42 c42 λ_ _ _ _ _ _=>ln5 λ_ _ _ _ _=>rfl
 let zlc:Dm K zan.C "slope" "Unknown.slope" zgW zhh:=dmo a43 l43 c43 λ_ _ _ _ _ _=>ln5 λ_ _ _ _ _=>rfl
 let zkp:Dm K zag.C "slope_of_both" "Plus.slope_of_both" zlC zhR:=dmo a44 l44 c44 λ_ _ _ _ _ _=>ln6 λ_ _ _ _ _ _=>rfl
 let zne:Dm K zag.C "slope" "Pair.slope" zhK zgc:=dmo a45 l45 c45 λ_ _ _ _ _ _=>ln5 λ_ _ _ _ _=>rfl
 let zmd:Dm K zah.C "slope_of_both" "Minus.slope_of_both" zj9 zgK:=dmo a46 l46 c46 λ_ _ _ _ _ _=>ln6 λ_ _ _ _ _ _=>rfl
 let zm4:Dm K zah.C "slope" "Pair.slope" ziB zgT:=dmo a47 l47 c47 λ_ _ _ _ _ _=>ln5 λ_ _ _ _ _=>rfl
 let zk4:Dm K zai.C "slope_of_both" "Times.slope_of_both" zkw zgP:=dmo a48 l48 c48 λ_ _ _ _ _ _=>ln6 λ_ _ _ _ _ _=>rfl
 let zng:Dm K zai.C "slope" "Pair.slope" zgj ziK:=dmo a49 l49 c49 λ_ _ _ _ _ _=>ln5 λ_ _ _ _ _=>rfl
 let zmm:Df K mg "scale_span" zlW zgw:=dfo X G a50 l50 c50 λ_ _ _ _ _ _=>ln2 λ_ _=>rfl
 let zm5:Dm K zaj.C "slope" "Power.slope" zig ziQ:=dmo a51 l51 c51 λ_ _ _ _ _ _=>ln5 λ_ _ _ _ _=>rfl
 let zkc:Df K mg "slopes" znl zhT:=dfo X G a52 l52 c52 λ_ _ _ _ _ _=>ln3 λ_ _ _=>rfl
 let zlL:Df K mg "slopes_at" zlJ zih:=dfo X G a53 l53 c53 λ_ _ _ _ _ _=>ln4 λ_ _ _ _=>rfl
 let zjP:Df K mg "signed" zjA zdD:=dfo X G a54 l54 c54 λ_ _ _ _ _ _=>ln2 λ_ _=>rfl
 let zjL:Df K mg "without" zhI zdR:=dfo X G a55 l55 c55 λ_ _ _ _ _ _=>ln3 λ_ _ _=>rfl
 let zbK:Df K mg "cofactor" zei zb3:=dfo X G a56 l56 c56 λ_ _ _ _ _ _=>ln3 λ_ _ _=>rfl
 let zby:Df K mg "determinant" zcw zbR:=dfo X G a57 l57 c57 λ_ _ _ _ _ _=>ln1 λ_=>rfl
 let zkz:Df K mg "inverse_entry" zkt zhF:=dfo X G a58 l58 c58 λ_ _ _ _ _ _=>ln5 λ_ _ _ _ _=>rfl
 let zkE:Df K mg "inverse_row" zg8 ziP:=dfo X G a59 l59 c59 λ_ _ _ _ _ _=>ln4 λ_ _ _ _=>rfl
 let zmv:Df K mg "inverse" zgz ziF:=dfo X G a60 l60 c60 λ_ _ _ _ _ _=>ln2 λ_ _=>rfl
 let zlV:Df K mg "middle" zlX ziS:=dfo X G a61 l61 c61 λ_ _ _ _ _ _=>ln1 λ_=>rfl
 let zkk:Df K mg "middles" zii zfN:=dfo X G a62 l62 c62 λ_ _ _ _ _ _=>ln1 λ_=>rfl
 let zjK:Df K mg "box_of_middles" ziN zeL:=dfo X G a63 l63 c63 λ_ _ _ _ _ _=>ln1 λ_=>rfl
 let zjT:Df K mg "sum_of_products" zja zfY:=dfo X G a64 l64 c64 λ_ _ _ _ _ _=>ln3 λ_ _ _=>rfl
 let zjB:Df K mg "lacking" zho zgR:=dfo X G a65 l65 c65 λ_ _ _ _ _ _=>ln5 λ_ _ _ _ _=>rfl
 let zmG:Df K mg "span_by" zel zhi:=dfo X G a66 l66 c66 λ_ _ _ _ _ _=>ln6 λ_ _ _ _ _ _=>rfl
 let zjw:Df K mg "step_by" zge zib:=dfo X G a67 l67 c67 λ_ _ _ _ _ _=>ln5 λ_ _ _ _ _=>rfl
 let zj3:Df K mg "thin_worths" zk5 zh8:=dfo X G a68 l68 c68 λ_ _ _ _ _ _=>ln4 λ_ _ _ _=>rfl
 let zjo:Df K mg "deep" zj5 zhC:=dfo X G a69 l69 c69 λ_ _ _ _ _ _=>ln2 λ_ _=>rfl
 let zjf:Df K mg "all_deep" zgq zgM:=dfo X G a70 l70 c70 λ_ _ _ _ _ _=>ln2 λ_ _=>rfl
 let zkd:Df K mg "sure" zme ziM:=dfo X G a71 l71 c71 λ_ _ _ _ _ _=>ln2 λ_ _=>rfl
 let zji:Df K mg "leasts_are_sure" zhB zf6:=dfo X G a72 l72 c72 λ_ _ _ _ _ _=>ln2 λ_ _=>rfl
 let zjW:Df K mg "alone" zf4 zil:=dfo X G a73 l73 c73 λ_ _ _ _ _ _=>ln4 λ_ _ _ _=>rfl
 let zmw:Df K mg "_law_deep" zlb zgI:=dfo X G a74 l74 c74 λ_ _ _ _ _ _=>ln2 λ_ _=>rfl
 let zmn:Df K mg "_law_point" zlt zhs:=dfo X G a75 l75 c75 λ_ _ _ _ _ _=>ln4 λ_ _ _ _=>rfl
 let zl3:Df K mg "_law_whole" zmh zir:=dfo X G a76 l76 c76 λ_ _ _ _ _ _=>ln1 λ_=>rfl
 let zm6:Df K mg "_law_span" zj6 zgx:=dfo X G a77 l77 c77 λ_ _ _ _ _ _=>ln1 λ_=>rfl
 let zk7:Df K mg "_law_spans" zly ziu:=dfo X G a78 l78 c78 λ_ _ _ _ _ _=>ln2 λ_ _=>rfl
 let zkU:Df K mg "law" zcQ zkv:=dfo X G a79 l79 c79 λ_ _ _ _ _ _=>ln1 λ_=>rfl
 have zay:=PySem.W.mg_none_of X G zay
 have zaG:=PySem.W.mg_none_of X G zaG
 have zdO:=PySem.W.mg_none_of X G zdO
 have zbJ:=PySem.W.mg_none_of X G zbJ
 have zck:=PySem.W.mg_none_of X G zck
 have zcm:=PySem.W.mg_none_of X G zcm
 have zbl:=PySem.W.mg_none_of X G zbl
 have zbt:=PySem.W.mg_none_of X G zbt
 have zbk:=PySem.W.mg_none_of X G zbk
 have zcS:=PySem.W.mg_none_of X G zcS
 have zbH:=PySem.W.mg_none_of X G zbH
 have zdw:=PySem.W.mg_none_of X G zdw
 have zcW:=PySem.W.mg_none_of X G zcW
 have zcr:=PySem.W.mg_none_of X G zcr
 refine⟨PySem.W.fnOf "law" "law" (zer zcQ) (zd2 zcQ) (zam zcQ) .none .none .none m79 none (.ref h79) .none,λs v=>.of_eq rfl,λbase _ _=>?_⟩
 let znC:=zwW (P:=l.prog) (w:=w) (base:=base) zka
 let zcq:=zxf (P:=l.prog) (w:=w) (base:=base) znf zay
 let zbi:=zyr (P:=l.prog) (w:=w) (base:=base) zlU zcq zay
 let zoO:=zxb (P:=l.prog) (w:=w) (base:=base) zkX zcq zbi zaG
 let zcF:=zvl (P:=l.prog) (w:=w) (base:=base) zlI zdO
 let znQ:=zu0 (P:=l.prog) (w:=w) (base:=base) zle zcF
 let zhW:=zyT (P:=l.prog) (w:=w) (base:=base) zjh zay
 let zoQ:=zyl (P:=l.prog) (w:=w) (base:=base) zlO zcF
 let zez:=zxG (P:=l.prog) (w:=w) (base:=base) zms zhW zoQ znQ zay
 let zos:=zvD (P:=l.prog) (w:=w) (base:=base) zlR zbi zez zaG zay zbJ
 let zbP:=zrT (P:=l.prog) (w:=w) (base:=base) zmq
 let zjZ:=zug (P:=l.prog) (w:=w) (base:=base) zjp zaG
 let zpk:=zw5 (P:=l.prog) (w:=w) (base:=base) zlj zjZ
 let zem:=zve (P:=l.prog) (w:=w) (base:=base) zkr zpk
 let znU:=zsj (P:=l.prog) (w:=w) (base:=base) zlQ zbP zcF zem
 let znM:=zzl (P:=l.prog) (w:=w) (base:=base) zl4 zbP
 let zoT:=zvX (P:=l.prog) (w:=w) (base:=base) zjF znM zbP zaG zay
 let zoJ:=ztY (P:=l.prog) (w:=w) (base:=base) zkB zbP znU zbi zoT zcF zez zcq zos zaG zck zay
 let zoe:=zuw (P:=l.prog) (w:=w) (base:=base) zjb
 let zev:=ztL (P:=l.prog) (w:=w) (base:=base) zkn
 let zoL:=zr9 (P:=l.prog) (w:=w) (base:=base) zi3
 let zdm:=zvx (P:=l.prog) (w:=w) (base:=base) zkK
 let zpn:=zwJ (P:=l.prog) (w:=w) (base:=base) zjr zdm zoL
 let zoa:=zun (P:=l.prog) (w:=w) (base:=base) zal zan zag zah zai zaj zj0 zpn
 let zn9:=zsu (P:=l.prog) (w:=w) (base:=base) zan zal zag zah zai zaj zmg
 let zb4:=zuz (P:=l.prog) (w:=w) (base:=base) zmB
 let zo3:=zuW (P:=l.prog) (w:=w) (base:=base) zag zal zan zah zai zaj zmW zb4
 let zcu:=zyU (P:=l.prog) (w:=w) (base:=base) zkg
 let znR:=zsh (P:=l.prog) (w:=w) (base:=base) zah zal zan zag zai zaj zlB zcu
 let zcs:=ztE (P:=l.prog) (w:=w) (base:=base) zl2 zdm zcm zbJ
 let znT:=zys (P:=l.prog) (w:=w) (base:=base) zai zal zan zag zah zaj zjE zcs
 let zks:=zrW (P:=l.prog) (w:=w) (base:=base) zjY zaG
 let zfS:=zrM (P:=l.prog) (w:=w) (base:=base) zm3 zdm zks zcm zbJ
 let znD:=zrU (P:=l.prog) (w:=w) (base:=base) zaj zal zan zag zah zai zmL zfS
 let zfi:=zs4 (P:=l.prog) (w:=w) (base:=base) zaj zi6
 let zeF:=zu1 (P:=l.prog) (w:=w) (base:=base) zal zi2
 let zeX:=zw0 (P:=l.prog) (w:=w) (base:=base) zan zmC
 let zfK:=zuS (P:=l.prog) (w:=w) (base:=base) zag zmO
 let ze0:=zxY (P:=l.prog) (w:=w) (base:=base) zah zmj
 let zfZ:=zxN (P:=l.prog) (w:=w) (base:=base) zai zjz
 let zeB:=zuZ (P:=l.prog) (w:=w) (base:=base) zaj zai zah zag zan zal zlT zfi zfZ ze0 zfK zeX zeF
 let zdn:=zta (P:=l.prog) (w:=w) (base:=base) zaj zai zah zag zan zal zjs znD znT znR zo3 zn9 zoa zeB
 let zoP:=zxU (P:=l.prog) (w:=w) (base:=base) zal zan zag zah zai zaj zi4
 let znP:=zvb (P:=l.prog) (w:=w) (base:=base) zan zal zag zah zai zaj zlc zaG
 let ziD:=zx4 (P:=l.prog) (w:=w) (base:=base) zag zkp zb4
 let zod:=ztA (P:=l.prog) (w:=w) (base:=base) zag zal zan zah zai zaj zne ziD zbl
 let zg2:=zvo (P:=l.prog) (w:=w) (base:=base) zah zmd zcu
 let zn2:=zx3 (P:=l.prog) (w:=w) (base:=base) zah zal zan zag zai zaj zm4 zg2 zbl
 let zhc:=zsR (P:=l.prog) (w:=w) (base:=base) zai zk4 zb4 zcs
 let znu:=zuv (P:=l.prog) (w:=w) (base:=base) zai zal zan zag zah zaj zng zhc zbl
 let zox:=zyv (P:=l.prog) (w:=w) (base:=base) zmm zcm zbJ
 let zom:=zxO (P:=l.prog) (w:=w) (base:=base) zaj zal zan zag zah zai zm5 zcs zox zfS
 let zoZ:=zvT (P:=l.prog) (w:=w) (base:=base) zaj zai zah zag zan zal zkc zom znu zn2 zod znP zoP zeB zdn zay
 let zoy:=zvy (P:=l.prog) (w:=w) (base:=base) zlL zev zoZ
 let zcB:=ztD (P:=l.prog) (w:=w) (base:=base) zjP
 let zcH:=zuU (P:=l.prog) (w:=w) (base:=base) zjL
 let zvU:=zwX (P:=l.prog) (w:=w) (base:=base) zby (Df.never (P:=l.prog) (w:=w) (base:=base) 0 zbK) zbt zbk zay
 let zsv:=zr5 (P:=l.prog) (w:=w) (base:=base) zbK zcB zvU zcH
 let zyS:=zwU (P:=l.prog) (w:=w) (base:=base) zby zsv zbt zbk zay
 let zxB:=ztR (P:=l.prog) (w:=w) (base:=base) zbK zcB zyS zcH
 let zym:=zzj (P:=l.prog) (w:=w) (base:=base) zby zxB zbt zbk zay
 let zxv:=zto (P:=l.prog) (w:=w) (base:=base) zbK zcB zym zcH
 let zsL:=zt3 (P:=l.prog) (w:=w) (base:=base) zby zxv zbt zbk zay
 let zcj:=zyB (P:=l.prog) (w:=w) (base:=base) zbK zcB zsL zcH
 let zcN:=zwV (P:=l.prog) (w:=w) (base:=base) zby zcj zbt zbk zay
 let zo9:=zvW (P:=l.prog) (w:=w) (base:=base) zkz zcj
 let zpb:=zy5 (P:=l.prog) (w:=w) (base:=base) zkE zo9 zaG zay
 let zoV:=zv6 (P:=l.prog) (w:=w) (base:=base) zmv zpb zcN zaG zay
 let zoD:=zyZ (P:=l.prog) (w:=w) (base:=base) zlV
 let zeR:=zvH (P:=l.prog) (w:=w) (base:=base) zkk zoD
 let zfl:=zze (P:=l.prog) (w:=w) (base:=base) zjK zeR
 let zet:=zw1 (P:=l.prog) (w:=w) (base:=base) zjT zb4 zcs zbl
 let zoz:=zy7 (P:=l.prog) (w:=w) (base:=base) zjB zcu zet
 let zpm:=zt5 (P:=l.prog) (w:=w) (base:=base) zmG zb4 zet zcu zoz zfl zbl zaG zay
 let zo6:=zwn (P:=l.prog) (w:=w) (base:=base) zjw zpm zbk
 let zpp:=zsW (P:=l.prog) (w:=w) (base:=base) zj3 zev zdn zfl
 let zoi:=zyY (P:=l.prog) (w:=w) (base:=base) zjo
 let zo5:=zx5 (P:=l.prog) (w:=w) (base:=base) zjf zoi zcS zbl
 let znV:=zza (P:=l.prog) (w:=w) (base:=base) zkd
 let zor:=zsA (P:=l.prog) (w:=w) (base:=base) zji znV zcS
 let zon:=zvu (P:=l.prog) (w:=w) (base:=base) zjW zo5 zo6 zpp zoV zeR zoy zor zdn zoe zay
 let zoB:=zr7 (P:=l.prog) (w:=w) (base:=base) zmw zaG zay
 let zmy:=zsm (P:=l.prog) (w:=w) (base:=base) zmn zaG zay
 let zk8:=zxT (P:=l.prog) (w:=w) (base:=base) zl3 zbH zdw zck zeN zfv
 let zok:=zxM (P:=l.prog) (w:=w) (base:=base) zm6 zk8 zay zbH zcW zdi
 let zo4:=zzd (P:=l.prog) (w:=w) (base:=base) zk7 zok zay zbH zcr
 let G_law:=zsK (P:=l.prog) (w:=w) (base:=base) zkU zem zmy zcq zbi zoB zo4 zon zoJ zoO znC zaG zck zay zbH zcW zcr zdi
 exact G_law.ok
end Mine
open PySem PySem.W PyProof.Rows
set_option maxRecDepth 100003 in
set_option maxHeartbeats 0 in
theorem PySem.Challenge.cw_boxnarrow_k46_whole_no_two_alike_holds : PySem.Challenge.rw_boxnarrow_k46_whole_no_two_alike.Holds := by
 w_on; refine PySem.W.holds_law Mine.ws_eq λsaid=>?_
 refine PySem.W.holds_open (q:=Mine.vw) (loose:=[]) (Xt:=Mine.xt) (XP:=XL Mine.vw []) (Yf:=Hook.obs (kHook Mine.kp Mine.ks Mine.ze1)) (Ya:=Hook.val (kHook Mine.kp Mine.ks Mine.ze1))
  (YP:=Hook.says (kHook Mine.kp Mine.ks Mine.ze1)) (N:=10306) Mine.left (Hook.of (kHook Mine.kp Mine.ks Mine.ze1)) (Hook.keeps (kHook Mine.kp Mine.ks Mine.ze1)) (λs e=>xl_of s (Bool.and_eq_true_iff.mp e).1) XL.keeps
  (by rfl) (by rfl) (by rfl) (λs e=>recFacts_of (Bool.and_eq_true_iff.mp e).2) (by rfl) (by first | assumption | decide +kernel)
  (by decide +kernel) ⟨rfl,rfl,rfl,rfl,rfl,by decide +kernel⟩ ?hw ?hc
 (case hw=>w_witness2)
 k_fill
 refine L3.zy6 (l:=PySem.Challenge.rw_boxnarrow_k46_whole_no_two_alike) (x:="_law_script") 13 rfl rfl ⟨rfl,by decide,by decide⟩ (λw h Y=>PySem.W.kIn_of Y) ?F
 case F=>
  intro w mg fa h KX G hmg
  refine' Mine.zvp KX G hmg (zk6:=?zk6) (zjd:=?zjd) (znh:=?znh) (zkM:=?zkM) (zkI:=?zkI) (zi9:=?zi9) (znm:=?znm) (zl1:=?zl1) (zjg:=?zjg) (ziY:=?ziY) (zlo:=?zlo) (zjt:=?zjt) (zl9:=?zl9) (zje:=?zje) (zkT:=?zkT) (zmc:=?zmc) (zkL:=?zkL) (zjN:=?zjN) (zni:=?zni) (zkJ:=?zkJ) (zkR:=?zkR) (zkS:=?zkS) (zla:=?zla) (zk3:=?zk3) (zlp:=?zlp) (zmR:=?zmR) (zjQ:=?zjQ) (zmX:=?zmX) (zm0:=?zm0) (zkP:=?zkP) (zj8:=?zj8) (zl7:=?zl7) (zjO:=?zjO) (zls:=?zls) (zjm:=?zjm) (zjD:=?zjD) (zjx:=?zjx) (zmk:=?zmk) (zlw:=?zlw) (zmM:=?zmM) (zkZ:=?zkZ) (zlz:=?zlz) (zlN:=?zlN) (zlZ:=?zlZ) (zjX:=?zjX) (zlE:=?zlE) (zlD:=?zlD) (zlM:=?zlM) (zkC:=?zkC) (zmA:=?zmA) (ziZ:=?ziZ) (zj1:=?zj1) (zmY:=?zmY) (a0:=?a0) (l0:=?l0) (c0:=?c0) (a1:=?a1) (l1:=?l1) (c1:=?c1) (a2:=?a2) (l2:=?l2) (c2:=?c2) (a3:=?a3) (l3:=?l3) (c3:=?c3) (a4:=?a4) (l4:=?l4) (c4:=?c4) (a5:=?a5) (l5:=?l5) (c5:=?c5) (a6:=?a6) (l6:=?l6) (c6:=?c6) (a7:=?a7) (l7:=?l7) (c7:=?c7) (a8:=?a8) (l8:=?l8) (c8:=?c8) (a9:=?a9) (l9:=?l9) (c9:=?c9) (a10:=?a10) (l10:=?l10) (c10:=?c10) (a11:=?a11) (l11:=?l11) (c11:=?c11) (a12:=?a12) (l12:=?l12) (c12:=?c12) (a13:=?a13) (l13:=?l13) (c13:=?c13) (a14:=?a14) (l14:=?l14) (c14:=?c14) (a15:=?a15) (l15:=?l15) (c15:=?c15) (a16:=?a16) (l16:=?l16) (c16:=?c16) (a17:=?a17) (l17:=?l17) (c17:=?c17) (a18:=?a18) (l18:=?l18) (c18:=?c18) (a19:=?a19) (l19:=?l19) (c19:=?c19) (a20:=?a20) (l20:=?l20) (c20:=?c20) (a21:=?a21) (l21:=?l21) (c21:=?c21) (a22:=?a22) (l22:=?l22) (c22:=?c22) (a23:=?a23) (l23:=?l23) (c23:=?c23) (a24:=?a24) (l24:=?l24) (c24:=?c24) (a25:=?a25) (l25:=?l25) (c25:=?c25) (a26:=?a26) (l26:=?l26) (c26:=?c26) (a27:=?a27) (l27:=?l27) (c27:=?c27) (a28:=?a28) (l28:=?l28) (c28:=?c28) (a29:=?a29) (l29:=?l29) (c29:=?c29) (a30:=?a30) (l30:=?l30) (c30:=?c30) (a31:=?a31) (l31:=?l31) (c31:=?c31) (a32:=?a32) (l32:=?l32) (c32:=?c32) (a33:=?a33) (l33:=?l33) (c33:=?c33) (a34:=?a34) (l34:=?l34) (c34:=?c34) (a35:=?a35) (l35:=?l35) (c35:=?c35) (a36:=?a36) (l36:=?l36) (c36:=?c36) (a37:=?a37) (l37:=?l37) (c37:=?c37) (a38:=?a38) (l38:=?l38) (c38:=?c38) (a39:=?a39) (l39:=?l39) (c39:=?c39) (a40:=?a40) (l40:=?l40) (c40:=?c40) (a41:=?a41) (l41:=?l41) (c41:=?c41) (a42:=?a42) (l42:=?l42) (c42:=?c42) (a43:=?a43) (l43:=?l43) (c43:=?c43) (a44:=?a44) (l44:=?l44) (c44:=?c44) (a45:=?a45) (l45:=?l45) (c45:=?c45) (a46:=?a46) (l46:=?l46) (c46:=?c46) (a47:=?a47) (l47:=?l47) (c47:=?c47) (a48:=?a48) (l48:=?l48) (c48:=?c48) (a49:=?a49) (l49:=?l49) (c49:=?c49) (a50:=?a50) (l50:=?l50) (c50:=?c50) (a51:=?a51) (l51:=?l51) (c51:=?c51) (a52:=?a52) (l52:=?l52) (c52:=?c52) (a53:=?a53) (l53:=?l53) (c53:=?c53) (a54:=?a54) (l54:=?l54) (c54:=?c54) (a55:=?a55) (l55:=?l55) (c55:=?c55) (a56:=?a56) (l56:=?l56) (c56:=?c56) (a57:=?a57) (l57:=?l57) (c57:=?c57) (a58:=?a58) (l58:=?l58) (c58:=?c58) (a59:=?a59) (l59:=?l59) (c59:=?c59) (a60:=?a60) (l60:=?l60) (c60:=?c60) (a61:=?a61) (l61:=?l61) (c61:=?c61) (a62:=?a62) (l62:=?l62) (c62:=?c62) (a63:=?a63) (l63:=?l63) (c63:=?c63) (a64:=?a64) (l64:=?l64) (c64:=?c64) (a65:=?a65) (l65:=?l65) (c65:=?c65) (a66:=?a66) (l66:=?l66) (c66:=?c66) (a67:=?a67) (l67:=?l67) (c67:=?c67) (a68:=?a68) (l68:=?l68) (c68:=?c68) (a69:=?a69) (l69:=?l69) (c69:=?c69) (a70:=?a70) (l70:=?l70) (c70:=?c70) (a71:=?a71) (l71:=?l71) (c71:=?c71) (a72:=?a72) (l72:=?l72) (c72:=?c72) (a73:=?a73) (l73:=?l73) (c73:=?c73) (a74:=?a74) (l74:=?l74) (c74:=?c74) (a75:=?a75) (l75:=?l75) (c75:=?c75) (a76:=?a76) (l76:=?l76) (c76:=?c76) (a77:=?a77) (l77:=?l77) (c77:=?c77) (a78:=?a78) (l78:=?l78) (c78:=?c78) (a79:=?a79) (l79:=?l79) (c79:=?c79) (zay:=?zay) (zaG:=?zaG) (zdO:=?zdO) (zbJ:=?zbJ) (zck:=?zck) (zcm:=?zcm) (zbl:=?zbl) (zbt:=?zbt) (zbk:=?zbk) (zcS:=?zcS) (zbH:=?zbH) (zdw:=?zdw) (zcW:=?zcW) (zcr:=?zcr) (zeN:=?zeN) (zfv:=?zfv) (zdi:=?zdi)
  (case zk6 | zjd | znh | zkM | zkI | zi9 | znm | zl1 | zjg | ziY | zlo | zjt | zl9 | zje | zkT | zmc | zkL | zjN | zni | zkJ | zkR | zkS | zla | zk3 | zlp | zmR | zjQ | zmX | zm0 | zkP | zj8 | zl7 | zjO | zls | zjm | zjD | zjx | zmk | zlw | zmM | zkZ | zlz | zlN | zlZ | zjX | zlE | zlD | zlM | zkC | zmA | ziZ | zj1 | zmY | zay | zaG | zdO | zbJ | zck | zcm | zbl | zbt | zbk | zcS | zbH | zdw | zcW | zcr=>k_is)
  (case a0 | a1 | a2 | a3 | a4 | a5 | a6 | a7 | a8 | a9 | a10 | a11 | a12 | a13 | a14 | a15 | a16 | a17 | a18 | a19 | a20 | a21 | a22 | a25 | a27 | a29 | a31 | a32 | a40 | a41 | a50 | a52 | a53 | a54 | a55 | a56 | a57 | a58 | a59 | a60 | a61 | a62 | a63 | a64 | a65 | a66 | a67 | a68 | a69 | a70 | a71 | a72 | a73 | a74 | a75 | a76 | a77 | a78 | a79=>delta Mine.nsA; k_is)
  (case a23 | a24 | a26 | a28 | a30 | a33 | a34 | a35 | a36 | a37 | a38 | a39 | a42 | a43 | a44 | a45 | a46 | a47 | a48 | a49 | a51=>delta Mine.fdA; k_is)
  (case l0 | l1 | l2 | l3 | l4 | l5 | l6 | l7 | l8 | l9 | l10 | l11 | l12 | l13 | l14 | l15 | l16 | l17 | l18 | l19 | l20 | l21 | l22 | l23 | l24 | l25 | l26 | l27 | l28 | l29 | l30 | l31 | l32 | l33 | l34 | l35 | l36 | l37 | l38 | l39 | l40 | l41 | l42 | l43 | l44 | l45 | l46 | l47 | l48 | l49 | l50 | l51 | l52 | l53 | l54 | l55 | l56 | l57 | l58 | l59 | l60 | l61 | l62 | l63 | l64 | l65 | l66 | l67 | l68 | l69 | l70 | l71 | l72 | l73 | l74 | l75 | l76 | l77 | l78 | l79=>delta Mine.lkA; k_is)
  (case c0 | c1 | c2 | c3 | c4 | c5 | c6 | c7 | c8 | c9 | c10 | c11 | c12 | c13 | c14 | c15 | c16 | c17 | c18 | c19 | c20 | c21 | c22 | c23 | c24 | c25 | c26 | c27 | c28 | c29 | c30 | c31 | c32 | c33 | c34 | c35 | c36 | c37 | c38 | c39 | c40 | c41 | c42 | c43 | c44 | c45 | c46 | c47 | c48 | c49 | c50 | c51 | c52 | c53 | c54 | c55 | c56 | c57 | c58 | c59 | c60 | c61 | c62 | c63 | c64 | c65 | c66 | c67 | c68 | c69 | c70 | c71 | c72 | c73 | c74 | c75 | c76 | c77 | c78 | c79=>delta Mine.cdA; k_is)
  (case zeN=>exact L3.zoo _ _ (by simp))
  (case zfv=>exact L3.zoo _ _ (by simp))
  (case zdi=>exact L3.zoo _ _ (by simp))
