import PyProof.Rows.All
import Wide.All
import OpenK.AllK
import Wide.FinOn
import Lean
import PyProof.EqAt
import PyProof.EqKinds
import PyProof.TupleCall
import PySem.Challenge.RW_boxnarrow_k45_alone_told
theorem Vaa:type_of% @List.getElem?_eq_getElem:=@List.getElem?_eq_getElem
theorem Vab:type_of% @List.getElem?_eq_some_iff:=@List.getElem?_eq_some_iff
theorem Vac:type_of% @List.length_map:=@List.length_map
theorem Vad:type_of% @Nat.le_refl:=@Nat.le_refl
theorem Vae:type_of% @List.getElem?_map:=@List.getElem?_map
theorem Vaf:type_of% @List.getD_eq_getElem?_getD:=@List.getD_eq_getElem?_getD
theorem Vag:type_of% @List.map_map:=@List.map_map
theorem Vah:type_of% @Int.toNat_natCast:=@Int.toNat_natCast
theorem Vai:type_of% @List.mem_map:=@List.mem_map
theorem Vaj:type_of% @List.range_succ:=@List.range_succ
theorem Vak:type_of% @List.size_toArray:=@List.size_toArray
theorem Val:type_of% @List.mem_of_getElem?:=@List.mem_of_getElem?
theorem Vam:type_of% @Option.map_eq_some_iff:=@Option.map_eq_some_iff
theorem Van:type_of% @List.lookup_cons:=@List.lookup_cons
theorem Vao:type_of% @List.getElem?_append_left:=@List.getElem?_append_left
theorem Vap:type_of% @Nat.ne_of_lt:=@Nat.ne_of_lt
theorem Vaq:type_of% @Bool.false_ne_true:=@Bool.false_ne_true
theorem Var:type_of% @List.length_append:=@List.length_append
theorem Vas:type_of% @List.map_cons:=@List.map_cons
theorem Vat:type_of% @Nat.zero_le:=@Nat.zero_le
theorem Vau:type_of% @List.length_take:=@List.length_take
theorem Vav:type_of% @List.map_append:=@List.map_append
theorem Vaw:type_of% @List.mem_cons:=@List.mem_cons
theorem Vax:type_of% @Nat.lt_of_lt_of_le:=@Nat.lt_of_lt_of_le
theorem Vay:type_of% @List.length_cons:=@List.length_cons
theorem Vaz:type_of% @List.getElem?_append_right:=@List.getElem?_append_right
theorem VaA:type_of% @Nat.le_trans:=@Nat.le_trans
theorem VaB:type_of% @List.getElem?_set_ne:=@List.getElem?_set_ne
theorem VaC:type_of% @List.getElem?_eq_none:=@List.getElem?_eq_none
theorem VaD:type_of% @List.take_of_length_le:=@List.take_of_length_le
theorem VaE:type_of% @List.getElem?_range:=@List.getElem?_range
theorem VaF:type_of% @Nat.lt_irrefl:=@Nat.lt_irrefl
theorem VaG:type_of% @List.mem_append_right:=@List.mem_append_right
theorem VaH:type_of% @List.getElem_mem:=@List.getElem_mem
theorem VaI:type_of% @List.map_congr_left:=@List.map_congr_left
theorem VaJ:type_of% @Int.le_refl:=@Int.le_refl
theorem VaK:type_of% @List.mem_iff_getElem:=@List.mem_iff_getElem
theorem VaL:type_of% @Int.mul_comm:=@Int.mul_comm
theorem VaM:type_of% @Nat.pow_pos:=@Nat.pow_pos
theorem VaN:type_of% @List.mem_cons_of_mem:=@List.mem_cons_of_mem
theorem VaO:type_of% @List.mem_append:=@List.mem_append
theorem VaP:type_of% @Option.isSome_iff_exists:=@Option.isSome_iff_exists
theorem VaQ:type_of% @List.getElem?_eq_none_iff:=@List.getElem?_eq_none_iff
theorem VaR:type_of% @List.mem_range:=@List.mem_range
theorem VaS:type_of% @Int.pow_pos:=@Int.pow_pos
theorem VaT:type_of% @List.map_drop:=@List.map_drop
theorem VaU:type_of% @Nat.le_of_lt:=@Nat.le_of_lt
theorem VaV:type_of% @List.getElem?_set_self:=@List.getElem?_set_self
theorem VaW:type_of% @List.take_length:=@List.take_length
theorem VaX:type_of% @Nat.sub_self:=@Nat.sub_self
theorem VaY:type_of% @List.ext_getElem?:=@List.ext_getElem?
theorem VaZ:type_of% @List.map_take:=@List.map_take
theorem Va0:type_of% @List.append_nil:=@List.append_nil
theorem Va1:type_of% @List.length_drop:=@List.length_drop
theorem Va2:type_of% @List.find?_cons:=@List.find?_cons
theorem Va3:type_of% @Int.neg_mul:=@Int.neg_mul
theorem Va4:type_of% @List.mem_of_mem_drop:=@List.mem_of_mem_drop
theorem Va5:type_of% @Int.pow_succ:=@Int.pow_succ
theorem Va6:type_of% @List.mem_cons_self:=@List.mem_cons_self
theorem Va7:type_of% @List.length_set:=@List.length_set
theorem Va8:type_of% @List.replicate_succ:=@List.replicate_succ
theorem Va9:type_of% @List.append_assoc:=@List.append_assoc
theorem Vba:type_of% @List.take_succ:=@List.take_succ
theorem Vbb:type_of% @List.mem_of_mem_take:=@List.mem_of_mem_take
theorem Vbc:type_of% @List.length_nil:=@List.length_nil
theorem Vbd:type_of% @Int.zero_mul:=@Int.zero_mul
theorem Vbe:type_of% @Bool.eq_iff_iff:=@Bool.eq_iff_iff
theorem Vbf:type_of% @List.flatten_cons:=@List.flatten_cons
theorem Vbg:type_of% @Int.natAbs_mul:=@Int.natAbs_mul
theorem Vbh:type_of% @List.all_eq_true:=@List.all_eq_true
theorem Vbi:type_of% @List.mem_iff_getElem?:=@List.mem_iff_getElem?
set_option Elab.async false
set_option linter.all false
set_option maxRecDepth 100000
set_option genSizeOf false
set_option maxHeartbeats 40000000
namespace L2
open PySem PySem.Spec PyProof.Rows
def zaO (s:Stmt)(j:Nat):Stmt:=match s with
 | .ClassDef _ _ _ body _ _ _ _ _ _ _=>body.getD j (.Pass ⟨0,0,0,0⟩)
 | _=>.Pass ⟨0,0,0,0⟩
def zeh (s:Stmt):Arguments:=match s with
 | .FunctionDef _ a _ _ _ _ _ _ _ _=>a
 | _=>{ posonlyargs:=[],args:=[],vararg:=none,kwonlyargs:=[],kw_defaults:=[],kwarg:=none,defaults:=[] }
def zdv (s:Stmt):List Stmt:=match s with
 | .FunctionDef _ _ b _ _ _ _ _ _ _=>b
 | _=>[]
def zam (s:Stmt):Scope:=match s with
 | .FunctionDef _ _ _ _ _ _ sc _ _ _=>sc
 | _=>{ kind:=.function,names:=[],isGenerator:=false,isCoroutine:=false }
end L2
namespace L3
open PySem PySem.W PyProof.Rows PySem.Calls
def goT (tb:String→Option Builtin)(p:Program)(w:World)(n₀:Nat)(ann:Option Value):Nat→SharedT→Thread→Option SharedT
 | 0,_,_=>none
 | k+1,s,t=>bif through t then some s else bif stepOk n₀ ann t then (stepT (denote tb) p w s t).bind (λr=>goT tb p w n₀ ann k r.1 r.2) else none
theorem zpw {tb:String→Option Builtin}{p:Program}{w:World}{n₀:Nat}{ann:Option Value}:∀ {n:Nat} {s s':SharedT} {t:Thread},goT tb p w n₀ ann n s t=some s'→topRun tb p w n₀ ann n s.abs t=some s'.abs
 | 0,_,_,_,q=>nomatch q
 | n+1,s,s',t,q=>by
  unfold goT at q
  unfold topRun
  cases c1:through t
  ·rw[c1] at q
   cases c2:stepOk n₀ ann t
   ·rw[c2] at q
    exact nomatch q
   ·rw[c2] at q
    obtain⟨⟨s2,t2⟩,c3,q⟩:=Option.bind_eq_some_iff.mp q
    rw[stepT_spec c3]
    exact zpw q
  ·rw[c1] at q
   cases q
   rfl
def znd (os:Array Obj):Nat→Nat→Nat→BT
 | 0,_,_=>.nil
 | f+1,a,b=>match os[b]? with
  | some o=>.node o (znd os f (2*a) (a+b)) (znd os f (2*a) (2*a+b))
  | none=>.nil
noncomputable def bootT (P:Params):BT:=znd (boot_heap P).objs 6 1 0
noncomputable abbrev zdC (w:World)(os:OsState):SharedT:=⟨bootT w.params,11,(boot_heap w.params).life,Array.mk [],boot_drawn,boot_toks,os⟩
def zlT (s:SharedT)(a:Addr):Option Obj:=if a<s.n then (match s.tree.get a with | some o=>alive o | none=>s.abs.heap.get? a) else none
theorem zuT (s:SharedT)(a:Addr):s.abs.heap.get? a=zlT s a:=by
 unfold zlT
 split
 ·rename_i h
  cases e:s.tree.get a with
  | none=>rfl
  | some o=>exact abs_get h e
 ·rename_i h
  exact abs_get_none h
theorem ztH (l:List Addr)(s:SharedT):l.map s.abs.heap.get?=l.map (zlT s):=VaI λa _=>zuT s a
noncomputable abbrev seenT (p q:Program)(loose:List Str)(Xt:Shared→Bool){α:Type}(YT:SharedT→α)(g0:Bool)(w:World)(s:SharedT):=
 ((staticsOk (importedModules p.main.body) (boot_heap w.params) s.abs.heap&&namesBound p s.abs.heap&&gensDone s.abs&&laidKept (boot_heap w.params) s.abs.heap),openSeen q loose (importedModules p.main.body) Xt g0 s.abs,YT s)
theorem zuI {p q:Program}{loose:List Str}{Xt:Shared→Bool}{α:Type}{Yf:Shared→α}{YT:SharedT→α}{Ya:World→α}{N:Nat}{g0:Bool}{ann:Option Value}(hY:∀s:SharedT,Yf s.abs=YT s)(e:opening p=plainProg p.main.scope.names)(hN:Nat.ble 600 N=true)(f:∀s,fenceModules? p s=some s)
  (size:∀w:World,((boot_heap w.params).isNs mainGlobals&&(Array.mk []:Array GenState).size==0,(boot_heap w.params).objs.size,(boot_heap w.params).nsMap mainGlobals "__annotations__")=(true,11,ann))
  (run:∀w:World,(λos=>(goT treeTable p w 11 ann N (zdC w os) (topStub p)).map λs=>seenT p q loose Xt YT g0 w s)=λ_=>some (true,openGood q loose,Ya w)):LeftO p q loose Xt Yf Ya N g0:=λw=>by
 obtain⟨⟨h,gs,d,k,os⟩,e1,e'⟩:=Vam.mp (boot_open e hN f w)
 obtain⟨rfl,rfl,rfl,rfl⟩:h=boot_heap w.params∧gs=Array.mk []∧d=boot_drawn∧k=boot_toks:=by simpa using e'
 obtain⟨y1,y2,y3⟩:_∧_∧_:=by simpa only [Prod.mk.injEq] using size w
 obtain⟨s',r1,r2⟩:=Vam.mp (congrFun (run w) os)
 obtain⟨l1,l2,l3⟩:_∧_∧_:=by simpa only [Prod.mk.injEq] using r2
 have r:topRun treeTable p w 11 ann N ⟨boot_heap w.params,Array.mk [],boot_drawn,boot_toks,os⟩ (topStub p)=some s'.abs:=by
  have z:=zpw r1
  exact z
 have t:topFrom treeTable p w N ⟨boot_heap w.params,Array.mk [],boot_drawn,boot_toks,os⟩=some s'.abs:=by
  unfold topFrom
  dsimp only
  rw[y1,y2,y3,r]
  show (match staticsOk (importedModules p.main.body) (boot_heap w.params) s'.abs.heap&&namesBound p s'.abs.heap&&gensDone s'.abs&&laidKept (boot_heap w.params) s'.abs.heap with | true=>_ | false=>_)=_
  rw[l1]
 unfold openEnds
 rw[e1]
 show Option.map _ (topFrom treeTable p w N _)=_
 rw[t]
 exact congrArg some (Prod.ext l2 ((hY s').trans l3))
noncomputable abbrev znZ (p:Program)(w:World)(s:SharedT):Bool:=staticsOk (importedModules p.main.body) (boot_heap w.params) s.abs.heap&&namesBound p s.abs.heap&&gensDone s.abs&&laidKept (boot_heap w.params) s.abs.heap
theorem zr2 {p q:Program}{loose:List Str}{Xt:Shared→Bool}{α:Type}{Yf:Shared→α}{YT:SharedT→α}{Ya:World→α}{N:Nat}{g0:Bool}{ann:Option Value}(hY:∀s:SharedT,Yf s.abs=YT s)(e:opening p=plainProg p.main.scope.names)(hN:Nat.ble 600 N=true)(f:∀s,fenceModules? p s=some s)
  (size:∀w:World,((boot_heap w.params).isNs mainGlobals&&(Array.mk []:Array GenState).size==0,(boot_heap w.params).objs.size,(boot_heap w.params).nsMap mainGlobals "__annotations__")=(true,11,ann))
  (ra:∀w:World,(λos=>(goT treeTable p w 11 ann N (zdC w os) (topStub p)).map λs=>(znZ p w s,(openSeen q loose (importedModules p.main.body) Xt g0 s.abs).1))=λ_=>some (true,(openGood q loose).1))
  (rb:∀w:World,(λos=>(goT treeTable p w 11 ann N (zdC w os) (topStub p)).map λs=>((openSeen q loose (importedModules p.main.body) Xt g0 s.abs).2.1,(openSeen q loose (importedModules p.main.body) Xt g0 s.abs).2.2.1))=λ_=>some ((openGood q loose).2.1,(openGood q loose).2.2.1))
  (rc:∀w:World,(λos=>(goT treeTable p w 11 ann N (zdC w os) (topStub p)).map λs=>(openSeen q loose (importedModules p.main.body) Xt g0 s.abs).2.2.2)=λ_=>some (openGood q loose).2.2.2)
  (objs:∀w:World,(λos=>(goT treeTable p w 11 ann N (zdC w os) (topStub p)).map YT)=λ_=>some (Ya w)):LeftO p q loose Xt Yf Ya N g0:=by
 refine zuI hY e hN f size λw=>funext λos=>?_
 obtain⟨s1,a1,b1⟩:=Vam.mp (congrFun (ra w) os)
 obtain⟨s2,a2,b2⟩:=Vam.mp (congrFun (rb w) os)
 obtain⟨s3,a3,b3⟩:=Vam.mp (congrFun (rc w) os)
 obtain⟨s4,a4,b4⟩:=Vam.mp (congrFun (objs w) os)
 rw[a1] at a2 a3 a4
 cases a2
 cases a3
 cases a4
 obtain⟨l1,l2⟩:=Prod.mk.inj b1
 obtain⟨l3,l4⟩:=Prod.mk.inj b2
 have l5:openSeen q loose (importedModules p.main.body) Xt g0 s1.abs=openGood q loose:=Prod.ext l2 (Prod.ext l3 (Prod.ext l4 b3))
 rw[a1]
 show some (znZ p w s1,openSeen q loose (importedModules p.main.body) Xt g0 s1.abs,YT s1)=some (true,openGood q loose,Ya w)
 rw[l1,l5,b4]
end L3
namespace Mine
open PySem PySem.Spec PyProof.Rows L2 L3
def top (i:Nat):Stmt:=PySem.Challenge.pw_boxnarrow_k45_alone_told.main.body.getD i (.Pass ⟨0,0,0,0⟩)
theorem ws_eq:PySem.W.OpenLaw.wellSaid PySem.Challenge.rw_boxnarrow_k45_alone_told=true:=by decide +kernel
def vw:Program:={ PySem.Challenge.pw_boxnarrow_k45_alone_told with main:={ PySem.Challenge.pw_boxnarrow_k45_alone_told.main with body:=[top 0,top 2,top 3,top 4,top 5,top 6,top 7,top 8,top 10,top 11,top 13,top 14,top 16,top 17,top 18,top 19,top 20,top 21,top 22,top 23,top 24,top 26,top 27,top 28,top 29,top 30,top 31,top 32,top 33,top 34,top 36,top 37,top 39,top 41,top 42,top 43,top 44,top 45,top 46,top 47,top 48,top 49,top 50,top 51,top 52,top 53,top 55,top 56,top 57,top 58,top 59,top 60,top 61,top 62,top 63,top 64,top 65,top 66,top 67,top 68,top 69,top 70,top 71] } }
noncomputable abbrev de (P:Params)(s:Str)(t:Tok)(v:Value):DictEntry:=⟨PySem.PyData.keyHash P s,.str s t,v⟩
abbrev co (n q:Str)(a b c d:Tok)(i k:Int)(r s:Addr)(y z:Value)(t:Addr)(j:Int):Obj:=⟨.type "code",none,.fields #[.str n a,.str q b,.str "/claim/cut.py" c,.int i 0,.int k 0,.int 0 0,.int 0 0,.int 3 0,.ref r,.bool Bool.true,.int 181 0,.ref s,.none,y,z,.ref t,.int j 0,.int i 0,.str "/claim/cut.py" d],#[]⟩
abbrev fo (n q:Str)(st:Stmt)(m:Value)(c:Addr):Obj:=⟨.type "function",none,.func (PySem.W.fnOf n q (zeh st) (zdv st) (zam st) .none .none .none m none (.ref c) .none),#[]⟩
noncomputable def kp:Params→PySem.W.Frag:=λP=>
 (nat_lit 3,(.mk (.type "dict") none (.dict #[(de P "__name__" 165 (.str "law_boxnarrow_k45_alone_told" 976)),(de P "__doc__" 166 .none),(de P "__package__" 167 .none),(de P "__loader__" 168 (.builtin "__main__.__loader__#opaque")),(de P "__spec__" 169 .none),(de P "__annotations__" 170 (.ref 6)),(de P "__builtins__" 171 (.ref 4)),(de P "__file__" 173 (.str "/claim/cut.py" 172)),(de P "__cached__" 174 .none),(de P "_wall" 193 (.ref 21)),(de P "signed" 203 (.ref 28)),(de P "without" 209 (.ref 33)),(de P "cofactor" 218 (.ref 40)),(de P "determinant" 224 (.ref 45)),(de P "inverse_entry" 235 (.ref 52)),(de P "inverse_row" 241 (.ref 57)),(de P "inverse" 247 (.ref 62)),(de P "BoxError" 267 (.ref 72)),(de P "NoSpan" 283 (.ref 85)),(de P "raised" 295 (.ref 94)),(de P "less" 303 (.ref 101)),(de P "rounded_up" 313 (.ref 108)),(de P "span_of" 322 (.ref 115)),(de P "add_spans" 330 (.ref 122)),(de P "take_spans" 338 (.ref 129)),(de P "mul_spans" 348 (.ref 136)),(de P "raise_span" 354 (.ref 141)),(de P "scale_span" 362 (.ref 148)),(de P "deep" 370 (.ref 155)),(de P "middle" 377 (.ref 162)),(de P "Node" 399 (.ref 172)),(de P "Number" 467 (.ref 221)),(de P "Unknown" 527 (.ref 266)),(de P "Pair" 570 (.ref 297)),(de P "Plus" 639 (.ref 344)),(de P "Minus" 708 (.ref 391)),(de P "Times" 777 (.ref 438)),(de P "Power" 839 (.ref 483)),(de P "kind_of" 846 (.ref 492)),(de P "worths" 859 (.ref 499)),(de P "sure" 867 (.ref 506)),(de P "slopes" 881 (.ref 513)),(de P "equation_places" 889 (.ref 518)),(de P "picked" 895 (.ref 523)),(de P "middles" 901 (.ref 528)),(de P "box_of_middles" 907 (.ref 533)),(de P "sum_of_products" 919 (.ref 540)),(de P "lacking" 925 (.ref 545)),(de P "span_by" 931 (.ref 550)),(de P "step_by" 937 (.ref 555)),(de P "thin_worths" 947 (.ref 562)),(de P "slopes_at" 957 (.ref 569)),(de P "leasts_are_sure" 963 (.ref 574)),(de P "all_deep" 969 (.ref 579)),(de P "alone" 975 (.ref 584)),(de P "_law_cell" 985 (.ref 591)),(de P "_law_whole" 992 (.ref 598)),(de P "_law_span" 999 (.ref 605)),(de P "_law_spans" 1008 (.ref 612)),(de P "_law_lowest" 1018 (.ref 619)),(de P "_law_grid" 1025 (.ref 626)),(de P "_law_at" 1033 (.ref 633)),(de P "_law_sum" 1043 (.ref 640)),(de P "_law_linear" 1055 (.ref 647)),(de P "_law_deep" 1064 (.ref 654)),(de P "_law_turned" 1070 (.ref 659)),(de P "_law_place" 1077 (.ref 666)),(de P "_law_around" 1088 (.ref 673)),(de P "_law_changed" 1098 (.ref 680)),(de P "_law_sure" 1109 (.ref 687)),(de P "_law_matrix" 1119 (.ref 694)),(de P "law" 1125 (.ref 699))] 72) #[]))::
 (nat_lit 27,co "signed" "signed" 196 197 198 202 5 2 22 23 (.ref 24) (.ref 25) 26 201)::
 (nat_lit 28,fo "signed" "signed" (top 2) (.str "boxnarrow.matrices" 194) 27)::
 (nat_lit 32,co "without" "without" 204 205 206 208 7 3 29 30 .none .none 31 207)::
 (nat_lit 33,fo "without" "without" (top 3) (.str "boxnarrow.matrices" 194) 32)::
 (nat_lit 39,co "cofactor" "cofactor" 210 211 212 217 10 3 34 35 (.ref 36) (.ref 37) 38 216)::
 (nat_lit 40,fo "cofactor" "cofactor" (top 4) (.str "boxnarrow.matrices" 194) 39)::
 (nat_lit 44,co "determinant" "determinant" 219 220 221 223 12 1 41 42 .none .none 43 222)::
 (nat_lit 45,fo "determinant" "determinant" (top 5) (.str "boxnarrow.matrices" 194) 44)::
 (nat_lit 51,co "inverse_entry" "inverse_entry" 225 226 227 234 16 5 46 47 (.ref 48) (.ref 49) 50 233)::
 (nat_lit 52,fo "inverse_entry" "inverse_entry" (top 6) (.str "boxnarrow.matrices" 194) 51)::
 (nat_lit 56,co "inverse_row" "inverse_row" 236 237 238 240 18 4 53 54 .none .none 55 239)::
 (nat_lit 57,fo "inverse_row" "inverse_row" (top 7) (.str "boxnarrow.matrices" 194) 56)::
 (nat_lit 61,co "inverse" "inverse" 242 243 244 246 20 2 58 59 .none .none 60 245)::
 (nat_lit 62,fo "inverse" "inverse" (top 8) (.str "boxnarrow.matrices" 194) 61)::
 (nat_lit 71,(.mk (.type "dict") none (.dict #[(de P "__module__" 257 (.str "boxnarrow.errors" 248)),(de P "__firstlineno__" 261 (.int 26 260)),(de P "__static_attributes__" 262 (.ref 70)),(de P "__weakref__" 264 (.ref 73)),(de P "__doc__" 265 .none)] 3) #[]))::
 (nat_lit 72,(.mk (.type "type") none (.cls (PySem.ClassData.mk "BoxError" [(.type "ValueError")] [(.ref 72),(.type "ValueError"),(.type "Exception"),(.type "BaseException"),(.type "object")] 71 "BoxError" Bool.true [] [(.ref 85)] Bool.false none Bool.false)) #[(some (.ref 63)),none,(some (.str "BoxError" 250)),(some (.str "BoxError" 258)),(some (.builtin "ValueError.__new__")),(some (.bool Bool.true))]))::
 (nat_lit 84,(.mk (.type "dict") none (.dict #[(de P "__module__" 275 (.str "boxnarrow.errors" 248)),(de P "__firstlineno__" 279 (.int 28 278)),(de P "__static_attributes__" 280 (.ref 83)),(de P "__doc__" 281 .none)] 2) #[]))::
 (nat_lit 85,(.mk (.type "type") none (.cls (PySem.ClassData.mk "NoSpan" [(.ref 72)] [(.ref 85),(.ref 72),(.type "ValueError"),(.type "Exception"),(.type "BaseException"),(.type "object")] 84 "NoSpan" Bool.true [] [] Bool.false none Bool.false)) #[(some (.ref 76)),none,(some (.str "NoSpan" 268)),(some (.str "NoSpan" 276)),(some (.builtin "ValueError.__new__")),(some (.bool Bool.true))]))::
 (nat_lit 93,co "raised" "raised" 286 287 288 294 31 2 88 89 (.ref 90) (.ref 91) 92 293)::
 (nat_lit 94,fo "raised" "raised" (top 13) (.str "boxnarrow.fractions" 284) 93)::
 (nat_lit 100,co "less" "less" 296 297 298 302 36 2 95 96 (.ref 97) (.ref 98) 99 301)::
 (nat_lit 101,fo "less" "less" (top 14) (.str "boxnarrow.fractions" 284) 100)::
 (nat_lit 107,co "rounded_up" "rounded_up" 306 307 308 312 39 2 102 103 (.ref 104) (.ref 105) 106 311)::
 (nat_lit 108,fo "rounded_up" "rounded_up" (top 16) (.str "boxnarrow.spans" 304) 107)::
 (nat_lit 114,co "span_of" "span_of" 314 315 316 321 41 3 109 110 (.ref 111) (.ref 112) 113 320)::
 (nat_lit 115,fo "span_of" "span_of" (top 17) (.str "boxnarrow.spans" 304) 114)::
 (nat_lit 121,co "add_spans" "add_spans" 323 324 325 329 45 2 116 117 (.ref 118) (.ref 119) 120 328)::
 (nat_lit 122,fo "add_spans" "add_spans" (top 18) (.str "boxnarrow.spans" 304) 121)::
 (nat_lit 128,co "take_spans" "take_spans" 331 332 333 337 47 2 123 124 (.ref 125) (.ref 126) 127 336)::
 (nat_lit 129,fo "take_spans" "take_spans" (top 19) (.str "boxnarrow.spans" 304) 128)::
 (nat_lit 135,co "mul_spans" "mul_spans" 339 340 341 347 49 3 130 131 (.ref 132) (.ref 133) 134 346)::
 (nat_lit 136,fo "mul_spans" "mul_spans" (top 20) (.str "boxnarrow.spans" 304) 135)::
 (nat_lit 140,co "raise_span" "raise_span" 349 350 351 353 52 3 137 138 .none .none 139 352)::
 (nat_lit 141,fo "raise_span" "raise_span" (top 21) (.str "boxnarrow.spans" 304) 140)::
 (nat_lit 147,co "scale_span" "scale_span" 355 356 357 361 59 2 142 143 (.ref 144) (.ref 145) 146 360)::
 (nat_lit 148,fo "scale_span" "scale_span" (top 22) (.str "boxnarrow.spans" 304) 147)::
 (nat_lit 154,co "deep" "deep" 363 364 365 369 61 2 149 150 (.ref 151) (.ref 152) 153 368)::
 (nat_lit 155,fo "deep" "deep" (top 23) (.str "boxnarrow.spans" 304) 154)::
 (nat_lit 161,co "middle" "middle" 371 372 373 376 63 1 156 157 (.ref 158) (.ref 159) 160 375)::
 (nat_lit 162,fo "middle" "middle" (top 24) (.str "boxnarrow.spans" 304) 161)::
 (nat_lit 171,(.mk (.type "dict") none (.dict #[(de P "__module__" 387 (.str "boxnarrow.kinds" 378)),(de P "__firstlineno__" 391 (.int 66 390)),(de P "__static_attributes__" 392 (.ref 170)),(de P "__dict__" 394 (.ref 173)),(de P "__weakref__" 396 (.ref 174)),(de P "__doc__" 397 .none)] 4) #[]))::
 (nat_lit 172,(.mk (.type "type") none (.cls (PySem.ClassData.mk "Node" [(.type "object")] [(.ref 172),(.type "object")] 171 "Node" Bool.true [] [(.ref 221),(.ref 266),(.ref 297),(.ref 483)] Bool.false none Bool.false)) #[none,none,(some (.str "Node" 380)),(some (.str "Node" 388)),(some (.builtin "object.__new__")),(some (.bool Bool.true))]))::
 (nat_lit 189,co "__init__" "Number.__init__" 412 413 414 419 70 3 184 185 (.ref 186) (.ref 187) 188 418)::
 (nat_lit 190,fo "__init__" "Number.__init__" (zaO (top 27) 0) (.str "boxnarrow.kinds" 378) 189)::
 (nat_lit 203,co "forth" "Number.forth" 430 431 432 439 77 4 198 199 (.ref 200) (.ref 201) 202 438)::
 (nat_lit 204,fo "forth" "Number.forth" (zaO (top 27) 2) (.str "boxnarrow.kinds" 378) 203)::
 (nat_lit 217,co "slope" "Number.slope" 451 452 453 460 84 5 212 213 (.ref 214) (.ref 215) 216 459)::
 (nat_lit 218,fo "slope" "Number.slope" (zaO (top 27) 4) (.str "boxnarrow.kinds" 378) 217)::
 (nat_lit 220,(.mk (.type "dict") none (.dict #[(de P "__module__" 407 (.str "boxnarrow.kinds" 378)),(de P "__firstlineno__" 411 (.int 68 410)),(de P "__init__" 420 (.ref 190)),(de P "exact" 429 (.ref 197)),(de P "forth" 440 (.ref 204)),(de P "back" 450 (.ref 211)),(de P "slope" 461 (.ref 218)),(de P "__static_attributes__" 464 (.ref 219)),(de P "__doc__" 465 .none)] 2) #[]))::
 (nat_lit 221,(.mk (.type "type") none (.cls (PySem.ClassData.mk "Number" [(.ref 172)] [(.ref 221),(.ref 172),(.type "object")] 220 "Number" Bool.true [] [] Bool.false none Bool.false)) #[(some (.ref 177)),none,(some (.str "Number" 400)),(some (.str "Number" 408)),(some (.builtin "object.__new__")),(some (.bool Bool.true))]))::
 (nat_lit 236,co "__init__" "Unknown.__init__" 480 481 482 486 88 2 231 232 (.ref 233) (.ref 234) 235 485)::
 (nat_lit 237,fo "__init__" "Unknown.__init__" (zaO (top 28) 0) (.str "boxnarrow.kinds" 378) 236)::
 (nat_lit 250,co "forth" "Unknown.forth" 497 498 499 505 94 4 245 246 (.ref 247) (.ref 248) 249 504)::
 (nat_lit 251,fo "forth" "Unknown.forth" (zaO (top 28) 2) (.str "boxnarrow.kinds" 378) 250)::
 (nat_lit 262,co "slope" "Unknown.slope" 517 518 519 521 100 5 259 260 .none .none 261 520)::
 (nat_lit 263,fo "slope" "Unknown.slope" (zaO (top 28) 4) (.str "boxnarrow.kinds" 378) 262)::
 (nat_lit 265,(.mk (.type "dict") none (.dict #[(de P "__module__" 475 (.str "boxnarrow.kinds" 378)),(de P "__firstlineno__" 479 (.int 86 478)),(de P "__init__" 487 (.ref 237)),(de P "exact" 496 (.ref 244)),(de P "forth" 506 (.ref 251)),(de P "back" 516 (.ref 258)),(de P "slope" 522 (.ref 263)),(de P "__static_attributes__" 524 (.ref 264)),(de P "__doc__" 525 .none)] 2) #[]))::
 (nat_lit 266,(.mk (.type "type") none (.cls (PySem.ClassData.mk "Unknown" [(.ref 172)] [(.ref 266),(.ref 172),(.type "object")] 265 "Unknown" Bool.true [] [] Bool.false none Bool.false)) #[(some (.ref 224)),none,(some (.str "Unknown" 468)),(some (.str "Unknown" 476)),(some (.builtin "object.__new__")),(some (.bool Bool.true))]))::
 (nat_lit 281,co "__init__" "Pair.__init__" 540 541 542 547 104 3 276 277 (.ref 278) (.ref 279) 280 546)::
 (nat_lit 282,fo "__init__" "Pair.__init__" (zaO (top 29) 0) (.str "boxnarrow.kinds" 378) 281)::
 (nat_lit 293,co "slope" "Pair.slope" 559 560 561 563 111 5 290 291 .none .none 292 562)::
 (nat_lit 294,fo "slope" "Pair.slope" (zaO (top 29) 2) (.str "boxnarrow.kinds" 378) 293)::
 (nat_lit 296,(.mk (.type "dict") none (.dict #[(de P "__module__" 535 (.str "boxnarrow.kinds" 378)),(de P "__firstlineno__" 539 (.int 102 538)),(de P "__init__" 548 (.ref 282)),(de P "back" 558 (.ref 289)),(de P "slope" 564 (.ref 294)),(de P "__static_attributes__" 567 (.ref 295)),(de P "__doc__" 568 .none)] 2) #[]))::
 (nat_lit 297,(.mk (.type "type") none (.cls (PySem.ClassData.mk "Pair" [(.ref 172)] [(.ref 297),(.ref 172),(.type "object")] 296 "Pair" Bool.true [] [(.ref 344),(.ref 391),(.ref 438)] Bool.false none Bool.false)) #[(some (.ref 269)),none,(some (.str "Pair" 528)),(some (.str "Pair" 536)),(some (.builtin "object.__new__")),(some (.bool Bool.true))]))::
 (nat_lit 319,co "forth" "Plus.forth" 592 593 594 600 120 4 314 315 (.ref 316) (.ref 317) 318 599)::
 (nat_lit 320,fo "forth" "Plus.forth" (zaO (top 30) 1) (.str "boxnarrow.kinds" 378) 319)::
 (nat_lit 340,co "slope_of_both" "Plus.slope_of_both" 624 625 626 634 129 6 335 336 (.ref 337) (.ref 338) 339 633)::
 (nat_lit 341,fo "slope_of_both" "Plus.slope_of_both" (zaO (top 30) 4) (.str "boxnarrow.kinds" 378) 340)::
 (nat_lit 343,(.mk (.type "dict") none (.dict #[(de P "__module__" 578 (.str "boxnarrow.kinds" 378)),(de P "__firstlineno__" 582 (.int 115 581)),(de P "exact" 591 (.ref 313)),(de P "forth" 601 (.ref 320)),(de P "first_left" 612 (.ref 327)),(de P "second_left" 623 (.ref 334)),(de P "slope_of_both" 635 (.ref 341)),(de P "__static_attributes__" 636 (.ref 342)),(de P "__doc__" 637 .none)] 2) #[]))::
 (nat_lit 344,(.mk (.type "type") none (.cls (PySem.ClassData.mk "Plus" [(.ref 297)] [(.ref 344),(.ref 297),(.ref 172),(.type "object")] 343 "Plus" Bool.true [] [] Bool.false none Bool.false)) #[(some (.ref 300)),none,(some (.str "Plus" 571)),(some (.str "Plus" 579)),(some (.builtin "object.__new__")),(some (.bool Bool.true))]))::
 (nat_lit 366,co "forth" "Minus.forth" 661 662 663 669 136 4 361 362 (.ref 363) (.ref 364) 365 668)::
 (nat_lit 367,fo "forth" "Minus.forth" (zaO (top 31) 1) (.str "boxnarrow.kinds" 378) 366)::
 (nat_lit 387,co "slope_of_both" "Minus.slope_of_both" 693 694 695 703 145 6 382 383 (.ref 384) (.ref 385) 386 702)::
 (nat_lit 388,fo "slope_of_both" "Minus.slope_of_both" (zaO (top 31) 4) (.str "boxnarrow.kinds" 378) 387)::
 (nat_lit 390,(.mk (.type "dict") none (.dict #[(de P "__module__" 647 (.str "boxnarrow.kinds" 378)),(de P "__firstlineno__" 651 (.int 131 650)),(de P "exact" 660 (.ref 360)),(de P "forth" 670 (.ref 367)),(de P "first_left" 681 (.ref 374)),(de P "second_left" 692 (.ref 381)),(de P "slope_of_both" 704 (.ref 388)),(de P "__static_attributes__" 705 (.ref 389)),(de P "__doc__" 706 .none)] 2) #[]))::
 (nat_lit 391,(.mk (.type "type") none (.cls (PySem.ClassData.mk "Minus" [(.ref 297)] [(.ref 391),(.ref 297),(.ref 172),(.type "object")] 390 "Minus" Bool.true [] [] Bool.false none Bool.false)) #[(some (.ref 347)),none,(some (.str "Minus" 640)),(some (.str "Minus" 648)),(some (.builtin "object.__new__")),(some (.bool Bool.true))]))::
 (nat_lit 413,co "forth" "Times.forth" 730 731 732 738 152 4 408 409 (.ref 410) (.ref 411) 412 737)::
 (nat_lit 414,fo "forth" "Times.forth" (zaO (top 32) 1) (.str "boxnarrow.kinds" 378) 413)::
 (nat_lit 434,co "slope_of_both" "Times.slope_of_both" 762 763 764 772 161 6 429 430 (.ref 431) (.ref 432) 433 771)::
 (nat_lit 435,fo "slope_of_both" "Times.slope_of_both" (zaO (top 32) 4) (.str "boxnarrow.kinds" 378) 434)::
 (nat_lit 437,(.mk (.type "dict") none (.dict #[(de P "__module__" 716 (.str "boxnarrow.kinds" 378)),(de P "__firstlineno__" 720 (.int 147 719)),(de P "exact" 729 (.ref 407)),(de P "forth" 739 (.ref 414)),(de P "first_left" 750 (.ref 421)),(de P "second_left" 761 (.ref 428)),(de P "slope_of_both" 773 (.ref 435)),(de P "__static_attributes__" 774 (.ref 436)),(de P "__doc__" 775 .none)] 2) #[]))::
 (nat_lit 438,(.mk (.type "type") none (.cls (PySem.ClassData.mk "Times" [(.ref 297)] [(.ref 438),(.ref 297),(.ref 172),(.type "object")] 437 "Times" Bool.true [] [] Bool.false none Bool.false)) #[(some (.ref 394)),none,(some (.str "Times" 709)),(some (.str "Times" 717)),(some (.builtin "object.__new__")),(some (.bool Bool.true))]))::
 (nat_lit 453,co "__init__" "Power.__init__" 790 791 792 797 165 3 448 449 (.ref 450) (.ref 451) 452 796)::
 (nat_lit 454,fo "__init__" "Power.__init__" (zaO (top 33) 0) (.str "boxnarrow.kinds" 378) 453)::
 (nat_lit 467,co "forth" "Power.forth" 808 809 810 816 172 4 462 463 (.ref 464) (.ref 465) 466 815)::
 (nat_lit 468,fo "forth" "Power.forth" (zaO (top 33) 2) (.str "boxnarrow.kinds" 378) 467)::
 (nat_lit 479,co "slope" "Power.slope" 828 829 830 832 178 5 476 477 .none .none 478 831)::
 (nat_lit 480,fo "slope" "Power.slope" (zaO (top 33) 4) (.str "boxnarrow.kinds" 378) 479)::
 (nat_lit 482,(.mk (.type "dict") none (.dict #[(de P "__module__" 785 (.str "boxnarrow.kinds" 378)),(de P "__firstlineno__" 789 (.int 163 788)),(de P "__init__" 798 (.ref 454)),(de P "exact" 807 (.ref 461)),(de P "forth" 817 (.ref 468)),(de P "back" 827 (.ref 475)),(de P "slope" 833 (.ref 480)),(de P "__static_attributes__" 836 (.ref 481)),(de P "__doc__" 837 .none)] 2) #[]))::
 (nat_lit 483,(.mk (.type "type") none (.cls (PySem.ClassData.mk "Power" [(.ref 172)] [(.ref 483),(.ref 172),(.type "object")] 482 "Power" Bool.true [] [] Bool.false none Bool.false)) #[(some (.ref 441)),none,(some (.str "Power" 778)),(some (.str "Power" 786)),(some (.builtin "object.__new__")),(some (.bool Bool.true))]))::
 (nat_lit 491,co "kind_of" "kind_of" 840 841 842 845 182 1 486 487 (.ref 488) (.ref 489) 490 844)::
 (nat_lit 492,fo "kind_of" "kind_of" (top 34) (.str "boxnarrow.kinds" 378) 491)::
 (nat_lit 498,co "worths" "worths" 849 850 851 858 195 3 493 494 (.ref 495) (.ref 496) 497 857)::
 (nat_lit 499,fo "worths" "worths" (top 36) (.str "boxnarrow.worths" 847) 498)::
 (nat_lit 505,co "sure" "sure" 860 861 862 866 200 2 500 501 (.ref 502) (.ref 503) 504 865)::
 (nat_lit 506,fo "sure" "sure" (top 37) (.str "boxnarrow.worths" 847) 505)::
 (nat_lit 512,co "slopes" "slopes" 870 871 872 880 205 3 507 508 (.ref 509) (.ref 510) 511 879)::
 (nat_lit 513,fo "slopes" "slopes" (top 39) (.str "boxnarrow.sloping" 868) 512)::
 (nat_lit 517,co "equation_places" "equation_places" 884 885 886 888 212 1 514 515 .none .none 516 887)::
 (nat_lit 518,fo "equation_places" "equation_places" (top 41) (.str "boxnarrow.alone" 882) 517)::
 (nat_lit 522,co "picked" "picked" 890 891 892 894 214 2 519 520 .none .none 521 893)::
 (nat_lit 523,fo "picked" "picked" (top 42) (.str "boxnarrow.alone" 882) 522)::
 (nat_lit 527,co "middles" "middles" 896 897 898 900 216 1 524 525 .none .none 526 899)::
 (nat_lit 528,fo "middles" "middles" (top 43) (.str "boxnarrow.alone" 882) 527)::
 (nat_lit 532,co "box_of_middles" "box_of_middles" 902 903 904 906 218 1 529 530 .none .none 531 905)::
 (nat_lit 533,fo "box_of_middles" "box_of_middles" (top 44) (.str "boxnarrow.alone" 882) 532)::
 (nat_lit 539,co "sum_of_products" "sum_of_products" 908 909 910 918 220 3 534 535 (.ref 536) (.ref 537) 538 917)::
 (nat_lit 540,fo "sum_of_products" "sum_of_products" (top 45) (.str "boxnarrow.alone" 882) 539)::
 (nat_lit 544,co "lacking" "lacking" 920 921 922 924 225 5 541 542 .none .none 543 923)::
 (nat_lit 545,fo "lacking" "lacking" (top 46) (.str "boxnarrow.alone" 882) 544)::
 (nat_lit 549,co "span_by" "span_by" 926 927 928 930 229 6 546 547 .none .none 548 929)::
 (nat_lit 550,fo "span_by" "span_by" (top 47) (.str "boxnarrow.alone" 882) 549)::
 (nat_lit 554,co "step_by" "step_by" 932 933 934 936 236 5 551 552 .none .none 553 935)::
 (nat_lit 555,fo "step_by" "step_by" (top 48) (.str "boxnarrow.alone" 882) 554)::
 (nat_lit 561,co "thin_worths" "thin_worths" 938 939 940 946 238 4 556 557 (.ref 558) (.ref 559) 560 945)::
 (nat_lit 562,fo "thin_worths" "thin_worths" (top 49) (.str "boxnarrow.alone" 882) 561)::
 (nat_lit 568,co "slopes_at" "slopes_at" 948 949 950 956 240 4 563 564 (.ref 565) (.ref 566) 567 955)::
 (nat_lit 569,fo "slopes_at" "slopes_at" (top 50) (.str "boxnarrow.alone" 882) 568)::
 (nat_lit 573,co "leasts_are_sure" "leasts_are_sure" 958 959 960 962 242 2 570 571 .none .none 572 961)::
 (nat_lit 574,fo "leasts_are_sure" "leasts_are_sure" (top 51) (.str "boxnarrow.alone" 882) 573)::
 (nat_lit 578,co "all_deep" "all_deep" 964 965 966 968 244 2 575 576 .none .none 577 967)::
 (nat_lit 579,fo "all_deep" "all_deep" (top 52) (.str "boxnarrow.alone" 882) 578)::
 (nat_lit 583,co "alone" "alone" 970 971 972 974 246 4 580 581 .none .none 582 973)::
 (nat_lit 584,fo "alone" "alone" (top 53) (.str "boxnarrow.alone" 882) 583)::
 (nat_lit 590,co "_law_cell" "_law_cell" 978 979 980 984 259 2 585 586 (.ref 587) (.ref 588) 589 983)::
 (nat_lit 591,fo "_law_cell" "_law_cell" (top 55) (.str "law_boxnarrow_k45_alone_told" 976) 590)::
 (nat_lit 597,co "_law_whole" "_law_whole" 986 987 988 991 263 1 592 593 (.ref 594) (.ref 595) 596 990)::
 (nat_lit 598,fo "_law_whole" "_law_whole" (top 56) (.str "law_boxnarrow_k45_alone_told" 976) 597)::
 (nat_lit 604,co "_law_span" "_law_span" 993 994 995 998 265 1 599 600 (.ref 601) (.ref 602) 603 997)::
 (nat_lit 605,fo "_law_span" "_law_span" (top 57) (.str "law_boxnarrow_k45_alone_told" 976) 604)::
 (nat_lit 611,co "_law_spans" "_law_spans" 1000 1001 1002 1007 269 2 606 607 (.ref 608) (.ref 609) 610 1006)::
 (nat_lit 612,fo "_law_spans" "_law_spans" (top 58) (.str "law_boxnarrow_k45_alone_told" 976) 611)::
 (nat_lit 618,co "_law_lowest" "_law_lowest" 1009 1010 1011 1017 276 2 613 614 (.ref 615) (.ref 616) 617 1016)::
 (nat_lit 619,fo "_law_lowest" "_law_lowest" (top 59) (.str "law_boxnarrow_k45_alone_told" 976) 618)::
 (nat_lit 625,co "_law_grid" "_law_grid" 1019 1020 1021 1024 282 1 620 621 (.ref 622) (.ref 623) 624 1023)::
 (nat_lit 626,fo "_law_grid" "_law_grid" (top 60) (.str "law_boxnarrow_k45_alone_told" 976) 625)::
 (nat_lit 632,co "_law_at" "_law_at" 1026 1027 1028 1032 288 2 627 628 (.ref 629) (.ref 630) 631 1031)::
 (nat_lit 633,fo "_law_at" "_law_at" (top 61) (.str "law_boxnarrow_k45_alone_told" 976) 632)::
 (nat_lit 639,co "_law_sum" "_law_sum" 1034 1035 1036 1042 292 2 634 635 (.ref 636) (.ref 637) 638 1041)::
 (nat_lit 640,fo "_law_sum" "_law_sum" (top 62) (.str "law_boxnarrow_k45_alone_told" 976) 639)::
 (nat_lit 646,co "_law_linear" "_law_linear" 1044 1045 1046 1054 297 3 641 642 (.ref 643) (.ref 644) 645 1053)::
 (nat_lit 647,fo "_law_linear" "_law_linear" (top 63) (.str "law_boxnarrow_k45_alone_told" 976) 646)::
 (nat_lit 653,co "_law_deep" "_law_deep" 1056 1057 1058 1063 306 2 648 649 (.ref 650) (.ref 651) 652 1062)::
 (nat_lit 654,fo "_law_deep" "_law_deep" (top 64) (.str "law_boxnarrow_k45_alone_told" 976) 653)::
 (nat_lit 658,co "_law_turned" "_law_turned" 1065 1066 1067 1069 311 2 655 656 .none .none 657 1068)::
 (nat_lit 659,fo "_law_turned" "_law_turned" (top 65) (.str "law_boxnarrow_k45_alone_told" 976) 658)::
 (nat_lit 665,co "_law_place" "_law_place" 1071 1072 1073 1076 330 1 660 661 (.ref 662) (.ref 663) 664 1075)::
 (nat_lit 666,fo "_law_place" "_law_place" (top 66) (.str "law_boxnarrow_k45_alone_told" 976) 665)::
 (nat_lit 672,co "_law_around" "_law_around" 1078 1079 1080 1087 334 3 667 668 (.ref 669) (.ref 670) 671 1086)::
 (nat_lit 673,fo "_law_around" "_law_around" (top 67) (.str "law_boxnarrow_k45_alone_told" 976) 672)::
 (nat_lit 679,co "_law_changed" "_law_changed" 1089 1090 1091 1097 346 3 674 675 (.ref 676) (.ref 677) 678 1096)::
 (nat_lit 680,fo "_law_changed" "_law_changed" (top 68) (.str "law_boxnarrow_k45_alone_told" 976) 679)::
 (nat_lit 686,co "_law_sure" "_law_sure" 1099 1100 1101 1108 356 4 681 682 (.ref 683) (.ref 684) 685 1107)::
 (nat_lit 687,fo "_law_sure" "_law_sure" (top 69) (.str "law_boxnarrow_k45_alone_told" 976) 686)::
 (nat_lit 693,co "_law_matrix" "_law_matrix" 1110 1111 1112 1118 361 2 688 689 (.ref 690) (.ref 691) 692 1117)::
 (nat_lit 694,fo "_law_matrix" "_law_matrix" (top 70) (.str "law_boxnarrow_k45_alone_told" 976) 693)::
 (nat_lit 698,co "law" "law" 1120 1121 1122 1124 371 1 695 696 .none .none 697 1123)::
 (nat_lit 699,fo "law" "law" (top 71) (.str "law_boxnarrow_k45_alone_told" 976) 698)::[]
def ks:List Addr:=nat_lit 3::nat_lit 27::nat_lit 28::nat_lit 32::nat_lit 33::nat_lit 39::nat_lit 40::nat_lit 44::nat_lit 45::nat_lit 51::nat_lit 52::nat_lit 56::nat_lit 57::nat_lit 61::nat_lit 62::nat_lit 71::nat_lit 72::nat_lit 84::nat_lit 85::nat_lit 93::nat_lit 94::nat_lit 100::nat_lit 101::nat_lit 107::nat_lit 108::nat_lit 114::nat_lit 115::nat_lit 121::nat_lit 122::nat_lit 128::nat_lit 129::nat_lit 135::nat_lit 136::nat_lit 140::nat_lit 141::nat_lit 147::nat_lit 148::nat_lit 154::nat_lit 155::nat_lit 161::nat_lit 162::nat_lit 171::nat_lit 172::nat_lit 189::nat_lit 190::nat_lit 203::nat_lit 204::nat_lit 217::nat_lit 218::nat_lit 220::nat_lit 221::nat_lit 236::nat_lit 237::nat_lit 250::nat_lit 251::nat_lit 262::nat_lit 263::nat_lit 265::nat_lit 266::nat_lit 281::nat_lit 282::nat_lit 293::nat_lit 294::nat_lit 296::nat_lit 297::nat_lit 319::nat_lit 320::nat_lit 340::nat_lit 341::nat_lit 343::nat_lit 344::nat_lit 366::nat_lit 367::nat_lit 387::nat_lit 388::nat_lit 390::nat_lit 391::nat_lit 413::nat_lit 414::nat_lit 434::nat_lit 435::nat_lit 437::nat_lit 438::nat_lit 453::nat_lit 454::nat_lit 467::nat_lit 468::nat_lit 479::nat_lit 480::nat_lit 482::nat_lit 483::nat_lit 491::nat_lit 492::nat_lit 498::nat_lit 499::nat_lit 505::nat_lit 506::nat_lit 512::nat_lit 513::nat_lit 517::nat_lit 518::nat_lit 522::nat_lit 523::nat_lit 527::nat_lit 528::nat_lit 532::nat_lit 533::nat_lit 539::nat_lit 540::nat_lit 544::nat_lit 545::nat_lit 549::nat_lit 550::nat_lit 554::nat_lit 555::nat_lit 561::nat_lit 562::nat_lit 568::nat_lit 569::nat_lit 573::nat_lit 574::nat_lit 578::nat_lit 579::nat_lit 583::nat_lit 584::nat_lit 590::nat_lit 591::nat_lit 597::nat_lit 598::nat_lit 604::nat_lit 605::nat_lit 611::nat_lit 612::nat_lit 618::nat_lit 619::nat_lit 625::nat_lit 626::nat_lit 632::nat_lit 633::nat_lit 639::nat_lit 640::nat_lit 646::nat_lit 647::nat_lit 653::nat_lit 654::nat_lit 658::nat_lit 659::nat_lit 665::nat_lit 666::nat_lit 672::nat_lit 673::nat_lit 679::nat_lit 680::nat_lit 686::nat_lit 687::nat_lit 693::nat_lit 694::nat_lit 698::nat_lit 699::[]
theorem zeP (P:Params):ks=(kp P).map (·.1):=by kernel_rfl
noncomputable abbrev hk:PySem.W.Hook:=PySem.W.kHook kp ks zeP
abbrev xt (s:Shared):Bool:=PySem.W.xlAt vw [] s&&PySem.W.recOk (PySem.W.RowW.records (PySem.W.OpenRow.toRowW (PySem.W.OpenLaw.row PySem.Challenge.rw_boxnarrow_k45_alone_told))) s
theorem zoR:PySem.W.opening PySem.Challenge.pw_boxnarrow_k45_alone_told=PySem.W.plainProg PySem.Challenge.pw_boxnarrow_k45_alone_told.main.scope.names:=by kernel_rfl
theorem fe_eq (s:Shared):PySem.fenceModules? PySem.Challenge.pw_boxnarrow_k45_alone_told s=some s:=by kernel_rfl
theorem si_eq (w:World):((PySem.W.boot_heap w.params).isNs mainGlobals&&(Array.mk []:Array GenState).size==0,(PySem.W.boot_heap w.params).objs.size,(PySem.W.boot_heap w.params).nsMap mainGlobals "__annotations__")=(true,11,some (.ref 6)):=by kernel_rfl
open PySem.W PySem.Calls in
theorem ra_eq (w:World):(λos=>(L3.goT PySem.treeTable PySem.Challenge.pw_boxnarrow_k45_alone_told w 11 (some (.ref 6)) 9864 (L3.zdC w os) (PySem.W.topStub PySem.Challenge.pw_boxnarrow_k45_alone_told)).map λs=>(L3.znZ PySem.Challenge.pw_boxnarrow_k45_alone_told w s,seen ((recsOf vw).map (·.name)) (ownsOf vw) [] { s.abs with gens:=#[] }))=λ_=>some (true,expectedOf vw):=by kernel_rfl
open PySem.W PySem.Calls in
theorem rb_eq (w:World):(λos=>(L3.goT PySem.treeTable PySem.Challenge.pw_boxnarrow_k45_alone_told w 11 (some (.ref 6)) 9864 (L3.zdC w os) (PySem.W.topStub PySem.Challenge.pw_boxnarrow_k45_alone_told)).map λs=>(s.abs.heap.bltView,s.abs.heap.keysOk (looseW vw []) ((recsOf vw).map (·.name)) ((litsOf vw).map (·.1)) ((clssOf vw (looseW vw [])).map (·.name))&&s.abs.heap.accountedOkI (importedModules PySem.Challenge.pw_boxnarrow_k45_alone_told.main.body)&&s.abs.heap.isNs mainGlobals&&s.abs.heap.isNs builtinsNs&&tablesOk vw s.abs.heap&&xt s.abs&&(if true then s.abs.gens.size==0 else !leftWithCleanup s.abs.gens)))=λ_=>some (bltViewBooted,true):=by kernel_rfl
open PySem.W PySem.Calls in
theorem rc_eq (w:World):(λos=>(L3.goT PySem.treeTable PySem.Challenge.pw_boxnarrow_k45_alone_told w 11 (some (.ref 6)) 9864 (L3.zdC w os) (PySem.W.topStub PySem.Challenge.pw_boxnarrow_k45_alone_told)).map λs=>(tabsOk vw s.abs,pinSeenD vw (drecsOf vw) s.abs,plainSeenE vw (looseW vw []) s.abs,plainSeenD vw [] s.abs,wideSeen vw s.abs,clsSeenW vw [] s.abs))=λ_=>some (true,pinGoodD (drecsOf vw),plainGoodE vw (looseW vw []),plainGoodD vw [],wideGood vw,clsGoodW vw []):=by kernel_rfl
theorem ob_eq (w:World):(λos=>(L3.goT PySem.treeTable PySem.Challenge.pw_boxnarrow_k45_alone_told w 11 (some (.ref 6)) 9864 (L3.zdC w os) (PySem.W.topStub PySem.Challenge.pw_boxnarrow_k45_alone_told)).map λs=>ks.map (L3.zlT s))=λ_=>some (hk.val w):=by kernel_rfl
theorem left:PySem.W.LeftO PySem.Challenge.pw_boxnarrow_k45_alone_told vw [] xt hk.obs hk.val 9864:=L3.zr2 (L3.ztH ks) zoR (by decide) fe_eq si_eq ra_eq rb_eq rc_eq ob_eq
end Mine
set_option Elab.async false
set_option linter.all false
set_option maxRecDepth 100000
namespace L2
open PySem PySem.Spec PyProof.Rows
abbrev Key:=Sum Int Str
def zqF:Key→Value→Bool
 | .inl k,v=>Value.isInt k v
 | .inr x,v=>Value.isStrOf x v
def keyH (w:World):Key→Int
 | .inl k=>hashInt k
 | .inr x=>hashStr w x
theorem zdt:∀ {k:Key} {v:Value},zqF k v=true→(∃i t,k=Sum.inl i∧v=Value.int i t)∨(∃x t,k=Sum.inr x∧v=Value.str x t)
 | .inl i,v,h=>by
  obtain⟨t,e⟩:=Value.isInt_shape (k:=i) (v:=v) h
  exact .inl ⟨i,t,rfl,e⟩
 | .inr x,v,h=>by
  obtain⟨t,e⟩:=Value.isStrOf_shape (x:=x) (v:=v) h
  exact .inr ⟨x,t,rfl,e⟩
theorem ztI (a b:Int):decide ((Sum.inl a:Key)=Sum.inl b)=(a==b):=by
 by_cases e:a=b
 ·subst e; simp
 ·have h:¬ (Sum.inl a:Key)=Sum.inl b:=λq=>e (Sum.inl.inj q)
  rw[decide_eq_false h]
  exact(beq_eq_false_iff_ne.mpr e).symm
theorem zuO (a b:Str):decide ((Sum.inr a:Key)=Sum.inr b)=decide (a=b):=by
 by_cases e:a=b
 ·subst e; simp
 ·have h:¬ (Sum.inr a:Key)=Sum.inr b:=λq=>e (Sum.inr.inj q)
  rw[decide_eq_false h,decide_eq_false e]
theorem zw7 (a:Int)(b:Str):decide ((Sum.inl a:Key)=Sum.inr b)=false:=decide_eq_false (λq=>nomatch q)
theorem zuB (a:Str)(b:Int):decide ((Sum.inr a:Key)=Sum.inl b)=false:=decide_eq_false (λq=>nomatch q)
def zqz (prog:Program)(w:World):PySem.KeyKind prog w Key where
 is:=zqF
 hash:=keyH w
 inj:=λv a b ha hb=>by
  rcases zdt ha with ⟨i,t,rfl,rfl⟩ | ⟨x,t,rfl,rfl⟩
  ·rcases zdt hb with ⟨j,u,rfl,e⟩ | ⟨y,u,rfl,e⟩
   ·injection e with e1 _; rw[e1]
   ·exact nomatch e
  ·rcases zdt hb with ⟨j,u,rfl,e⟩ | ⟨y,u,rfl,e⟩
   ·exact nomatch e
   ·injection e with e1 _; rw[e1]
 byValue:=λk v h=>by
  rcases zdt h with ⟨i,t,rfl,rfl⟩ | ⟨x,t,rfl,rfl⟩ <;> rfl
 pyHash:=λhv h=>by
  rcases zdt hv with ⟨i,t,rfl,rfl⟩ | ⟨x,t,rfl,rfl⟩
  ·exact wpAny_pyHash_int h
  ·exact wpAny_pyHash_str h
 eqBool:=λhu hv h=>by
  rcases zdt hu with ⟨i,t,rfl,rfl⟩ | ⟨x,t,rfl,rfl⟩
  ·rcases zdt hv with ⟨j,u,rfl,rfl⟩ | ⟨y,u,rfl,rfl⟩
   ·rw[ztI] at h; exact wpAny_eqBool_int h
   ·rw[zw7] at h; exact SeqAt.EqAt.int_str i t y u _ _ _ _ h
  ·rcases zdt hv with ⟨j,u,rfl,rfl⟩ | ⟨y,u,rfl,rfl⟩
   ·rw[zuB] at h; exact SeqAt.EqAt.str_int x t j u _ _ _ _ h
   ·rw[zuO] at h; exact wpAny_eqBool_str h
 «strs»:=λk x t v h=>by
  rcases zdt h with ⟨i,u,rfl,e⟩ | ⟨y,u,rfl,e⟩
  ·exact nomatch e
  ·injection e with e1 _
   subst e1
   cases v <;> rfl
end L2
namespace L2
open PySem PySem.Spec PyProof.Rows
inductive V where
 | non | bl (b:Bool) | int (i:Int) | str (x:Str) | byt (b:Array UInt8) | flt (b:UInt64) | ref (a:Addr) | ty (n:String)
 deriving DecidableEq
def zau:V→Value→Prop
 | .non,u=>u=Value.none
 | .bl b,u=>u=Value.bool b
 | .int i,u=>∃t,u=Value.int i t
 | .str x,u=>∃t,u=Value.str x t
 | .byt b,u=>∃t,u=Value.bytes b t
 | .flt b,u=>∃t,u=Value.float b t
 | .ref a,u=>u=Value.ref a
 | .ty n,u=>u=Value.type n
abbrev zat:List V→List Value→Prop:=Paired zau
theorem zat.length {xs:List V}{us:List Value}(r:zat xs us):xs.length=us.length:=Paired.length r
theorem zat.get:∀ {xs:List V} {us:List Value} {i:Nat} {x:V},zat xs us→xs[i]?=some x→∃u,us[i]?=some u∧zau x u
 | _,_,_,_,.nil,e=>by simp at e
 | _,_,0,_,.cons r _,e=>by simp at e; subst e; exact⟨_,rfl,r⟩
 | _,_,i+1,x,.cons _ t,e=>by
  obtain⟨u,h1,h2⟩:=zat.get (i:=i) (x:=x) t (by simpa using e)
  exact⟨u,by simpa using h1,h2⟩
theorem zat.set {x:V}{u:Value}(r:zau x u):∀ {xs:List V} {us:List Value} (i:Nat),zat xs us→zat (xs.set i x) (us.set i u)
 | _,_,_,.nil=>.nil
 | _,_,0,.cons _ t=>.cons r t
 | _,_,i+1,.cons q t=>.cons q (zat.set r i t)
theorem zat.append:∀ {xs ys:List V} {us ws:List Value},zat xs us→zat ys ws→zat (xs++ys) (us++ws)
 | _,_,_,_,.nil,s=>s
 | _,_,_,_,.cons r t,s=>.cons r (zat.append t s)
theorem zat.take:∀ {xs:List V} {us:List Value} (n:Nat),zat xs us→zat (xs.take n) (us.take n)
 | _,_,0,_=>.nil
 | _,_,_+1,.nil=>.nil
 | _,_,n+1,.cons r t=>.cons r (zat.take n t)
theorem zat.drop:∀ {xs:List V} {us:List Value} (n:Nat),zat xs us→zat (xs.drop n) (us.drop n)
 | _,_,0,r=>r
 | _,_,_+1,.nil=>.nil
 | _,_,n+1,.cons _ t=>zat.drop n t
theorem zat.none_of:∀ {xs:List V} {us:List Value} {i:Nat},zat xs us→xs[i]?=none→us[i]?=none:=λ{xs us i} r e=>by
 have h1:=r.length
 have h2:xs.length≤i:=VaQ.mp e
 exact VaQ.mpr (by omega)
def zb0:Option V→Option Value→Prop
 | some v,some u=>zau v u
 | none,none=>True
 | _,_=>False
def KV {κ:Type}:List (κ×V)→List (κ×Value)→Prop:=Paired λ(p:κ×V) (q:κ×Value)=>p.1=q.1∧zau p.2 q.2
def kV:Key→V
 | .inl i=>.int i
 | .inr x=>.str x
inductive HO where
  | lst (xs:List V)
  | tup (xs:List V)
  | dK (kvs:List (Key×V)) | dT (kvs:List (List Key×V))
  | set (S:Int→Bool) (n:Nat)
  | ins (C dx:Addr) (fs:List (Str×V))
  | own (x:Addr)
  | xd (fs:List (Str×V))
  | met (f x:Addr)
  | rng (lo hi:Int)
  | frz (o:Obj) (u:HO)
  | tbl (ps:Array Value)
  | ext (φ:Heap→Prop)
abbrev Hp:=Addr→Option HO
def upd (H:Hp)(a:Addr)(o:HO):Hp:=λb=>if b=a then some o else H b
theorem zcK {H:Hp}{a:Addr}{o:HO}:upd H a o a=some o:=by unfold upd; rw[if_pos rfl]
theorem za0 {H:Hp}{a b:Addr}{o:HO}(h:b≠a):upd H a o b=H b:=by unfold upd; rw[if_neg h]
theorem zon {H:Hp}{a b:Addr}{o u:HO}(h:H a=some o)(h':H b=some u)(d:o≠u):a≠b:=by
 intro e; subst e; rw[h] at h'; exact d (Option.some.inj h')
theorem zdM {H:Hp}{a b:Addr}{o:HO}(h:H a=some o)(h':H b=none):a≠b:=by
 intro e; subst e; rw[h] at h'; cases h'
section
variable (P:Program)(w:World)
def zbu (H:Hp)(h:Heap)(a:Addr):HO→Prop
 | .lst xs=>xs.length≤sizeLine∧∃(its:List Value) (n:Nat),zat xs its∧h.get? a=some { cls:=.type "list",data:=.seq its.toArray n }
 | .tup xs=>xs.length≤sizeLine∧∃its:List Value,zat xs its∧IsTup h a its.toArray
 | .dK kvs=>kvs.length≤sizeLine∧(a==sysModules)=false∧∃vs,KV kvs vs∧h.DictOf (zqz P w) a vs
 | .dT kvs=>kvs.length≤sizeLine∧(a==sysModules)=false∧∃xs:List (List Key×Addr×Value),
   Paired (λ(p:List Key×V) (q:List Key×Addr×Value)=>p.1=q.1∧H q.2.1=some (.tup (p.1.map kV))∧zau p.2 q.2.2) kvs xs∧
   ∃o es ep,h.get? a=some o∧o.ExactDict∧o.data=.dict es ep∧es.toList=xs.map (entryOfKey (tupleKind (zqz P w)))∧(xs.map (·.1)).Nodup
 | .set S n=>h.SetOf (intKind P w) a S n
 | .ins C dx fs=>H dx=some (.own a)∧fs.length≤1000∧dx≠a∧h.get? a=some (PySem.W.instObj C dx)∧
   ∃mA,h.Ns1 dx mA∧(∀f,zb0 (fs.lookup f) (mA f))∧PySem.Within mA (fs.map (·.1))
 | .own _=>∃o,h.get? a=some o
 | .xd fs=>∃mA,h.Ns1 a mA∧∀f,zb0 (fs.lookup f) (mA f)
 | .rng lo hi=>∃t u v,h.get? a=some { cls:=.type "range",data:=.fields #[.int lo t,.int hi u,.int 1 v] }
 | .frz o u=>h.get? a=some o∧zbu H h a u
 | .tbl ps=>h.get? a=some { cls:=.none,data:=.fields ps }
 | .met f x=>h.get? a=some (PySem.W.methodObj (.ref f) (.ref x))
 | .ext φ=>φ h∧(∃o,h.get? a=some o)∧∀h1 h2:Heap,φ h1→(∀o,h1.get? a=some o→h2.get? a=some o)→φ h2
def HOk (H:Hp)(h:Heap):Prop:=∀a o,H a=some o→zbu P w H h a o
end
section
variable {P:Program}{w:World}{H H':Hp}{h h':Heap}{a:Addr}{o:HO}
theorem zbu.lt (x:zbu P w H h a o):a<h.objs.size:=by
 cases o with
 | lst xs=>obtain⟨_,_,_,_,e⟩:=x; exact Heap.lt_size e
 | tup xs=>obtain⟨_,_,_,p⟩:=x; exact p.lt
 | dK kvs=>obtain⟨_,_,_,_,o,_,_,e,_⟩:=x; exact Heap.lt_size e
 | dT kvs=>obtain⟨_,_,_,_,o,_,_,e,_⟩:=x; exact Heap.lt_size e
 | set S n=>obtain⟨o,_,_,_,e,_⟩:=x; exact Heap.lt_size e
 | ins C dx fs=>obtain⟨_,_,_,e,_⟩:=x; exact Heap.lt_size e
 | own y=>obtain⟨_,e⟩:=x; exact Heap.lt_size e
 | xd fs=>obtain⟨_,⟨_,_,_,e,_⟩,_⟩:=x; exact Heap.lt_size e
 | rng lo hi=>obtain⟨_,_,_,e⟩:=x; exact Heap.lt_size e
 | frz ob u=>obtain⟨e,_⟩:=x; exact Heap.lt_size e
 | tbl ps=>exact Heap.lt_size (show h.get? a=some _ from x)
 | met f y=>exact Heap.lt_size (show h.get? a=some _ from x)
 | ext φ=>obtain⟨_,⟨_,e⟩,_⟩:=x; exact Heap.lt_size e
theorem Paired.mapP {α β:Type}{F G:α→β→Prop}:∀ {l₁:List α} {l₂:List β},Paired F l₁ l₂→(∀a b,F a b→G a b)→Paired G l₁ l₂
 | _,_,.nil,_=>.nil
 | _,_,.cons r t,f=>.cons (f _ _ r) (Paired.mapP t f)
theorem zbu.stay (x:zbu P w H h a o)(k:∀b u,(b=a∨H b=some (.own a))→h.get? b=some u→h'.get? b=some u)
  (ho:∀b,H b=some (.own a)→H' b=some (.own a))(ht:∀b xs,H b=some (.tup xs)→H' b=some (.tup xs)):zbu P w H' h' a o:=by
 induction o with
 | lst xs=>obtain⟨z,its,n,r,e⟩:=x; exact⟨z,its,n,r,k _ _ (.inl rfl) e⟩
 | tup xs=>obtain⟨z,its,r,ob,e,c⟩:=x; exact⟨z,its,r,ob,k _ _ (.inl rfl) e,c⟩
 | dK kvs=>obtain⟨z,y,vs,r,ob,es,ep,e,c⟩:=x; exact⟨z,y,vs,r,ob,es,ep,k _ _ (.inl rfl) e,c⟩
 | dT kvs=>
  obtain⟨z,y,xs,r,ob,es,ep,e,c⟩:=x
  exact⟨z,y,xs,Paired.mapP r λp q z=>⟨z.1,ht _ _ z.2.1,z.2.2⟩,ob,es,ep,k _ _ (.inl rfl) e,c⟩
 | set S n=>obtain⟨ob,es,ep,t,e,c⟩:=x; exact⟨ob,es,ep,t,k _ _ (.inl rfl) e,c⟩
 | ins C dx fs=>
  obtain⟨d,z,ne,e,mA,⟨od,es,ep,e2,c⟩,r⟩:=x
  exact⟨ho _ d,z,ne,k _ _ (.inl rfl) e,mA,⟨od,es,ep,k _ _ (.inr d) e2,c⟩,r⟩
 | own y=>obtain⟨ob,e⟩:=x; exact⟨ob,k _ _ (.inl rfl) e⟩
 | xd fs=>obtain⟨mA,⟨od,es,ep,e,c⟩,r⟩:=x; exact⟨mA,⟨od,es,ep,k _ _ (.inl rfl) e,c⟩,r⟩
 | rng lo hi=>obtain⟨t,u,v,e⟩:=x; exact⟨t,u,v,k _ _ (.inl rfl) e⟩
 | frz ob u ih=>obtain⟨e,q⟩:=x; exact⟨k _ _ (.inl rfl) e,ih q⟩
 | tbl ps=>
  have e:h.get? a=some { cls:=.none,data:=.fields ps }:=x
  show h'.get? a=some { cls:=.none,data:=.fields ps }
  exact k a _ (.inl rfl) e
 | met f y=>
  have e:h.get? a=some (PySem.W.methodObj (.ref f) (.ref y)):=x
  show h'.get? a=some (PySem.W.methodObj (.ref f) (.ref y))
  exact k a _ (.inl rfl) e
 | ext φ=>obtain⟨p,⟨o,e⟩,st⟩:=x; exact⟨st _ _ p λo q=>k _ _ (.inl rfl) q,⟨o,k _ _ (.inl rfl) e⟩,st⟩
theorem HOk.lt (x:HOk P w H h)(e:H a=some o):a<h.objs.size:=(x a o e).lt
theorem HOk.fresh (x:HOk P w H h)(e:h.objs.size≤a):H a=none:=by
 cases q:H a with
 | none=>rfl
 | some u=>exact absurd (Vax (x.lt q) e) (VaF _)
theorem HOk.kept (x:HOk P w H h)(k:∀b u,h.get? b=some u→h'.get? b=some u):HOk P w H h':=λa o e=>
 (x a o e).stay (λb u _ q=>k b u q) (λ_ q=>q) λ_ _ q=>q
theorem HOk.laid (x:HOk P w H h)(k:∀b u,h.get? b=some u→h'.get? b=some u)(hp:h.objs.size≤a)(new:zbu P w (upd H a o) h' a o):HOk P w (upd H a o) h':=λb u e=>by
 have hn:=x.fresh hp
 by_cases hb:b=a
 ·subst hb; rw[zcK] at e; cases e; exact new
 ·rw[za0 hb] at e
  exact(x b u e).stay (λc v _ q=>k c v q) (λc q=>by rw[za0 (zdM q hn)]; exact q) λc xs q=>by rw[za0 (zdM q hn)]; exact q
end
def Rd (H:Hp)(a:Addr)(u:HO):Prop:=H a=some u∨∃o,H a=some (.frz o u)
theorem Rd.of {H:Hp}{a:Addr}{u:HO}(h:H a=some u):Rd H a u:=.inl h
theorem Rd.ok {P:Program}{w:World}{H:Hp}{h:Heap}{a:Addr}{u:HO}(r:Rd H a u)(x:HOk P w H h):zbu P w H h a u:=by
 rcases r with r | ⟨o,r⟩
 ·exact x a u r
 ·obtain⟨_,q⟩:=x a _ r
  exact q
def Mut:Option HO→Prop
 | some (.lst _)=>True
 | some (.dK _)=>True
 | some (.dT _)=>True
 | some (.set _ _)=>True
 | some (.ins _ _ _)=>True
 | some (.ext _)=>True
 | _=>False
section
variable {P:Program}{w:World}{H:Hp}{h h':Heap}{x e:Addr}{o':HO}
theorem HOk.write (ok:HOk P w H h)(mu:Mut (H x))(he:e=x∨H e=some (.own x))(k:∀b u,b≠e→h.get? b=some u→h'.get? b=some u)(heo:∃u,h'.get? e=some u)
  (new:zbu P w (upd H x o') h' x o'):HOk P w (upd H x o') h':=λb u q=>by
 have nown:∀c y,H c=some (.own y)→c≠x:=λc y r z=>by subst z; rw[r] at mu; exact mu
 have ntup:∀c xs,H c=some (.tup xs)→c≠x:=λc xs r z=>by subst z; rw[r] at mu; exact mu
 by_cases hb:b=x
 ·subst hb; rw[zcK] at q; cases q; exact new
 ·rw[za0 hb] at q
  by_cases hbe:b=e
  ·have q':H b=some (.own x):=by
    rcases he with z | z
    ·exact absurd (hbe.trans z) hb
    ·rw[hbe]; exact z
   rw[q] at q'; cases q'
   obtain⟨v,hv⟩:=heo
   exact⟨v,by rw[hbe]; exact hv⟩
  ·refine(ok b u q).stay (λc v hc r=>k c v ?_ r) (λc r=>by rw[za0 (nown c b r)]; exact r) λc xs r=>by rw[za0 (ntup c xs r)]; exact r
   rcases hc with rfl | hc
   ·exact hbe
   ·rintro rfl
    rcases he with z | z
    ·exact nown c b hc z
    ·rw[hc] at z; cases z; exact hb rfl
end
structure Un (fs ex:List Addr)(H H':Hp)(h h':Heap):Prop where
 keep:∀b o,h.get? b=some o→H b=none→b ∉ fs→b ∉ ex→h'.get? b=some o
 slot:∀b o,h.get? b=some o→H b=none→b∈fs→b ∉ ex→∃sl,h'.get? b=some { o with slots:=sl }
 free:∀b o,h.get? b=some o→H b=none→b ∉ ex→H' b=none
 there:∀b o,h.get? b=some o→b ∉ ex→∃o',h'.get? b=some o'
 tups:∀b xs,H b=some (.tup xs)→H' b=some (.tup xs)
 frzs:∀b o u,H b=some (.frz o u)→H' b=some (.frz o u)
 tbls:∀b ps,H b=some (.tbl ps)→∃more,H' b=some (.tbl (ps++more))
section
variable {fs fs' ex ex':List Addr}{H H1 H2:Hp}{h h1 h2 h':Heap}{a x e:Addr}{o:HO}
theorem Un.any (u:Un fs ex H H1 h h1){b:Addr}{ob:Obj}(q:h.get? b=some ob)(n:H b=none)(hx:b ∉ ex):∃sl,h1.get? b=some { ob with slots:=sl }:=by
 by_cases hb:b∈fs
 ·exact u.slot b ob q n hb hx
 ·exact⟨ob.slots,u.keep b ob q n hb hx⟩
theorem Un.trans (a:Un fs ex H H1 h h1)(b:Un fs ex H1 H2 h1 h2):Un fs ex H H2 h h2 where
 keep:=λc ob q n hc hx=>b.keep c ob (a.keep c ob q n hc hx) (a.free c ob q n hx) hc hx
 slot:=λc ob q n hc hx=>by
  obtain⟨sl,e1⟩:=a.slot c ob q n hc hx
  obtain⟨sl',e2⟩:=b.slot c _ e1 (a.free c ob q n hx) hc hx
  exact⟨sl',e2⟩
 free:=λc ob q n hx=>by
  obtain⟨o',e1⟩:=a.there c ob q hx
  exact b.free c o' e1 (a.free c ob q n hx) hx
 there:=λc ob q hx=>by
  obtain⟨o',e1⟩:=a.there c ob q hx
  exact b.there c o' e1 hx
 tups:=λc xs q=>b.tups c xs (a.tups c xs q)
 frzs:=λc ob xs q=>b.frzs c ob xs (a.frzs c ob xs q)
 tbls:=λc ps q=>by
  obtain⟨m1,e1⟩:=a.tbls c ps q
  obtain⟨m2,e2⟩:=b.tbls c _ e1
  exact⟨m1++m2,by rw[e2,Array.append_assoc]⟩
theorem Un.kept (k:∀b u,h.get? b=some u→h'.get? b=some u):Un fs ex H H h h':=
 ⟨λb ob q _ _ _=>k b ob q,λb ob q _ _ _=>⟨ob.slots,k b ob q⟩,λ_ _ _ n _=>n,λb ob q _=>⟨ob,k b ob q⟩,λ_ _ q=>q,λ_ _ _ q=>q,λ_ ps q=>⟨#[],by rw[q]; simp⟩⟩
theorem Un.refl:Un fs ex H H h h:=Un.kept λ_ _ q=>q
theorem Un.laid (k:∀b u,h.get? b=some u→h'.get? b=some u)(hp:h.objs.size≤a)(hn:H a=none):Un fs ex H (upd H a o) h h' where
 keep:=λb u q _ _ _=>k b u q
 slot:=λb u q _ _ _=>⟨u.slots,k b u q⟩
 free:=λb u q n _=>by rw[za0 (Vap (Vax (Heap.lt_size q) hp))]; exact n
 there:=λb u q _=>⟨u,k b u q⟩
 tups:=λb xs q=>by rw[za0 (zdM q hn)]; exact q
 frzs:=λb u xs q=>by rw[za0 (zdM q hn)]; exact q
 tbls:=λb ps q=>⟨#[],by rw[za0 (zdM q hn),q]; simp⟩
theorem Un.write (mu:Mut (H x))(he:e=x∨H e=some (.own x))(k:∀b u,b≠e→h.get? b=some u→h'.get? b=some u)(heo:∃u,h'.get? e=some u):Un fs ex H (upd H x o) h h':=by
 have hx:∀b,H b=none→b≠x:=λb n z=>by subst z; rw[n] at mu; exact mu
 have hb:∀b,H b=none→b≠e:=λb n z=>by
  subst z
  rcases he with r | r
  ·exact hx b n r
  ·rw[n] at r; cases r
 have hm:∀b u,H b=some u→¬ Mut (some u)→b≠x:=λb u q nm z=>by subst z; rw[q] at mu; exact nm mu
 refine⟨λb u q n _ _=>k b u (hb b n) q,λb u q n _ _=>⟨u.slots,k b u (hb b n) q⟩,λb u q n _=>by rw[za0 (hx b n)]; exact n,λb u q _=>?_,
  λb xs q=>by rw[za0 (hm b _ q λz=>z)]; exact q,λb u xs q=>by rw[za0 (hm b _ q λz=>z)]; exact q,λb ps q=>⟨#[],by rw[za0 (hm b _ q λz=>z),q]; simp⟩⟩
 by_cases hbe:b=e
 ·subst hbe; exact heo
 ·exact⟨u,k b u hbe q⟩
theorem Un.mono (u:Un fs ex H H1 h h1)(hs:∀b∈fs,b∈fs')(hx:∀b∈ex,b∈ex'):Un fs' ex' H H1 h h1:=
 ⟨λb ob q n hb he=>u.keep b ob q n (λz=>hb (hs b z)) λz=>he (hx b z),λ_ _ q n _ he=>u.any q n λz=>he (hx _ z),λb ob q n he=>u.free b ob q n λz=>he (hx b z),λb ob q he=>u.there b ob q λz=>he (hx b z),u.tups,u.frzs,u.tbls⟩
end
def trk (h:Heap)(H:Hp):List Addr:=(List.range h.objs.size).filter λa=>(H a).isSome
def zdz (h:Heap)(H:Hp):Heap:=PySem.W.hideAll h (trk h H)
theorem zvo (h:Heap)(H:Hp):(zdz h H).objs.size=h.objs.size:=PySem.W.hideAll_size _ _
theorem zs3 {h:Heap}{H:Hp}{b:Addr}{o:Obj}(e:h.get? b=some o)(n:H b=none):(zdz h H).get? b=some o:=
 PySem.W.hideAll_get _ e λhm=>by
  have q:(H b).isSome=true:=(List.mem_filter.mp hm).2
  rw[n] at q; simp at q
theorem zwE {h:Heap}{H:Hp}{b:Addr}{o:Obj}(e:(zdz h H).get? b=some o):h.get? b=some o∧H b=none:=by
 have e':h.get? b=some o:=PySem.W.of_hideAll (trk h H) e
 refine⟨e',?_⟩
 cases q:H b with
 | none=>rfl
 | some x=>
  have hm:b∈trk h H:=List.mem_filter.mpr ⟨VaR.mpr (Heap.lt_size e'),by simp[q]⟩
  have z:(zdz h H).get? b=none:=PySem.W.hideAll_none (trk h H) hm
  rw[z] at e; cases e
def zv0 (g h:Heap)(L:Addr):List (Addr×Obj):=(List.range h.objs.size).filterMap λa=>if a=L∨(g.get? a).isSome=true then none else (h.get? a).map λo=>(a,o)
def za8 (g h:Heap)(L d:Addr):List (Addr×Obj):=(zv0 g h L).filter λp=>decide (p.1≠d)
end L2
namespace L2
open PySem PySem.Spec PyProof.Rows
structure Mod (K:PySem.W.Frag)(mg:Str→Option Value)(base:Heap):Prop where
 kin:K.In base
 glob:base.Ns mainGlobals mg
 blt:∃mb,base.Ns builtinsNs mb∧∀x:Str,x≠"__name__"→mb x=bootBuiltins x
 nolimit:base.NoLimit
structure Cx where
 prog:Program
 w:World
 K:PySem.W.Frag
 mg:Str→Option Value
 base:Heap
 A:Around
 N:List Str
 s₀:Shared
 H₀:Hp
 env:Env
 outer:List Env
 stack:List Env
 ex:List Addr
 fn:Str→Bool
 calm:Bool
 pn:List (Addr×Obj)
 xe:Value→Shared→Prop
def frs (l:List Env):List Addr:=l.filterMap (·.frame)
abbrev Cx.fs (X:Cx):List Addr:=frs X.outer
def Vis (sc:Scope)(x:Str):Prop:=sc.names.lookup x=some .local∨sc.names.lookup x=some .cell∨sc.names.lookup x=some .free
def Loc (sc:Scope)(x:Str):Prop:=sc.names.lookup x=some .local∨sc.names.lookup x=some .cell
def Look (env:Env)(h:Heap)(m:Str→Option Value)(x:Str)(u:Value):Prop:=
 (env.kindOf x=some .local∧m x=some u)∨((env.kindOf x=some .cell∨env.kindOf x=some .free)∧∃c,env.cells.lookup x=some c∧h.IsCell c (some u))
structure Cx.Ok (X:Cx):Prop where
 mod:Mod X.K X.mg X.base
 kind:X.env.scope.kind=.function
 glob:X.env.globals=mainGlobals
 blt:X.env.builtins=builtinsNs
 above:X.s₀.heap.objs.size≤X.env.locals
 inj:∀x y c,X.env.cells.lookup x=some c→X.env.cells.lookup y=some c→x=y
 has:∀x,(X.env.kindOf x=some .cell∨X.env.kindOf x=some .free)→∃c,X.env.cells.lookup x=some c
 cab:∀x c,X.fn x=true→X.env.cells.lookup x=some c→X.s₀.heap.objs.size≤c
 hd:X.calm=true→X.A.handled=none
 frames:X.A.frames=some X.stack
 stk:X.stack=X.outer∨(X.stack=X.env::X.outer∧X.env.frame=some X.env.locals)
 exf:∀b∈X.ex,b≠X.env.locals∧∀x c,X.env.cells.lookup x=some c→c≠b
 bs:∀b o,X.base.get? b=some o→X.s₀.heap.get? b=some o∧X.H₀ b=none
 bsz:X.base.objs.size≤X.s₀.heap.objs.size
 noex:∀b o,X.base.get? b=some o→b ∉ X.ex
 exfs:∀b∈X.ex,b ∉ X.fs
 funs:X.s₀.heap.FunFrames X.base X.outer
 frf:∀b∈X.fs,X.H₀ b=none
structure Inv (X:Cx)(pins:List (Addr×Obj))(σ:List (Option V))(H:Hp)(s:Shared):Prop where
 ok:X.Ok
 os:s.os=X.s₀.os
 bare:AllBare s.gens
 base:Un X.fs X.ex X.H₀ H X.s₀.heap s.heap
 loc:∃m,s.heap.Ns X.env.locals m∧∀(i:Nat) (x:Str) (v:V),X.N[i]?=some x→σ[i]?=some (some v)→Vis X.env.scope x→∃u,zau v u∧Look X.env s.heap m x u
 cell:∀x c,X.env.cells.lookup x=some c→∃v,s.heap.IsCell c v
 free:H X.env.locals=none
 freeC:∀x c,X.env.cells.lookup x=some c→H c=none
 pin:∀p∈X.pn++pins,s.heap.get? p.1=some p.2∧H p.1=none∧p.1≠X.env.locals∧p.1 ∉ X.fs∧∀v,p.2.data≠.cell v
 hok:HOk X.prog X.w H s.heap
 len:σ.length=X.N.length
section
variable {X:Cx}{pins:List (Addr×Obj)}{σ:List (Option V)}{H H':Hp}{s:Shared}{h':Heap}
theorem Cx.Ok.nofr (ok:X.Ok){b:Addr}{o:Obj}(e:X.base.get? b=some o):b ∉ X.fs:=λhb=>by
 have:=(ok.funs.mem hb).1
 rw[e] at this; cases this
theorem Inv.bs (I:Inv X pins σ H s):∀b o,X.base.get? b=some o→s.heap.get? b=some o∧H b=none:=λb o e=>
 ⟨I.base.keep b o (I.ok.bs b o e).1 (I.ok.bs b o e).2 (I.ok.nofr e) (I.ok.noex b o e),I.base.free b o (I.ok.bs b o e).1 (I.ok.bs b o e).2 (I.ok.noex b o e)⟩
theorem Inv.bk (I:Inv X pins σ H s):∀b o,X.base.get? b=some o→s.heap.get? b=some o:=λb o e=>(I.bs b o e).1
theorem Inv.mod (I:Inv X pins σ H s):Mod X.K X.mg X.base:=I.ok.mod
theorem Inv.kIn (I:Inv X pins σ H s):X.K.In s.heap:=I.ok.mod.kin.keeps I.bk
theorem Inv.nolimit (I:Inv X pins σ H s):s.heap.NoLimit:=I.ok.mod.nolimit.keeps I.bk
theorem Inv.fr (I:Inv X pins σ H s):∃m,Fr X.base X.env.locals s.heap m:=
 let ⟨m,hn,_⟩:=I.loc
 ⟨m,hn,I.bk,VaA I.ok.bsz I.ok.above⟩
theorem Inv.lt (I:Inv X pins σ H s):X.env.locals<s.heap.objs.size:=let ⟨_,hn,_⟩:=I.loc; hn.lt
theorem Inv.sz (I:Inv X pins σ H s):X.s₀.heap.objs.size≤s.heap.objs.size:=VaA I.ok.above (VaU I.lt)
theorem Inv.nofs (I:Inv X pins σ H s){a:Addr}(h:s.heap.objs.size≤a):a ∉ X.fs:=λhb=>by
 obtain⟨_,o,ho,_⟩:=I.ok.funs.mem hb
 exact absurd (Vax (Heap.lt_size ho) (VaA I.sz h)) (VaF _)
theorem Inv.cne (I:Inv X pins σ H s):∀x c,X.env.cells.lookup x=some c→c≠X.env.locals:=λx c e z=>by
 obtain⟨v,o,ho,hd⟩:=I.cell x c e
 obtain⟨m,⟨o',es,ep,ho',hd',_⟩,_⟩:=I.loc
 rw[z,ho'] at ho; cases ho; rw[hd'] at hd; cases hd
theorem Inv.funs (I:Inv X pins σ H s):s.heap.FunFrames X.base X.outer:=by
 have all:∀(l:List Env),(∀b∈frs l,b∈X.fs)→X.s₀.heap.FunFrames X.base l→s.heap.FunFrames X.base l:=by
  intro l
  induction l with
  | nil=>intro _ _; trivial
  | cons env r ih=>
   intro hs hl
   obtain⟨hk,⟨L,o,hf,hn,ho,hd⟩,hr⟩:=hl
   have hL:L∈X.fs:=hs L (by unfold frs; rw[List.filterMap_cons,hf]; exact Va6)
   obtain⟨sl,e⟩:=I.base.slot L o ho (I.ok.frf L hL) hL λz=>I.ok.exfs L z hL
   exact⟨hk,⟨L,_,hf,hn,e,hd⟩,ih (λb hb=>hs b (by unfold frs; rw[List.filterMap_cons,hf]; exact VaN _ hb)) hr⟩
 exact all X.outer (λ_ hb=>hb) I.ok.funs
theorem Inv.stack (I:Inv X pins σ H s):s.heap.FunFrames X.base X.stack:=by
 rcases I.ok.stk with e | ⟨e,hf⟩
 ·rw[e]; exact I.funs
 ·rw[e]
  obtain⟨m,hn,_⟩:=I.loc
  refine .cons (by rw[I.ok.kind]; decide) hf hn ?_ I.funs
  exact Heap.get?_none_of_le (VaA I.ok.bsz I.ok.above)
theorem Inv.stkSub (I:Inv X pins σ H s):∀b∈frs X.stack,b∈X.env.locals::X.fs:=λb hb=>by
 rcases I.ok.stk with e | ⟨e,hf⟩
 ·rw[e] at hb; exact VaN _ hb
 ·rw[e] at hb
  unfold frs at hb
  rw[List.filterMap_cons,hf] at hb
  exact hb
theorem Inv.stkFree (I:Inv X pins σ H s):∀b∈frs X.stack,H b=none:=λb hb=>by
 rcases Vaw.mp (I.stkSub b hb) with e | hb
 ·rw[e]; exact I.free
 ·obtain⟨_,o,ho,_⟩:=I.ok.funs.mem hb
  exact I.base.free b o ho (I.ok.frf b hb) λz=>I.ok.exfs b z hb
theorem Inv.step {g':Array GenState}{t':Nat}{d':Drawn}{ch:List Addr}(I:Inv X pins σ H s)
  (hch:∀b∈ch,(b∈X.ex∨X.s₀.heap.objs.size≤b)∧b≠X.env.locals∧(∀x c,X.env.cells.lookup x=some c→c≠b)∧∀p∈X.pn++pins,p.1≠b)
  (keep:∀b o,b≠X.env.locals→b ∉ X.fs→b ∉ ch→s.heap.get? b=some o→H b=none→h'.get? b=some o)
  (slot:∀b o,b≠X.env.locals→b∈X.fs→b ∉ ch→s.heap.get? b=some o→H b=none→∃sl,h'.get? b=some { o with slots:=sl })(free:∀b o,b ∉ ch→s.heap.get? b=some o→H b=none→H' b=none)
  (there:∀b o,b ∉ ch→s.heap.get? b=some o→∃o',h'.get? b=some o')
  (tups:∀b xs,H b=some (.tup xs)→H' b=some (.tup xs))(frzs:∀b o u,H b=some (.frz o u)→H' b=some (.frz o u))(tbls:∀b ps,H b=some (.tbl ps)→∃more,H' b=some (.tbl (ps++more)))
  (ns:∀m,s.heap.Ns X.env.locals m→h'.Ns X.env.locals m)(hok:HOk X.prog X.w H' h')(hg:AllBare g'):
  Inv X pins σ H' { s with heap:=h',gens:=g',drawn:=d',toks:=t' }:=by
 have neL:∀b o,X.s₀.heap.get? b=some o→b≠X.env.locals:=λb o e=>Vap (Vax (Heap.lt_size e) I.ok.above)
 have neC:∀b o,X.s₀.heap.get? b=some o→b ∉ X.ex→b ∉ ch:=λb o e hx hb=>by
  rcases (hch b hb).1 with z | z
  ·exact hx z
  ·exact absurd (Vax (Heap.lt_size e) z) (VaF _)
 have cellK:∀x c,X.env.cells.lookup x=some c→∀v,s.heap.IsCell c v→h'.IsCell c v:=λx c e v ⟨o,ho,hd⟩=>by
  have nch:c ∉ ch:=λz=>(hch c z).2.2.1 x c e rfl
  by_cases hc:c∈X.fs
  ·obtain⟨sl,q⟩:=slot c o (I.cne x c e) hc nch ho (I.freeC x c e)
   exact⟨_,q,hd⟩
  ·exact⟨o,keep c o (I.cne x c e) hc nch ho (I.freeC x c e),hd⟩
 refine⟨I.ok,I.os,hg,⟨λb o e n hb hx=>?_,λb o e n hb hx=>?_,λb o e n hx=>?_,λb o e hx=>?_,λb xs e=>tups b xs (I.base.tups b xs e),λb o xs e=>frzs b o xs (I.base.frzs b o xs e),λb ps e=>?_⟩,?_,λx c e=>?_,?_,λx c e=>?_,λp hp=>?_,hok,I.len⟩
 ·exact keep b o (neL b o e) hb (neC b o e hx) (I.base.keep b o e n hb hx) (I.base.free b o e n hx)
 ·obtain⟨sl,e1⟩:=I.base.slot b o e n hb hx
  obtain⟨sl',e2⟩:=slot b _ (neL b o e) hb (neC b o e hx) e1 (I.base.free b o e n hx)
  exact⟨sl',e2⟩
 ·obtain⟨o',e1⟩:=I.base.there b o e hx
  exact free b o' (neC b o e hx) e1 (I.base.free b o e n hx)
 ·obtain⟨o',e1⟩:=I.base.there b o e hx
  exact there b o' (neC b o e hx) e1
 ·obtain⟨m1,e1⟩:=I.base.tbls b ps e
  obtain⟨m2,e2⟩:=tbls b _ e1
  exact⟨m1++m2,by rw[e2,Array.append_assoc]⟩
 ·obtain⟨m,hn,hl⟩:=I.loc
  refine⟨m,ns m hn,λi x v e1 e2 e3=>?_⟩
  obtain⟨u,r,l⟩:=hl i x v e1 e2 e3
  refine⟨u,r,?_⟩
  rcases l with l | ⟨k,c,e,z⟩
  ·exact .inl l
  ·exact .inr ⟨k,c,e,cellK x c e _ z⟩
 ·obtain⟨v,z⟩:=I.cell x c e
  exact⟨v,cellK x c e v z⟩
 ·obtain⟨m,⟨o,_,_,ho,_⟩,_⟩:=I.loc
  exact free _ o (λz=>(hch _ z).2.1 rfl) ho I.free
 ·obtain⟨v,o,ho,hd⟩:=I.cell x c e
  exact free c o (λz=>(hch c z).2.2.1 x c e rfl) ho (I.freeC x c e)
 ·obtain⟨e,n,ne,nf,d⟩:=I.pin p hp
  have nch:p.1 ∉ ch:=λz=>(hch p.1 z).2.2.2 p hp rfl
  exact⟨keep p.1 p.2 ne nf nch e n,free p.1 p.2 nch e n,ne,nf,d⟩
theorem Inv.un {t':Nat}(I:Inv X pins σ H s)(u:Un X.fs [] H H' s.heap h')(hok:HOk X.prog X.w H' h'):Inv X pins σ H' { s with heap:=h',toks:=t' }:=by
 obtain⟨m,⟨o,es,ep,ho,r⟩,_⟩:=id I.loc
 obtain⟨sl,hL⟩:=u.any ho I.free (by simp)
 exact I.step (g':=s.gens) (d':=s.drawn) (ch:=[]) (λ_ z=>nomatch z) (λb o _ hb _ e n=>u.keep b o e n hb (by simp)) (λb o _ hb _ e n=>u.slot b o e n hb (by simp)) (λb o _ e n=>u.free b o e n (by simp)) (λb o _ e=>u.there b o e (by simp)) u.tups u.frzs u.tbls (λm' hm=>by
  obtain⟨o',es',ep',ho',r'⟩:=hm
  rw[ho] at ho'; cases ho'
  exact⟨_,es',ep',hL,r'⟩) hok I.bare
theorem Inv.call {g':Array GenState}{t':Nat}{d':Drawn}{ch:List Addr}(I:Inv X pins σ H s)(u:Un (frs X.stack) ch H H' s.heap h')(hok:HOk X.prog X.w H' h')(hg:AllBare g')
  (hch:∀b∈ch,(b∈X.ex∨X.s₀.heap.objs.size≤b)∧b≠X.env.locals∧(∀x c,X.env.cells.lookup x=some c→c≠b)∧∀p∈X.pn++pins,p.1≠b):
  Inv X pins σ H' { s with heap:=h',gens:=g',drawn:=d',toks:=t' }:=by
 obtain⟨m,⟨o,es,ep,ho,r⟩,_⟩:=id I.loc
 obtain⟨sl,hL⟩:=u.any ho I.free λz=>(hch _ z).2.1 rfl
 exact I.step (ch:=ch) hch (λb o hL hb hc e n=>u.keep b o e n (λz=>(Vaw.mp (I.stkSub b z)).elim hL hb) hc) (λb o _ _ hc e n=>u.any e n hc) (λb o hc e n=>u.free b o e n hc) (λb o hc e=>u.there b o e hc) u.tups u.frzs u.tbls (λm' hm=>by
  obtain⟨o',es',ep',ho',r'⟩:=hm
  rw[ho] at ho'; cases ho'
  exact⟨_,es',ep',hL,r'⟩) hok hg
theorem Inv.turned {t':Nat}{it:Addr}(I:Inv X pins σ H s)(k:∀b o,b≠it→s.heap.get? b=some o→h'.get? b=some o)(hn:H it=none)(hL:it≠X.env.locals)
  (h1:it∈X.ex∨X.s₀.heap.objs.size≤it)(h2:∀x c,X.env.cells.lookup x=some c→c≠it)(h3:∀p∈X.pn++pins,p.1≠it):Inv X pins σ H { s with heap:=h',toks:=t' }:=by
 have nit:∀b u,H b=some u→b≠it:=λb u e z=>by rw[z,hn] at e; cases e
 refine I.step (g':=s.gens) (d':=s.drawn) (ch:=[it]) (λb hb=>?_) (λb o _ _ hc e _=>k b o (λz=>hc (by simp[z])) e) (λb o _ _ hc e _=>⟨o.slots,k b o (λz=>hc (by simp[z])) e⟩) (λ_ _ _ _ n=>n)
  (λb o hc e=>⟨o,k b o (λz=>hc (by simp[z])) e⟩) (λ_ _ e=>e) (λ_ _ _ e=>e) (λb ps e=>⟨#[],by rw[e]; simp⟩) (λm hm=>?_) (λb u e=>?_) I.bare
 ·have e:b=it:=by simpa using hb
  subst e
  exact⟨h1,hL,h2,h3⟩
 ·obtain⟨o,es,ep,ho,r⟩:=hm
  exact⟨o,es,ep,k _ o (Ne.symm hL) ho,r⟩
 ·refine(I.hok b u e).stay (λc v hc q=>k c v ?_ q) (λ_ q=>q) λ_ _ q=>q
  rcases hc with z | z
  ·rw[z]; exact nit b u e
  ·exact nit c _ z
theorem Inv.tok (I:Inv X pins σ H s)(t:Nat):Inv X pins σ H { s with toks:=t }:=I.un (h':=s.heap) (t':=t) Un.refl I.hok
theorem Inv.kept {t':Nat}(I:Inv X pins σ H s)(k:∀b u,s.heap.get? b=some u→h'.get? b=some u):Inv X pins σ H { s with heap:=h',toks:=t' }:=I.un (Un.kept k) (I.hok.kept k)
theorem Inv.laid {a:Addr}{o:HO}{t':Nat}(I:Inv X pins σ H s)(k:∀b u,s.heap.get? b=some u→h'.get? b=some u)(hp:s.heap.objs.size≤a)(new:zbu X.prog X.w (upd H a o) h' a o):
  Inv X pins σ (upd H a o) { s with heap:=h',toks:=t' }:=I.un (Un.laid k hp (I.hok.fresh hp)) (I.hok.laid k hp new)
theorem Inv.write {x e:Addr}{o:HO}{t':Nat}(I:Inv X pins σ H s)(mu:Mut (H x))(he:e=x∨H e=some (.own x))(k:∀b u,b≠e→s.heap.get? b=some u→h'.get? b=some u)(heo:∃u,h'.get? e=some u)
  (new:zbu X.prog X.w (upd H x o) h' x o):Inv X pins σ (upd H x o) { s with heap:=h',toks:=t' }:=I.un (Un.write mu he k heo) (I.hok.write mu he k heo new)
theorem Inv.pins_of {pins':List (Addr×Obj)}(I:Inv X pins σ H s)(h:∀p∈pins',s.heap.get? p.1=some p.2∧H p.1=none∧p.1≠X.env.locals∧p.1 ∉ X.fs∧∀v,p.2.data≠.cell v):Inv X pins' σ H s:=
 ⟨I.ok,I.os,I.bare,I.base,I.loc,I.cell,I.free,I.freeC,λp hp=>(VaO.mp hp).elim (λz=>I.pin p (List.mem_append_left _ z)) (h p),I.hok,I.len⟩
theorem zpq {N:List Str}(hN:N.Nodup){i j:Nat}{x:Str}(a:N[i]?=some x)(b:N[j]?=some x):i=j:=by
 obtain⟨h1,e1⟩:=Vab.mp a
 obtain⟨h2,e2⟩:=Vab.mp b
 exact(List.getElem_inj hN).mp (e1.trans e2.symm)
theorem zmS {M:Model}{A:Around}{E:Value→Shared→Prop}{i:Nat}{x:Str}{v:V}{u:Value}{Q:Unit→Shared→Prop}(I:Inv X pins σ H s)(hN:X.N.Nodup)(hi:X.N[i]?=some x)(hx:Loc X.env.scope x)(r:zau v u)
  (h:∀s',Inv X pins (σ.set i (some v)) H s'→(∃a,Heap.SameBut a s.heap s'.heap∧(a=X.env.locals∨X.env.cells.lookup x=some a))→Q () s')(hf:X.fn x=true∨X.env.scope.names.lookup x=some .local:=by first | exact .inl rfl | exact .inr rfl | assumption):wpAny M A (storeName X.env x u) Q E s:=by
 obtain⟨m,hn,hl⟩:=id I.loc
 have hcls:(X.env.scope.kind==.class||(X.env.scope.kind==.module&&X.env.locals != X.env.globals))=false:=by rw[I.ok.kind]; rfl
 have hiσ:i<σ.length:=by rw[I.len]; exact(Vab.mp hi).1
 have cne:=I.cne
 have tracked:∀ {a:Addr} {h':Heap},(∃o,s.heap.get? a=some o∧H a=none)→Heap.SameBut a s.heap h'→HOk X.prog X.w H h':=λ{a h'} ha hs b ob e=>by
  obtain⟨_,_,hfree⟩:=ha
  refine(I.hok b ob e).stay (λc w' hc q=>(hs.2 c ?_).trans q) (λ_ q=>q) λ_ _ q=>q
  rintro rfl
  rcases hc with rfl | hc
  ·rw[hfree] at e; cases e
  ·rw[hfree] at hc; cases hc
 rcases hx with hk | hk
 ·refine wpAny_storeName_local hk hn (λh' hn' hs=>?_) hcls
  obtain⟨oL,_,_,hoL,_⟩:=id hn
  refine h _ ⟨I.ok,I.os,I.bare,⟨λb o e n hb hx=>?_,λb o e n hb hx=>?_,I.base.free,λb o e hx=>?_,I.base.tups,I.base.frzs,I.base.tbls⟩,⟨_,hn',λj y v' e1 e2 e3=>?_⟩,λy c e=>?_,I.free,I.freeC,λp hp=>?_,tracked ⟨oL,hoL,I.free⟩ hs,by simpa using I.len⟩ ⟨_,hs,.inl rfl⟩
  ·exact(hs.2 b (Vap (Vax (Heap.lt_size e) I.ok.above))).trans (I.base.keep b o e n hb hx)
  ·obtain⟨sl,e1⟩:=I.base.slot b o e n hb hx
   exact⟨sl,(hs.2 b (Vap (Vax (Heap.lt_size e) I.ok.above))).trans e1⟩
  ·obtain⟨o',e1⟩:=I.base.there b o e hx
   exact⟨o',(hs.2 b (Vap (Vax (Heap.lt_size e) I.ok.above))).trans e1⟩
  ·by_cases hj:j=i
   ·subst hj
    rw[hi] at e1; cases e1
    rw[VaV hiσ] at e2
    cases e2
    exact⟨u,r,.inl ⟨hk,by simp⟩⟩
   ·rw[VaB (Ne.symm hj)] at e2
    obtain⟨u',r',q⟩:=hl j y v' e1 e2 e3
    refine⟨u',r',?_⟩
    rcases q with ⟨k,e⟩ | ⟨k,c,e,z⟩
    ·refine .inl ⟨k,?_⟩
     have:y≠x:=λe=>hj (zpq hN e1 (e ▸ hi))
     simp[this,e]
    ·exact .inr ⟨k,c,e,z.sameBut hs (cne y c e)⟩
  ·obtain⟨w',z⟩:=I.cell y c e
   exact⟨w',z.sameBut hs (cne y c e)⟩
  ·obtain⟨e,n,ne,nf,d⟩:=I.pin p hp
   exact⟨(hs.2 p.1 ne).trans e,n,ne,nf,d⟩
 ·have hfn:X.fn x=true:=by
   rcases hf with z | z
   ·exact z
   ·rw[z] at hk; cases hk
  obtain⟨c,hc⟩:=I.ok.has x (.inl hk)
  obtain⟨w',z⟩:=I.cell x c hc
  refine wpAny_storeName_cell I.ok.kind hk hc z (λh' hc' hs=>?_)
  obtain⟨oc,hoc,hocd⟩:=id z
  refine h { s with heap:=h' } ⟨I.ok,I.os,I.bare,⟨λb o e n hb hx=>?_,λb o e n hb hx=>?_,I.base.free,λb o e hx=>?_,I.base.tups,I.base.frzs,I.base.tbls⟩,⟨m,hn.sameBut hs (Ne.symm (cne x c hc)),λj y v' e1 e2 e3=>?_⟩,λy c' e=>?_,I.free,I.freeC,λp hp=>?_,tracked ⟨oc,hoc,I.freeC x c hc⟩ hs,by simpa using I.len⟩ ⟨c,hs,.inr hc⟩
  ·exact(hs.2 b (Vap (Vax (Heap.lt_size e) (I.ok.cab x c hfn hc)))).trans (I.base.keep b o e n hb hx)
  ·obtain⟨sl,e1⟩:=I.base.slot b o e n hb hx
   exact⟨sl,(hs.2 b (Vap (Vax (Heap.lt_size e) (I.ok.cab x c hfn hc)))).trans e1⟩
  ·obtain⟨o',e1⟩:=I.base.there b o e hx
   exact⟨o',(hs.2 b (Vap (Vax (Heap.lt_size e) (I.ok.cab x c hfn hc)))).trans e1⟩
  ·by_cases hj:j=i
   ·subst hj
    rw[hi] at e1; cases e1
    rw[VaV hiσ] at e2
    cases e2
    exact⟨u,r,.inr ⟨.inl hk,c,hc,hc'⟩⟩
   ·rw[VaB (Ne.symm hj)] at e2
    obtain⟨u',r',q⟩:=hl j y v' e1 e2 e3
    refine⟨u',r',?_⟩
    rcases q with q | ⟨k,c',e,z'⟩
    ·exact .inl q
    ·refine .inr ⟨k,c',e,z'.sameBut hs ?_⟩
     rintro rfl
     exact hj (zpq hN e1 (I.ok.inj _ _ _ e hc ▸ hi))
  ·by_cases hcc:c'=c
   ·subst hcc; exact⟨_,hc'⟩
   ·obtain⟨w2,z2⟩:=I.cell y c' e
    exact⟨w2,z2.sameBut hs hcc⟩
  ·obtain⟨e,n,ne,nf,d⟩:=I.pin p hp
   refine⟨(hs.2 p.1 ?_).trans e,n,ne,nf,d⟩
   intro q
   rw[q,hoc] at e
   have q':oc=p.2:=Option.some.inj e
   exact d w' (by rw[← q']; exact hocd)
theorem zke {M:Model}{A:Around}{E:Value→Shared→Prop}{i:Nat}{x:Str}{v:V}{u:Value}{Q:Unit→Shared→Prop}(I:Inv X pins σ H s)(hN:X.N.Nodup)(hi:X.N[i]?=some x)(hx:Loc X.env.scope x)(r:zau v u)
  (h:∀s',Inv X pins (σ.set i (some v)) H s'→Q () s')(hf:X.fn x=true∨X.env.scope.names.lookup x=some .local:=by first | exact .inl rfl | exact .inr rfl | assumption):wpAny M A (storeName X.env x u) Q E s:=
 zmS I hN hi hx r (λs' I' _=>h s' I') hf
theorem Inv.call' {s':Shared}{ch:List Addr}(I:Inv X pins σ H s)(ho:s'.os=s.os)(u:Un (frs X.stack) ch H H' s.heap s'.heap)(hok:HOk X.prog X.w H' s'.heap)(hg:AllBare s'.gens)
  (hch:∀b∈ch,(b∈X.ex∨X.s₀.heap.objs.size≤b)∧b≠X.env.locals∧(∀x c,X.env.cells.lookup x=some c→c≠b)∧∀p∈X.pn++pins,p.1≠b):Inv X pins σ H' s':=by
 obtain⟨h',g',d',t',o'⟩:=s'
 have e:o'=s.os:=ho
 subst e
 exact I.call (g':=g') (t':=t') (d':=d') u hok hg hch
end
abbrev XK:=Value→Option Addr→Hp→Prop
abbrev St:=List (Option V)
abbrev VK:=V→Hp→Prop
abbrev TE:=St→Hp→VK→Prop
abbrev TT:=St→Hp→(Bool→Hp→Prop)→Prop
abbrev TA:=St→Hp→(List V→Hp→Prop)→Prop
structure zd1 where
 nx:St→Hp→Prop
 rt:VK
 bk:St→Hp→Prop:=λ_ _=>False
 ct:St→Hp→Prop:=λ_ _=>False
abbrev TS:=zd1→St→Hp→Prop
def EP (X:Cx)(pins:List (Addr×Obj))(σ:St)(Q:VK)(u:Value)(s':Shared):Prop:=∃v H',Inv X pins σ H' s'∧zau v u∧Q v H'
def TP (X:Cx)(pins:List (Addr×Obj))(σ:St)(Q:Bool→Hp→Prop)(b:Bool)(s':Shared):Prop:=∃H',Inv X pins σ H' s'∧Q b H'
def AP (X:Cx)(pins:List (Addr×Obj))(σ:St)(Q:List V→Hp→Prop)(us:List Value)(s':Shared):Prop:=∃vs H',Inv X pins σ H' s'∧zat vs us∧Q vs H'
def SP (X:Cx)(pins:List (Addr×Obj))(D:zd1)(f:Flow)(s':Shared):Prop:=
 match f with
 | .next=>∃σ' H',Inv X pins σ' H' s'∧D.nx σ' H'
 | .brk=>∃σ' H',Inv X pins σ' H' s'∧D.bk σ' H'
 | .cont=>∃σ' H',Inv X pins σ' H' s'∧D.ct σ' H'
 | .ret u=>∃v σ' H',Inv X pins σ' H' s'∧zau v u∧D.rt v H'
def PE (X:Cx)(e:Expr)(t:TE):Prop:=
 ∀(pins:List (Addr×Obj)) (s:Shared) (σ:St) (H:Hp) (Q:VK),Inv X pins σ H s→t σ H Q→wpAny (model X.prog X.w) X.A (eval e X.env) (EP X pins σ Q) X.xe s
def PT (X:Cx)(e:Expr)(t:TT):Prop:=
 ∀(pins:List (Addr×Obj)) (s:Shared) (σ:St) (H:Hp) (Q:Bool→Hp→Prop),Inv X pins σ H s→t σ H Q→wpAny (model X.prog X.w) X.A (isTrue e X.env (eval e X.env)) (TP X pins σ Q) X.xe s
def PW (X:Cx)(e:Expr)(t:TT):Prop:=
 ∀(whole:Sem Value) (pins:List (Addr×Obj)) (s:Shared) (σ:St) (H:Hp) (Q:Bool→Hp→Prop),Inv X pins σ H s→t σ H Q→wpAny (model X.prog X.w) X.A (isTrue e X.env whole) (TP X pins σ Q) X.xe s
theorem PW.pt {X:Cx}{e:Expr}{t:TT}(h:PW X e t):PT X e t:=h _
def PA (X:Cx)(es:List Expr)(t:TA):Prop:=
 ∀(pos:Pos) (pins:List (Addr×Obj)) (s:Shared) (σ:St) (H:Hp) (Q:List V→Hp→Prop),Inv X pins σ H s→t σ H Q→wpAny (model X.prog X.w) X.A (spliced (backTo pos (starEach es X.env))) (AP X pins σ Q) X.xe s
def PS (X:Cx)(st:Stmt)(t:TS):Prop:=
 ∀(pins:List (Addr×Obj)) (s:Shared) (σ:St) (H:Hp) (D:zd1),Inv X pins σ H s→t D σ H→wpAny (model X.prog X.w) X.A (exec st X.env) (SP X pins D) X.xe s
def PSs (X:Cx)(st:List Stmt)(t:TS):Prop:=
 ∀(pins:List (Addr×Obj)) (s:Shared) (σ:St) (H:Hp) (D:zd1),Inv X pins σ H s→t D σ H→wpAny (model X.prog X.w) X.A (execs st X.env) (SP X pins D) X.xe s
theorem thn {α:Type}{t:Sem α}{Q Q':α→Shared→Prop}{M:Model}{A:Around}{E:Value→Shared→Prop}{s:Shared}(h:wpAny M A t Q E s)(hQ:∀a s,Q a s→Q' a s):wpAny M A t Q' E s:=wpAny_mono h hQ λ_ _ x=>x
end L2
namespace L2
open PySem PySem.Spec PyProof.Rows
section
variable {X:Cx}
def tVar (i:Nat):TE:=λσ H Q=>∃v,σ[i]?=some (some v)∧Q v H
def tC (v:V):TE:=λ_ H Q=>Q v H
theorem zrk {i:Nat}{x:Str}{pos:Pos}(hN:X.N[i]?=some x)(hv:Vis X.env.scope x)(hd:(x==("__debug__":Str))=false:=by decide)(hcd:(x==("__classdict__":Str))=false:=by decide):PE X (.Name x pos) (tVar i):=by
 intro pins s σ H Q I h
 obtain⟨v,e,h⟩:=h
 obtain⟨m,hn,hl⟩:=I.loc
 obtain⟨u,r,l⟩:=hl i x v hN e hv
 have fin:EP X pins σ Q u s:=⟨v,H,I,r,h⟩
 rcases l with ⟨hk,hm⟩ | ⟨hk,c,hc,hcell⟩
 ·exact wpAny_Name (wpAny_loadName_local I.ok.kind hk hn hm fin) hd
 ·rcases hk with hk | hk
  ·exact wpAny_Name (wpAny_loadName_cell I.ok.kind hk hc hcell fin) hd
  ·exact wpAny_Name (wpAny_loadName_free I.ok.kind hk hc hcell fin hcd) hd
theorem zwU {i j pos}:PE X (.Constant (.int i) j pos) (tC (.int i)):=λ_ _ _ H _ I h=>wpAny_Constant_int ⟨.int i,H,I.tok _,⟨_,rfl⟩,h⟩
theorem pe_bl {b j pos}:PE X (.Constant (.bool b) j pos) (tC (.bl b)):=λ_ _ _ H _ I h=>Constant_bool ⟨.bl b,H,I,rfl,h⟩
theorem zwb {j pos}:PE X (.Constant .none j pos) (tC .non):=λ_ _ _ H _ I h=>Constant_none ⟨.non,H,I,rfl,h⟩
theorem zwC {x j pos}:PE X (.Constant (.str x) j pos) (tC (.str x)):=λ_ _ _ H _ I h=>Calls.Constant_str ⟨.str x,H,I.tok _,⟨_,rfl⟩,h⟩
def Gl (X:Cx)(x:Str):Prop:=X.env.kindOf x=some .globalImplicit
theorem zqg {E:Value→Shared→Prop}{pins:List (Addr×Obj)}{s:Shared}{σ:St}{H:Hp}{x:Str}{u:Value}{pos:Pos}{Q:Value→Shared→Prop}(I:Inv X pins σ H s)(hg:Gl X x)(hm:X.mg x=some u)(h:Q u s)
  (hd:(x==("__debug__":Str))=false:=by decide):wpAny (model X.prog X.w) X.A (eval (.Name x pos) X.env) Q E s:=
 Calls.Name_function_global I.ok.kind hg (Calls.loadGlobal_global (by rw[I.ok.glob]; exact I.mod.glob.keeps I.bk) hm h) hd
theorem zeO {E:Value→Shared→Prop}{pins:List (Addr×Obj)}{s:Shared}{σ:St}{H:Hp}{x:Str}{u:Value}{pos:Pos}{Q:Value→Shared→Prop}(I:Inv X pins σ H s)(hg:Gl X x)(hm:X.mg x=none)(hv:bootBuiltins x=some u)(h:Q u s)
  (hn:x≠"__name__":=by decide)(hd:(x==("__debug__":Str))=false:=by decide):wpAny (model X.prog X.w) X.A (eval (.Name x pos) X.env) Q E s:=by
 obtain⟨mb,h1,h2⟩:=I.mod.blt
 exact Calls.Name_function_global I.ok.kind hg (Calls.loadGlobal_builtin (by rw[I.ok.glob]; exact I.mod.glob.keeps I.bk) hm (by rw[I.ok.blt]; exact h1.keeps I.bk) ((h2 x hn).trans hv) h) hd
theorem zqC {x:Str}{v:V}{u:Value}{pos:Pos}(hg:Gl X x)(hm:X.mg x=none)(hv:bootBuiltins x=some u)(r:zau v u)(hn:x≠"__name__":=by decide)(hd:(x==("__debug__":Str))=false:=by decide):PE X (.Name x pos) (tC v):=
 λ_ _ _ H _ I h=>zeO I hg hm hv ⟨v,H,I,r,h⟩ hn hd
variable {a b:Expr}{ta tb:TE}{pos:Pos}
def tB (t:TE):TT:=λσ H Q=>t σ H λx H1=>∃c,x=.bl c∧Q c H1
theorem zwo {e:Expr}{t:TE}(h:PE X e t)(he:∀whole,isTrue e X.env whole=(do let v ← whole; standAt e.pos; holding [v] (truthy v)):=by intro _; rfl):PT X e (tB t):=by
 intro pins s σ H Q I hw
 refine isTrue_plain (thn (h pins s σ H _ I hw) λv s1 ⟨x,H1,I1,r1,q1⟩=>?_) (he _)
 obtain⟨d,rfl,q⟩:=q1
 cases r1
 exact wpAny_truthy_bool ⟨H1,I1,q⟩
variable {tA tB':TT}{za8:List Expr}
def tAnd (t u:TT):TT:=λσ H Q=>t σ H λc H1=>if c=true then u σ H1 Q else Q false H1
def tOr (t u:TT):TT:=λσ H Q=>t σ H λc H1=>if c=true then Q true H1 else u σ H1 Q
def tNot (t:TT):TT:=λσ H Q=>t σ H λc H1=>Q (!c) H1
theorem zwt (ha:PT X a tA):PW X (.BoolOp .And [a] pos) tA:=by
 intro wh pins s σ H Q I h
 refine isTrue_and (thn (ha pins s σ H Q I h) λc s1 e=>?_)
 cases c with
 | true=>exact isTrue_and_nil e
 | false=>exact e
theorem zwd (ha:PT X a tA):PW X (.BoolOp .Or [a] pos) tA:=by
 intro wh pins s σ H Q I h
 refine isTrue_or (thn (ha pins s σ H Q I h) λc s1 e=>?_)
 cases c with
 | false=>exact isTrue_or_nil e
 | true=>exact e
theorem zrO (ha:PT X a tA)(hb:PW X (.BoolOp .And (b::za8) pos) tB'):PW X (.BoolOp .And (a::b::za8) pos) (tAnd tA tB'):=by
 intro wh pins s σ H Q I h
 refine isTrue_and (thn (ha pins s σ H _ I h) λc s1 ⟨H1,I1,q1⟩=>?_)
 cases c with
 | true=>exact hb wh pins s1 σ H1 Q I1 q1
 | false=>exact⟨H1,I1,q1⟩
theorem pw_or (ha:PT X a tA)(hb:PW X (.BoolOp .Or (b::za8) pos) tB'):PW X (.BoolOp .Or (a::b::za8) pos) (tOr tA tB'):=by
 intro wh pins s σ H Q I h
 refine isTrue_or (thn (ha pins s σ H _ I h) λc s1 ⟨H1,I1,q1⟩=>?_)
 cases c with
 | true=>exact⟨H1,I1,q1⟩
 | false=>exact hb wh pins s1 σ H1 Q I1 q1
theorem zrX (ha:PT X a tA):PT X (.UnaryOp .Not a pos) (tNot tA):=by
 intro pins s σ H Q I h
 exact isTrue_not (ha pins s σ H (λc H1=>Q (!c) H1) I h)
def tAndV (ta tb:TE):TE:=λσ H Q=>ta σ H λx H1=>∃c,x=.bl c∧if c=true then tb σ H1 Q else Q (.bl false) H1
def tOrV (ta tb:TE):TE:=λσ H Q=>ta σ H λx H1=>∃c,x=.bl c∧if c=true then Q (.bl true) H1 else tb σ H1 Q
def tNotV (ta:TE):TE:=λσ H Q=>ta σ H λx H1=>∃c,x=.bl c∧Q (.bl (!c)) H1
theorem zxM {op}{t:TE}(h:PE X a t):PE X (.BoolOp op [a] pos) t:=λpins s σ H Q I hw=>BoolOp_one (h pins s σ H Q I hw)
theorem zwW (ha:PE X a ta)(hb:PE X (.BoolOp .And (b::za8) pos) tb):PE X (.BoolOp .And (a::b::za8) pos) (tAndV ta tb):=by
 intro pins s σ H Q I h
 refine BoolOp_and (thn (ha pins s σ H _ I h) λv s1 ⟨x,H1,I1,r1,q1⟩=>?_)
 obtain⟨c,rfl,q1⟩:=q1
 cases r1
 refine wpAny_truthy_bool ?_
 cases c with
 | true=>exact hb pins s1 σ H1 Q I1 q1
 | false=>exact⟨.bl false,H1,I1,rfl,q1⟩
theorem pe_or (ha:PE X a ta)(hb:PE X (.BoolOp .Or (b::za8) pos) tb):PE X (.BoolOp .Or (a::b::za8) pos) (tOrV ta tb):=by
 intro pins s σ H Q I h
 refine BoolOp_or (thn (ha pins s σ H _ I h) λv s1 ⟨x,H1,I1,r1,q1⟩=>?_)
 obtain⟨c,rfl,q1⟩:=q1
 cases r1
 refine wpAny_truthy_bool ?_
 cases c with
 | false=>exact hb pins s1 σ H1 Q I1 q1
 | true=>exact⟨.bl true,H1,I1,rfl,q1⟩
theorem zyo (ha:PE X a ta):PE X (.UnaryOp .Not a pos) (tNotV ta):=by
 intro pins s σ H Q I h
 refine UnaryOp_ (thn (ha pins s σ H _ I h) λv s1 ⟨x,H1,I1,r1,q1⟩=>?_)
 obtain⟨c,rfl,q1⟩:=q1
 cases r1
 exact not_of (wpAny_truthy_bool ⟨.bl (!c),H1,I1,rfl,q1⟩)
def tIf (t:TT)(ta tb:TE):TE:=λσ H Q=>t σ H λc H1=>if c=true then ta σ H1 Q else tb σ H1 Q
theorem zuP {c:Expr}(hc:PT X c tA)(ha:PE X a ta)(hb:PE X b tb):PE X (.IfExp c a b pos) (tIf tA ta tb):=by
 intro pins s σ H Q I h
 refine wpAny_IfExp (thn (hc pins s σ H _ I h) λd s1 ⟨H1,I1,q1⟩=>?_)
 cases d with
 | true=>exact ha pins s1 σ H1 Q I1 q1
 | false=>exact hb pins s1 σ H1 Q I1 q1
end
end L2
namespace L2
open PySem PySem.Spec PyProof.Rows
def SqL (K:PySem.W.Frag)(H:Hp)(a:Addr)(xs:List V):Prop:=
 Rd H a (.lst xs)∨
  ∃(o:Obj) (its:Array Value) (n:Nat),K.lookup a=some o∧o.cls=.type "list"∧o.dict=none∧o.data=.seq its n∧its.size≤sizeLine∧zat xs its.toList
def SqT (K:PySem.W.Frag)(H:Hp)(a:Addr)(xs:List V):Prop:=
 Rd H a (.tup xs)∨
  ∃(o:Obj) (its:Array Value) (n:Nat),K.lookup a=some o∧o.cls=.type "tuple"∧o.data=.seq its n∧its.size≤sizeLine∧zat xs its.toList
def absV:Value→Option V
 | .none=>some .non
 | .bool b=>some (.bl b)
 | .int i _=>some (.int i)
 | .str x _=>some (.str x)
 | .bytes b _=>some (.byt b)
 | .float b _=>some (.flt b)
 | .ref a=>some (.ref a)
 | .type n=>some (.ty n)
 | _=>none
theorem zau.abs {x:V}{u:Value}(r:zau x u):absV u=some x:=by
 cases x with
 | non=>cases r; rfl
 | bl _=>cases r; rfl
 | int _=>obtain⟨t,rfl⟩:=r; rfl
 | str _=>obtain⟨t,rfl⟩:=r; rfl
 | byt _=>obtain⟨t,rfl⟩:=r; rfl
 | flt _=>obtain⟨t,rfl⟩:=r; rfl
 | ref _=>cases r; rfl
 | ty _=>cases r; rfl
theorem zau.inj {x y:V}{u:Value}(r:zau x u)(q:zau y u):x=y:=Option.some.inj (r.abs.symm.trans q.abs)
theorem zat.inj:∀ {xs ys:List V} {us:List Value},zat xs us→zat ys us→xs=ys
 | _,_,_,.nil,.nil=>rfl
 | _,_,_,.cons r t,.cons r' t'=>by rw[r.inj r',zat.inj t t']
section
variable {X:Cx}{pins:List (Addr×Obj)}{σ:St}{H:Hp}{s:Shared}{a:Addr}{xs ys:List V}
theorem SqL.of {K:PySem.W.Frag}(h:H a=some (.lst xs)):SqL K H a xs:=.inl (.inl h)
theorem SqT.of {K:PySem.W.Frag}(h:H a=some (.tup xs)):SqT K H a xs:=.inl (.inl h)
theorem Inv.list (I:Inv X pins σ H s)(h:SqL X.K H a xs):∃its:List Value,zat xs its∧PlainL s.heap a its.toArray∧xs.length≤sizeLine:=by
 rcases h with h | ⟨o,its,n,hk,hc,hd,hs,hz,r⟩
 ·obtain⟨z,its,n,r,e⟩:=h.ok I.hok
  exact⟨its,r,⟨_,n,e,rfl,rfl,rfl⟩,z⟩
 ·refine⟨its.toList,r,⟨o,n,I.kIn a o hk,hc,hd,by simpa using hs⟩,?_⟩
  have e:=r.length
  simp only[Array.length_toList] at e
  omega
theorem Inv.tuple (I:Inv X pins σ H s)(h:SqT X.K H a xs):∃its:List Value,zat xs its∧IsTup s.heap a its.toArray∧xs.length≤sizeLine:=by
 rcases h with h | ⟨o,its,n,hk,hc,hs,hz,r⟩
 ·obtain⟨z,its,r,p⟩:=h.ok I.hok
  exact⟨its,r,p,z⟩
 ·refine⟨its.toList,r,⟨o,I.kIn a o hk,hc,n,by simpa using hs⟩,?_⟩
  have e:=r.length
  simp only[Array.length_toList] at e
  omega
theorem Inv.list_inj (I:Inv X pins σ H s)(h:SqL X.K H a xs)(h':SqL X.K H a ys):xs=ys:=by
 obtain⟨its,r,⟨o,n,e,_,_,d⟩,_⟩:=I.list h
 obtain⟨its',r',⟨o',n',e',_,_,d'⟩,_⟩:=I.list h'
 rw[e] at e'; cases e'
 rw[d] at d'
 injection d' with d1 _
 have:its=its':=by simpa using congrArg Array.toList d1
 subst this
 exact r.inj r'
end
abbrev Cx.wish (X:Cx)(E:Value→Shared→Prop):Cx:={ X with xe:=E }
abbrev Cx.nox (X:Cx):Cx:=X.wish λ_ _=>False
theorem Cx.Ok.wish {X:Cx}(ok:X.Ok)(E:Value→Shared→Prop):(X.wish E).Ok:=
 ⟨ok.mod,ok.kind,ok.glob,ok.blt,ok.above,ok.inj,ok.has,ok.cab,ok.hd,ok.frames,ok.stk,ok.exf,ok.bs,ok.bsz,ok.noex,ok.exfs,ok.funs,ok.frf⟩
theorem Cx.Ok.unwish {X:Cx}{E:Value→Shared→Prop}(ok:(X.wish E).Ok):X.Ok:=
 ⟨ok.mod,ok.kind,ok.glob,ok.blt,ok.above,ok.inj,ok.has,ok.cab,ok.hd,ok.frames,ok.stk,ok.exf,ok.bs,ok.bsz,ok.noex,ok.exfs,ok.funs,ok.frf⟩
section
variable {X:Cx}{pins:List (Addr×Obj)}{σ:St}{H:Hp}{s:Shared}{E:Value→Shared→Prop}
theorem Inv.wish (I:Inv X pins σ H s)(E:Value→Shared→Prop):Inv (X.wish E) pins σ H s:=⟨I.ok.wish E,I.os,I.bare,I.base,I.loc,I.cell,I.free,I.freeC,I.pin,I.hok,I.len⟩
theorem Inv.unwish (I:Inv (X.wish E) pins σ H s):Inv X pins σ H s:=⟨I.ok.unwish,I.os,I.bare,I.base,I.loc,I.cell,I.free,I.freeC,I.pin,I.hok,I.len⟩
theorem SP.unwish {D:zd1}{f:Flow}{s':Shared}(h:SP (X.wish E) pins D f s'):SP X pins D f s':=by
 cases f with
 | next=>obtain⟨σ',H',I,q⟩:=h; exact⟨σ',H',I.unwish,q⟩
 | brk=>obtain⟨σ',H',I,q⟩:=h; exact⟨σ',H',I.unwish,q⟩
 | cont=>obtain⟨σ',H',I,q⟩:=h; exact⟨σ',H',I.unwish,q⟩
 | ret u=>obtain⟨v,σ',H',I,r,q⟩:=h; exact⟨v,σ',H',I.unwish,r,q⟩
theorem PE.nox {e:Expr}{t:TE}(h:PE X.nox e t):PE X e t:=λpins s σ H Q I hw=>
 wpAny_mono (h pins s σ H Q (I.wish _) hw) (λ_ _ ⟨v,H',I',r,q⟩=>⟨v,H',I'.unwish,r,q⟩) λ_ _ z=>False.elim z
theorem PT.nox {e:Expr}{t:TT}(h:PT X.nox e t):PT X e t:=λpins s σ H Q I hw=>
 wpAny_mono (h pins s σ H Q (I.wish _) hw) (λ_ _ ⟨H',I',q⟩=>⟨H',I'.unwish,q⟩) λ_ _ z=>False.elim z
theorem PSs.nox {st:List Stmt}{t:TS}(h:PSs X.nox st t):PSs X st t:=λpins s σ H D I hw=>
 wpAny_mono (h pins s σ H D (I.wish _) hw) (λ_ _ q=>q.unwish) λ_ _ z=>False.elim z
end
section
variable {X:Cx}{st:Stmt}{za8:List Stmt}{t u:TS}{e:Expr}{te:TE}{pos:Pos}
def tNext:TS:=λD σ H=>D.nx σ H
def tSeq (t u:TS):TS:=λD σ H=>t { D with nx:=u D } σ H
theorem zrY:PSs X [] tNext:=λ_ _ σ H _ I h=>wpAny_execs_nil ⟨σ,H,I,h⟩
theorem zsR (h1:PS X st t)(h2:PSs X za8 u):PSs X (st::za8) (tSeq t u):=by
 intro pins s σ H D I h
 refine wpAny_execs_cons (thn (h1 pins s σ H { D with nx:=u D } I h) λf s1 q=>?_)
 cases f with
 | next=>
  obtain⟨σ',H',I',q⟩:=q
  exact h2 pins s1 σ' H' D I' q
 | ret v=>exact q
 | brk=>exact q
 | cont=>exact q
theorem zuk (h1:PS X st t):PSs X [st] t:=by
 intro pins s σ H D I h
 refine wpAny_execs_cons (thn (h1 pins s σ H D I h) λf s1 q=>?_)
 cases f with
 | next=>exact wpAny_execs_nil q
 | ret v=>exact q
 | brk=>exact q
 | cont=>exact q
theorem Inv.quiet {pins:List (Addr×Obj)}{σ:St}{H:Hp}{s:Shared}(I:Inv X pins σ H s):interactive X.env=false:=by simp[interactive,I.ok.kind]
def tDrop (te:TE):TS:=λD σ H=>te σ H λ_ H1=>D.nx σ H1
theorem zwO (he:PE X e te)(hs:swapsWith e none pos.line X.env=pure false:=by rfl):PS X (.Expr e pos) (tDrop te):=by
 intro pins s σ H D I h
 exact wpAny_Expr_any (thn (he pins s σ H _ I h) λv s1 ⟨x,H1,I1,r1,q1⟩=>⟨σ,H1,I1,q1⟩) I.quiet hs
def tRet (te:TE):TS:=λD σ H=>te σ H D.rt
theorem zrE (he:PE X e te):PS X (.Return (some e) pos) (tRet te):=by
 intro pins s σ H D I h
 exact wpAny_Return_some (thn (he pins s σ H _ I h) λv s1 ⟨x,H1,I1,r1,q1⟩=>⟨x,σ,H1,I1,r1,q1⟩)
def tIfS (c:TT)(t u:TS):TS:=λD σ H=>c σ H λb H1=>if b=true then t D σ H1 else u D σ H1
theorem ps_if {c:Expr}{a b:List Stmt}{tc:TT}(hc:PT X c tc)(ha:PSs X a t)(hb:PSs X b u):PS X (.If c a b pos) (tIfS tc t u):=by
 intro pins s σ H D I h
 refine wpAny_If (thn (hc pins s σ H _ I h) λd s1 ⟨H1,I1,q1⟩=>?_)
 cases d with
 | true=>exact ha pins s1 σ H1 D I1 q1
 | false=>exact hb pins s1 σ H1 D I1 q1
def zyn:TS:=λ_ _ _=>False
theorem ztX:PS X st zyn:=λ_ _ _ _ _ _ h=>h.elim
end
abbrev TG:=V→St→Hp→(St→Hp→Prop)→Prop
abbrev TGs:=List V→St→Hp→(St→Hp→Prop)→Prop
def PG (X:Cx)(target:Expr)(t:TG):Prop:=
 ∀(pins:List (Addr×Obj)) (s:Shared) (σ:St) (H:Hp) (v:V) (u:Value) (Q:St→Hp→Prop),Inv X pins σ H s→zau v u→t v σ H Q→
  wpAny (model X.prog X.w) X.A (assign target X.env u) (λ_ s'=>∃σ' H',Inv X pins σ' H' s'∧Q σ' H') X.xe s
def PGs (X:Cx)(ts:List Expr)(t:TGs):Prop:=
 ∀(pins:List (Addr×Obj)) (s:Shared) (σ:St) (H:Hp) (vs:List V) (us:List Value) (Q:St→Hp→Prop),Inv X pins σ H s→zat vs us→t vs σ H Q→
  wpAny (model X.prog X.w) X.A (assignInOrder ((assignEach ts X.env).map (·.2)) us) (λ_ s'=>∃σ' H',Inv X pins σ' H' s'∧Q σ' H') X.xe s
abbrev TSet:=V→V→V→Hp→(Hp→Prop)→Prop
def PSet (X:Cx)(t:TSet):Prop:=
 ∀(pins:List (Addr×Obj)) (s:Shared) (σ:St) (H:Hp) (o i v:V) (ov iv u:Value) (Q:Hp→Prop),Inv X pins σ H s→zau o ov→zau i iv→zau v u→t o i v H Q→
  wpAny (model X.prog X.w) X.A (setItem ov iv u) (λ_ s'=>∃H',Inv X pins σ H' s'∧Q H') X.xe s
section
variable {X:Cx}{pos:Pos}
def zqR (i:Nat):TG:=λv σ H Q=>Q (σ.set i (some v)) H
theorem zjW {i:Nat}{x:Str}(hN:X.N.Nodup)(hi:X.N[i]?=some x)(hx:Loc X.env.scope x)(hf:X.fn x=true∨X.env.scope.names.lookup x=some .local:=by first | exact .inl rfl | exact .inr rfl | assumption):PG X (.Name x pos) (zqR i):=by
 intro pins s σ H v u Q I r h
 exact wpAny_assign_Name (zke I hN hi hx r (λs' I'=>⟨_,H,I',h⟩) hf)
def gNil:TGs:=λvs σ H Q=>vs=[]∧Q σ H
def gCons (t:TG)(u:TGs):TGs:=λvs σ H Q=>∃v r,vs=v::r∧t v σ H λσ' H'=>u r σ' H' Q
theorem zvq:PGs X [] gNil:=by
 intro pins s σ H vs us Q I r h
 obtain⟨e,h⟩:=h
 subst e
 cases r
 exact assignInOrder_nil ⟨σ,H,I,h⟩
theorem zsx {e:Expr}{es:List Expr}{t:TG}{u:TGs}(h1:PG X e t)(h2:PGs X es u)
  (hs:(assignEach (e::es) X.env).map (·.2)=assign e X.env::(assignEach es X.env).map (·.2):=by rfl):PGs X (e::es) (gCons t u):=by
 intro pins s σ H vs us Q I r h
 obtain⟨v,vr,e1,h⟩:=h
 subst e1
 cases r with
 | cons r rr=>
  rw[hs]
  refine assignInOrder_cons (thn (h1 pins s σ H _ _ _ I r h) λ_ s1 ⟨σ1,H1,I1,q1⟩=>?_)
  exact h2 pins s1 σ1 H1 _ _ Q I1 rr q1
def zeK (K:PySem.W.Frag)(n:Nat)(t:TGs):TG:=λv σ H Q=>∃a xs,v=.ref a∧SqT K H a xs∧xs.length=n∧t xs σ H Q
theorem zik {es:List Expr}{k:Nat}{t:TGs}{n:Nat}(hc:X.calm=true)(h:PGs X es t)
  (hn:(assignEach es X.env).length=n:=by rfl)(hst:(assignEach es X.env).findIdx? (·.1)=none:=by rfl):PG X (.Tuple es k pos) (zeK X.K n t):=by
 intro pins s σ H v u Q I r hw
 obtain⟨a,xs,e1,hq,hl,hw⟩:=hw
 subst e1
 cases r
 obtain⟨its,rv,ht,hz⟩:=I.tuple hq
 refine assign_Tuple_tuple (I.ok.hd hc) ht (by simp[hn,← hl,rv.length]) hst λh' hx=>?_
 have I1:Inv X pins σ H { s with heap:=h' }:=I.kept (t':=s.toks) λb o e=>hx b o (Vap (Heap.lt_size e)) e
 exact h pins _ σ H xs _ Q I1 (by simpa using rv) hw
def gSub (to ti:TE)(t:TSet):TG:=λv σ H Q=>to σ H λo H1=>ti σ H1 λi H2=>t o i v H2 λH3=>Q σ H3
theorem zyb {o i:Expr}{to ti:TE}{t:TSet}(ho:PE X o to)(hi:PE X i ti)(hs:PSet X t)
  (ha:∀v,assign (.Subscript o i pos) X.env v=(do
   let ov ← holding [v] (eval o X.env)
   let iv ← holding [v,ov] (eval i X.env)
   standAt pos
   holding [v,ov,iv] (setItem ov iv v)
   release [v,ov,iv] []):=by intro _; rfl):PG X (.Subscript o i pos) (gSub to ti t):=by
 intro pins s σ H v u Q I r h
 rw[ha]
 refine wpAny_bind (wpAny_holding (thn (ho pins s σ H _ I h) λov s1 ⟨x,H1,I1,r1,q1⟩=>?_))
 refine wpAny_bind (wpAny_holding (thn (hi pins s1 σ H1 _ I1 q1) λiv s2 ⟨y,H2,I2,r2,q2⟩=>?_))
 refine wpAny_bind (wpAny_standAt (wpAny_bind (wpAny_holding (thn (hs pins s2 σ H2 x y v ov iv u _ I2 r1 r2 r q2) λ_ s3 ⟨H3,I3,q3⟩=>?_))))
 exact wpAny_release ⟨σ,H3,I3,q3⟩
def tAsg (te:TE)(g:TG):TS:=λD σ H=>te σ H λx H1=>g x σ H1 D.nx
theorem zpE {tg e:Expr}{te:TE}{g:TG}(he:PE X e te)(hg:PG X tg g)(hs:swapsWithSole [tg] e pos.line X.env=pure false:=by rfl)(hw:swappedStores [tg] e X.env=pure none:=by rfl)
  (h1:(assignEach [tg] X.env).map (·.2)=[assign tg X.env]:=by rfl):PS X (.Assign [tg] e pos) (tAsg te g):=by
 intro pins s σ H D I h
 refine wpAny_Assign_stores (thn (he pins s σ H _ I h) λv s1 ⟨x,H1,I1,r1,q1⟩=>?_) hs hw
 rw[h1]
 exact thn (hg pins s1 σ H1 x v _ I1 r1 q1) λ_ s2 q=>q
theorem zrD {i:Nat}{x:Str}{e:Expr}{te:TE}{pos':Pos}(hN:X.N.Nodup)(hi:X.N[i]?=some x)(hx:Loc X.env.scope x)(he:PE X e te)(hs:swapsWith e (some (.Name x pos')) pos.line X.env=pure false:=by rfl)(hf:X.fn x=true∨X.env.scope.names.lookup x=some .local:=by first | exact .inl rfl | exact .inr rfl | assumption):
  PS X (.Assign [.Name x pos'] e pos) (tAsg te (zqR i)):=by
 intro pins s σ H D I h
 refine wpAny_Assign_Name (thn (he pins s σ H _ I h) λv s1 ⟨y,H1,I1,r1,q1⟩=>?_) hs
 exact zke I1 hN hi hx r1 (λs2 I2=>⟨_,H1,I2,q1⟩) hf
def tPar (i j:Nat)(ta:TA):TS:=λD σ H=>ta σ H λvs H1=>∃v w,vs=[v,w]∧D.nx ((σ.set i (some v)).set j (some w)) H1
theorem zw3 {i j:Nat}{x y:Str}{a b:Expr}{ta:TA}{px py pt:Pos}{kt k2 pt2}(hc:X.calm=true)(hN:X.N.Nodup)(hi:X.N[i]?=some x)(hj:X.N[j]?=some y)(hij:i≠j)
  (hx:X.env.scope.names.lookup x=some .local)(hy:X.env.scope.names.lookup y=some .local)(ha:PA X [a,b] ta)
  (hw:swappedStores [.Tuple [.Name x px,.Name y py] kt pt] (.Tuple [a,b] k2 pt2) X.env=pure (some [x,y]))
  (hs:swapsWithSole [.Tuple [.Name x px,.Name y py] kt pt] (.Tuple [a,b] k2 pt2) pos.line X.env=pure false:=by rfl):
  PS X (.Assign [.Tuple [.Name x px,.Name y py] kt pt] (.Tuple [a,b] k2 pt2) pos) (tPar i j ta):=by
 intro pins s σ H D I h
 rw[exec_Assign_arm]
 refine wpAny_bind (wpAny_standAt ?_)
 rw[hs]
 refine wpAny_bind (wpAny_pure ?_)
 rw[if_neg (by decide)]
 refine wpAny_bind (Tuple_ (thn (ha _ pins s σ H _ I h) λus s1 ⟨vs,H1,I1,r1,q1⟩=>?_))
 obtain⟨v,w,e1,q1⟩:=q1
 subst e1
 obtain⟨u1,u2,rfl,rv,rw'⟩:∃u1 u2,us=[u1,u2]∧zau v u1∧zau w u2:=by
  cases r1 with
  | cons p q=>
   cases q with
   | cons p' q'=>
    cases q'
    exact⟨_,_,rfl,p,p'⟩
 refine wpAny_newObj_type ?_ (by show 2≤sizeLine; decide)
 have I2:Inv X pins σ H1 { s1 with heap:=s1.heap.push { cls:=.type "tuple",data:=.seq [u1,u2].toArray } }:=I1.kept (t':=s1.toks) λb o e=>Heap.get?_push_of_some _ e
 rw[hw]
 refine wpAny_bind (wpAny_pure ?_)
 show wpAny (model X.prog X.w) X.A (do rule "assign.swapped-stores"; let items ← unpackItems (.ref s1.heap.objs.size) 2 none; assignInOrder [λv=>bindName X.env y v,λv=>bindName X.env x v] items.reverse; pure Flow.next) _ _ _
 refine wpAny_bind (wpAny_rule (wpAny_bind (unpackItems_tuple (items:=#[u1,u2]) (I.ok.hd hc) (IsTup.new s1.heap _) λh' hx'=>?_)))
 have I3:=I2.kept (h':=h') (t':=s1.toks) λb o e=>hx' b o (Vap (Heap.lt_size e)) e
 show wpAny _ _ (assignInOrder [λv=>bindName X.env y v,λv=>bindName X.env x v] [u2,u1] >>= λ_=>pure Flow.next) _ _ _
 refine wpAny_bind (assignInOrder_cons (wpAny_bindName (zke I3 hN hj (.inl hy) rw' (λs2 I4=>?_) (.inr hy))))
 refine assignInOrder_cons (wpAny_bindName (zke I4 hN hi (.inl hx) rv (λs3 I5=>assignInOrder_nil (wpAny_pure ?_)) (.inr hx)))
 rw[List.set_comm _ _ (Ne.symm hij)] at I5
 exact⟨_,H1,I5,q1⟩
end
section
variable {X:Cx}{pos:Pos}
def zvf (c:TT)(tb:TS):TS:=λD σ H=>∃W:Nat→St→Hp→Prop,(∃m,W m σ H)∧∀m σ H,W m σ H→
 c σ H λb H1=>if b=true then ∃N:St→Hp→Prop,(∀σ' H',N σ' H'→∃m',m'<m∧W m' σ' H')∧tb { D with nx:=N,ct:=N,bk:=D.nx } σ H1 else D.nx σ H1
theorem zvp {c:Expr}{body:List Stmt}{tc:TT}{tb:TS}(hp:PassesOwn (model X.prog X.w) X.A X.env X.xe)(hc:PT X c tc)(hb:PSs X body tb):PS X (.While c body [] pos) (zvf tc tb):=by
 intro pins s σ H D I h
 obtain⟨W,⟨m0,w0⟩,turn⟩:=h
 refine wpAny_While (codeAny_whileLoop (λn s'=>∃σ' H',Inv X pins σ' H' s'∧W n σ' H') ?_ m0 ⟨σ,H,I,w0⟩)
 rintro n s1 ⟨σ1,H1,I1,w1⟩
 refine wpAny_passesOwn hp (thn (hc pins s1 σ1 H1 _ I1 (turn n σ1 H1 w1)) λb s2 ⟨H2,I2,q2⟩=>?_)
 cases b with
 | true=>
  obtain⟨N,hN,q2⟩:=q2
  rw[if_pos rfl]
  refine wpAny_passesOwn hp (thn (hb pins s2 σ1 H2 _ I2 q2) λf s3 q3=>?_)
  cases f with
  | next=>
   obtain⟨σ3,H3,I3,n3⟩:=q3
   obtain⟨m',hm,w3⟩:=hN σ3 H3 n3
   exact⟨m',hm,σ3,H3,I3,w3⟩
  | cont=>
   obtain⟨σ3,H3,I3,n3⟩:=q3
   obtain⟨m',hm,w3⟩:=hN σ3 H3 n3
   exact⟨m',hm,σ3,H3,I3,w3⟩
  | brk=>exact q3
  | ret v=>exact q3
 | false=>
  rw[if_neg Vaq]
  exact wpAny_execs_nil ⟨σ1,H2,I2,q2⟩
end
structure It where
 go:Nat→Hp→Prop
 yld:Nat→Hp→V→Hp→Prop
 stop:Nat→Hp→Prop
def zbK (X:Cx)(pins:List (Addr×Obj))(H:Hp)(b:Addr):Prop:=
 H b=none∧b≠X.env.locals∧b ∉ X.fs∧(b∈X.ex∨X.s₀.heap.objs.size≤b)∧(∀x c,X.env.cells.lookup x=some c→c≠b)∧∀p∈X.pn++pins,p.1≠b
theorem Inv.fpOk {X:Cx}{pins:List (Addr×Obj)}{σ:St}{H H':Hp}{s:Shared}{b:Addr}(I:Inv X pins σ H s)(hb:s.heap.objs.size≤b)(hn:H' b=none):zbK X pins H' b:=by
 refine⟨hn,Nat.ne_of_gt (Vax I.lt hb),I.nofs hb,.inr (VaA I.sz hb),λx c e z=>?_,λp hp z=>?_⟩
 ·obtain⟨v,q⟩:=I.cell x c e
  exact absurd (Vax q.lt (by rw[z]; exact hb)) (VaF _)
 ·exact absurd (Vax (Heap.lt_size (I.pin p hp).1) (by rw[z]; exact hb)) (VaF _)
structure zgJ (P:Program)(w:World)(K:PySem.W.Frag)(tg:Expr)(J:It)(fp:List Addr)(it:Addr)(tn:Nat→Heap→Prop):Prop where
 mem:it∈fp
 obj:∀i h,tn i h→∀b∈fp,∃o,h.get? b=some o∧∀v,o.data≠.cell v
 keep:∀i h h',tn i h→(∀b∈fp,∀o,h.get? b=some o→h'.get? b=some o)→tn i h'
 item:∀(X:Cx),X.prog=P→X.w=w→X.K=K→X.calm=true→∀(i:Nat) (pins:List (Addr×Obj)) (s:Shared) (σ:St) (H:Hp) (E:Value→Shared→Prop),Inv X pins σ H s→(∀b∈fp,zbK X pins H b)→tn i s.heap→J.go i H→
  wpAny (model P w) X.A (pyNext (.ref it)) (λr s1=>∃u,r=some u∧
   wpAny (model P w) X.A (letOwnedTupleGo tg (.ref it) u) (λ_ s2=>∃x H',Inv X pins σ H' s2∧zau x u∧J.yld i H x H'∧tn (i+1) s2.heap∧∀b∈fp,H' b=none) E s1) E s
 done:∀(X:Cx),X.prog=P→X.w=w→X.K=K→X.calm=true→∀(i:Nat) (pins:List (Addr×Obj)) (s:Shared) (σ:St) (H:Hp) (E:Value→Shared→Prop),Inv X pins σ H s→(∀b∈fp,zbK X pins H b)→tn i s.heap→J.stop i H→
  wpAny (model P w) X.A (pyNext (.ref it)) (λr s1=>r=none∧Inv X pins σ H s1) E s
 self:∀(A:Around) (i:Nat) (s:Shared) (Q:Value→Shared→Prop) (E:Value→Shared→Prop),tn i s.heap→Q (.ref it) s→wpAny (model P w) A (pyIter (.ref it)) Q E s
abbrev TI:=St→Hp→(It→Hp→Prop)→Prop
def PIE (X:Cx)(pins:List (Addr×Obj))(σ:St)(tg:Expr)(R:It→Hp→Prop)(itv:Value)(s2:Shared):Prop:=
 ∃(it:Addr) (fp:List Addr) (tn:Nat→Heap→Prop) (J:It) (H':Hp),itv=.ref it∧Inv X pins σ H' s2∧zgJ X.prog X.w X.K tg J fp it tn∧tn 0 s2.heap∧(∀b∈fp,zbK X pins H' b)∧R J H'
def PI (X:Cx)(tg iter:Expr)(wi:TI):Prop:=
 ∀(pins:List (Addr×Obj)) (s:Shared) (σ:St) (H:Hp) (R:It→Hp→Prop),Inv X pins σ H s→wi σ H R→
  wpAny (model X.prog X.w) X.A (eval iter X.env) (λv s1=>wpAny (model X.prog X.w) X.A (pyIter v) (PIE X pins σ tg R) X.xe s1) X.xe s
theorem zrr {M:Model}{A:Around}{E:Value→Shared→Prop}{s:Shared}{tg:Expr}{it:Addr}{u:Value}{o:Obj}{n:String}{vs:Array Value}{Q:Unit→Shared→Prop}(ho:s.heap.get? it=some o)(hc:o.cls=.type n)(hd:o.data=.fields vs)
    (hn:["enumerate","zip","dict_itemiterator","dict_reverseitemiterator","odict_iterator","itertools.zip_longest","itertools.pairwise"].contains n=false)(hQ:Q () s):wpAny M A (letOwnedTupleGo tg (.ref it) u) Q E s:=by
  unfold letOwnedTupleGo
  cases tg <;> first
    | exact wpAny_pure hQ
    | (cases u <;> first
        | exact wpAny_pure hQ
        | (refine wpAny_bind (wpAny_load ho ?_)
           rw[hc,hd]
           show wpAny M A (if (["enumerate","zip","dict_itemiterator","dict_reverseitemiterator","odict_iterator","itertools.zip_longest","itertools.pairwise"].contains n&&vs[0]?==some (rawInt _))=true then _ else _) Q E s
           rw[if_neg (by intro h; rw[hn,Bool.false_and] at h; cases h)]
           exact wpAny_pure hQ))
def Itl (K:PySem.W.Frag)(a:Addr):It:=
 ⟨λi H=>∃xs x,SqL K H a xs∧xs[i]?=some x,λi H x H'=>H'=H∧∀xs,SqL K H a xs→xs[i]?=some x,λi H=>∃xs,SqL K H a xs∧xs.length≤i⟩
def Itr (lo:Int)(n:Nat):It:=⟨λi _=>i<n,λi H x H'=>H'=H∧x=.int (lo+i),λi _=>n≤i⟩
theorem ztA {P:Program}{w:World}{K:PySem.W.Frag}{tg:Expr}(a it:Addr):zgJ P w K tg (Itl K a) [it] it (λi h=>h.IsListIter it a i) where
 mem:=by simp
 obj:=λi h st b hb=>by
  have e:b=it:=by simpa using hb
  subst e
  obtain⟨o,e,c,d⟩:=st
  exact⟨o,e,λv z=>by rw[d] at z; cases z⟩
 keep:=λi h h' st k=>st.at λo e=>k it (by simp) o e
 item:=by
  intro X hP hw hK hc i pins s σ H E I hf st hg
  subst hP hw hK
  obtain⟨xs,x,hq,hx⟩:=hg
  obtain⟨its,rv,p,hz⟩:=I.list hq
  obtain⟨u,hu,ru⟩:=rv.get hx
  obtain⟨f0,f1,f2,f3,f4,f5⟩:=hf it (by simp)
  refine wpAny_pyNext_list_item st p.isList (x:=u) (by simpa using hu) λh' st' sb=>?_
  have I1:Inv X pins σ H { s with heap:=h' }:=I.turned (t':=s.toks) (λb o hb e=>(sb.2 b hb).trans e) f0 f1 f3 f4 f5
  obtain⟨o,e,c,d⟩:=id st'
  exact⟨u,rfl,zrr (s:={ s with heap:=h' }) e c d (by decide) ⟨x,H,I1,ru,⟨rfl,λys hy=>by rw[I.list_inj hy hq]; exact hx⟩,st',λb hb=>(hf b hb).1⟩⟩
 done:=by
  intro X hP hw hK hc i pins s σ H E I hf st hg
  subst hP hw hK
  obtain⟨xs,hq,hx⟩:=hg
  obtain⟨its,rv,p,hz⟩:=I.list hq
  obtain⟨f0,f1,f2,f3,f4,f5⟩:=hf it (by simp)
  have hl:=rv.length
  exact wpAny_pyNext_list_end (I.ok.hd hc) st p.isList (by simp; omega) λh' eb=>⟨rfl,I.turned (t':=s.toks) (λb o hb e=>eb b o hb e) f0 f1 f3 f4 f5⟩
 self:=λ_ _ _ _ _ st h=>wpAny_pyIter_listiter st h
theorem zsI {P:Program}{w:World}{K:PySem.W.Frag}{tg:Expr}(it:Addr)(lo:Int)(n:Nat):zgJ P w K tg (Itr lo n) [it] it (λi h=>IsRangeIter h it (lo+(i:Nat)*1) ((n:Int)-(i:Nat)) 1) where
 mem:=by simp
 obj:=λi h st b hb=>by
  have e:b=it:=by simpa using hb
  subst e
  exact⟨_,st,λv z=>by
   have z':Data.fields _=Data.cell v:=z
   cases z'⟩
 keep:=λi h h' st k=>k it (by simp) _ st
 item:=by
  intro X hP hw hK hc i pins s σ H E I hf st hg
  subst hP hw hK
  obtain⟨f0,f1,f2,f3,f4,f5⟩:=hf it (by simp)
  have W:=Walks.range (prog:=X.prog) (w:=X.w) (I.ok.hd hc) it lo 1 n
  refine W.item i s _ _ hg st λv h' tk hv st' kk=>?_
  obtain⟨t,rfl⟩:=hv
  have I1:Inv X pins σ H { s with heap:=h',toks:=tk }:=I.turned (λb o hb e=>kk b o (by simpa using hb) e) f0 f1 f3 f4 f5
  refine⟨_,rfl,zrr (s:={ s with heap:=h',toks:=tk }) (n:="range_iterator") st' rfl rfl (by decide) ⟨.int (lo+i),H,I1,⟨t,?_⟩,⟨rfl,rfl⟩,st',λb hb=>(hf b hb).1⟩⟩
  rw[Int.mul_one]
 done:=by
  intro X hP hw hK hc i pins s σ H E I hf st hg
  subst hP hw hK
  obtain⟨f0,f1,f2,f3,f4,f5⟩:=hf it (by simp)
  exact wpAny_pyNext_range_end (I.ok.hd hc) st (by have:n≤i:=hg; omega) λh' eb=>⟨rfl,I.turned (t':=s.toks) (λb o hb e=>eb b o hb e) f0 f1 f3 f4 f5⟩
 self:=λ_ _ _ _ _ st h=>wpAny_pyIter_rangeiter st h
end L2
namespace L2
open PySem PySem.Spec PyProof.Rows
section
variable {X:Cx}{tg:Expr}
def zrm (K:PySem.W.Frag)(tl:TE):TI:=λσ H R=>tl σ H λx H1=>∃a,x=.ref a∧(∃xs,SqL K H1 a xs)∧R (Itl K a) H1
theorem zob {l:Expr}{tl:TE}(hl:PE X l tl):PI X tg l (zrm X.K tl):=by
 intro pins s σ H R I h
 refine thn (hl pins s σ H _ I h) λv s1 ⟨x,H1,I1,r1,q1⟩=>?_
 obtain⟨a,e,⟨xs,hq⟩,q⟩:=q1
 subst e
 cases r1
 obtain⟨its,rv,p,hz⟩:=I1.list hq
 refine wpAny_pyIter_list p.isList ?_
 refine⟨s1.heap.objs.size,[s1.heap.objs.size],_,_,H1,rfl,I1.kept (t':=s1.toks) λb o e=>Heap.get?_push_of_some _ e,ztA a _,⟨_,Heap.get?_push_size _ rfl,rfl,rfl⟩,λb hb=>?_,q⟩
 have e:b=s1.heap.objs.size:=by simpa using hb
 subst e
 exact I1.fpOk (Vad _) (I1.hok.fresh (Vad _))
theorem zuv {pins:List (Addr×Obj)}{σ:St}{H:Hp}{s:Shared}{R:It→Hp→Prop}{E:Value→Shared→Prop}{lo hi:Int}{t u v:Tok}{tk:Nat}(I:Inv X pins σ H s)(h1:-(2^62)≤lo)(h2:lo<2^62)(h3:-(2^62)≤hi)(h4:hi<2^62)
  (q:R (Itr lo (hi-lo).toNat) H):wpAny (model X.prog X.w) X.A (pyIter (.ref s.heap.objs.size)) (PIE X pins σ tg R) E { s with heap:=s.heap.push { cls:=.type "range",data:=.fields #[.int lo t,.int hi u,.int 1 v] },toks:=tk }:=by
 refine wpAny_pyIter_range (IsRange.new ..) (small_one h1 h2 h3 h4) ?_
 have I1:Inv X pins σ H { s with heap:=s.heap.push { cls:=.type "range",data:=.fields #[.int lo t,.int hi u,.int 1 v] },toks:=tk }:=I.kept λb o e=>Heap.get?_push_of_some _ e
 refine⟨(s.heap.push { cls:=.type "range",data:=.fields #[.int lo t,.int hi u,.int 1 v] }).objs.size,[(s.heap.push { cls:=.type "range",data:=.fields #[.int lo t,.int hi u,.int 1 v] }).objs.size],_,_,H,rfl,
  I1.kept (t':=tk) λb o e=>Heap.get?_push_of_some _ e,zsI _ lo (hi-lo).toNat,?_,λb hb=>?_,q⟩
 ·have e1:lo+((0:Nat):Int)*1=lo:=by simp
  have e2:(((hi-lo).toNat:Nat):Int)-((0:Nat):Int)=Builtin.Range.rangeSize lo hi 1:=by rw[rangeSize_one]; split <;> omega
  show IsRangeIter _ _ (lo+((0:Nat):Int)*1) ((((hi-lo).toNat:Nat):Int)-((0:Nat):Int)) 1
  rw[e1,e2]
  exact Heap.get?_push_size _ rfl
 ·have e:b=(s.heap.push { cls:=.type "range",data:=.fields #[.int lo t,.int hi u,.int 1 v] }).objs.size:=by simpa using hb
  subst e
  exact I1.fpOk (Vad _) (I1.hok.fresh (Vad _))
def zpI (ta:TA):TI:=λσ H R=>ta σ H λvs H1=>∃j:Int,vs=[.int j]∧-(2^62)≤j∧j<2^62∧R (Itr 0 j.toNat) H1
theorem znL {a:Expr}{ta:TA}{p pos:Pos}(hg:Gl X "range")(hm:X.mg "range"=none)(ha:PA X [a] ta)(hs:starEach [a] X.env=[(false,eval a X.env)]:=by rfl):PI X tg (.Call (.Name "range" p) [a] [] pos) (zpI ta):=by
 intro pins s σ H R I h
 refine Call_ (zeO I hg hm boot_range (PyProof.Rows.callWith_type1 (thn (ha pos pins s σ H _ I h) λus s1 ⟨vs,H1,I1,r1,q1⟩=>?_) hs rfl))
 obtain⟨j,e,q1,q2,q⟩:=q1
 subst e
 cases r1 with
 | cons r rr=>
  cases rr
  obtain⟨t,rfl⟩:=r
  exact call_range_1 (zuv I1 (by omega) (by omega) q1 q2 (by simpa using q))
def tFor (wi:TI)(g:TG)(tb:TS):TS:=λD σ H=>wi σ H λJ H1=>∃W:Nat→Nat→St→Hp→Prop,(∃m,W 0 m σ H1)∧∀i m σ H,W i m σ H→
 (J.stop i H∧D.nx σ H)∨(J.go i H∧∃N:St→Hp→Prop,(∀σ' H',N σ' H'→∃m',m'<m∧W (i+1) m' σ' H')∧∀x H',J.yld i H x H'→g x σ H' λσ2 H2=>tb { D with nx:=N,ct:=N,bk:=D.nx } σ2 H2)
def zfW (fp:List Addr)(h:Heap):List (Addr×Obj):=fp.filterMap λb=>(h.get? b).map λo=>(b,o)
theorem zeS {fp:List Addr}{h:Heap}{b:Addr}{o:Obj}(hb:b∈fp)(e:h.get? b=some o):(b,o)∈zfW fp h:=List.mem_filterMap.mpr ⟨b,hb,by rw[e]; rfl⟩
theorem zr6 {fp:List Addr}{h:Heap}{p:Addr×Obj}(hp:p∈zfW fp h):p.1∈fp∧h.get? p.1=some p.2:=by
 obtain⟨b,hb,e⟩:=List.mem_filterMap.mp hp
 cases q:h.get? b with
 | none=>rw[q] at e; cases e
 | some o=>
  rw[q] at e
  have e':(b,o)=p:=Option.some.inj e
  subst e'
  exact⟨hb,q⟩
theorem Inv.pinned {pins:List (Addr×Obj)}{σ:St}{H:Hp}{s:Shared}{fp:List Addr}(I:Inv X pins σ H s)(hf:∀b∈fp,zbK X pins H b)(ho:∀b∈fp,∃o,s.heap.get? b=some o∧∀v,o.data≠.cell v):Inv X (pins++zfW fp s.heap) σ H s:=
 I.pins_of λp hp=>(VaO.mp hp).elim (λz=>I.pin p (VaG _ z)) λz=>by
  obtain⟨hb,e⟩:=zr6 z
  obtain⟨f0,f1,f2,_⟩:=hf p.1 hb
  obtain⟨o,e',d⟩:=ho p.1 hb
  rw[e] at e'; cases e'
  exact⟨e,f0,f1,f2,d⟩
theorem Inv.unpinned {pins pl:List (Addr×Obj)}{σ:St}{H:Hp}{s:Shared}(I:Inv X (pins++pl) σ H s):Inv X pins σ H s:=I.pins_of λp hp=>I.pin p (VaG _ (List.mem_append_left _ hp))
theorem znE {iter:Expr}{body:List Stmt}{wi:TI}{g:TG}{tb:TS}{pos:Pos}(hp:PassesOwn (model X.prog X.w) X.A X.env X.xe)(hc:X.calm=true)(hi:PI X tg iter wi)(hg:PG X tg g)(hb:PSs X body tb)
  (hs:∀x,foldedSetIterable iter X.env x=pure x:=by intro _; rfl):PS X (.For tg iter body [] pos) (tFor wi g tb):=by
 intro pins s σ H D I h
 refine wpAny_For (thn (hi pins s σ H _ I h) λv s1 h1=>thn h1 λitv s2 h2=>?_) hs
 obtain⟨it,fp,tn,J,H2,e,I2,T,st2,f2,W,⟨m0,w0⟩,turn⟩:=h2
 subst e
 have stat:∀ {H':Hp},(∀b∈fp,H' b=none)→∀b∈fp,zbK X pins H' b:=λhn b hb=>⟨hn b hb,(f2 b hb).2⟩
 refine codeAny_forLoop_any (λn s'=>∃i σ' H',Inv X pins σ' H' s'∧tn i s'.heap∧(∀b∈fp,H' b=none)∧W i n σ' H') ?_ m0 ⟨0,σ,H2,I2,st2,λb hb=>(f2 b hb).1,w0⟩
 rintro n s3 ⟨i,σ3,H3,I3,st3,fr3,w3⟩
 rcases turn i n σ3 H3 w3 with ⟨stop,qn⟩ | ⟨go,N,hN,step⟩
 ·refine wpAny_passesOwn hp (thn (T.done X rfl rfl rfl hc i pins s3 σ3 H3 X.xe I3 (stat fr3) st3 stop) λr s4 ⟨hr,I4⟩=>?_)
  subst hr
  exact wpAny_execs_nil ⟨σ3,H3,I4,qn⟩
 ·refine wpAny_passesOwn hp (thn (T.item X rfl rfl rfl hc i pins s3 σ3 H3 X.xe I3 (stat fr3) st3 go) λr s4 ⟨u,hr,h4⟩=>?_)
  subst hr
  refine wpAny_passesOwn hp (thn h4 λ_ s5 ⟨x,H5,I5,r5,y5,st5,fr5⟩=>?_)
  have I5':=I5.pinned (stat fr5) (T.obj _ _ st5)
  refine wpAny_passesOwn hp (thn (hg _ s5 σ3 H5 x u _ I5' r5 (step x H5 y5)) λ_ s6 ⟨σ6,H6,I6,q6⟩=>?_)
  refine wpAny_passesOwn hp (thn (hb _ s6 σ6 H6 _ I6 q6) λf s7 q7=>?_)
  have again:∀ {σ7:St} {H7:Hp},Inv X (pins++zfW fp s5.heap) σ7 H7 s7→N σ7 H7→∃m,m<n∧∃i σ' H',Inv X pins σ' H' s7∧tn i s7.heap∧(∀b∈fp,H' b=none)∧W i m σ' H':=λ{σ7 H7} I7 n7=>by
   obtain⟨m',hm,w7⟩:=hN σ7 H7 n7
   refine⟨m',hm,i+1,σ7,H7,I7.unpinned,T.keep _ _ _ st5 λb hb o e=>(I7.pin (b,o) (VaG _ (VaG _ (zeS hb e)))).1,λb hb=>?_,w7⟩
   obtain⟨o,e,d⟩:=T.obj _ _ st5 b hb
   exact(I7.pin (b,o) (VaG _ (VaG _ (zeS hb e)))).2.1
  cases f with
  | next=>obtain⟨σ7,H7,I7,n7⟩:=q7; exact again I7 n7
  | cont=>obtain⟨σ7,H7,I7,n7⟩:=q7; exact again I7 n7
  | brk=>obtain⟨σ7,H7,I7,q7⟩:=q7; exact⟨σ7,H7,I7.unpinned,q7⟩
  | ret v=>obtain⟨x7,σ7,H7,I7,r7,q7⟩:=q7; exact⟨x7,σ7,H7,I7.unpinned,r7,q7⟩
end
end L2
namespace L2
open PySem PySem.Spec PyProof.Rows
abbrev R2:=V→V→Hp→VK→Prop
def OpR (X:Cx)(f:Value→Value→Sem Value)(r:R2):Prop:=
 ∀(pins:List (Addr×Obj)) (s:Shared) (σ:St) (H:Hp) (x y:V) (v u:Value) (Q:VK),Inv X pins σ H s→zau x v→zau y u→r x y H Q→
  wpAny (model X.prog X.w) X.A (f v u) (EP X pins σ Q) X.xe s
def UnR (X:Cx)(f:Value→Sem Value)(r:V→Hp→VK→Prop):Prop:=
 ∀(pins:List (Addr×Obj)) (s:Shared) (σ:St) (H:Hp) (x:V) (v:Value) (Q:VK),Inv X pins σ H s→zau x v→r x H Q→
  wpAny (model X.prog X.w) X.A (f v) (EP X pins σ Q) X.xe s
def za7 (X:Cx)(f:Value)(r:List V→Hp→VK→Prop):Prop:=
 ∀(pins:List (Addr×Obj)) (s:Shared) (σ:St) (H:Hp) (xs:List V) (us:List Value) (Q:VK),Inv X pins σ H s→zat xs us→r xs H Q→
  wpAny (model X.prog X.w) X.A (call f us) (EP X pins σ Q) X.xe s
def tOp (r:R2)(ta tb:TE):TE:=λσ H Q=>ta σ H λx H1=>tb σ H1 λy H2=>r x y H2 Q
def tUn (r:V→Hp→VK→Prop)(ta:TE):TE:=λσ H Q=>ta σ H λx H1=>r x H1 Q
def rI (C:Int→Int→Prop)(g:Int→Int→V):R2:=λx y H Q=>∃i j,x=.int i∧y=.int j∧C i j∧Q (g i j) H
def rI0 (g:Int→Int→V):R2:=λx y H Q=>∃i j,x=.int i∧y=.int j∧Q (g i j) H
def rU (g:Int→V):V→Hp→VK→Prop:=λx H Q=>∃i,x=.int i∧Q (g i) H
section
variable {X:Cx}{a b c:Expr}{ta tb tc:TE}{pos:Pos}
theorem binT (ha:PE X a ta)(hb:PE X b tb){pins:List (Addr×Obj)}{s:Shared}{σ:St}{H:Hp}{R:V→V→Hp→Prop}(I:Inv X pins σ H s)
  (h:ta σ H λx H1=>tb σ H1 λy H2=>R x y H2){Q:Value→Shared→Prop}{f:Value→Value→Sem Value}
  (hf:∀v u s2 x y H2,Inv X pins σ H2 s2→zau x v→zau y u→R x y H2→wpAny (model X.prog X.w) X.A (f v u) Q X.xe s2):
  wpAny (model X.prog X.w) X.A (eval a X.env) (λv s₁=>wpAny (model X.prog X.w) X.A (eval b X.env) (λu s₂=>wpAny (model X.prog X.w) X.A (f v u) Q X.xe s₂) X.xe s₁) X.xe s:=by
 refine thn (ha pins s σ H _ I h) λv s1 ⟨x,H1,I1,r1,q1⟩=>?_
 refine thn (hb pins s1 σ H1 _ I1 q1) λu s2 ⟨y,H2,I2,r2,q2⟩=>?_
 exact hf v u s2 x y H2 I2 r1 r2 q2
theorem pe_op {op:Operator}{r:R2}(ho:OpR X (binaryOp op) r)(ha:PE X a ta)(hb:PE X b tb):PE X (.BinOp a op b pos) (tOp r ta tb):=by
 intro pins s σ H Q I h
 exact wpAny_BinOp (binT ha hb I h λv u s2 x y H2 I2 rx ry q=>ho pins s2 σ H2 x y v u Q I2 rx ry q)
theorem pe_un {op:UnaryOp}{r:V→Hp→VK→Prop}(ho:UnR X (unaryOp op) r)(ha:PE X a ta):PE X (.UnaryOp op a pos) (tUn r ta):=by
 intro pins s σ H Q I h
 exact UnaryOp_ (thn (ha pins s σ H _ I h) λv s1 ⟨x,H1,I1,r1,q1⟩=>ho pins s1 σ H1 x v Q I1 r1 q1)
theorem opI {f:Value→Value→Sem Value}{C:Int→Int→Prop}{g:Int→Int→Int}
  (rule:∀(i j:Int) (t u:Tok) (s:Shared) (Q:Value→Shared→Prop) (E:Value→Shared→Prop),C i j→Q (.int (g i j) s.toks) { s with toks:=s.toks+1 }→wpAny (model X.prog X.w) X.A (f (.int i t) (.int j u)) Q E s):
  OpR X f (rI C λi j=>.int (g i j)):=by
 intro pins s σ H x y v u Q I rx ry h
 obtain⟨i,j,rfl,rfl,hc,q⟩:=h
 obtain⟨t,rfl⟩:=rx
 obtain⟨t',rfl⟩:=ry
 exact rule i j t t' s _ _ hc ⟨.int (g i j),H,I.tok _,⟨_,rfl⟩,q⟩
theorem opI0 {f:Value→Value→Sem Value}{g:Int→Int→Int}
  (rule:∀(i j:Int) (t u:Tok) (s:Shared) (Q:Value→Shared→Prop) (E:Value→Shared→Prop),Q (.int (g i j) s.toks) { s with toks:=s.toks+1 }→wpAny (model X.prog X.w) X.A (f (.int i t) (.int j u)) Q E s):
  OpR X f (rI0 λi j=>.int (g i j)):=by
 intro pins s σ H x y v u Q I rx ry h
 obtain⟨i,j,rfl,rfl,q⟩:=h
 obtain⟨t,rfl⟩:=rx
 obtain⟨t',rfl⟩:=ry
 exact rule i j t t' s _ _ ⟨.int (g i j),H,I.tok _,⟨_,rfl⟩,q⟩
theorem zkp {f:Value→Value→Sem Value}{g:Int→Int→Bool}
  (rule:∀(i j:Int) (t u:Tok) (s:Shared) (Q:Value→Shared→Prop) (E:Value→Shared→Prop),Q (.bool (g i j)) s→wpAny (model X.prog X.w) X.A (f (.int i t) (.int j u)) Q E s):
  OpR X f (rI0 λi j=>.bl (g i j)):=by
 intro pins s σ H x y v u Q I rx ry h
 obtain⟨i,j,rfl,rfl,q⟩:=h
 obtain⟨t,rfl⟩:=rx
 obtain⟨t',rfl⟩:=ry
 exact rule i j t t' s _ _ ⟨.bl (g i j),H,I,rfl,q⟩
def CMul (i j:Int):Prop:=(-(2^64)<i∧i<2^64)∨(-(2^64)<j∧j<2^64)
theorem CMul.ok {i j:Int}(h:CMul i j):IntMulOk i j:=by
 rcases h with ⟨h1,h2⟩ | ⟨h1,h2⟩
 ·exact .of_left (intBits_le_64 h1 h2)
 ·exact .of_right (intBits_le_64 h1 h2)
theorem ztT:OpR X (binaryOp .Add) (rI0 λi j=>.int (i+j)):=opI0 λ_ _ _ _ _ _ _ q=>add_int q
theorem zxE:OpR X (binaryOp .Sub) (rI0 λi j=>.int (i-j)):=opI0 λ_ _ _ _ _ _ _ q=>sub_int q
theorem ztR:OpR X (binaryOp .Mod) (rI (λ_ j=>0<j) λi j=>.int (i%j)):=opI λi j _ _ _ _ _ hc q=>by
 have h1:(0:Int)<j:=hc
 exact mod_int' (by omega) (by rw[Int.fmod_eq_emod_of_nonneg i (by omega)]; exact q)
theorem unI {f:Value→Sem Value}{g:Int→Int}
  (rule:∀(i:Int) (t:Tok) (s:Shared) (Q:Value→Shared→Prop) (E:Value→Shared→Prop),Q (.int (g i) s.toks) { s with toks:=s.toks+1 }→wpAny (model X.prog X.w) X.A (f (.int i t)) Q E s):
  UnR X f (rU λi=>.int (g i)):=by
 intro pins s σ H x v Q I rx h
 obtain⟨i,rfl,q⟩:=h
 obtain⟨t,rfl⟩:=rx
 exact rule i t s _ _ ⟨.int (g i),H,I.tok _,⟨_,rfl⟩,q⟩
theorem zsH:UnR X (unaryOp .USub) (rU λi=>.int (-i)):=unI λ_ _ _ _ _ q=>neg_int q
end
def zjH:V→V→Bool
 | .non,.non=>true | .non,.int _=>true | .int _,.non=>true | .non,.bl _=>true | .bl _,.non=>true | .non,.str _=>true | .str _,.non=>true
 | .int _,.int _=>true | .bl _,.bl _=>true | .str _,.str _=>true | .byt _,.byt _=>true
 | .int _,.str _=>true | .str _,.int _=>true | .bl _,.str _=>true | .str _,.bl _=>true
 | _,_=>false
def rEq:R2:=λx y H Q=>zjH x y=true∧Q (.bl (decide (x=y))) H
def rNe:R2:=λx y H Q=>zjH x y=true∧Q (.bl (!decide (x=y))) H
theorem zp5 {i j:Int}:decide (V.int i=V.int j)=(i==j):=by
 rw[Vbe]
 simp
theorem zrs {i j:Bool}:decide (V.bl i=V.bl j)=(i==j):=by
 rw[Vbe]
 simp
theorem zpF {i j:Str}:decide (V.str i=V.str j)=(i==j):=by
 rw[Vbe]
 simp
theorem zpQ {i j:Array UInt8}:decide (V.byt i=V.byt j)=(i.toList==j.toList):=by
 rw[Vbe]
 cases i
 cases j
 simp
section
variable {X:Cx}{a b c:Expr}{ta tb tc:TE}{pos:Pos}
theorem zaX {pins:List (Addr×Obj)}{σ:St}{H:Hp}{s:Shared}{Q:VK}{k k':Bool}(I:Inv X pins σ H s)(q:Q (.bl k) H)(e:k=k'):EP X pins σ Q (.bool k') s:=by
 subst e
 exact⟨.bl k,H,I,rfl,q⟩
theorem zoR:OpR X (compareOp .Eq) rEq:=by
 intro pins s σ H x y v u Q I rx ry h
 obtain⟨hs,q⟩:=h
 cases x with
 | non=>
  cases rx
  cases y with
  | non=>cases ry; exact PySem.EqNone.eq_none_none (zaX I q (by simp))
  | bl j=>cases ry; exact PySem.EqNone.eq_none_bool (zaX I q (by simp))
  | int j=>obtain⟨t',rfl⟩:=ry; exact PySem.EqNone.eq_none_int (zaX I q (by simp))
  | str j=>obtain⟨t',rfl⟩:=ry; exact PySem.EqNone.eq_none_str (zaX I q (by simp))
  | _=>exact absurd (show false=true from hs) Vaq
 | bl i=>
  cases rx
  cases y with
  | non=>cases ry; exact PySem.EqNone.eq_bool_none (zaX I q (by simp))
  | bl j=>cases ry; exact eq_bool (zaX I q zrs)
  | str j=>obtain⟨t',rfl⟩:=ry; exact PySem.EqMixed.eq_bool_str (zaX I q (by simp))
  | _=>exact absurd (show false=true from hs) Vaq
 | int i=>
  obtain⟨t,rfl⟩:=rx
  cases y with
  | non=>cases ry; exact PySem.EqNone.eq_int_none (zaX I q (by simp))
  | int j=>obtain⟨t',rfl⟩:=ry; exact eq_int (zaX I q zp5)
  | str j=>obtain⟨t',rfl⟩:=ry; exact PySem.EqMixed.eq_int_str (zaX I q (by simp))
  | _=>exact absurd (show false=true from hs) Vaq
 | str i=>
  obtain⟨t,rfl⟩:=rx
  cases y with
  | non=>cases ry; exact PySem.EqNone.eq_str_none (zaX I q (by simp))
  | bl j=>cases ry; exact PySem.EqMixed.eq_str_bool (zaX I q (by simp))
  | int j=>obtain⟨t',rfl⟩:=ry; exact PySem.EqMixed.eq_str_int (zaX I q (by simp))
  | str j=>obtain⟨t',rfl⟩:=ry; exact eq_str (zaX I q zpF)
  | _=>exact absurd (show false=true from hs) Vaq
 | byt i=>
  obtain⟨t,rfl⟩:=rx
  cases y with
  | byt j=>obtain⟨t',rfl⟩:=ry; exact PySem.W.eq_bytes (zaX I q zpQ)
  | _=>exact absurd (show false=true from hs) Vaq
 | _=>cases y <;> exact absurd (show false=true from hs) Vaq
theorem op_ne:OpR X (compareOp .NotEq) rNe:=by
 intro pins s σ H x y v u Q I rx ry h
 obtain⟨hs,q⟩:=h
 cases x with
 | non=>
  cases rx
  cases y with
  | non=>cases ry; exact PySem.EqNone.ne_none_none (zaX I q (by simp))
  | bl j=>cases ry; exact PySem.EqNone.ne_none_bool (zaX I q (by simp))
  | int j=>obtain⟨t',rfl⟩:=ry; exact PySem.EqNone.ne_none_int (zaX I q (by simp))
  | str j=>obtain⟨t',rfl⟩:=ry; exact PySem.EqNone.ne_none_str (zaX I q (by simp))
  | _=>exact absurd (show false=true from hs) Vaq
 | bl i=>
  cases rx
  cases y with
  | non=>cases ry; exact PySem.EqNone.ne_bool_none (zaX I q (by simp))
  | bl j=>cases ry; exact ne_bool (zaX I q (congrArg not zrs))
  | str j=>obtain⟨t',rfl⟩:=ry; exact PySem.EqMixed.ne_bool_str (zaX I q (by simp))
  | _=>exact absurd (show false=true from hs) Vaq
 | int i=>
  obtain⟨t,rfl⟩:=rx
  cases y with
  | non=>cases ry; exact PySem.EqNone.ne_int_none (zaX I q (by simp))
  | int j=>obtain⟨t',rfl⟩:=ry; exact ne_int (zaX I q (congrArg not zp5))
  | str j=>obtain⟨t',rfl⟩:=ry; exact PySem.EqMixed.ne_int_str (zaX I q (by simp))
  | _=>exact absurd (show false=true from hs) Vaq
 | str i=>
  obtain⟨t,rfl⟩:=rx
  cases y with
  | non=>cases ry; exact PySem.EqNone.ne_str_none (zaX I q (by simp))
  | bl j=>cases ry; exact PySem.EqMixed.ne_str_bool (zaX I q (by simp))
  | int j=>obtain⟨t',rfl⟩:=ry; exact PySem.EqMixed.ne_str_int (zaX I q (by simp))
  | str j=>obtain⟨t',rfl⟩:=ry; exact ne_str (zaX I q (congrArg not zpF))
  | _=>exact absurd (show false=true from hs) Vaq
 | byt i=>
  obtain⟨t,rfl⟩:=rx
  cases y with
  | byt j=>obtain⟨t',rfl⟩:=ry; exact PySem.W.ne_bytes (zaX I q (congrArg not zpQ))
  | _=>exact absurd (show false=true from hs) Vaq
 | _=>cases y <;> exact absurd (show false=true from hs) Vaq
theorem op_lt:OpR X (compareOp .Lt) (rI0 λi j=>.bl (decide (i<j))):=zkp λ_ _ _ _ _ _ _ q=>lt_int q
theorem op_le:OpR X (compareOp .LtE) (rI0 λi j=>.bl (decide (i≤j))):=zkp λ_ _ _ _ _ _ _ q=>le_int q
theorem op_gt:OpR X (compareOp .Gt) (rI0 λi j=>.bl (decide (j<i))):=zkp λ_ _ _ _ _ _ _ q=>gt_int q
theorem op_ge:OpR X (compareOp .GtE) (rI0 λi j=>.bl (decide (j≤i))):=zkp λ_ _ _ _ _ _ _ q=>ge_int q
theorem zwx:OpR X (compareOp .Is) (λx y H Q=>y=.non∧Q (.bl (decide (x=.non))) H):=by
 intro pins s σ H x y v u Q I rx ry h
 obtain⟨rfl,q⟩:=h
 cases ry
 refine is_none_gen (zaX I q ?_)
 cases x <;> first
  | (cases rx; rfl)
  | (obtain⟨t,rfl⟩:=rx; rfl)
theorem OpR.or {f:Value→Value→Sem Value}{r r':R2}(h:OpR X f r)(h':OpR X f r'):OpR X f (λx y H Q=>r x y H Q∨r' x y H Q):=by
 intro pins s σ H x y v u Q I rx ry q
 rcases q with q | q
 ·exact h pins s σ H x y v u Q I rx ry q
 ·exact h' pins s σ H x y v u Q I rx ry q
theorem zaC (b:Expr){op:CmpOp}(h:op≠.In:=by decide)(h2:op≠.NotIn:=by decide):behindInMarks op b=false:=by
 have e1:(op==CmpOp.In)=false:=by cases op <;> first | rfl | exact absurd rfl h
 have e2:(op==CmpOp.NotIn)=false:=by cases op <;> first | rfl | exact absurd rfl h2
 cases b <;> simp[behindInMarks,e1,e2]
theorem zuh {op:CmpOp}{r:R2}(ho:OpR X (compareOp op) r)(ha:PE X a ta)(hb:PE X b tb)(hm:behindInMarks op b=false):PE X (.Compare a [op] [b] pos) (tOp r ta tb):=by
 intro pins s σ H Q I h
 exact wpAny_Compare1 (binT ha hb I h λv u s2 x y H2 I2 rx ry q=>ho pins s2 σ H2 x y v u Q I2 rx ry q) hm
def zqE (t:TE):TT:=λσ H Q=>t σ H λx H'=>∃k,x=.bl k∧Q k H'
theorem zwB {op:CmpOp}{r:R2}(ho:OpR X (compareOp op) r)(ha:PE X a ta)(hb:PE X b tb)(hm:behindInMarks op b=false):PT X (.Compare a [op] [b] pos) (zqE (tOp r ta tb)):=by
 intro pins s σ H Q I h
 refine wpAny_isTrue_Compare1 (thn (ha pins s σ H _ I h) λv s1 ⟨x,H1,I1,r1,q1⟩=>thn (hb pins s1 σ H1 _ I1 q1) λu s2 ⟨y,H2,I2,r2,q2⟩=>
  thn (ho pins s2 σ H2 x y v u _ I2 r1 r2 q2) λc s3 ⟨z,H3,I3,r3,k,e,q3⟩=>?_) hm
 subst e
 cases r3
 exact wpAny_truthy_bool ⟨H3,I3,q3⟩
def zpO (r r':R2)(ta tb tc:TE):TE:=λσ H Q=>ta σ H λx H1=>tb σ H1 λy H2=>r x y H2 λz H3=>∃k,z=.bl k∧
 (if k=true then tc σ H3 λw' H4=>r' y w' H4 Q else Q (.bl false) H3)
theorem zuM {op op':CmpOp}{r r':R2}(ho:OpR X (compareOp op) r)(ho':OpR X (compareOp op') r')(ha:PE X a ta)(hb:PE X b tb)(hc:PE X c tc)
  (hm:lastMarks [op,op'] [b,c]=false:=by with_unfolding_all rfl):PT X (.Compare a [op,op'] [b,c] pos) (zqE (zpO r r' ta tb tc)):=by
 intro pins s σ H Q I h
 refine isTrue_chain (thn (ha pins s σ H _ I h) λv s1 ⟨x,H1,I1,r1,q1⟩=>test_link (thn (hb pins s1 σ H1 _ I1 q1) λu s2 ⟨y,H2,I2,r2,q2⟩=>
  thn (ho pins s2 σ H2 x y v u _ I2 r1 r2 q2) λd s3 ⟨z,H3,I3,r3,k,e,q3⟩=>?_)) hm
 subst e
 cases r3
 refine wpAny_truthy_bool ?_
 cases k with
 | false=>
  obtain⟨k',e',q'⟩:=q3
  cases e'
  exact ite_ff ⟨H3,I3,q'⟩
 | true=>
  refine ite_tt (test_last (thn (hc pins s3 σ H3 _ I3 q3) λw' s4 ⟨z',H4,I4,r4,q4⟩=>thn (ho' pins s4 σ H4 y z' u w' _ I4 r2 r4 q4) λd' s5 ⟨z2,H5,I5,r5,k2,e2,q5⟩=>?_))
  subst e2
  cases r5
  exact wpAny_truthy_bool ⟨H5,I5,q5⟩
theorem zin:(sizeLine:Nat)<2^63:=by rw[sizeLine_eq]; decide
theorem zdJ {x:V}{us:List Value}(r:zat [x] us):∃u,us=[u]∧zau x u:=by
 cases r with
 | cons r1 r2=>cases r2; exact⟨_,rfl,r1⟩
theorem zof {x y:V}{us:List Value}(r:zat [x,y] us):∃u w',us=[u,w']∧zau x u∧zau y w':=by
 cases r with
 | cons r1 r2=>
  cases r2 with
  | cons r3 r4=>cases r4; exact⟨_,_,rfl,r1,r3⟩
theorem zyk:za7 X (.builtin "abs") (λxs H Q=>∃i,xs=[.int i]∧Q (.int (if i<0 then -i else i)) H):=by
 intro pins s σ H xs us Q I r h
 obtain⟨i,rfl,q⟩:=h
 obtain⟨u,rfl,t,rfl⟩:=zdJ r
 exact call_abs_int λu tk=>⟨.int (if i<0 then -i else i),H,I.tok _,⟨_,rfl⟩,q⟩
theorem zvc (hc:X.calm=true):za7 X (.builtin "max") (λxs H Q=>∃i j,xs=[.int i,.int j]∧Q (.int (if j > i then j else i)) H):=by
 intro pins s σ H xs us Q I r h
 obtain⟨i,j,rfl,q⟩:=h
 obtain⟨u,w',rfl,⟨t,rfl⟩,⟨t',rfl⟩⟩:=zof r
 refine max_two_ints (I.ok.hd hc) λh' tk k=>⟨_,H,I.kept k,?_,q⟩
 by_cases hj:j > i
 ·rw[if_pos hj,if_pos hj]; exact⟨_,rfl⟩
 ·rw[if_neg hj,if_neg hj]; exact⟨_,rfl⟩
theorem zs9 (hc:X.calm=true):za7 X (.builtin "min") (λxs H Q=>∃i j,xs=[.int i,.int j]∧Q (.int (if j<i then j else i)) H):=by
 intro pins s σ H xs us Q I r h
 obtain⟨i,j,rfl,q⟩:=h
 obtain⟨u,w',rfl,⟨t,rfl⟩,⟨t',rfl⟩⟩:=zof r
 refine min_two_ints (I.ok.hd hc) λh' tk k=>⟨_,H,I.kept k,?_,q⟩
 by_cases hj:j<i
 ·rw[if_pos hj,if_pos hj]; exact⟨_,rfl⟩
 ·rw[if_neg hj,if_neg hj]; exact⟨_,rfl⟩
end
end L2
namespace L2
open PySem PySem.Spec PyProof.Rows
structure zes (h:Heap)(x dx C:Addr)(mA:Str→Option Value):Prop where
 obj:h.get? x=some (PySem.W.instObj C dx)
 ns:h.Ns1 dx mA
 ne:dx≠x
theorem zsg {h:Heap}{dx:Addr}{mA:Str→Option Value}(n:h.Ns1 dx mA):∃od,h.get? dx=some od∧∀name,PySem.W.lookIn name od=some (mA name):=by
 obtain⟨o,es,ep,ho,hd,hk,_,hm⟩:=n
 refine⟨o,ho,λname=>?_⟩
 have e:=hm name
 unfold nsFind findBy at e
 rw[← Array.find?_toList] at e
 unfold PySem.W.lookIn
 rw[hd]
 dsimp only
 split
 ·rename_i y q
  rw[q] at e
  exact congrArg some e
 ·rename_i q
  rw[q] at e
  have a:es.toList.any (·.refKey)=false:=by
   rw[List.any_eq_false]
   intro y hy
   obtain⟨z,t,hkey⟩:=hk y (Array.mem_toList_iff.mp hy)
   simp[DictEntry.refKey,hkey]
  have a':¬ es.toList.any (·.refKey)=true:=by rw[a]; exact Vaq
  rw[if_neg a']
  exact congrArg some e
theorem zes.look {h:Heap}{x dx C:Addr}{mA:Str→Option Value}(I:zes h x dx C mA):∃od,PySem.W.InstAt h x (PySem.W.instObj C dx) C (some od)∧∀name,PySem.W.lookIn name od=some (mA name):=
 let ⟨od,ho,hl⟩:=zsg I.ns
 ⟨od,⟨I.obj,rfl,rfl,ho⟩,hl⟩
section
variable {prog:Program}{w:World}{A:Around}{E:Value→Shared→Prop}{s:Shared}{K:PySem.W.Frag}{x dx C f:Addr}{mA:Str→Option Value}{name:Str}{v:Value}
theorem zuH {expr:Bool}{Q:Value→Shared→Prop}(X:K.In s.heap)(I:zes s.heap x dx C mA)(hg:PySem.W.plainGet K C name=true)(hh:PySem.W.hasDictIn K C=true)
  (ha:PySem.W.findIn K (.ref C) name=some none)(hv:mA name=some v)(hv':PySem.W.handedIn v=true)(h:Q v { s with toks:=s.toks+1 }):
  wpAny (model prog w) A (getAttr (.ref x) name expr) Q E s:=by
 obtain⟨od,J,hl⟩:=I.look
 exact PySem.W.get_value X J (PySem.W.plainGet_of hg).1 (PySem.W.findObj_own hh ha rfl (by rw[hl,hv])) hv' h
theorem zwQ {pl:Sem Bool}{Q:Value×List Value→Shared→Prop}(X:K.In s.heap)(I:zes s.heap x dx C mA)(hg:PySem.W.plainGet K C name=true)
  (hf:PySem.W.findIn K (.ref C) name=some (some (.ref f)))(ht:PySem.W.isFn K (.ref f)=true)(hv:mA name=none)(h:Q (.ref f,[.ref x]) s):
  wpAny (model prog w) A (getMethod (.ref x) name pl) Q E s:=by
 obtain⟨od,J,hl⟩:=I.look
 exact PySem.W.method_fn X J (PySem.W.plainGet_of hg).1 (PySem.W.plainGet_of hg).2 hf (beq_iff_eq.mp ht) (by show (PySem.W.lookIn name od).map (·.isSome)=some false; rw[hl,hv]; rfl) h
theorem ztZ {ns:List Str}{Q:Unit→Shared→Prop}(X:K.In s.heap)(I:zes s.heap x dx C mA)
  (hs:PySem.W.findIn K (.ref C) "__setattr__"=some (some (.builtin "object.__setattr__")))(hp:PySem.W.plainOver K C=true)(ht:PySem.W.takerIn K C name=some none)(hh:PySem.W.hasDictIn K C=true)
  (hw:PySem.Within mA ns)(hsz:ns.length≤sizeLine)
  (h:∀h',zes h' x dx C (λy=>if y=name then some v else mA y)→Heap.SameBut dx s.heap h'→Q () { s with heap:=h',toks:=s.toks+2 }):
  wpAny (model prog w) A (setAttr (.ref x) name v) Q E s:=by
 obtain⟨od,J,hl⟩:=I.look
 refine PySem.W.set_plain X J hs (PySem.W.osa_open (s:={ s with toks:=s.toks+1 }) (r:=none) X J hp ht λb=>?_)
 obtain⟨cd,hc,hd'⟩:=PySem.W.any_some hh
 have hx:s.heap.get? x=some ⟨.ref C,some dx,.plain,#[]⟩:=I.obj
 refine wpAny_bind (wpAny_pure (wpAny_bind (wpAny_bind (wpAny_loadPart hx (wpAny_bind (PySem.W.Looks.here (s:={ s with toks:=s.toks+1 }) (PySem.W.looks_clsIn X hc) ?_))))))
 rw[hd']
 refine wpAny_pure (a:=some dx) (wpAny_bind (wpAny_pure (wpAny_bind ?_)))
 refine wpAny_nsSet1 (s:={ s with toks:=s.toks+1 }) I.ns λh' hn2 hs2=>?_
 obtain⟨oD,esD,epD,hoD,hdD,hcD⟩:=hn2.count (PySem.Within.cons name v hw)
 refine wpAny_bind (wpAny_lookBehind hoD (by rw[hdD]; exact pastItsLine_dict (VaA hcD (by rw[Vay]; omega))) ?_)
 exact wpAny_pure (h _ ⟨(hs2.2 _ (Ne.symm I.ne)).trans I.obj,hn2,I.ne⟩ hs2)
theorem zsO {R:Result→Shared→Prop}{vs:List Value}{kw:List (Str×Value)}(X:K.In s.heap)(hm:PySem.W.makesIn K C=true)
  (hi:PySem.W.findIn K (.ref C) "__init__"=some (some (.ref f)))(hf:PySem.W.typeIn K (.ref f)=some (.type "function"))
  (h:codeAny (model prog w) (A.under (.builtin "type.__call__" ⟨.ref C::vs,kw⟩)) (.call (.ref f) ⟨.ref (s.heap.objs.size+1)::vs,kw⟩) (PySem.W.InitBack (s.heap.objs.size+1) R)
   { s with heap:=(s.heap.push PySem.W.emptyDict).push (PySem.W.instObj C s.heap.objs.size) }):
  codeAny (model prog w) A (.call (.ref C) ⟨vs,kw⟩) R s:=by
 obtain⟨hh,g,d,t,os⟩:=s
 exact PySem.W.make_core (PySem.W.makes_of X hm) (PySem.W.looks_findIn X hi) (λself=>PySem.W.bind_fn X self hf) (.inl rfl) h
end
def zbw (f:Str)(v:V):List (Str×V)→List (Str×V)
 | []=>[(f,v)]
 | (g,x)::r=>if g=f then (g,v)::r else (g,x)::zbw f v r
theorem zpC (f g:Str)(v:V):∀fs:List (Str×V),(zbw f v fs).lookup g=if g=f then some v else fs.lookup g
 | []=>by
  show List.lookup g [(f,v)]=_
  by_cases h:g=f
  ·have hb:(g==f)=true:=beq_iff_eq.mpr h
   simp only[List.lookup,hb,if_pos h]
  ·have hb:(g==f)=false:=beq_eq_false_iff_ne.mpr h
   simp only[List.lookup,hb,if_neg h]
 | (k,x)::r=>by
  have ih:=zpC f g v r
  rw[show zbw f v ((k,x)::r)=(if k=f then (k,v)::r else (k,x)::zbw f v r) from rfl]
  by_cases hk:k=f
  ·rw[if_pos hk]
   by_cases h:g=k
   ·have hb:(g==k)=true:=beq_iff_eq.mpr h
    simp only[List.lookup,hb,if_pos (h.trans hk)]
   ·have hb:(g==k)=false:=beq_eq_false_iff_ne.mpr h
    simp only[List.lookup,hb,if_neg (λe:g=f=>h (e.trans hk.symm))]
  ·rw[if_neg hk]
   by_cases h:g=k
   ·have hb:(g==k)=true:=beq_iff_eq.mpr h
    simp only[List.lookup,hb,if_neg (λe:g=f=>hk (h.symm.trans e))]
   ·have hb:(g==k)=false:=beq_eq_false_iff_ne.mpr h
    simp only[List.lookup,hb]
    exact ih
theorem zmY (f:Str)(v:V):∀fs:List (Str×V),f∈(zbw f v fs).map (·.1)∧∀g,g∈fs.map (·.1)→g∈(zbw f v fs).map (·.1)
 | []=>⟨by simp[zbw],λg h=>by simp at h⟩
 | (k,x)::r=>by
  obtain⟨i1,i2⟩:=zmY f v r
  rw[show zbw f v ((k,x)::r)=(if k=f then (k,v)::r else (k,x)::zbw f v r) from rfl]
  by_cases hk:k=f
  ·rw[if_pos hk]
   subst hk
   exact⟨by simp,λg h=>by simpa using h⟩
  ·rw[if_neg hk]
   refine⟨?_,λg h=>?_⟩
   ·rw[Vas]
    exact VaN _ i1
   ·rw[Vas] at h ⊢
    rcases Vaw.mp h with e | e
    ·exact Vaw.mpr (.inl e)
    ·exact VaN _ (i2 g e)
theorem zpn (f:Str)(v:V):∀fs:List (Str×V),(zbw f v fs).length≤fs.length+1
 | []=>by simp[zbw]
 | (k,x)::r=>by
  have ih:=zpn f v r
  rw[show zbw f v ((k,x)::r)=(if k=f then (k,v)::r else (k,x)::zbw f v r) from rfl]
  by_cases hk:k=f
  ·rw[if_pos hk,Vay,Vay]; omega
  ·rw[if_neg hk,Vay,Vay]; omega
theorem zb0.some_of {v:V}{o:Option Value}(r:zb0 (some v) o):∃u,o=some u∧zau v u:=by
 cases o with
 | none=>exact(show False from r).elim
 | some u=>exact⟨u,rfl,r⟩
theorem zb0.none_of {o:Option Value}(r:zb0 none o):o=none:=by
 cases o with
 | none=>rfl
 | some u=>exact(show False from r).elim
theorem zyB {v:V}{u:Value}(r:zau v u):PySem.W.handedIn u=true:=by
 cases v with
 | non=>cases (show u=Value.none from r); rfl
 | bl b=>cases (show u=Value.bool b from r); rfl
 | int i=>obtain⟨t,e⟩:=(show ∃t,u=Value.int i t from r); cases e; rfl
 | str x=>obtain⟨t,e⟩:=(show ∃t,u=Value.str x t from r); cases e; rfl
 | byt b=>obtain⟨t,e⟩:=(show ∃t,u=Value.bytes b t from r); cases e; rfl
 | flt b=>obtain⟨t,e⟩:=(show ∃t,u=Value.float b t from r); cases e; rfl
 | ref a=>cases (show u=Value.ref a from r); rfl
 | ty n=>cases (show u=Value.type n from r); rfl
section
variable {P:Program}{w:World}{H H':Hp}{h h':Heap}{a C dx:Addr}{fs fs':List (Str×V)}
theorem zjs (hok:HOk P w H h)(e:H a=some (.ins C dx fs)):∃mA,zes h a dx C mA∧(∀f,zb0 (fs.lookup f) (mA f))∧PySem.Within mA (fs.map (·.1))∧fs.length≤1000∧H dx=some (.own a):=by
 obtain⟨d,z,ne,ob,mA,n,r,q⟩:=(show zbu P w H h a (.ins C dx fs) from hok a _ e)
 exact⟨mA,⟨ob,n,ne⟩,r,q,z,d⟩
end
structure Cls (K:PySem.W.Frag)(C:Addr):Prop where
 pg:PySem.W.plainGet K C Str.empty=true
 hd:PySem.W.hasDictIn K C=true
 po:PySem.W.plainOver K C=true
 sa:PySem.W.findIn K (.ref C) "__setattr__"=some (some (.builtin "object.__setattr__"))
theorem Cls.get {K:PySem.W.Frag}{C:Addr}(c:Cls K C)(f:Str):PySem.W.plainGet K C f=true:=c.pg
def zbz (K:PySem.W.Frag)(C:Addr)(f:Str):Prop:=PySem.W.findIn K (.ref C) f=some none
theorem zbz.taker {K:PySem.W.Frag}{C:Addr}{f:Str}(n:zbz K C f):PySem.W.takerIn K C f=some none:=by
 unfold PySem.W.takerIn
 rw[show PySem.W.findIn K (.ref C) f=some none from n]
 rfl
structure Con (K:PySem.W.Frag)(C:Addr)(f:Str)(v:V)(u:Value):Prop where
 at_:PySem.W.findIn K (.ref C) f=some (some u)
 rel:zau v u
 get:PySem.W.specialIn K u "__get__"=some none
 cp:PySem.W.copiedNames.contains f=false
structure zfi (K:PySem.W.Frag)(C:Addr)(m:Str)(f:Addr):Prop where
 at_:PySem.W.findIn K (.ref C) m=some (some (.ref f))
 fn:PySem.W.isFn K (.ref f)=true
 kp:PySem.W.keepIn K (.ref f)=true
section
variable {X:Cx}{pins:List (Addr×Obj)}{σ:St}{H:Hp}{s:Shared}{a C dx:Addr}{fs:List (Str×V)}{f:Str}{v:V}{A:Around}{E:Value→Shared→Prop}
theorem zst {b:Bool}{Q:Value→Shared→Prop}(I:Inv X pins σ H s)(e:H a=some (.ins C dx fs))(c:Cls X.K C)(n:zbz X.K C f)(l:fs.lookup f=some v)
  (h:∀u s',Inv X pins σ H s'→zau v u→Q u s'):wpAny (model X.prog X.w) A (getAttr (.ref a) f b) Q E s:=by
 obtain⟨mA,O,r,_,_,_⟩:=zjs I.hok e
 obtain⟨u,hu,ru⟩:=zb0.some_of (v:=v) (o:=mA f) (by rw[← l]; exact r f)
 exact zuH I.kIn O (c.get f) c.hd n hu (zyB ru) (h u _ (I.tok _) ru)
theorem zpf {m:Str}{g:Addr}{pl:Sem Bool}{Q:Value×List Value→Shared→Prop}(I:Inv X pins σ H s)(e:H a=some (.ins C dx fs))(c:Cls X.K C)(k:zfi X.K C m g)(l:fs.lookup m=none)
  (h:Q (.ref g,[.ref a]) s):wpAny (model X.prog X.w) A (getMethod (.ref a) m pl) Q E s:=by
 obtain⟨mA,O,r,_,_,_⟩:=zjs I.hok e
 have hn:mA m=none:=zb0.none_of (by rw[← l]; exact r m)
 exact zwQ I.kIn O (c.get m) k.at_ k.fn hn h
theorem zsz {y:V}{u:Value}{Q:Unit→Shared→Prop}(I:Inv X pins σ H s)(e:H a=some (.ins C dx fs))(c:Cls X.K C)(n:zbz X.K C f)(hl:fs.length<1000)(ry:zau y u)
  (h:∀s',Inv X pins σ (upd H a (.ins C dx (zbw f y fs))) s'→Q () s'):wpAny (model X.prog X.w) A (setAttr (.ref a) f u) Q E s:=by
 obtain⟨mA,O,r,wi,_,ho⟩:=zjs I.hok e
 have hz:(fs.map (·.1)).length≤sizeLine:=by rw[Vac,sizeLine_eq]; omega
 refine ztZ I.kIn O c.sa c.po n.taker c.hd wi hz λh' O' sb=>h _ ?_
 have hd:∃o,h'.get? dx=some o:=let ⟨o,_,_,e',_⟩:=O'.ns; ⟨o,e'⟩
 refine I.write (x:=a) (e:=dx) (by rw[e]; exact True.intro) (.inr ho) (λb q hb z=>(sb.2 b hb).trans z) hd ?_
 refine⟨by rw[za0 O.ne]; exact ho,?_,O.ne,O'.obj,_,O'.ns,λg=>?_,λg hg=>?_⟩
 ·have:=zpn f y fs; omega
 ·show zb0 ((zbw f y fs).lookup g) (if g=f then some u else mA g)
  rw[zpC]
  by_cases q:g=f
  ·rw[if_pos q,if_pos q]; exact ry
  ·rw[if_neg q,if_neg q]; exact r g
 ·by_cases q:g=f
  ·rw[q]; exact(zmY f y fs).1
  ·refine(zmY f y fs).2 g (wi g λz=>hg ?_)
   show (if g=f then some u else mA g)=none
   rw[if_neg q]; exact z
theorem Inv.made (I:Inv X pins σ H s):Inv X pins σ (upd (upd H s.heap.objs.size (.own (s.heap.objs.size+1))) (s.heap.objs.size+1) (.ins C s.heap.objs.size []))
  { s with heap:=(s.heap.push PySem.W.emptyDict).push (PySem.W.instObj C s.heap.objs.size) }:=by
 have e1:(s.heap.push PySem.W.emptyDict).get? s.heap.objs.size=some PySem.W.emptyDict:=Heap.get?_push_size s.heap rfl
 have e2:((s.heap.push PySem.W.emptyDict).push (PySem.W.instObj C s.heap.objs.size)).get? (s.heap.objs.size+1)=some (PySem.W.instObj C s.heap.objs.size):=by
  have:=Heap.get?_push_size (s.heap.push PySem.W.emptyDict) (o:=PySem.W.instObj C s.heap.objs.size) rfl
  rwa [Heap.size_push] at this
 have e3:(s.heap.push PySem.W.emptyDict).Ns s.heap.objs.size (λ_=>none):=⟨PySem.W.emptyDict,#[],_,e1,rfl,(λe he=>absurd he (by simp)),λ_=>rfl⟩
 have I1:=I.laid (a:=s.heap.objs.size) (o:=.own (s.heap.objs.size+1)) (h':=s.heap.push PySem.W.emptyDict) (t':=s.toks) (λb u q=>Heap.get?_push_of_some _ q) (Vad _) ⟨_,e1⟩
 refine I1.laid (a:=s.heap.objs.size+1) (o:=.ins C s.heap.objs.size []) (t':=s.toks) (λb u q=>Heap.get?_push_of_some _ q) (Nat.le_of_eq (Heap.size_push _ _)) ?_
 have ne:s.heap.objs.size≠s.heap.objs.size+1:=Vap (Nat.lt_succ_self _)
 refine⟨by rw[za0 ne,zcK],Vat _,ne,e2,λ_=>none,(Heap.Ns1.of_empty e3).at λo q=>Heap.get?_push_of_some _ q,λ_=>True.intro,λy hy=>absurd rfl hy⟩
theorem zrL {prog:Program}{w:World}{env:Env}{e:Expr}{f:Str}{pos:Pos}{s:Shared}{Q:Value→Shared→Prop}(hb:attributeBase e f env (eval e env)=eval e env)
  (h:wpAny (model prog w) A (eval e env) (λo s₁=>wpAny (model prog w) A (getAttr o f true) Q E s₁) E s):wpAny (model prog w) A (eval (.Attribute e f pos) env) Q E s:=
 Attribute_any_ h (by rw[arm_eval_Attribute,hb])
end
def tFld (K:PySem.W.Frag)(ta:TE)(f:Str):TE:=λσ H Q=>ta σ H λx H1=>∃a C dx fs v,x=.ref a∧H1 a=some (.ins C dx fs)∧Cls K C∧zbz K C f∧fs.lookup f=some v∧Q v H1
def sFld (K:PySem.W.Frag)(ta tv:TE)(f:Str):TS:=λD σ H=>tv σ H λy H1=>ta σ H1 λx H2=>∃a C dx fs,x=.ref a∧H2 a=some (.ins C dx fs)∧Cls K C∧zbz K C f∧fs.length<1000∧
 D.nx σ (upd H2 a (.ins C dx (zbw f y fs)))
section
variable {X:Cx}{o e value:Expr}{f:Str}{pos pos' tpos:Pos}{ta tv:TE}
theorem zvz (he:PE X e ta)(hb:attributeBase e f X.env (eval e X.env)=eval e X.env):PE X (.Attribute e f pos) (tFld X.K ta f):=by
 intro pins s σ H Q I h
 refine zrL hb (thn (he pins s σ H _ I h) λu s1 ⟨x,H1,I1,rx,a,C,dx,fs,v,ex,ea,c,n,l,q⟩=>?_)
 subst ex
 obtain rfl:u=Value.ref a:=rx
 exact zst I1 ea c n l λu' s2 I2 ru=>⟨v,H1,I2,ru,q⟩
theorem zwr (ha:PE X o ta)(hv:PE X value tv)(hs:swapsWith value (some (.Attribute o f pos')) pos.line X.env=pure false):PS X (.Assign [.Attribute o f pos'] value pos) (sFld X.K ta tv f):=by
 intro pins s σ H D I h
 refine plainObj_wpAny_Assign_Attribute (thn (hv pins s σ H _ I h) λu s1 ⟨y,H1,I1,ry,q⟩=>thn (ha pins s1 σ H1 _ I1 q) λov s2 ⟨x,H2,I2,rx,a,C,dx,fs,ex,ea,c,n,l,q2⟩=>?_) hs
 subst ex
 obtain rfl:ov=Value.ref a:=rx
 exact zsz I2 ea c n l ry λs3 I3=>⟨σ,_,I3,q2⟩
end
section
variable {X:Cx}{pins:List (Addr×Obj)}{σ:St}{H:Hp}{s:Shared}{A:Around}{E:Value→Shared→Prop}{Q:Value→Shared→Prop}{c:Value}{b:Bool}
inductive zcz (K:PySem.W.Frag)(H:Hp):V→Value→Prop where
 | non:zcz K H .non (.type "NoneType")
 | bl (x:Bool):zcz K H (.bl x) (.type "bool")
 | int (i:Int):zcz K H (.int i) (.type "int")
 | str (x:Str):zcz K H (.str x) (.type "str")
 | flt (x:UInt64):zcz K H (.flt x) (.type "float")
 | lst {a:Addr} {xs:List V} (e:H a=some (.lst xs)):zcz K H (.ref a) (.type "list")
 | frz {a:Addr} {o:Obj} {xs:List V} (e:H a=some (.frz o (.lst xs))):zcz K H (.ref a) (.type "list")
 | tup {a:Addr} {xs:List V} (e:H a=some (.tup xs)):zcz K H (.ref a) (.type "tuple")
 | dK {a:Addr} {kvs:List (Key×V)} (e:H a=some (.dK kvs)):zcz K H (.ref a) (.type "dict")
 | dT {a:Addr} {kvs:List (List Key×V)} (e:H a=some (.dT kvs)):zcz K H (.ref a) (.type "dict")
 | ins {a C dx:Addr} {fs:List (Str×V)} (e:H a=some (.ins C dx fs)) (cl:Cls K C) (ha:PySem.W.findIn K (.ref C) "__class__"=some (some (.builtin "object.__class__")))
   (hn:PySem.W.specialIn K (.builtin "object.__class__") "__get__"=some (some (.builtin "getset_descriptor.__get__"))) (htk:PySem.W.takesIn K (.builtin "object.__class__")=some true)
   (hm:PySem.W.mroIn K C (.type "object")=some true):zcz K H (.ref a) (.ref C)
theorem zxb {x:V}{u t:Value}(I:Inv X pins σ H s)(rx:zau x u)(ty:zcz X.K H x t)(e:PySem.W.kitOne X.K t c=some b)(h:∀tk,Q (.bool b) { s with toks:=tk }):
  wpAny (model X.prog X.w) A (call (.builtin "isinstance") [u,c]) Q E s:=by
 cases ty with
 | non=>cases (show u=Value.none from rx); exact PySem.W.kia_one PySem.W.kitx_none I.kIn True.intro e (λz=>nomatch z) h
 | bl y=>cases (show u=Value.bool y from rx); exact PySem.W.kia_one PySem.W.kitx_bool I.kIn True.intro e (λz=>nomatch z) h
 | int i=>obtain⟨t,q⟩:=(show ∃t,u=Value.int i t from rx); cases q; exact PySem.W.kia_one PySem.W.kitx_int I.kIn True.intro e (λz=>nomatch z) h
 | str y=>obtain⟨t,q⟩:=(show ∃t,u=Value.str y t from rx); cases q; exact PySem.W.kia_one PySem.W.kitx_str I.kIn True.intro e (λz=>nomatch z) h
 | flt y=>obtain⟨t,q⟩:=(show ∃t,u=Value.float y t from rx); cases q; exact PySem.W.kia_one PySem.W.kitx_float I.kIn True.intro e (λz=>nomatch z) h
 | @lst a xs ea=>
  cases (show u=Value.ref a from rx)
  obtain⟨_,_,n,_,h1⟩:=(show zbu X.prog X.w H s.heap a (.lst xs) from I.hok a _ ea)
  exact PySem.W.kia_one PySem.W.kitx_list I.kIn ⟨_,h1,rfl⟩ e (λz=>nomatch z) h
 | @frz a ob xs ea=>
  cases (show u=Value.ref a from rx)
  obtain⟨_,_,_,n,_,h1⟩:=(show zbu X.prog X.w H s.heap a (.frz ob (.lst xs)) from I.hok a _ ea)
  exact PySem.W.kia_one PySem.W.kitx_list I.kIn ⟨_,h1,rfl⟩ e (λz=>nomatch z) h
 | @tup a xs ea=>
  cases (show u=Value.ref a from rx)
  obtain⟨_,_,_,p⟩:=(show zbu X.prog X.w H s.heap a (.tup xs) from I.hok a _ ea)
  obtain⟨o,h1,h2,_⟩:=p
  exact PySem.W.kia_one PySem.W.kitx_tuple I.kIn ⟨o,h1,h2⟩ e (λz=>nomatch z) h
 | @dK a kvs ea=>
  cases (show u=Value.ref a from rx)
  obtain⟨_,_,vs,_,p⟩:=(show zbu X.prog X.w H s.heap a (.dK kvs) from I.hok a _ ea)
  obtain⟨o,es,ep,h1,h2,_⟩:=p
  exact PySem.W.kia_one PySem.W.kitx_dict I.kIn ⟨o,h1,h2.1⟩ e (λz=>nomatch z) h
 | @dT a kvs ea=>
  cases (show u=Value.ref a from rx)
  obtain⟨_,_,xs,_,o,es,ep,h1,h2,_⟩:=(show zbu X.prog X.w H s.heap a (.dT kvs) from I.hok a _ ea)
  exact PySem.W.kia_one PySem.W.kitx_dict I.kIn ⟨o,h1,h2.1⟩ e (λz=>nomatch z) h
 | @ins a C dx fs ea cl ha hn htk hm=>
  cases (show u=Value.ref a from rx)
  obtain⟨mA,O,_⟩:=zjs I.hok ea
  obtain⟨od,J,_⟩:=O.look
  exact PySem.W.kia_one (PySem.W.kitx_own (cl.get _) cl.hd ha hn htk hm) I.kIn J e (λz=>nomatch z) h
end
end L2
namespace L2
open PySem PySem.Spec PyProof.Rows
structure zaK (k:Nat)(A:Around):Prop where
 hd:A.handled=none
 dp:A.depth+3*k+5<recursionLimit
 un:A.units+16*k+200<cLine
theorem zaK.mono {j k:Nat}{A:Around}(r:zaK k A)(h:j≤k):zaK j A:=⟨r.hd,by have:=r.dp; omega,by have:=r.un; omega⟩
theorem zaK.deeper {k:Nat}{A:Around}(r:zaK (k+1) A)(env:Env):zaK k (A.deeper env):=
 ⟨r.hd,by have:=r.dp; show A.depth+1+3*k+5<_; omega,by have:=r.un; show A.units+3+16*k+200<_; omega⟩
theorem zaK.in1 {k:Nat}{A:Around}(r:zaK (k+1) A):zaK k A.in1:=
 ⟨r.hd,by have:=r.dp; show A.depth+3*k+5<_; omega,by have:=r.un; show A.units+1+16*k+200<_; omega⟩
theorem zve {A:Around}{C:Addr}{us:List Value}{kw:List (Str×Value)}:(A.under (.builtin "type.__call__" ⟨.ref C::us,kw⟩)).depth=A.depth+1:=by
 first | rfl | simp[Around.under,Code.weight,Code.isCreation,Code.isGuard,Code.isCaller,Code.frames,Code.isFrame,guardIds]
theorem zwv {A:Around}{C:Addr}{us:List Value}{kw:List (Str×Value)}:(A.under (.builtin "type.__call__" ⟨.ref C::us,kw⟩)).units=A.units+1:=by
 first | rfl | simp[Around.under,Code.cUnits,Code.frames,Code.isFrame]
theorem zaK.make {k:Nat}{A:Around}(r:zaK (k+1) A)(C:Addr)(us:List Value)(kw:List (Str×Value)):zaK k (A.under (.builtin "type.__call__" ⟨.ref C::us,kw⟩)):=
 ⟨r.hd,by have:=r.dp; rw[zve]; omega,by have:=r.un; rw[zwv]; omega⟩
theorem zaK.depth {k:Nat}{A:Around}(r:zaK k A):A.depth<recursionLimit:=by have:=r.dp; omega
theorem zaK.units {k:Nat}{A:Around}(r:zaK k A):A.units+64<cLine:=by have:=r.un; omega
def tNil:TA:=λ_ H Q=>Q [] H
def tCons (ta:TE)(tr:TA):TA:=λσ H Q=>ta σ H λx H1=>tr σ H1 λxs H2=>Q (x::xs) H2
section
variable {X:Cx}{e:Expr}{es:List Expr}{te:TE}{t:TA}{pos:Pos}
theorem ziS:PA X [] tNil:=λ_ _ _ _ H Q I h=>Calls.spliced_nil ⟨[],H,I,.nil,h⟩
theorem zf6 (ha:PE X e te)(hr:PA X es t)(hs:starEach (e::es) X.env=(false,eval e X.env)::starEach es X.env:=by rfl):PA X (e::es) (tCons te t):=by
 intro pos pins s σ H Q I h
 rw[hs]
 show wpAny _ _ (spliced ((false,eval e X.env)::backTo pos (starEach es X.env))) _ _ s
 refine Calls.spliced_cons (thn (ha pins s σ H _ I h) λu s1 ⟨x,H1,I1,r1,q1⟩=>?_)
 exact thn (hr pos pins s1 σ H1 _ I1 q1) λus s2 ⟨xs,H2,I2,r2,q2⟩=>⟨x::xs,H2,I2,.cons r1 r2,q2⟩
def tTup (t:TA):TE:=λσ H Q=>t σ H λxs H1=>xs.length≤sizeLine∧∀p,H1 p=none→Q (.ref p) (upd H1 p (.tup xs))
def tLst (t:TA):TE:=λσ H Q=>t σ H λxs H1=>xs.length≤sizeLine∧∀p,H1 p=none→Q (.ref p) (upd H1 p (.lst xs))
theorem zsi {x1}(h:PA X es t):PE X (.Tuple es x1 pos) (tTup t):=by
 intro pins s σ H Q I hq
 refine wpAny_Tuple_spliced (thn (h pos pins s σ H _ I hq) λus s1 ⟨xs,H1,I1,r,z,q⟩=>⟨by rw[← r.length]; exact z,?_⟩)
 have hf:H1 s1.heap.objs.size=none:=I1.hok.fresh (Vad _)
 refine⟨.ref s1.heap.objs.size,upd H1 s1.heap.objs.size (.tup xs),I1.laid (t':=s1.toks) (λb u e=>Heap.get?_push_of_some _ e) (Vad _) ?_,rfl,q _ hf⟩
 exact⟨z,us,r,⟨_,Heap.get?_push_size _ rfl,rfl,_,rfl⟩⟩
theorem zxt (h:PA X es t):PE X (.List es pos) (tLst t):=by
 intro pins s σ H Q I hq
 refine wpAny_List_spliced (thn (h pos pins s σ H _ I hq) λus s1 ⟨xs,H1,I1,r,z,q⟩=>⟨by rw[← r.length]; exact z,?_⟩)
 have hf:H1 s1.heap.objs.size=none:=I1.hok.fresh (Vad _)
 refine⟨.ref s1.heap.objs.size,upd H1 s1.heap.objs.size (.lst xs),I1.laid (t':=s1.toks) (λb u e=>Heap.get?_push_of_some _ e) (Vad _) ?_,rfl,q _ hf⟩
 exact⟨z,us,0,r,Heap.get?_push_size _ rfl⟩
end
abbrev Sp:=List V→Hp→VK→XK→Prop
abbrev CXT:=List Env→Hp→Shared→XK→Value→Shared→Prop
structure zcO (P:Program)(w:World)(K:PySem.W.Frag)(mg:Str→Option Value)(base:Heap)(A:Around)(outer:List Env)(s:Shared)(H:Hp):Prop where
 frames:A.frames=some outer
 mod:Mod K mg base
 bs:∀b o,base.get? b=some o→s.heap.get? b=some o∧H b=none
 bsz:base.objs.size≤s.heap.objs.size
 funs:s.heap.FunFrames base outer
 frf:∀b∈frs outer,H b=none
 hok:HOk P w H s.heap
 bare:AllBare s.gens
def CE (outer:List Env)(P:Program)(w:World)(H:Hp)(s:Shared)(Q:VK)(u:Value)(s':Shared):Prop:=
 ∃v H',s'.os=s.os∧AllBare s'.gens∧Un (frs outer) [] H H' s.heap s'.heap∧HOk P w H' s'.heap∧zau v u∧Q v H'
def CR (CX:CXT)(outer:List Env)(P:Program)(w:World)(H:Hp)(s:Shared)(Q:VK)(E:XK)(r:Result)(s':Shared):Prop:=
 match r with
 | .ok (.ret u)=>CE outer P w H s Q u s'
 | .ok _=>False
 | .error e=>CX outer H s E e s'
structure za5 (P:Program)(w:World)(K:PySem.W.Frag)(mg:Str→Option Value)(base:Heap)(CX:CXT)(k:Nat)(f:Addr)(fd:FuncData)(ps:List Str)(sp:Sp):Prop where
 len:∀vs H Q E,sp vs H Q E→vs.length=ps.length
 run:∀(A:Around) (outer:List Env) (s:Shared) (H:Hp) (args:Args) (us:List Value) (vs:List V) (Q:VK) (E:XK),zaK k A→zcO P w K mg base A outer s H→BindsTo s fd args (ps.zip us)→zat vs us→sp vs H Q E→
  codeAny (model P w) A (.call (.ref f) args) (CR CX outer P w H s Q E) s
theorem za5.mono {P:Program}{w:World}{K:PySem.W.Frag}{mg:Str→Option Value}{base:Heap}{CX:CXT}{j k:Nat}{f:Addr}{fd:FuncData}{ps:List Str}{sp:Sp}(F:za5 P w K mg base CX j f fd ps sp)(h:j≤k):
  za5 P w K mg base CX k f fd ps sp:=⟨F.len,λA outer s H args us vs Q E hr=>F.run A outer s H args us vs Q E (hr.mono h)⟩
theorem za5.imp {P:Program}{w:World}{K:PySem.W.Frag}{mg:Str→Option Value}{base:Heap}{CX:CXT}{k:Nat}{f:Addr}{fd:FuncData}{ps:List Str}{sp sp':Sp}(F:za5 P w K mg base CX k f fd ps sp)
  (h:∀vs H Q E,sp' vs H Q E→sp vs H Q E):za5 P w K mg base CX k f fd ps sp':=
 ⟨λvs H Q E q=>F.len vs H Q E (h _ _ _ _ q),λA outer s H args us vs Q E hr he hb hv hs=>F.run A outer s H args us vs Q E hr he hb hv (h _ _ _ _ hs)⟩
theorem zcO.make {P:Program}{w:World}{K:PySem.W.Frag}{mg:Str→Option Value}{base:Heap}{A:Around}{outer:List Env}{s:Shared}{H:Hp}(e:zcO P w K mg base A outer s H)(C:Addr)(us:List Value)(kw:List (Str×Value)):
  zcO P w K mg base (A.under (.builtin "type.__call__" ⟨.ref C::us,kw⟩)) outer s H:=⟨by first | exact e.frames | (simpa [Around.under,Code.envs,Code.isFrame,pushEnvs] using e.frames),e.mod,e.bs,e.bsz,e.funs,e.frf,e.hok,e.bare⟩
theorem zcO.in1 {P:Program}{w:World}{K:PySem.W.Frag}{mg:Str→Option Value}{base:Heap}{A:Around}{outer:List Env}{s:Shared}{H:Hp}(e:zcO P w K mg base A outer s H):
  zcO P w K mg base A.in1 outer s H:=⟨e.frames,e.mod,e.bs,e.bsz,e.funs,e.frf,e.hok,e.bare⟩
section
variable {X:Cx}{pins:List (Addr×Obj)}{σ:St}{H:Hp}{s s':Shared}
theorem Inv.env0 (I:Inv X pins σ H s):zcO X.prog X.w X.K X.mg X.base X.A X.stack s H:=
 ⟨I.ok.frames,I.ok.mod,I.bs,VaA I.ok.bsz I.sz,I.stack,I.stkFree,I.hok,I.bare⟩
theorem Inv.after {Q:VK}{u:Value}(I:Inv X pins σ H s)(h:CE X.stack X.prog X.w H s Q u s'):EP X pins σ Q u s':=by
 obtain⟨v,H',os,bare,un,hok,r,q⟩:=h
 obtain⟨hh,g,d,t,os'⟩:=s'
 obtain rfl:os'=s.os:=os
 exact⟨v,H',I.call (h':=hh) (g':=g) (d':=d) (t':=t) (ch:=[]) un hok bare (λb z=>absurd z (by simp)),r,q⟩
end
def tMake (C:Addr)(sp:Sp)(dvs:List V)(E:XK)(t:TA):TE:=λσ H Q=>t σ H λvs H1=>∀x dx,H1 x=none→H1 dx=none→dx≠x→
 sp (.ref x::(vs++dvs)) (upd (upd H1 dx (.own x)) x (.ins C dx [])) (λv H2=>v=.non∧Q (.ref x) H2) E
def zbI (K:PySem.W.Frag)(fd:FuncData)(ps:List Str)(ds:List Value):Prop:=
 ∀(s:Shared) (us:List Value),K.In s.heap→(us++ds).length=ps.length→BindsTo s fd ⟨us,[]⟩ (ps.zip (us++ds))
theorem zbI.all {K:PySem.W.Frag}{fd:FuncData}{ps:List Str}(h:∀us:List Value,us.length=ps.length→bindArgs fd ⟨us,[]⟩=pure (ps.zip us)):zbI K fd ps []:=λs us _ hl=>by
 rw[Va0] at hl ⊢
 exact .of_eq (h us hl)
def zml (CX:CXT)(X:Cx)(E:XK):Prop:=∀(pins:List (Addr×Obj)) (σ:St) (H:Hp) (s:Shared) (e:Value) (s':Shared),Inv X pins σ H s→CX X.stack H s E e s'→X.xe e s'
section
variable {X:Cx}{CX:CXT}{k:Nat}{f C:Addr}{fd:FuncData}{ps:List Str}{sp:Sp}{dvs:List V}{ds:List Value}{E:XK}{x m:Str}{p pos apos:Pos}{e o:Expr}{es:List Expr}{ta:TE}{t:TA}
structure Mk (K:PySem.W.Frag)(C f:Addr):Prop where
 makes:PySem.W.makesIn K C=true
 init:PySem.W.findIn K (.ref C) "__init__"=some (some (.ref f))
 fn:PySem.W.isFn K (.ref f)=true
 kp:PySem.W.keepIn K (.ref C)=true
theorem zvM {pins:List (Addr×Obj)}{σ:St}{H:Hp}{s:Shared}{Q:VK}{us:List Value}{vs:List V}(M:Mk X.K C f)(F:za5 X.prog X.w X.K X.mg X.base CX k f fd ps sp)(hr:zaK (k+1) X.A)(hb:zbI X.K fd ps ds)(hd:zat dvs ds)
  (hx:zml CX X E)(I:Inv X pins σ H s)(r:zat vs us)
  (h:∀x dx,H x=none→H dx=none→dx≠x→sp (.ref x::(vs++dvs)) (upd (upd H dx (.own x)) x (.ins C dx [])) (λv H2=>v=.non∧Q (.ref x) H2) E):
  wpAny (model X.prog X.w) X.A (call (.ref C) us) (EP X pins σ Q) X.xe s:=by
 have hq:=h (s.heap.objs.size+1) s.heap.objs.size (I.hok.fresh (Nat.le_succ _)) (I.hok.fresh (Vad _)) (Vap (Nat.lt_succ_self _))
 have I2:=Inv.made (C:=C) I
 have r2:zat (V.ref (s.heap.objs.size+1)::(vs++dvs)) (Value.ref (s.heap.objs.size+1)::(us++ds)):=.cons rfl (r.append hd)
 have hl:(Value.ref (s.heap.objs.size+1)::us++ds).length=ps.length:=by
  have e:=r2.length
  rw[F.len _ _ _ _ hq] at e
  exact e.symm
 refine wpAny_call (zsO (f:=f) I.kIn M.makes M.init (beq_iff_eq.mp M.fn) (codeAny_mono (F.run _ X.stack _ _ ⟨Value.ref (s.heap.objs.size+1)::us,[]⟩ (Value.ref (s.heap.objs.size+1)::(us++ds)) _ _ E (hr.make C us [])
  (I2.env0.make C us []) (hb _ (Value.ref (s.heap.objs.size+1)::us) I2.kIn hl) r2 hq) λr s' hq'=>?_))
 cases r with
 | error e=>exact hx pins σ _ _ e s' I2 hq'
 | ok fl=>
  cases fl with
  | ret u=>
   obtain⟨v,H',I3,rv,ev,q3⟩:=I2.after hq'
   subst ev
   exact⟨rv,⟨V.ref (s.heap.objs.size+1),H',I3,rfl,q3⟩⟩
  | next=>exact False.elim hq'
  | brk=>exact False.elim hq'
  | cont=>exact False.elim hq'
theorem zxF (M:Mk X.K C f)(F:za5 X.prog X.w X.K X.mg X.base CX k f fd ps sp)(hr:zaK (k+1) X.A)(hg:Gl X x)(hm:X.mg x=some (.ref C))(hb:zbI X.K fd ps ds)(hd:zat dvs ds)(hx:zml CX X E)
  (ha:PA X (e::es) t)(hdb:(x==("__debug__":Str))=false:=by decide)(he:starEach (e::es) X.env=(false,eval e X.env)::starEach es X.env:=by rfl)(hpl:(backTo pos (starEach es X.env)).any (·.1)=false:=by rfl):
  PE X (.Call (.Name x p) (e::es) [] pos) (tMake C sp dvs E t):=by
 intro pins s σ H Q I h
 refine wpAny_Call_Name_kw (zqg I hg hm ?_ hdb)
 refine PySem.W.callWith_K (h₀:=X.base) I.ok.mod.kin M.kp (thn (ha pos pins s σ H _ I h) λus s1 ⟨vs,H1,I1,r,q⟩=>⟨I1.kIn,?_⟩) he hpl
 exact zvM M F hr hb hd hx I1 r q
end
section
variable {X:Cx}{CX:CXT}{k:Nat}{f C:Addr}{fd:FuncData}{ps ks:List Str}{sp:Sp}{E:XK}{x m:Str}{p pos apos kpos:Pos}{e o:Expr}{es:List Expr}{kws:List Keyword}{te ta:TE}{t tk:TA}{nm:Option Str}
structure KBinds (K:PySem.W.Frag)(fd:FuncData)(ps ks:List Str)(g:List Value→List Value→List Value)(gV:List V→List V→List V):Prop where
 to:∀(s:Shared) (us ws:List Value),K.In s.heap→(g us ws).length=ps.length→BindsTo s fd ⟨us,ks.zip ws⟩ (ps.zip (g us ws))
 rel:∀ {vs:List V} {us:List Value} {zs:List V} {ws:List Value},zat vs us→zat zs ws→zat (gV vs zs) (g us ws)
variable {g:List Value→List Value→List Value}{gV:List V→List V→List V}
end
structure zay (N P:List Str)(sc:Scope):Prop where
 kind:sc.kind=.function
 co:sc.isCoroutine=false
 gen:sc.isGenerator=false
 nd:N.Nodup
 pre:N.take P.length=P
 par:∀x∈P,sc.names.lookup x=some .local∨sc.names.lookup x=some .cell
 nofree:∀y∈sc.names,y.2≠.free
theorem zq1 {kindOf:Str→Option NameKind}{x:Str}:∀ {binds:List (Str×Value)} {m:Str→Option Value},(∀v,(x,v) ∉ binds)→bindL kindOf binds m x=m x
 | [],_,_=>rfl
 | (n,v)::r,m,h=>by
  unfold bindL
  rw[zq1 λw hw=>h w (VaN _ hw)]
  split
  ·have:x≠n:=by rintro rfl; exact h v Va6
   simp[this]
  ·rfl
theorem zpt {kindOf:Str→Option NameKind}{x:Str}:∀ {binds:List (Str×Value)} {m:Str→Option Value},(∀v,(x,v) ∉ binds)→bindC kindOf binds m x=m x
 | [],_,_=>rfl
 | (n,v)::r,m,h=>by
  unfold bindC
  rw[zpt λw hw=>h w (VaN _ hw)]
  split
  ·rfl
  ·have:x≠n:=by rintro rfl; exact h v Va6
   simp[this]
theorem zpD {kindOf:Str→Option NameKind}{x:Str}{v:Value}:∀ {P:List Str} {vs:List Value} {i:Nat} {m:Str→Option Value},P.Nodup→P[i]?=some x→vs[i]?=some v→kindOf x=some .local→
  bindL kindOf (P.zip vs) m x=some v
 | [],_,_,_,_,h,_,_=>by simp at h
 | _::_,[],_,_,_,_,h,_=>by simp at h
 | p::P,w::vs,0,m,nd,h1,h2,hk=>by
  simp at h1 h2; subst h1; subst h2
  show bindL kindOf ((p,w)::P.zip vs) m p=_
  unfold bindL
  rw[zq1 λv hv=>(List.nodup_cons.mp nd).1 (List.of_mem_zip hv).1,if_pos hk]
  simp
 | p::P,w::vs,i+1,m,nd,h1,h2,hk=>by
  show bindL kindOf ((p,w)::P.zip vs) m x=_
  unfold bindL
  exact zpD (i:=i) (List.nodup_cons.mp nd).2 (by simpa using h1) (by simpa using h2) hk
theorem zpg {kindOf:Str→Option NameKind}{x:Str}{v:Value}:∀ {P:List Str} {vs:List Value} {i:Nat} {m:Str→Option Value},P.Nodup→P[i]?=some x→vs[i]?=some v→kindOf x≠some .local→
  bindC kindOf (P.zip vs) m x=some v
 | [],_,_,_,_,h,_,_=>by simp at h
 | _::_,[],_,_,_,_,h,_=>by simp at h
 | p::P,w::vs,0,m,nd,h1,h2,hk=>by
  simp at h1 h2; subst h1; subst h2
  show bindC kindOf ((p,w)::P.zip vs) m p=_
  unfold bindC
  rw[zpt λv hv=>(List.nodup_cons.mp nd).1 (List.of_mem_zip hv).1,if_neg hk]
  simp
 | p::P,w::vs,i+1,m,nd,h1,h2,hk=>by
  show bindC kindOf ((p,w)::P.zip vs) m x=_
  unfold bindC
  exact zpg (i:=i) (List.nodup_cons.mp nd).2 (by simpa using h1) (by simpa using h2) hk
def start (N:List Str)(vs:List V):St:=vs.map some++List.replicate (N.length-vs.length) none
def zeA (CX:CXT)(P:Program)(w:World)(K:PySem.W.Frag)(mg:Str→Option Value)(base:Heap)(N:List Str)(qual:Str)(scope:Scope)(f:Addr)(cd:Value)(A:Around)(outer:List Env)(s:Shared)(H:Hp)(E:XK):Cx where
 prog:=P
 w:=w
 K:=K
 mg:=mg
 base:=base
 A:=A.deeper (envOfC qual scope s.heap.objs.size f cd)
 N:=N
 s₀:=s
 H₀:=H
 env:=envOfC qual scope s.heap.objs.size f cd
 outer:=outer
 stack:=envOfC qual scope s.heap.objs.size f cd::outer
 ex:=[]
 calm:=true
 fn:=λ_=>true
 pn:=[]
 xe:=λe s'=>wpAny (model P w) (A.deeper (envOfC qual scope s.heap.objs.size f cd)) (leaving (envOfC qual scope s.heap.objs.size f cd) e) (λ_ s''=>CX outer H s E e s'') (λe' s''=>CX outer H s E e' s'') s'
theorem zpm {sc:Scope}{n:Nat}{x:Str}(h:sc.names.lookup x=some .cell):∃c,(cellsFrom n sc.names []).lookup x=some c:=by
 have q:=PySem.W.cellsFrom_some sc.names n [] (.inl h)
 exact VaP.mp q
theorem zvT {CX:CXT}{P:Program}{w:World}{K:PySem.W.Frag}{mg:Str→Option Value}{base:Heap}{N ps:List Str}{qual:Str}{scope:Scope}{f:Addr}{cd:Value}{A:Around}{outer:List Env}{s s1:Shared}{H:Hp}{E:XK}{us:List Value}{vs:List V}
  (S:zay N ps scope)(hd:A.handled=none)(e0:zcO P w K mg base A outer s H)(hl:vs.length=ps.length)(r:zat vs us)
  (x:InCallC s s.heap.objs.size (bindL (envOfC qual scope s.heap.objs.size f cd).kindOf (ps.zip us) λ_=>none) (cellsFrom (s.heap.objs.size+1) scope.names []) (bindC (envOfC qual scope s.heap.objs.size f cd).kindOf (ps.zip us) λ_=>none) s1):
  Inv (zeA CX P w K mg base N qual scope f cd A outer s H E) [] (start N vs) H s1:=by
 have hpl:ps.length≤N.length:=by have:=congrArg List.length S.pre; rw[Vau] at this; omega
 obtain⟨h1,tk,rfl,hk⟩:=x.done
 have noA:∀b:Addr,b ∉ (zeA CX P w K mg base N qual scope f cd A outer s H E).ex:=λb z=>absurd (show b∈([]:List Addr) from z) (by simp)
 refine⟨⟨e0.mod,S.kind,rfl,rfl,Vad _,λy z c h1 h2=>?_,λy hy=>?_,λy c _ h=>?_,λ_=>hd,Around.frames_deeper e0.frames,.inr ⟨rfl,rfl⟩,λb z=>absurd z (noA b),e0.bs,e0.bsz,λb _ _=>noA b,λb z=>absurd z (noA b),e0.funs,e0.frf⟩,
  rfl,e0.bare,Un.kept hk,⟨_,x.toInCall.ns,λi y v h1 h2 h3=>?_⟩,λy c h=>⟨_,x.cell y c h⟩,e0.hok.fresh (Vad _),λy c h=>?_,λp hp=>absurd (show p∈([]:List (Addr×Obj)) from hp) (by simp),e0.hok.kept hk,?_⟩
 ·exact name_of_addr x.apart (PySem.mem_of_lookup h1) (PySem.mem_of_lookup h2)
 ·have hy:scope.names.lookup y=some .cell∨scope.names.lookup y=some .free:=hy
  rcases hy with hy | hy
  ·exact zpm hy
  ·exact absurd rfl (S.nofree _ (PySem.mem_of_lookup hy))
 ·exact VaU (x.above y c (PySem.mem_of_lookup h))
 ·have hi:i<vs.length:=by
   unfold start at h2
   by_cases hi:i<vs.length
   ·exact hi
   ·rw[Vaz (by simpa using hi)] at h2
    rw[List.getElem?_replicate] at h2
    split at h2 <;> cases h2
  have ha:vs[i]?=some v:=by
   unfold start at h2
   rw[Vao (by simpa using hi),Vae] at h2
   cases e:vs[i]? with
   | none=>rw[e] at h2; cases h2
   | some a=>rw[e] at h2; cases h2; rfl
  obtain⟨u,hu,rv⟩:=r.get ha
  have hp:ps[i]?=some y:=by
   rw[← S.pre,List.getElem?_take_of_lt (by omega)]; exact h1
  have ndP:ps.Nodup:=by rw[← S.pre]; exact S.nd.sublist (List.take_sublist _ _)
  refine⟨u,rv,?_⟩
  rcases S.par y (Val hp) with k | k
  ·exact .inl ⟨k,zpD ndP hp hu k⟩
  ·obtain⟨c,e⟩:=zpm (n:=s.heap.objs.size+1) k
   refine .inr ⟨.inl k,c,e,?_⟩
   have q:=x.cell y c e
   rw[zpg ndP hp hu (by show scope.names.lookup y≠_; rw[k]; decide)] at q
   exact q
 ·exact e0.hok.fresh (VaU (x.above y c (PySem.mem_of_lookup h)))
 ·unfold start
  show _=N.length
  rw[Var,Vac,List.length_replicate]
  omega
theorem zpX {CX:CXT}{P:Program}{w:World}{K:PySem.W.Frag}{mg:Str→Option Value}{base:Heap}{k:Nat}{f:Addr}{name qual:Str}{params:Arguments}{body:List Stmt}{scope:Scope}{dV kV doc pm cdv ct oc:Value}{an od:Option Addr}
  {osl:Array (Option Value)}{N ps:List Str}{sp:Sp}(lk:K.lookup f=some ⟨oc,od,.func (PySem.W.fnOf name qual params body scope dV kV doc pm an cdv ct),osl⟩)(hcd:PySem.W.codeIn K cdv qual=true)(S:zay N ps scope)
  (len:∀vs H Q E,sp vs H Q E→vs.length=ps.length)
  (hbody:∀(A:Around) (outer:List Env) (s:Shared) (H:Hp) (vs:List V) (Q:VK) (E:XK),zaK k (A.deeper (envOfC qual scope s.heap.objs.size f cdv))→sp vs H Q E→
   ∃t,PSs (zeA CX P w K mg base N qual scope f cdv A outer s H E) body t∧t { nx:=λ_ H'=>Q .non H',rt:=Q } (start N vs) H):
  za5 P w K mg base CX (k+1) f (PySem.W.fnOf name qual params body scope dV kV doc pm an cdv ct) ps sp:=by
 refine⟨len,λA outer s H args us vs Q E hr e0 hb r hsp=>?_⟩
 have hl:=len _ _ _ _ hsp
 have KX:K.In s.heap:=e0.mod.kin.keeps λb o e=>(e0.bs b o e).1
 have lim:s.heap.NoLimit:=e0.mod.nolimit.keeps λb o e=>(e0.bs b o e).1
 have hkind:∀y∈ps.zip us,scope.names.lookup y.1=some .local∨(scope.names.lookup y.1=some .cell∧((cellsFrom (s.heap.objs.size+1) scope.names []).lookup y.1).isSome=true):=λ⟨n,v⟩ hy=>by
  rcases S.par n (List.of_mem_zip hy).1 with q | q
  ·exact .inl q
  ·exact .inr ⟨q,PySem.W.cellsFrom_some _ _ _ (.inl q)⟩
 refine codeAny_call_function hr.depth (KX _ _ lk) rfl S.co S.gen rfl (PySem.W.codeRec_of KX hcd) (hb _ _ _ _ ?_)
 refine wpAny_newFunctionEnv_cells S.kind hkind λenv he s1 x=>?_
 subst he
 refine⟨lim.keeps x.toInCall.keep,codeAny_func ?_⟩
 obtain⟨t,ht,hq⟩:=hbody A outer s H vs Q E (hr.deeper _) hsp
 have I:Inv (zeA CX P w K mg base N qual scope f cdv A outer s H E) [] (start N vs) H s1:=zvT S hr.hd e0 hl r x
 refine wpAny_mono (ht [] s1 (start N vs) H _ I hq) (λfl s' hs=>?_) λe s' hs=>hs
 have fin:∀ {σ':St} {H':Hp} {v:V} {u:Value},Inv (zeA CX P w K mg base N qual scope f cdv A outer s H E) [] σ' H' s'→zau v u→Q v H'→CE outer P w H s Q u s':=
  λ{σ' H' v u} J rv q=>⟨v,H',J.os,J.bare,J.base,J.hok,rv,q⟩
 cases fl with
 | ret u=>
  obtain⟨v,σ',H',J,rv,q⟩:=hs
  exact fin J rv q
 | next=>
  obtain⟨σ',H',J,q⟩:=hs
  exact fin (v:=V.non) (u:=Value.none) J rfl q
 | brk=>
  obtain⟨_,_,_,q⟩:=hs
  exact False.elim q
 | cont=>
  obtain⟨_,_,_,q⟩:=hs
  exact False.elim q
end L2
namespace L2
open PySem PySem.Spec PyProof.Rows
section
variable {X:Cx}{x:Str}{p pos:Pos}{e:Expr}{es:List Expr}{t:TA}{id T:String}{r:List V→Hp→VK→Prop}
def tCB (r:List V→Hp→VK→Prop)(t:TA):TE:=λσ H Q=>t σ H λvs H1=>r vs H1 Q
theorem zoe (hc:za7 X (.builtin id) r)(hg:Gl X x)(hm:X.mg x=none)(hv:bootBuiltins x=some (.builtin id))(ha:PA X (e::es) t)(hn:x≠"__name__":=by decide)(hdb:(x==("__debug__":Str))=false:=by decide)
  (he:starEach (e::es) X.env=(false,eval e X.env)::starEach es X.env:=by rfl)(hpl:(backTo pos (starEach es X.env)).any (·.1)=false:=by rfl):PE X (.Call (.Name x p) (e::es) [] pos) (tCB r t):=by
 intro pins s σ H Q I h
 refine wpAny_Call_Name_kw (zeO I hg hm hv ?_ hn hdb)
 exact PyProof.Rows.callWith_builtin1 (thn (ha pos pins s σ H _ I h) λus s1 ⟨vs,H1,I1,r1,q1⟩=>hc pins s1 σ H1 vs us Q I1 r1 q1) he hpl
theorem zsB (hc:za7 X (.type T) r)(hg:Gl X x)(hm:X.mg x=none)(hv:bootBuiltins x=some (.type T))(ha:PA X (e::es) t)(hn:x≠"__name__":=by decide)(hdb:(x==("__debug__":Str))=false:=by decide)
  (he:starEach (e::es) X.env=(false,eval e X.env)::starEach es X.env:=by rfl)(hpl:(backTo pos (starEach es X.env)).any (·.1)=false:=by rfl):PE X (.Call (.Name x p) (e::es) [] pos) (tCB r t):=by
 intro pins s σ H Q I h
 refine wpAny_Call_Name_kw (zeO I hg hm hv ?_ hn hdb)
 exact PyProof.Rows.callWith_type1 (thn (ha pos pins s σ H _ I h) λus s1 ⟨vs,H1,I1,r1,q1⟩=>hc pins s1 σ H1 vs us Q I1 r1 q1) he hpl
end
end L2
namespace HT
open PySem PyProof.Rows
section
open PySem.SeqAt
open PySem.AutoSeq1 (wpAny_loadPart')
open PySem.MeetsSeq PySem.MeetsSeq2 PySem.MeetsSeq3
end
section
variable {prog:Program}{w:World}{A:Around}{E:Value→Shared→Prop}{s:Shared}
def sIx (n d:Nat):Option Int→Nat
 | none=>d
 | some v=>if v<0 then (v+(n:Int)).toNat else min v.toNat n
theorem sIx_none (n d:Nat):sIx n d none=d:=rfl
theorem sIx_nat (n d k:Nat):sIx n d (some (k:Int))=min k n:=by
 show (if (k:Int)<0 then ((k:Int)+(n:Int)).toNat else min (k:Int).toNat n)=min k n
 rw[if_neg (by omega),Vah]
end
end HT
namespace L2
open PySem PySem.Spec PyProof.Rows
abbrev TO:=St→Hp→(Option Int→Hp→Prop)→Prop
def PO (X:Cx)(e:Option Expr)(t:TO):Prop:=
 ∀(pins:List (Addr×Obj)) (s:Shared) (σ:St) (H:Hp) (Q:Option Int→Hp→Prop),Inv X pins σ H s→t σ H Q→
  wpAny (model X.prog X.w) X.A (evalPart e X.env) (λu s'=>∃o H',Inv X pins σ H' s'∧IsPart u o∧Q o H') X.xe s
def zyf:TO:=λ_ H Q=>Q none H
def tPart (t:TE):TO:=λσ H Q=>t σ H λx H1=>∃i,x=.int i∧Q (some i) H1
section
variable {X:Cx}{e:Expr}{te:TE}{lo hi:Option Expr}{tl th:TO}{pos p2:Pos}
theorem zyG:PO X none zyf:=by
 intro pins s σ H Q I h
 rw[evalPart_none]
 exact wpAny_pure ⟨none,H,I,.none,h⟩
theorem zye (h:PE X e te):PO X (some e) (tPart te):=by
 intro pins s σ H Q I hw
 rw[evalPart_some]
 refine thn (h pins s σ H _ I hw) λu s1 ⟨x,H1,I1,r1,q1⟩=>?_
 obtain⟨i,rfl,q⟩:=q1
 obtain⟨t,rfl⟩:=r1
 exact⟨some i,H1,I1,.int i t,q⟩
def SlR (X:Cx)(r:V→Option Int→Option Int→Hp→VK→Prop):Prop:=
 ∀(pins:List (Addr×Obj)) (s:Shared) (σ:St) (H:Hp) (x:V) (v vl vu:Value) (lo hi:Option Int) (sl:Addr) (Q:VK),Inv X pins σ H s→zau x v→s.heap.IsSliceOf sl vl vu .none→IsPart vl lo→IsPart vu hi→r x lo hi H Q→
  ∃T id,typeLookup (.type T) "__getitem__"=pure (some (.builtin id))∧s.TypeIs v T∧wpAny (model X.prog X.w) X.A (getItem v (.ref sl)) (EP X pins σ Q) X.xe s
theorem SlR.or {r r':V→Option Int→Option Int→Hp→VK→Prop}(h:SlR X r)(h':SlR X r'):SlR X (λx lo hi H Q=>r x lo hi H Q∨r' x lo hi H Q):=by
 intro pins s σ H x v vl vu lo hi sl Q I rx hs pl pu q
 rcases q with q | q
 ·exact h pins s σ H x v vl vu lo hi sl Q I rx hs pl pu q
 ·exact h' pins s σ H x v vl vu lo hi sl Q I rx hs pl pu q
def tSl (r:V→Option Int→Option Int→Hp→VK→Prop)(te:TE)(tl th:TO):TE:=λσ H Q=>te σ H λx H1=>tl σ H1 λl H2=>th σ H2 λu H3=>r x l u H3 Q
theorem zuw {r:V→Option Int→Option Int→Hp→VK→Prop}(hr:SlR X r)(he:PE X e te)(hl:PO X lo tl)(hu:PO X hi th):PE X (.Subscript e (.Slice lo hi none p2) pos) (tSl r te tl th):=by
 intro pins s σ H Q I h
 refine Subscript_ (thn (he pins s σ H _ I h) λv s1 ⟨x,H1,I1,r1,q1⟩=>?_)
 refine wpAny_Slice (thn (hl pins s1 σ H1 _ I1 q1) λvl s2 ⟨l,H2,I2,pl,q2⟩=>thn (hu pins s2 σ H2 _ I2 q2) λvu s3 ⟨u,H3,I3,pu,q3⟩=>?_)
 rw[evalPart_none]
 refine wpAny_pure ?_
 have I4:Inv X pins σ H3 { s3 with heap:=s3.heap.push { cls:=.type "slice",data:=.fields #[vl,vu,.none] } }:=I3.kept (t':=s3.toks) λb ob q=>Heap.get?_push_of_some _ q
 obtain⟨T,id,hT,ht,hg⟩:=hr pins { s3 with heap:=s3.heap.push { cls:=.type "slice",data:=.fields #[vl,vu,.none] } } σ H3 x v vl vu l u s3.heap.objs.size Q I4 r1 (Heap.IsSliceOf.new ..) pl pu q3
 show wpAny (model X.prog X.w) X.A (subscriptTail e (.Slice lo hi none p2) v (.ref s3.heap.objs.size)) (EP X pins σ Q) X.xe { s3 with heap:=s3.heap.push { cls:=.type "slice",data:=.fields #[vl,vu,.none] } }
 exact tail_any (ops:=[.ref s3.heap.objs.size,v]) ht hT hg (by with_unfolding_all rfl)
def zeM (xs:List V)(lo hi:Option Int):List V:=(xs.drop (HT.sIx xs.length 0 lo)).take (HT.sIx xs.length xs.length hi-HT.sIx xs.length 0 lo)
theorem ztL (xs:List V)(lo hi:Option Int):(zeM xs lo hi).length≤xs.length:=by
 unfold zeM
 rw[Vau,Va1]
 omega
end
end L2
namespace L2
open PySem PySem.Spec PyProof.Rows
def ixN (n:Nat)(i:Int):Option Nat:=if 0≤i then (if i<n then some i.toNat else none) else if -(n:Int)≤i then some (i+n).toNat else none
def atI {α:Type}(xs:List α)(i:Int):Option α:=(ixN xs.length i).bind λj=>xs[j]?
theorem zpZ {n:Nat}{i:Int}{j:Nat}(h:ixN n i=some j):seqIndex? i n=some j∧j<n∧-(n:Int)≤i∧i<n:=by
 unfold ixN at h
 by_cases h0:0≤i
 ·rw[if_pos h0] at h
  by_cases h1:i<n
  ·rw[if_pos h1] at h
   have e:i.toNat=j:=Option.some.inj h
   exact⟨by rw[seqIndex_of h0 h1,e],by omega,by omega,h1⟩
  ·rw[if_neg h1] at h; cases h
 ·rw[if_neg h0] at h
  by_cases h1:-(n:Int)≤i
  ·rw[if_pos h1] at h
   have e:(i+n).toNat=j:=Option.some.inj h
   exact⟨by rw[seqIndex_neg (by omega) h1,e],by omega,h1,by omega⟩
  ·rw[if_neg h1] at h; cases h
theorem zoZ {α:Type}{xs:List α}{i:Int}{v:α}(h:atI xs i=some v):∃j,seqIndex? i xs.length=some j∧xs[j]?=some v∧j<xs.length∧-(xs.length:Int)≤i∧i<xs.length:=by
 unfold atI at h
 cases e:ixN xs.length i with
 | none=>rw[e] at h; cases h
 | some j=>
  rw[e] at h
  obtain⟨h1,h2,h3,h4⟩:=zpZ e
  exact⟨j,h1,h,h2,h3,h4⟩
theorem zcV {α:Type}{xs:List α}{j:Nat}{v:α}(h:xs[j]?=some v):atI xs (j:Int)=some v:=by
 have hj:j<xs.length:=(Vab.mp h).1
 have e:ixN xs.length (j:Int)=some j:=by
  unfold ixN
  rw[if_pos (by omega),if_pos (by omega)]; simp
 unfold atI; rw[e]; exact h
def zmU (b:Expr):Prop:=∀o i,subscripted b false o i=operate [o,i] (getItem o i)
def IxR (X:Cx)(r:R2):Prop:=
 ∀(value slice:Expr) (pins:List (Addr×Obj)) (s:Shared) (σ:St) (H:Hp) (x y:V) (v u:Value) (Q:VK),Inv X pins σ H s→zau x v→zau y u→r x y H Q→
  subscripted slice false v u=operate [v,u] (getItem v u)→wpAny (model X.prog X.w) X.A (subscriptTail value slice v u) (EP X pins σ Q) X.xe s
def MtR (X:Cx)(id:String)(r:V→List V→Hp→VK→Prop):Prop:=
 ∀(pins:List (Addr×Obj)) (s:Shared) (σ:St) (H:Hp) (x:V) (xs:List V) (v:Value) (us:List Value) (Q:VK),Inv X pins σ H s→zau x v→zat xs us→r x xs H Q→
  wpAny (model X.prog X.w) X.A (call (.builtin id) (v::us)) (EP X pins σ Q) X.xe s
section
variable {X:Cx}{a b:Expr}{ta tb:TE}{pos:Pos}
theorem IxR.or {r r':R2}(h:IxR X r)(h':IxR X r'):IxR X (λx y H Q=>r x y H Q∨r' x y H Q):=by
 intro value slice pins s σ H x y v u Q I rx ry q hs
 rcases q with q | q
 ·exact h value slice pins s σ H x y v u Q I rx ry q hs
 ·exact h' value slice pins s σ H x y v u Q I rx ry q hs
theorem MtR.or {id:String}{r r':V→List V→Hp→VK→Prop}(h:MtR X id r)(h':MtR X id r'):MtR X id (λx xs H Q=>r x xs H Q∨r' x xs H Q):=by
 intro pins s σ H x xs v us Q I rx rs q
 rcases q with q | q
 ·exact h pins s σ H x xs v us Q I rx rs q
 ·exact h' pins s σ H x xs v us Q I rx rs q
theorem pe_ix {r:R2}(hr:IxR X r)(ha:PE X a ta)(hb:PE X b tb)(hs:zmU b):PE X (.Subscript a b pos) (tOp r ta tb):=by
 intro pins s σ H Q I h
 exact Subscript_ (binT ha hb I h λv u s2 x y H2 I2 rx ry q=>hr a b pins s2 σ H2 x y v u Q I2 rx ry q (hs _ _))
def rIxL (K:PySem.W.Frag):R2:=λx y H Q=>∃p xs i v,x=.ref p∧y=.int i∧SqL K H p xs∧atI xs i=some v∧Q v H
def rIxT (K:PySem.W.Frag):R2:=λx y H Q=>∃p xs i v,x=.ref p∧y=.int i∧SqT K H p xs∧atI xs i=some v∧Q v H
theorem zs1:IxR X (rIxL X.K):=by
 intro value slice pins s σ H x y v u Q I rx ry h hs
 obtain⟨p,xs,i,z,rfl,rfl,hq,he,q⟩:=h
 cases rx
 obtain⟨t,rfl⟩:=ry
 obtain⟨its,r,pl,hz⟩:=I.list hq
 obtain⟨j,h1,h2,h3,h4,h5⟩:=zoZ he
 obtain⟨w,ew,rw'⟩:=r.get h2
 have hl:=r.length
 have hn:=zin
 have fin:EP X pins σ Q w s:=⟨z,H,I,rw',q⟩
 by_cases h0:0≤i
 ·have hj:i.toNat=j:=by
   rw[seqIndex_of h0 h5] at h1
   exact Option.some.inj h1
  exact item_listR pl.isList h0 (by omega) (by rw[hj]; simpa using ew) fin hs
 ·have hj:(i+(its.toArray.size:Int)).toNat=j:=by
   rw[seqIndex_neg (by omega) h4] at h1
   rw[Vak,← hl]
   exact Option.some.inj h1
  exact subscriptTail_builtinR (x:=w) pl.isList.typeIs slot_list_getitem.lookup
   (wpAny_getItem_list_neg (Q:=λr s'=>r=w∧EP X pins σ Q r s') pl.isList (by omega) (by rw[Vak] <;> omega) (by omega) (by rw[hj]; simpa using ew) ⟨rfl,fin⟩) hs
theorem zsA:IxR X (rIxT X.K):=by
 intro value slice pins s σ H x y v u Q I rx ry h hs
 obtain⟨p,xs,i,z,rfl,rfl,hq,he,q⟩:=h
 cases rx
 obtain⟨t,rfl⟩:=ry
 obtain⟨its,r,pl,hz⟩:=I.tuple hq
 obtain⟨j,h1,h2,h3,h4,h5⟩:=zoZ he
 obtain⟨w,ew,rw'⟩:=r.get h2
 have hl:=r.length
 have hn:=zin
 have fin:EP X pins σ Q w s:=⟨z,H,I,rw',q⟩
 exact subscriptTail_builtinR (x:=w) pl.typeIs slot_tuple_getitem.lookup
  (getItem_tuple (j:=j) (Q:=λr s'=>r=w∧EP X pins σ Q r s') pl (by omega) (by omega) (by rw[Vak,← hl]; exact h1) (by simpa using ew) ⟨rfl,fin⟩) hs
theorem ztp (its:List Value)(n j:Nat)(u:Value):Obj.mapSeq (·.setIfInBounds j u) { cls:=.type "list",data:=.seq its.toArray n }={ cls:=.type "list",data:=.seq (its.set j u).toArray n }:=by
 simp[Obj.mapSeq]
theorem Inv.lst {pins:List (Addr×Obj)}{σ:St}{H:Hp}{s:Shared}{p:Addr}{xs:List V}(I:Inv X pins σ H s)(h:H p=some (.lst xs)):
  ∃(its:List Value) (n:Nat),zat xs its∧s.heap.get? p=some { cls:=.type "list",data:=.seq its.toArray n }∧xs.length≤sizeLine:=by
 obtain⟨z,its,n,r,e⟩:=I.hok p _ h
 exact⟨its,n,r,e,z⟩
theorem Inv.lstUpd {pins:List (Addr×Obj)}{σ:St}{H:Hp}{s:Shared}{p:Addr}{xs ys:List V}{its its':List Value}{n n':Nat}{f:Obj→Obj}(I:Inv X pins σ H s)(h:H p=some (.lst xs))
  (ho:s.heap.get? p=some { cls:=.type "list",data:=.seq its.toArray n })(hf:f { cls:=.type "list",data:=.seq its.toArray n }={ cls:=.type "list",data:=.seq its'.toArray n' })(r:zat ys its')(hz:ys.length≤sizeLine)(t:Nat):
  Inv X pins σ (upd H p (.lst ys)) { s with heap:=s.heap.update p f,toks:=t }:=by
 have e:(s.heap.update p f).get? p=some { cls:=.type "list",data:=.seq its'.toArray n' }:=by
  rw[Heap.get?_update_self f ho (by rw[hf] <;> rfl),hf]
 refine I.write (x:=p) (e:=p) (by rw[h]; trivial) (.inl rfl) (λb u hb q=>(Heap.get?_update_other _ _ (Ne.symm hb)).trans q) ⟨_,e⟩ ?_
 exact⟨hz,its',n',r,e⟩
def rSetL:V→V→V→Hp→(Hp→Prop)→Prop:=λo i v H Q=>∃p xs k j,o=.ref p∧i=.int k∧H p=some (.lst xs)∧ixN xs.length k=some j∧Q (upd H p (.lst (xs.set j v)))
theorem ztm:PSet X rSetL:=by
 intro pins s σ H o i v ov iv u Q I ro ri rv h
 obtain⟨p,xs,k,j,rfl,rfl,hp,hj,q⟩:=h
 cases ro
 obtain⟨t,rfl⟩:=ri
 obtain⟨its,n,r,ho,hz⟩:=I.lst hp
 obtain⟨h1,h2,h3,h4⟩:=zpZ hj
 have hl:=r.length
 have hn:=zin
 have I':Inv X pins σ (upd H p (.lst (xs.set j v))) { s with heap:=s.heap.update p (Obj.mapSeq (·.setIfInBounds j u)) }:=
  I.lstUpd hp ho (ztp its n j u) (r.set rv j) (by rw[Va7]; exact hz) s.toks
 by_cases h0:0≤k
 ·have hk:k.toNat=j:=by
   rw[seqIndex_of h0 h4] at h1
   exact Option.some.inj h1
  exact PySem.W.ki_setAt ho h0 (by omega) (by rw[Vak,← hl]; exact h4) (by rw[hk]; exact⟨_,I',q⟩)
 ·have hk:(k+(its.toArray.size:Int)).toNat=j:=by
   rw[seqIndex_neg (by omega) h3] at h1
   rw[Vak,← hl]
   exact Option.some.inj h1
  exact PySem.W.ki_setBack ho (by omega) (by rw[Vak,← hl]; exact h3) (by omega) (by rw[hk]; exact⟨_,I',q⟩)
theorem zxR (lo hi:Option Int)(n:Nat):(sliceBounds lo hi none n).1=((HT.sIx n 0 lo:Nat):Int)∧(sliceBounds lo hi none n).2.1=((HT.sIx n n hi:Nat):Int)∧(sliceBounds lo hi none n).2.2=1:=by
 refine⟨?_,?_,rfl⟩
 ·cases lo with
  | none=>simp[sliceBounds,HT.sIx]
  | some i=>
   simp only[sliceBounds,HT.sIx,Option.getD_none,show (1:Int) > 0 by decide,if_true]
   by_cases h:i<0
   ·simp only[h,if_true] <;> omega
   ·simp only[h,if_false] <;> omega
 ·cases hi with
  | none=>simp[sliceBounds,HT.sIx]
  | some i=>
   simp only[sliceBounds,HT.sIx,Option.getD_none,show (1:Int) > 0 by decide,if_true]
   by_cases h:i<0
   ·simp only[h,if_true] <;> omega
   ·simp only[h,if_false] <;> omega
theorem zs8 (its:List Value)(lo hi:Option Int):slicePick its.toArray lo hi none=((its.drop (HT.sIx its.length 0 lo)).take (HT.sIx its.length its.length hi-HT.sIx its.length 0 lo)).toArray:=by
 obtain⟨h1,h2,h3⟩:=zxR lo hi its.toArray.size
 unfold slicePick
 rw[h1,h2,h3]
 simp only[sliceRange_one,pick_run,Vak] <;> rfl
def rSlL (K:PySem.W.Frag):V→Option Int→Option Int→Hp→VK→Prop:=λx lo hi H Q=>∃a xs,x=.ref a∧SqL K H a xs∧∀p,H p=none→Q (.ref p) (upd H p (.lst (zeM xs lo hi)))
theorem zt3:SlR X (rSlL X.K):=by
 intro pins s σ H x v vl vu lo hi sl Q I rx hs pl pu h
 obtain⟨a,xs,rfl,hx,q⟩:=h
 cases rx
 obtain⟨its,r,ht,hz⟩:=I.list hx
 have hlen:=r.length
 refine⟨"list",_,slot_list_getitem.lookup,ht.isList.typeIs,?_⟩
 refine wpAny_getItem_list_slice ht.isList hs pl pu .none (by simp) ?_ (by rw[Vak] <;> omega)
 rw[zs8,← hlen]
 refine⟨.ref s.heap.objs.size,_,I.laid (t':=s.toks) (o:=.lst (zeM xs lo hi)) (λb ob q=>Heap.get?_push_of_some _ q) (Vad _) ?_,rfl,q _ (I.hok.fresh (Vad _))⟩
 exact⟨VaA (ztL xs lo hi) hz,_,0,(r.drop (HT.sIx xs.length 0 lo)).take (HT.sIx xs.length xs.length hi-HT.sIx xs.length 0 lo),Heap.get?_push_size _ rfl⟩
def zkU:V→Bool
 | .non=>true
 | .bl _=>true
 | .int _=>true
 | .str _=>true
 | _=>false
def eqV:V→V→Bool
 | .non,.non=>true
 | .bl a,.bl b=>a==b
 | .bl a,.int b=>(if a then 1 else 0)==b
 | .int a,.bl b=>a==(if b then 1 else 0)
 | .int a,.int b=>a==b
 | .str a,.str b=>a==b
 | _,_=>false
theorem zwI {A:Around}{s:Shared}{y x:V}{u v:Value}(ry:zau y u)(rx:zau x v)(fy:zkU y=true)(fx:zkU x=true):SeqAt.EqAt A s u v (eqV y x):=by
 cases y with
 | non=>
  cases ry
  cases x with
  | non=>cases rx; exact SeqAt.EqAt.same _
  | bl b=>cases rx; exact SeqAt.EqAt.none_bool b
  | int b=>obtain⟨t,rfl⟩:=rx; exact SeqAt.EqAt.none_int b t
  | str b=>obtain⟨t,rfl⟩:=rx; exact SeqAt.EqAt.none_str b t
  | _=>exact absurd (show false=true from fx) Vaq
 | bl a=>
  cases ry
  cases x with
  | non=>cases rx; exact SeqAt.EqAt.bool_none a
  | bl b=>cases rx; exact SeqAt.EqAt.bool_bool a b
  | int b=>obtain⟨t,rfl⟩:=rx; exact SeqAt.EqAt.bool_int a b t
  | str b=>obtain⟨t,rfl⟩:=rx; exact SeqAt.EqAt.bool_str a b t
  | _=>exact absurd (show false=true from fx) Vaq
 | int a=>
  obtain⟨t',rfl⟩:=ry
  cases x with
  | non=>cases rx; exact SeqAt.EqAt.int_none a t'
  | bl b=>cases rx; exact SeqAt.EqAt.int_bool a t' b
  | int b=>obtain⟨t,rfl⟩:=rx; exact SeqAt.EqAt.int_int a t' b t
  | str b=>obtain⟨t,rfl⟩:=rx; exact SeqAt.EqAt.int_str a t' b t
  | _=>exact absurd (show false=true from fx) Vaq
 | str a=>
  obtain⟨t',rfl⟩:=ry
  cases x with
  | non=>cases rx; exact SeqAt.EqAt.str_none a t'
  | bl b=>cases rx; exact SeqAt.EqAt.str_bool a t' b
  | int b=>obtain⟨t,rfl⟩:=rx; exact SeqAt.EqAt.str_int a t' b t
  | str b=>obtain⟨t,rfl⟩:=rx; exact SeqAt.EqAt.str_str a t' b t
  | _=>exact absurd (show false=true from fx) Vaq
 | _=>exact absurd (show false=true from fy) Vaq
theorem zvb:za7 X (.builtin "len") (λxs H Q=>∃p ys,xs=[.ref p]∧(SqL X.K H p ys∨SqT X.K H p ys)∧Q (.int ys.length) H):=by
 intro pins s σ H xs us Q I r h
 obtain⟨p,ys,rfl,hq,q⟩:=h
 obtain⟨u,rfl,rx⟩:=zdJ r
 cases rx
 have hn:=zin
 rcases hq with hq | hq
 ·obtain⟨its,r',pl,hz⟩:=I.list hq
  have hlen:=r'.length
  exact Calls.call_len_list pl.isList (by simp only[Vak] <;> omega) ⟨.int ys.length,H,I.tok _,⟨s.toks+1,by rw[Vak,hlen]⟩,q⟩
 ·obtain⟨its,r',pl,hz⟩:=I.tuple hq
  have hlen:=r'.length
  exact len_tuple pl (by simp only[Vak] <;> omega) ⟨.int ys.length,H,I.tok _,⟨s.toks+1,by rw[Vak,hlen]⟩,q⟩
theorem za7.or {f:Value}{r r':List V→Hp→VK→Prop}(h:za7 X f r)(h':za7 X f r'):za7 X f (λxs H Q=>r xs H Q∨r' xs H Q):=by
 intro pins s σ H xs us Q I rs q
 rcases q with q | q
 ·exact h pins s σ H xs us Q I rs q
 ·exact h' pins s σ H xs us Q I rs q
theorem zvt:za7 X (.type "list") (λxs H Q=>∃p ys,xs=[.ref p]∧(SqL X.K H p ys∨SqT X.K H p ys)∧∀l,H l=none→Q (.ref l) (upd H l (.lst ys))):=by
 intro pins s σ H xs us Q I r h
 obtain⟨p,ys,rfl,hq,q⟩:=h
 obtain⟨u,rfl,rx⟩:=zdJ r
 cases rx
 have fin:∀(its:List Value),zat ys its→ys.length≤sizeLine→∀(h':Heap) (c':Nat),(∀b o',s.heap.get? b=some o'→h'.get? b=some o')→
   h'.get? s.heap.objs.size=some { cls:=.type "list",dict:=none,data:=.seq its.toArray c',slots:=#[] }→EP X pins σ Q (.ref s.heap.objs.size) { s with heap:=h' }:=λits r' hz h' c' kp e=>
  ⟨.ref s.heap.objs.size,_,I.laid (t':=s.toks) kp (Vad _) (show zbu X.prog X.w _ h' _ (.lst ys) from ⟨hz,its,c',r',e⟩),rfl,q _ (I.hok.fresh (Vad _))⟩
 rcases hq with hq | hq
 ·obtain⟨its,r',pl,hz⟩:=I.list hq
  have hlen:=r'.length
  obtain⟨o,ho,hc,n,hd⟩:=pl.isList
  exact call_list_seq p (.inl rfl) ho hc hd (λh' c' kp e=>fin its r' hz h' c' kp e) (by simp only[Vak] <;> omega)
 ·obtain⟨its,r',pl,hz⟩:=I.tuple hq
  have hlen:=r'.length
  obtain⟨o,ho,hc,n,hd⟩:=pl
  exact call_list_seq p (.inr rfl) ho hc hd (λh' c' kp e=>fin its r' hz h' c' kp e) (by simp only[Vak] <;> omega)
def tyV (K:PySem.W.Frag)(T:String)(x:V)(H:Hp):Prop:=match x with
 | .str _=>T="str"
 | .int _=>T="int"
 | .ref p=>(T="list"∧∃xs,SqL K H p xs)∨(T="tuple"∧∃o,K.lookup p=some o∧o.cls=.type "tuple"∧o.dict=none)∨
   (T="dict"∧((∃kvs,H p=some (.dK kvs))∨∃kvs,H p=some (.dT kvs)))∨(T="set"∧∃S n,H p=some (.set S n))
 | _=>False
theorem zsV {pins:List (Addr×Obj)}{σ:St}{H:Hp}{s:Shared}{T:String}{x:V}{v:Value}(I:Inv X pins σ H s)(r:zau x v)(ty:tyV X.K T x H):
  s.TypeIs v T∧∀a,v=.ref a→∃ob,s.heap.get? a=some ob∧ob.dict=none:=by
 cases x with
 | str z=>
  obtain⟨t,rfl⟩:=r
  cases (show T="str" from ty)
  exact⟨typeIs_str s z t,λ_ e=>nomatch e⟩
 | int i=>
  obtain⟨t,rfl⟩:=r
  cases (show T="int" from ty)
  exact⟨typeIs_int s i t,λ_ e=>nomatch e⟩
 | ref p=>
  cases r
  rcases ty with ⟨rfl,xs,hq⟩ | ⟨rfl,o,hk,hc,hd⟩ | ⟨rfl,hk⟩ | ⟨rfl,S,n,hk⟩
  ·obtain⟨its,_,pl,_⟩:=I.list hq
   refine⟨pl.isList.typeIs,λa e=>?_⟩
   cases e
   obtain⟨o,n,e,c,hd,_⟩:=pl
   exact⟨o,e,hd⟩
  ·refine⟨⟨o,I.kIn p o hk,hc⟩,λa e=>?_⟩
   cases e
   exact⟨o,I.kIn _ o hk,hd⟩
  ·have z:∃o,s.heap.get? p=some o∧o.ExactDict:=by
    rcases hk with ⟨kvs,hk⟩ | ⟨kvs,hk⟩
    ·obtain⟨_,_,_,_,o,_,_,e,ex,_⟩:=I.hok p _ hk
     exact⟨o,e,ex⟩
    ·obtain⟨_,_,_,_,o,_,_,e,ex,_⟩:=I.hok p _ hk
     exact⟨o,e,ex⟩
   obtain⟨o,e,ex⟩:=z
   refine⟨⟨o,e,ex.1⟩,λa e2=>?_⟩
   cases e2
   exact⟨o,e,ex.2.1⟩
  ·obtain⟨o,_,_,_,e,ex,_⟩:=I.hok p _ hk
   refine⟨⟨o,e,ex.1⟩,λa e2=>?_⟩
   cases e2
   exact⟨o,e,ex.2.1⟩
 | _=>exact False.elim ty
def tBM (K:PySem.W.Frag)(T:String)(r:V→List V→Hp→VK→Prop)(to:TE)(t:TA):TE:=λσ H Q=>to σ H λx H1=>tyV K T x H1∧t σ H1 λxs H2=>r x xs H2 Q
variable {o e:Expr}{es:List Expr}{to:TE}{t:TA}{name:Str}{apos cpos:Pos}{T id:String}{r:V→List V→Hp→VK→Prop}
theorem zlp (pa:PlainAttrs T)(slot:Slot T name id)(hty:typeOf (.builtin id)=pure (.type "method_descriptor"))(hm:MtR X id r)(ho:PE X o to)(ha:PA X (e::es) t)
  (hbase:attributeBase o name X.env (eval o X.env)=eval o X.env:=by rfl)
  (hfew:((backTo cpos (starEach (e::es) X.env)).all (λx=>!x.1)&&(backToKw cpos (keywordEach [] X.env)).all (λx=>x.1.isSome)
  &&decide ((e::es).length+([]:List Keyword).length+(if ([]:List Keyword).isEmpty then 0 else 1)<30))=true:=by rfl)
  (hline:(apos.endLine==cpos.line)=true:=by rfl)(hs:starEach (e::es) X.env=(false,eval e X.env)::starEach es X.env:=by rfl)(hplain:(backTo cpos (starEach es X.env)).any (·.1)=false:=by rfl):
  PE X (.Call (.Attribute o name apos) (e::es) [] cpos) (tBM X.K T r to t):=by
 intro pins s σ H Q I h
 refine wpAny_Call_method_late hbase hfew hline rfl (thn (ho pins s σ H _ I h) λv s1 ⟨x,H1,I1,r1,ty,q1⟩=>?_)
 obtain⟨h1,h2⟩:=zsV I1 r1 ty
 refine⟨T,id,pa,slot,hty,h1,h2,?_⟩
 have hA:=ha cpos pins s1 σ H1 _ I1 q1
 rw[hs] at hA ⊢
 refine Calls.callWith_builtin (by show (false||(backTo cpos (starEach es X.env)).any (·.1))=false; rw[hplain] <;> rfl) (Calls.evalArgs_plain ?_)
 exact thn hA λus s2 ⟨vs,H2,I2,r2,q2⟩=>hm pins s2 σ H2 x vs v us Q I2 r1 r2 q2
end
end L2
namespace L2
open PySem PySem.Spec PyProof.Rows
def MtM (X:Cx)(id:String)(r:V→List V→Hp→VK→Prop):Prop:=
 ∀(pins:List (Addr×Obj)) (s:Shared) (σ:St) (H:Hp) (x:V) (xs:List V) (v:Value) (us:List Value) (Q:VK),Inv X pins σ H s→zau x v→zat xs us→r x xs H Q→
  wpAny (model X.prog X.w) X.A (call (.builtin id) (v::us)) (EP X pins σ Q) X.xe s
theorem zat.one:∀ {x:V} {us:List Value},zat [x] us→∃u,us=[u]∧zau x u
 | _,_,.cons r .nil=>⟨_,rfl,r⟩
theorem zat.two:∀ {x y:V} {us:List Value},zat [x,y] us→∃u v,us=[u,v]∧zau x u∧zau y v
 | _,_,_,.cons r (.cons q .nil)=>⟨_,_,rfl,r,q⟩
theorem zat.zero:∀ {us:List Value},zat [] us→us=[]
 | _,.nil=>rfl
theorem zat.eraseIdx:∀ {xs:List V} {us:List Value} (i:Nat),zat xs us→zat (xs.eraseIdx i) (us.eraseIdx i)
 | _,_,_,.nil=>.nil
 | _,_,0,.cons _ t=>t
 | _,_,i+1,.cons r t=>.cons r (zat.eraseIdx i t)
theorem zat.reverse {xs:List V}{us:List Value}(h:zat xs us):zat xs.reverse us.reverse:=by
 induction h with
 | nil=>exact .nil
 | cons r t ih=>rw[List.reverse_cons,List.reverse_cons]; exact zat.append ih (.cons r .nil)
theorem zat.rep {xs:List V}{us:List Value}(h:zat xs us):∀k:Nat,zat (List.replicate k xs).flatten (List.replicate k us).flatten
 | 0=>.nil
 | k+1=>by
  rw[Va8,Va8,Vbf,Vbf]
  exact zat.append h (zat.rep h k)
theorem zqq {α:Type}:∀(l:List α) (i:Nat),(l.eraseIdx i).length≤l.length
 | [],_=>Vad _
 | _::_,0=>Nat.le_succ _
 | _::r,i+1=>Nat.succ_le_succ (zqq r i)
theorem zq3 (its:List Value):∀(k:Nat) (acc:List Value),
  List.foldl (λx1 x2=>x1++x2) acc.toArray (List.replicate k its.toArray)=(acc++(List.replicate k its).flatten).toArray
 | 0,acc=>by simp
 | k+1,acc=>by
  have e:acc.toArray++its.toArray=(acc++its).toArray:=by simp
  have e2:(acc++its)++(List.replicate k its).flatten=acc++(List.replicate (k+1) its).flatten:=by
   rw[Va8,Vbf,Va9]
  rw[← e2,← zq3 its k (acc++its),← e,Va8,List.foldl_cons]
section
variable {X:Cx}{pins:List (Addr×Obj)}{σ:St}{H:Hp}{s:Shared}{l b:Addr}{xs ys zs:List V}
theorem Inv.lset {its its':List Value}{n:Nat}{f:Array Value→Array Value}{t':Nat}(I:Inv X pins σ H s)(hH:H l=some (.lst xs))
  (e:s.heap.get? l=some { cls:=.type "list",data:=.seq its.toArray n })(hf:f its.toArray=its'.toArray)(hv:zat ys its')(hz:ys.length≤sizeLine):
  Inv X pins σ (upd H l (.lst ys)) { s with heap:=s.heap.update l (Obj.mapSeq f),toks:=t' }:=by
 have q:=PySem.IsL.update e f
 rw[hf] at q
 refine I.write (x:=l) (e:=l) (by rw[hH]; exact trivial) (.inl rfl) (λb' u hb hu=>(Heap.get?_update_other s.heap (Obj.mapSeq f) (Ne.symm hb)).trans hu) ⟨_,q⟩ ?_
 exact⟨hz,its',_,hv,q⟩
theorem Inv.lnew {its:List Value}{t':Nat}(I:Inv X pins σ H s)(hv:zat ys its)(hz:ys.length≤sizeLine):
  Inv X pins σ (upd H s.heap.objs.size (.lst ys)) { s with heap:=s.heap.push { cls:=.type "list",data:=.seq its.toArray },toks:=t' }:=
 I.laid (λ_ _ q=>Heap.get?_push_of_some _ q) (Vad _) ⟨hz,its,0,hv,Heap.get?_push_size _ rfl⟩
theorem Inv.fresh (I:Inv X pins σ H s):H s.heap.objs.size=none:=I.hok.fresh (Vad _)
theorem Inv.lstM (I:Inv X pins σ H s)(hH:H l=some (.lst xs)):xs.length≤sizeLine∧∃(its:List Value) (n:Nat),zat xs its∧xs.length=its.length∧s.heap.get? l=some { cls:=.type "list",data:=.seq its.toArray n }:=by
 obtain⟨z,its,n,r,e⟩:=I.hok l _ hH
 exact⟨z,its,n,r,r.length,e⟩
theorem zvs {n:Nat}(h:n≤sizeLine):Builtin.List.listTooLong n=false:=by
 unfold Builtin.List.listTooLong
 exact decide_eq_false (by omega)
end
section
variable {X:Cx}
def zrT:V→List V→Hp→VK→Prop:=λx vs H Q=>∃l xs y,x=.ref l∧vs=[y]∧H l=some (.lst xs)∧xs.length<sizeLine∧Q .non (upd H l (.lst (xs++[y])))
theorem zm7:MtM X "list.append" zrT:=by
 intro pins s σ H x vs v us Q I rx rv h
 obtain⟨l,xs,y,rfl,rfl,hH,hz,q⟩:=h
 cases rx
 obtain⟨u,rfl,ru⟩:=rv.one
 obtain⟨z,its,n,r,hl,e⟩:=I.lstM hH
 refine call_meets F.slot_list_append ⟨_,e,rfl⟩ F.entry_list_append (F.args_list_append_2 _ _) (PySem.list_append l its.toArray n u (by rw[Vak]; omega)) ⟨e,?_⟩
 refine⟨.non,_,I.lset (its':=its++[u]) hH e (by simp) (r.append (.cons ru .nil)) ?_,rfl,q⟩
 rw[Var,List.length_singleton]
 omega
def zsf:V→List V→Hp→VK→Prop:=λx vs H Q=>∃l xs i k y,x=.ref l∧vs=[.int i]∧H l=some (.lst xs)∧-(2^63)≤i∧i<2^63∧seqIndex? i xs.length=some k∧xs[k]?=some y∧Q y (upd H l (.lst (xs.eraseIdx k)))
theorem zt6:MtM X "list.pop" zsf:=by
 intro pins s σ H x vs v us Q I rx rv h
 obtain⟨l,xs,i,k,y,rfl,rfl,hH,h1,h2,hk,hy,q⟩:=h
 cases rx
 obtain⟨u,rfl,ru⟩:=rv.one
 obtain⟨t,rfl⟩:=ru
 obtain⟨z,its,n,r,hl,e⟩:=I.lstM hH
 obtain⟨w,hw,rw'⟩:=r.get hy
 refine call_meets F.slot_list_pop ⟨_,e,rfl⟩ F.entry_list_pop (F.args_list_pop_2 _ _)
  (MeetsSeq.list_pop_at l its.toArray n i t k w (fitsIndex_both h1 h2) (by rw[Vak,← hl]; exact hk) (by rw[← Array.getElem?_toList]; exact hw) (by rw[Vak]; omega)) ⟨e,?_⟩
 refine⟨y,_,I.lset (its':=its.eraseIdx k) hH e ?_ (r.eraseIdx k) ?_,rw',q⟩
 ·show its.toArray.eraseIdxIfInBounds k=(its.eraseIdx k).toArray
  rw[List.eraseIdxIfInBounds_toArray]
 ·have:=zqq xs k
  omega
def rCat:R2:=λx y H Q=>∃l b xs zs,x=.ref l∧y=.ref b∧H l=some (.lst xs)∧H b=some (.lst zs)∧xs.length+zs.length≤sizeLine∧∀p,H p=none→Q (.ref p) (upd H p (.lst (xs++zs)))
theorem zxa:OpR X (binaryOp .Add) rCat:=by
 intro pins s σ H x y v u Q I rx ry h
 obtain⟨l,b,xs,zs,rfl,rfl,hH,hB,hz,q⟩:=h
 cases rx
 cases ry
 obtain⟨z,its,n,r,hl,e⟩:=I.lstM hH
 obtain⟨z2,its2,n2,r2,hl2,e2⟩:=I.lstM hB
 refine PySem.P.add_list e e2 ?_ (by rw[Vak,Vak]; omega)
 have ea:its.toArray++its2.toArray=(its++its2).toArray:=by simp
 rw[ea]
 exact⟨.ref _,_,I.lnew (t':=s.toks) (r.append r2) (by rw[Var]; omega),rfl,q _ I.fresh⟩
def rRep:R2:=λx y H Q=>∃l k xs,x=.ref l∧y=.int k∧H l=some (.lst xs)∧-(2^63)≤k∧k<2^63∧xs.length*k.toNat≤sizeLine∧
 ∀p,H p=none→Q (.ref p) (upd H p (.lst (List.replicate k.toNat xs).flatten))
theorem zyD {α:Type}(xs:List α)(k:Nat):(List.replicate k xs).flatten.length=k*xs.length:=by
 induction k with
 | zero=>simp
 | succ k ih=>rw[Va8,Vbf,Var,ih,Nat.succ_mul,Nat.add_comm]
theorem zsd:OpR X (binaryOp .Mult) rRep:=by
 intro pins s σ H x y v u Q I rx ry h
 obtain⟨l,k,xs,rfl,rfl,hH,h1,h2,hz,q⟩:=h
 cases rx
 obtain⟨t,rfl⟩:=ry
 obtain⟨z,its,n,r,hl,e⟩:=I.lstM hH
 have hlen:its.toArray.size*k.toNat≤sizeLine:=by rw[Vak,← hl]; exact hz
 have hcap:¬ its.toArray.size*k.toNat > (2^63-1)/8:=by
  have:(sizeLine:Nat)≤(2^63-1)/8:=by decide
  omega
 have hfit:¬ (!Builtin.List.listFitsIndex k)=true:=by
  rw[fitsIndex_both h1 h2]
  exact Vaq
 have hlong:¬ Builtin.List.listTooLong (its.toArray.size*k.toNat)=true:=by
  rw[zvs hlen]
  exact Vaq
 have hnew:List.foldl (λx1 x2=>x1++x2) #[] (List.replicate (if its.toArray.isEmpty=true then 0 else k.toNat) its.toArray)=(List.replicate k.toNat its).flatten.toArray:=by
  have f0:∀m:Nat,List.foldl (λx1 x2=>x1++x2) #[] (List.replicate m its.toArray)=(List.replicate m its).flatten.toArray:=λm=>by
   have:=zq3 its m []
   rw[List.nil_append] at this
   exact this
  rw[f0]
  cases its with
  | nil=>simp
  | cons a r'=>rw[if_neg (by simp)]
 refine wpAny_binaryOp_repeat_ref (T:="list") (U:="int") (by decide) ⟨_,e,rfl⟩ (λs'=>typeIs_int s' k t) noFill_list_mul F.fills_int_mul F.slot_int_rmul repeat_list F.slot_int_index.lookup
  (call_meets F.slot_int_rmul (typeIs_int s k t) F.entry_int_rmul (F.args_int_rmul_2 _ _) (int___rmul___int_list k t l its.toArray n)
   ⟨e,rfl,⟨_,e,rfl⟩,call_meets F.slot_list_mul ⟨_,e,rfl⟩ F.entry_list_mul (F.args_list_mul_2 _ _) (AutoListH.list___mul___list_int_3 l its.toArray n k t hfit hcap hlong) ⟨e,?_⟩⟩)
 rw[hnew]
 exact⟨.ref _,_,I.lnew (t':=s.toks) (r.rep k.toNat) (by rw[zyD,Nat.mul_comm]; exact hz),rfl,q _ I.fresh⟩
end
section
variable {prog:Program}{w:World}{A:Around}{E:Value→Shared→Prop}{s:Shared}
set_option maxRecDepth 100000 in
end
section
variable {X:Cx}
end
end L2
namespace Att
open PySem PySem.W PySem.Calls PyProof.Rows
theorem zyA {P:Params}{h:Heap}:∀(ns:List Int) (vs:List Value),WellAll P h vs (ns.map WData.int)→IntsAre vs ns:=by
 intro ns
 induction ns with
 | nil=>
  intro vs w
  rw[List.map_nil] at w
  cases w
  exact .nil
 | cons n ns ih=>
  intro vs w
  rw[Vas] at w
  cases w with
  | cons a b=>
   cases a
   exact .cons _ _ (ih _ b)
theorem zuX {l:OpenLaw}{n:Nat}(hn:l.most=some n){P:Params}{h:Heap}{args:List WData}{vals:List Value}
  (hpre:l.row.toRowW.claim.pre args=true)(hwl:WellAll P h vals args):
  ∃a vs ns,vals=[Value.ref a]∧args=[WData.list (ns.map WData.int)]∧h.get? a=some { cls:=.type "list",data:=.seq vs.toArray }∧IntsAre vs ns∧ns.length≤n:=by
 have hsh:WShape.hasAll [] args [.list .int]=true:=(pre_splitW hpre).1
 have hc:l.pre.holds [] { args:=args }=true:=(pre_splitW hpre).2
 obtain⟨d,r,rfl,h1,h2⟩:=hasAllW_cons hsh
 obtain rfl:=hasAllW_nil h2
 obtain⟨xs,rfl,h3⟩:=hasW_list h1
 obtain⟨ns,rfl⟩:=items_int h3
 have hlen:ns.length≤n:=by
  unfold OpenLaw.pre at hc
  have h4:(WTm.not (.lt (.lit (.int (n:Int))) (.len (.arg 0)))).holds [] { args:=[.list (ns.map .int)] }=true:=by
   have h4:=(holds_andW hc).1
   rw[hn] at h4
   exact h4
  have h5:=condW_of h4 (w_not (w_lt w_lit (w_len_list (w_arg rfl))))
  rw[Vac] at h5
  refine Nat.le_of_not_lt λq=>?_
  have q':(n:Int)<((ns.length:Nat):Int):=by omega
  first
   | (rw[decide_eq_true q'] at h5; exact absurd h5 (by decide))
   | (simp at h5; omega)
 cases hwl with
 | cons w1 w2=>
  cases w2
  cases w1 with
  | list ho hall=>exact⟨_,_,ns,rfl,rfl,ho,zyA ns _ hall,hlen⟩
theorem zsr (l:OpenLaw)(args:List WData):l.row.toRowW.claim.post args (.bool true) args=true:=
 postW_of (r:=l.row.toRowW) (X:=(true==true))
  (show WShape.has [] (.bool true) .bool=true by first | rfl | decide | simp[WShape.has,WShape.arms,WShape.armsAll])
  (show (WTm.eq .res (.lit (.bool true))).value [] { args:=args,res:=some (.bool true),after:=args }=some (.bool (true==true)) from w_eq_bool (w_res rfl) w_lit) rfl
theorem attach_call {l:OpenLaw}{n:Nat}{q:Program}{loose:List Str}{XP:(Str→Option Value)→Heap→Prop}{YP:World→Heap→Prop}{d:DefRec}
  (hn:l.most=some n)(hdf:d.params.defaults=[])
  (call:∀(w:World) (s₀ s₁:Shared) (mg mb:Str→Option Value) (fa:Addr) (o:Obj) (pm cd doc:Value) (a:Addr) (vs:List Value) (ns:List Int),
   Ground q loose [] XP w s₀ mg mb s₁.heap→YP w s₁.heap→
   s₁.heap.get? fa=some o→o.data=.func (docDef d.name d.params d.body d.scope pm cd doc)→s₁.heap.CodeRec cd d.name→mg d.name=some (.ref fa)→
   s₁.heap.get? a=some { cls:=.type "list",data:=.seq vs.toArray }→IntsAre vs ns→ns.length≤n→s₁.gens=#[]→
   codeAny (model l.prog w) callerA (.call (.ref fa) ⟨[.ref a],[]⟩) (λr s'=>r=.ok (.ret (.bool true))∧OldK s₁.heap s'.heap∧s'.os=s₁.os∧AllBare s'.gens) s₁):
  WalkO q loose XP YP l.row.toRowW d [] (λf vs=>PySem.call f vs):=by
 intro w s₀ s₁ mg mb G Y fa o pm cd doc dV kV ho hd hcd hD hmg hg args vals as hpre hlay hrd hwl hlo
 obtain rfl:dV=.none:=Dflts.none hD hdf
 obtain rfl:kV=.none:=Dflts.noKw hD
 obtain⟨a,vs,ns,rfl,rfl,hobj,hints,hlen⟩:=zuX hn hpre hwl
 refine enter_call (codeAny_mono (call w s₀ s₁ mg mb fa o pm cd doc a vs ns G Y ho (fd_plain hd) hcd hmg hobj hints hlen hg) λr s' hq=>?_)
 obtain⟨rfl,h2,h3,h4⟩:=hq
 exact⟨.inl ⟨.bool true,.bool true,[],rfl,λ_=>rfl,.bool true,zsr l _,λ_=>⟨List.Pairwise.nil,λ_ hm=>(nomatch hm)⟩⟩,h2,h3,h4⟩
section
variable {prog:Program}{w:World}{A:Around}{E:Value→Shared→Prop}{s:Shared}{K:Frag}
def ledger (h:Heap)(L d:Addr):List (Addr×Obj):=(List.range h.objs.size).filterMap λa=>if a=L∨a=d then none else (h.get? a).map λo=>(a,o)
end
end Att
namespace L2
open PySem PySem.Spec PyProof.Rows
theorem zja:∀ {vs:List Value} {ns:List Int},IntsAre vs ns→zat (ns.map V.int) vs
 | _,_,.nil=>.nil
 | _,_,.cons n t h=>.cons ⟨t,rfl⟩ (zja h)
def zhM (H:Hp):Prop:=∀b,H b=none∨∃o xs,H b=some (.frz o (.lst xs))
theorem zwa {P:Program}{w:World}{K:PySem.W.Frag}{mg mb:Str→Option Value}{CX:CXT}{k:Nat}{fa a:Addr}{fd:FuncData}{x:Str}{sp:Sp}{s₁:Shared}{vs:List Value}{ns:List Int}
  (KX:K.In s₁.heap)(hns:s₁.heap.Ns mainGlobals mg)(hb:s₁.heap.Ns builtinsNs mb)(hbb:∀x:Str,x≠"__name__"→mb x=bootBuiltins x)(hlim:s₁.heap.NoLimit)(hg:s₁.gens=#[])
  (ha:s₁.heap.get? a=some { cls:=.type "list",data:=.seq vs.toArray })(hi:IntsAre vs ns)(hl:ns.length≤sizeLine)(hr:zaK k callerA)
  (F:∀base:Heap,K.In base→base.Ns mainGlobals mg→za5 P w K mg base CX k fa fd [x] sp)(hbind:∀(s:Shared) (u:Value),BindsTo s fd ⟨[u],[]⟩ [(x,u)])
  (hsp:∀H:Hp,zhM H→SqL K H a (ns.map V.int)→sp [.ref a] H (λv _=>v=.bl true) λ_ _ _=>False)
  (hCX:∀H e s',CX [] H s₁ (λ_ _ _=>False) e s'→False):
  codeAny (model P w) callerA (.call (.ref fa) ⟨[.ref a],[]⟩) (λr s'=>r=.ok (.ret (.bool true))∧OldK s₁.heap s'.heap∧s'.os=s₁.os∧AllBare s'.gens) s₁:=by
 have rv:=zja hi
 have lenV:=hi.length
 have core:∀H:Hp,zhM H→SqL K H a (ns.map V.int)→HOk P w H s₁.heap→(∀b,H b≠none→b=a)→(H a≠none→K.lookup a=none)→
   codeAny (model P w) callerA (.call (.ref fa) ⟨[.ref a],[]⟩) (λr s'=>r=.ok (.ret (.bool true))∧OldK s₁.heap s'.heap∧s'.os=s₁.os∧AllBare s'.gens) s₁:=by
  intro H hO hS hok hA hK
  have base_of:∀ {b:Addr} {o:Obj},s₁.heap.get? b=some o→H b=none→(zdz s₁.heap H).get? b=some o:=λe n=>zs3 e n
  have noA:∀ {b:Addr} {o:Obj} {es:Array DictEntry} {ep:Nat},s₁.heap.get? b=some o→o.data=.dict es ep→H b=none:=λ{b o es ep} e d=>by
   cases q:H b with
   | none=>rfl
   | some u=>
    have e':b=a:=hA b (by rw[q]; simp)
    subst e'
    rw[ha] at e; cases e
    have d':Data.seq vs.toArray _=Data.dict es ep:=d
    cases d'
  have nsK:∀ {b:Addr} {m:Str→Option Value},s₁.heap.Ns b m→(zdz s₁.heap H).Ns b m:=λ{b m} ⟨o,es,ep,e,d,r⟩=>⟨o,es,ep,base_of e (noA e d),d,r⟩
  have hKb:K.In (zdz s₁.heap H):=λb o e=>base_of (KX b o e) (by
   cases q:H b with
   | none=>rfl
   | some u=>
    have e':b=a:=hA b (by rw[q]; simp)
    subst e'
    rw[hK (by rw[q]; simp)] at e; cases e)
  have hM:Mod K mg (zdz s₁.heap H):=⟨hKb,nsK hns,⟨mb,nsK hb,hbb⟩,let ⟨mc,h1,h2⟩:=hlim; ⟨mc,nsK h1,h2⟩⟩
  have e0:zcO P w K mg (zdz s₁.heap H) callerA [] s₁ H:=⟨rfl,hM,λb o e=>zwE e,Nat.le_of_eq (zvo _ _),trivial,λb hb=>absurd (show b∈([]:List Addr) from hb) (by simp),hok,.of_eq hg⟩
  refine codeAny_mono ((F _ hKb (nsK hns)).run callerA [] s₁ H ⟨[.ref a],[]⟩ [.ref a] [.ref a] _ _ hr e0 (hbind s₁ (.ref a)) (.cons rfl .nil) (hsp H hO hS)) λr s' h=>?_
  cases r with
  | error e=>exact(hCX H e s' h).elim
  | ok fl=>
   cases fl with
   | next=>exact False.elim h
   | brk=>exact False.elim h
   | cont=>exact False.elim h
   | ret u=>
    obtain⟨v,H',os,bare,un,hok',r',q⟩:=h
    have q':v=.bl true:=q
    subst q'
    obtain rfl:u=Value.bool true:=r'
    refine⟨rfl,OldK.of_keep λb o e=>?_,os,bare⟩
    cases q:H b with
    | none=>exact un.keep b o e q (by intro z; exact absurd (show b∈([]:List Addr) from z) (by simp)) (by simp)
    | some u=>
     rcases hO b with z | ⟨ob,xs,z⟩
     ·rw[q] at z; cases z
     ·have z2:=un.frzs b ob _ z
      obtain⟨e1,_⟩:=hok b _ z
      obtain⟨e2,_⟩:=hok' b _ z2
      rw[e] at e1; cases e1
      exact e2
 cases hk:K.lookup a with
 | some o=>
  have e:=KX a o hk
  rw[ha] at e
  cases e
  refine core (λ_=>none) (λ_=>.inl rfl) (.inr ⟨_,vs.toArray,_,hk,rfl,rfl,rfl,by rw[Vak,lenV]; exact hl,by simpa using rv⟩) (λb u z=>by have z':(none:Option HO)=some u:=z; cases z') (λb z=>absurd rfl z) λz=>absurd rfl z
 | none=>
  refine core (λb=>if b=a then some (.frz { cls:=.type "list",data:=.seq vs.toArray } (.lst (ns.map V.int))) else none) (λb=>?_) (.inl (.inr ⟨{ cls:=.type "list",data:=.seq vs.toArray },if_pos rfl⟩)) (λb u z=>?_) (λb z=>?_) λ_=>hk
  ·by_cases hb:b=a
   ·exact .inr ⟨_,_,if_pos hb⟩
   ·exact .inl (if_neg hb)
  ·by_cases hb:b=a
   ·have z':=(if_pos hb).symm.trans z
    cases z'
    subst hb
    exact⟨ha,by rw[Vac]; exact hl,vs,_,rv,ha⟩
   ·have z':=(if_neg hb).symm.trans z
    cases z'
  ·by_cases hb:b=a
   ·exact hb
   ·exact absurd (if_neg hb) z
end L2
namespace L2
open PySem PySem.Spec PyProof.Rows
theorem zwq {l:PySem.W.OpenLaw}{n k:Nat}{q:Program}{loose:List Str}{XP:(Str→Option Value)→Heap→Prop}{YP:World→Heap→Prop}{d:DefRec}{K:Params→PySem.W.Frag}{CX:World→CXT}{sp:World→Sp}{x:Str}
  (hn:l.most=some n)(hn2:n≤sizeLine)(hdf:d.params.defaults=[])(hr:zaK k callerA)
  (hY:∀(w:World) (h:Heap),YP w h→(K w.params).In h)
  (F:∀(w:World) (mg:Str→Option Value) (fa:Addr) (h:Heap),(K w.params).In h→h.Ns mainGlobals mg→mg d.name=some (.ref fa)→
   ∃fd:FuncData,(∀(s:Shared) (u:Value),BindsTo s fd ⟨[u],[]⟩ [(x,u)])∧
    ∀base:Heap,(K w.params).In base→base.Ns mainGlobals mg→za5 l.prog w (K w.params) mg base (CX w) k fa fd [x] (sp w))
  (hsp:∀(w:World) (H:Hp) (a:Addr) (ns:List Int),ns.length≤n→zhM H→SqL (K w.params) H a (ns.map V.int)→sp w [.ref a] H (λv _=>v=.bl true) λ_ _ _=>False)
  (hCX:∀(w:World) (H:Hp) (s:Shared) (e:Value) (s':Shared),CX w [] H s (λ_ _ _=>False) e s'→False):
  PySem.W.WalkO q loose XP YP l.row.toRowW d [] (λf vs=>PySem.call f vs):=by
 refine Att.attach_call hn hdf λw s₀ s₁ mg mb fa o pm cd doc a vs ns G Y ho hd hcd hmg hobj hints hlen hg=>?_
 have KX:=hY w _ Y
 obtain⟨fd,hb,hF⟩:=F w mg fa _ KX G.T.g hmg
 exact zwa KX G.T.g G.T.b G.T.builtins G.T.nolimit hg hobj hints (VaA hlen hn2) hr hF hb (λH hO hS=>hsp w H a ns hlen hO hS) λH e s'=>hCX w H s₁ e s'
end L2
namespace L2
open PySem PySem.Spec PyProof.Rows
abbrev CX0:CXT:=λ_ _ _ _ _ _=>False
structure Fun (K:PySem.W.Frag)(x qual:Str)(st:Stmt)(f:Addr)(fd:FuncData):Prop where
 ex:∃(oc:Value) (od:Option Addr) (kV doc pm:Value) (an:Option Addr) (cdv ct:Value) (osl:Array (Option Value)),
  fd=PySem.W.fnOf x qual (zeh st) (zdv st) (zam st) .none kV doc pm an cdv ct∧K.lookup f=some ⟨oc,od,.func fd,osl⟩∧PySem.W.codeIn K cdv qual=true
 kp:PySem.W.keepIn K (.ref f)=true
section
variable {P:Program}{w:World}{K:PySem.W.Frag}{mg:Str→Option Value}{base:Heap}
theorem Fun.ok {x qual:Str}{st:Stmt}{f:Addr}{fd:FuncData}{N ps:List Str}{k:Nat}{sp:Sp}(F:Fun K x qual st f fd)(S:zay N ps (zam st))(len:∀vs H Q E,sp vs H Q E→vs.length=ps.length)
  (hbody:∀(cdv:Value) (A:Around) (outer:List Env) (s:Shared) (H:Hp) (vs:List V) (Q:VK) (E:XK),zaK k (A.deeper (envOfC qual (zam st) s.heap.objs.size f cdv))→sp vs H Q E→
   ∃t,PSs (zeA CX0 P w K mg base N qual (zam st) f cdv A outer s H E).nox (zdv st) t∧t { nx:=λ_ H'=>Q .non H',rt:=Q } (start N vs) H):za5 P w K mg base CX0 (k+1) f fd ps sp:=by
 obtain⟨oc,od,kV,doc,pm,an,cdv,ct,osl,rfl,lk,hcd⟩:=F.ex
 refine zpX lk hcd S len λA outer s H vs Q E hr hsp=>?_
 obtain⟨t,h,q⟩:=hbody cdv A outer s H vs Q E hr hsp
 exact⟨t,h.nox,q⟩
theorem Fun.binds {x qual:Str}{st:Stmt}{f:Addr}{fd:FuncData}{ps:List Str}(F:Fun K x qual st f fd)
  (h:∀(kV doc pm:Value) (an:Option Addr) (cdv ct:Value) (us:List Value),us.length=ps.length→bindArgs (PySem.W.fnOf x qual (zeh st) (zdv st) (zam st) .none kV doc pm an cdv ct) ⟨us,[]⟩=pure (ps.zip us)):zbI K fd ps []:=by
 obtain⟨oc,od,kV,doc,pm,an,cdv,ct,osl,rfl,lk,hcd⟩:=F.ex
 exact .all (h kV doc pm an cdv ct)
theorem zj5 {x qual:Str}{st:Stmt}{f:Addr}{oc:Value}{od an:Option Addr}{osl:Array (Option Value)}{kV doc pm cdv ct:Value}(l:K.lookup f=some ⟨oc,od,.func (PySem.W.fnOf x qual (zeh st) (zdv st) (zam st) .none kV doc pm an cdv ct),osl⟩)
  (c:PySem.W.codeIn K cdv qual=true)(k:PySem.W.keepIn K (.ref f)=true):Fun K x qual st f (PySem.W.fnOf x qual (zeh st) (zdv st) (zam st) .none kV doc pm an cdv ct):=⟨⟨oc,od,kV,doc,pm,an,cdv,ct,osl,rfl,l,c⟩,k⟩
end
theorem zgE {n:Nat}(h:n≤1000):n<sizeLine:=Nat.lt_of_le_of_lt h (by decide)
section
variable {X:Cx}
theorem pv (i:Nat){x:Str}{pos:Pos}(hN:X.N[i]?=some x:=by rfl)(hv:Vis X.env.scope x:=by first | exact Or.inl rfl | exact Or.inr (Or.inl rfl) | exact Or.inr (Or.inr rfl))(hd:(x==("__debug__":Str))=false:=by decide)
  (hcd:(x==("__classdict__":Str))=false:=by decide):PE X (.Name x pos) (tVar i):=zrk hN hv hd hcd
end
theorem zbj {A B:Prop}(h:B):if false=true then A else B:=by
 rw[if_neg Vaq]
 exact h
theorem zbL {A B:Prop}(h:A):if true=true then A else B:=by
 rw[if_pos rfl]
 exact h
theorem ze3 {c A B:Prop} [Decidable c] (h1:c→A)(h2:¬ c→B):if c then A else B:=by
 by_cases h:c
 ·rw[if_pos h]
  exact h1 h
 ·rw[if_neg h]
  exact h2 h
def zc6 (H H':Hp):Prop:=∀b o,H b=some o→H' b=some o
theorem zc6.refl (H:Hp):zc6 H H:=λ_ _ h=>h
theorem zc6.trans {H H1 H2:Hp}(a:zc6 H H1)(b:zc6 H1 H2):zc6 H H2:=λc o h=>b c o (a c o h)
theorem zc6.free {H H':Hp}(e:zc6 H H'){l:Addr}(h:H' l=Option.none):H l=Option.none:=by
 cases q:H l with
 | none=>rfl
 | some o=>
  rw[e l o q] at h
  cases h
theorem zc6.seq {K:PySem.W.Frag}{H H':Hp}{a:Addr}{xs:List V}(e:zc6 H H')(h:SqL K H a xs):SqL K H' a xs:=by
 rcases h with (h | ⟨o,h⟩) | h
 ·exact .inl (.inl (e _ _ h))
 ·exact .inl (.inr ⟨o,e _ _ h⟩)
 ·exact .inr h
end L2
namespace L2
open PySem PySem.Spec PyProof.Rows
section
variable {κ:Type} [DecidableEq κ]
def zch (kvs:List (κ×V))(k:κ):Option V:=(kvs.find? λkv=>decide (kv.1=k)).map (·.2)
def putK (kvs:List (κ×V))(k:κ)(v:V):List (κ×V):=
 if (kvs.any λkv=>decide (kv.1=k))=true then kvs.map (λkv=>if kv.1=k then (kv.1,v) else kv) else kvs++[(k,v)]
def zpM (kvs:List (κ×V))(k:κ):List (κ×V):=kvs.filter λkv=>decide (kv.1≠k)
theorem zkq {p:κ×V}{r:List (κ×V)}{k:κ}(e:p.1=k):zch (p::r) k=some p.2:=by simp[zch,Va2,e]
theorem zlA {p:κ×V}{r:List (κ×V)}{k:κ}(e:¬ p.1=k):zch (p::r) k=zch r k:=by simp[zch,Va2,e]
theorem zpJ (k:κ):∀kvs:List (κ×V),(kvs.any λkv=>decide (kv.1=k))=(zch kvs k).isSome
 | []=>rfl
 | p::r=>by
  rw[List.any_cons]
  by_cases e:p.1=k
  ·simp only[zkq e,decide_eq_true e,Bool.true_or,Option.isSome_some]
  ·rw[zlA e,decide_eq_false e,Bool.false_or]; exact zpJ k r
theorem zb0.isSome_eq {o:Option V}{u:Option Value}(r:zb0 o u):o.isSome=u.isSome:=by
 cases o with
 | none=>cases u with
  | none=>rfl
  | some _=>exact(show False from r).elim
 | some _=>cases u with
  | none=>exact(show False from r).elim
  | some _=>rfl
theorem zb0.getD {o:Option V}{u:Option Value}{d:V}{d':Value}(r:zb0 o u)(rd:zau d d'):zau (o.getD d) (u.getD d'):=by
 cases o with
 | none=>cases u with
  | none=>exact rd
  | some _=>exact(show False from r).elim
 | some _=>cases u with
  | none=>exact(show False from r).elim
  | some _=>exact r
theorem KV.val {kvs:List (κ×V)}{vs:List (κ×Value)}(r:KV kvs vs)(k:κ):zb0 (zch kvs k) (valueAt vs k):=by
 unfold KV at r
 induction r with
 | nil=>exact True.intro
 | @cons p q ps qs h t ih=>
  obtain⟨h1,h2⟩:=h
  by_cases e:p.1=k
  ·have e':q.1=k:=h1.symm.trans e
   have b:valueAt (q::qs) k=some q.2:=by simp[valueAt,Va2,e']
   rw[zkq e,b]; exact h2
  ·have e':¬ q.1=k:=λz=>e (h1.trans z)
   have b:valueAt (q::qs) k=valueAt qs k:=by simp[valueAt,Va2,e']
   rw[zlA e,b]; exact ih
theorem KV.any {kvs:List (κ×V)}{vs:List (κ×Value)}(r:KV kvs vs)(k:κ):(kvs.any λkv=>decide (kv.1=k))=vs.any λkv=>decide (kv.1=k):=by
 unfold KV at r
 induction r with
 | nil=>rfl
 | cons h t ih=>rw[List.any_cons,List.any_cons,ih,h.1]
theorem KV.repl {kvs:List (κ×V)}{vs:List (κ×Value)}(r:KV kvs vs)(k:κ){y:V}{u:Value}(ry:zau y u):
  KV (kvs.map λkv=>if kv.1=k then (kv.1,y) else kv) (vs.map λkv=>if kv.1=k then (kv.1,u) else kv):=by
 unfold KV at r ⊢
 induction r with
 | nil=>exact .nil
 | @cons p q ps qs h t ih=>
  rw[Vas,Vas]
  refine .cons ?_ ih
  obtain⟨h1,h2⟩:=h
  by_cases e:p.1=k
  ·rw[if_pos e,if_pos (h1.symm.trans e)]; exact⟨h1,ry⟩
  ·rw[if_neg e,if_neg (λz=>e (h1.trans z))]; exact⟨h1,h2⟩
theorem KV.put {kvs:List (κ×V)}{vs:List (κ×Value)}(r:KV kvs vs)(k:κ){y:V}{u:Value}(ry:zau y u):KV (putK kvs k y) (stored vs k u):=by
 unfold putK stored
 rw[r.any k]
 by_cases e:(vs.any λkv=>decide (kv.1=k))=true
 ·rw[if_pos e,if_pos e]; exact r.repl k ry
 ·rw[if_neg e,if_neg e]; exact Paired.snoc r ⟨rfl,ry⟩
theorem KV.drop {kvs:List (κ×V)}{vs:List (κ×Value)}(r:KV kvs vs)(k:κ):KV (zpM kvs k) (without vs k):=by
 unfold KV at r ⊢
 unfold zpM without
 induction r with
 | nil=>exact .nil
 | @cons p q ps qs h t ih=>
  obtain⟨h1,h2⟩:=h
  rw[List.filter_cons,List.filter_cons]
  by_cases e:p.1=k
  ·have a:¬ decide (p.1≠k)=true:=by simp[e]
   have b:¬ decide (q.1≠k)=true:=by simp[h1.symm.trans e]
   rw[if_neg a,if_neg b]; exact ih
  ·have e':¬ q.1=k:=λz=>e (h1.trans z)
   have a:decide (p.1≠k)=true:=by simp[e]
   have b:decide (q.1≠k)=true:=by simp[e']
   rw[if_pos a,if_pos b]; exact .cons ⟨h1,h2⟩ ih
theorem KV.keys {kvs:List (κ×V)}{vs:List (κ×Value)}(r:KV kvs vs):kvs.map (·.1)=vs.map (·.1):=by
 unfold KV at r
 induction r with
 | nil=>rfl
 | cons h t ih=>rw[Vas,Vas,ih,h.1]
theorem KV.length {kvs:List (κ×V)}{vs:List (κ×Value)}(r:KV kvs vs):kvs.length=vs.length:=Paired.length r
end
abbrev KT (H:Hp):List (List Key×V)→List (List Key×Addr×Value)→Prop:=Paired λp q=>p.1=q.1∧H q.2.1=some (.tup (p.1.map kV))∧zau p.2 q.2.2
theorem KT.val {H:Hp}{kvs:List (List Key×V)}{xs:List (List Key×Addr×Value)}(r:KT H kvs xs)(k:List Key):zb0 (zch kvs k) ((atKey xs k).map (·.2)):=by
 induction r with
 | nil=>exact True.intro
 | @cons p q ps qs h t ih=>
  obtain⟨h1,_,h2⟩:=h
  by_cases e:p.1=k
  ·have e':q.1=k:=h1.symm.trans e
   have b:atKey (q::qs) k=some q.2:=by simp[atKey,Va2,e']
   rw[zkq e,b]; exact h2
  ·have e':¬ q.1=k:=λz=>e (h1.trans z)
   have b:atKey (q::qs) k=atKey qs k:=by simp[atKey,Va2,e']
   rw[zlA e,b]; exact ih
theorem KT.repl {H:Hp}{kvs:List (List Key×V)}{xs:List (List Key×Addr×Value)}(r:KT H kvs xs)(k:List Key){y:V}{u:Value}(ry:zau y u):
  KT H (kvs.map λkv=>if kv.1=k then (kv.1,y) else kv) (xs.map (putAt k u)):=by
 induction r with
 | nil=>exact .nil
 | @cons p q ps qs h t ih=>
  rw[Vas,Vas]
  refine .cons ?_ ih
  obtain⟨h1,h2,h3⟩:=h
  unfold putAt
  by_cases e:p.1=k
  ·rw[if_pos e,if_pos (h1.symm.trans e)]; exact⟨h1,h2,ry⟩
  ·rw[if_neg e,if_neg (λz=>e (h1.trans z))]; exact⟨h1,h2,h3⟩
theorem KT.put {H:Hp}{kvs:List (List Key×V)}{xs:List (List Key×Addr×Value)}(r:KT H kvs xs)(k:List Key){b:Addr}{y:V}{u:Value}(hb:H b=some (.tup (k.map kV)))(ry:zau y u):
  KT H (putK kvs k y) (storedH xs k b u):=by
 have e:(kvs.any λkv=>decide (kv.1=k))=(atKey xs k).isSome:=by
  rw[zpJ,(r.val k).isSome_eq,Option.isSome_map]
 unfold putK storedH
 rw[e]
 by_cases q:(atKey xs k).isSome=true
 ·rw[if_pos q,if_pos q]; exact r.repl k ry
 ·rw[if_neg q,if_neg q]; exact Paired.snoc r ⟨rfl,hb,ry⟩
theorem KT.keeps {H H':Hp}{kvs:List (List Key×V)}{xs:List (List Key×Addr×Value)}(r:KT H kvs xs)(ht:∀b ys,H b=some (.tup ys)→H' b=some (.tup ys)):KT H' kvs xs:=
 Paired.mapP r λ_ _ z=>⟨z.1,ht _ _ z.2.1,z.2.2⟩
section
variable {P:Program}{w:World}{H:Hp}{h:Heap}{a:Addr}
end
def ziV (H:Hp)(a:Addr)(y:V)(r:Option V):Prop:=
 (∃kvs k,Rd H a (.dK kvs)∧y=kV k∧r=zch kvs k)∨∃kvs k b,Rd H a (.dT kvs)∧y=.ref b∧H b=some (.tup (k.map kV))∧r=zch kvs k
def zko (H:Hp)(a:Addr)(y v:V)(H':Hp):Prop:=
 (∃kvs k,H a=some (.dK kvs)∧y=kV k∧kvs.length<sizeLine∧H'=upd H a (.dK (putK kvs k v)))∨
 ∃kvs k b,H a=some (.dT kvs)∧y=.ref b∧H b=some (.tup (k.map kV))∧kvs.length<sizeLine∧H'=upd H a (.dT (putK kvs k v))
theorem ziV.k {H:Hp}{a:Addr}{kvs:List (Key×V)}{k:Key}(e:H a=some (.dK kvs)):ziV H a (kV k) (zch kvs k):=.inl ⟨kvs,k,.inl e,rfl,rfl⟩
theorem ziV.t {H:Hp}{a b:Addr}{kvs:List (List Key×V)}{k:List Key}(e:H a=some (.dT kvs))(eb:H b=some (.tup (k.map kV))):ziV H a (.ref b) (zch kvs k):=.inr ⟨kvs,k,b,.inl e,rfl,eb,rfl⟩
theorem zko.k {H:Hp}{a:Addr}{kvs:List (Key×V)}{k:Key}{v:V}(e:H a=some (.dK kvs))(hl:kvs.length<sizeLine):zko H a (kV k) v (upd H a (.dK (putK kvs k v))):=.inl ⟨kvs,k,e,rfl,hl,rfl⟩
theorem zko.t {H:Hp}{a b:Addr}{kvs:List (List Key×V)}{k:List Key}{v:V}(e:H a=some (.dT kvs))(eb:H b=some (.tup (k.map kV)))(hl:kvs.length<sizeLine):
  zko H a (.ref b) v (upd H a (.dT (putK kvs k v))):=.inr ⟨kvs,k,b,e,rfl,eb,hl,rfl⟩
section
variable {X:Cx}{pins:List (Addr×Obj)}{σ:St}{H:Hp}{s:Shared}{a:Addr}{y v:V}{u r:Value}{o:Option V}{A:Around}{E:Value→Shared→Prop}
theorem Inv.big (I:Inv X pins σ H s):sysModules<s.heap.objs.size:=by
 have h:mainGlobals<s.heap.objs.size:=(I.mod.glob.keeps I.bk).lt
 exact Nat.lt_trans (by decide) h
end
section
variable {X:Cx}{pins:List (Addr×Obj)}{σ:St}{H:Hp}{s:Shared}{a:Addr}{kvs:List (Key×V)}{k:Key}{u:Value}{A:Around}{E:Value→Shared→Prop}
end
section
variable {X:Cx}{o i e value:Expr}{pos pos' tpos:Pos}{td ty tv:TE}
end
section
variable {X:Cx}{pos:Pos}
end
structure M1 (X:Cx)(o:Expr)(m:Str)(apos:Pos)(e:Expr)(cpos:Pos):Prop where
 base:attributeBase o m X.env (eval o X.env)=eval o X.env
 few:((backTo cpos (starEach [e] X.env)).all (λx=>!x.1)&&(backToKw cpos (keywordEach [] X.env)).all (λx=>x.1.isSome)
 &&decide (([e]:List Expr).length+([]:List Keyword).length+(if ([]:List Keyword).isEmpty then 0 else 1)<30))=true
 line:(apos.endLine==cpos.line)=true
 trees:backTo cpos (starEach [e] X.env)=[(false,eval e X.env)]
structure M2 (X:Cx)(o:Expr)(m:Str)(apos:Pos)(e f:Expr)(cpos:Pos):Prop where
 base:attributeBase o m X.env (eval o X.env)=eval o X.env
 few:((backTo cpos (starEach [e,f] X.env)).all (λx=>!x.1)&&(backToKw cpos (keywordEach [] X.env)).all (λx=>x.1.isSome)
 &&decide (([e,f]:List Expr).length+([]:List Keyword).length+(if ([]:List Keyword).isEmpty then 0 else 1)<30))=true
 line:(apos.endLine==cpos.line)=true
 trees:backTo cpos (starEach [e,f] X.env)=[(false,eval e X.env),(false,eval f X.env)]
section
variable {X:Cx}{pins:List (Addr×Obj)}{σ:St}{H:Hp}{s:Shared}{a:Addr}{y d:V}{u r:Value}{o:Option V}{A:Around}{E:Value→Shared→Prop}
end
section
variable {X:Cx}{o e f:Expr}{apos cpos:Pos}{td ty tx:TE}
end
section
variable {X:Cx}{pins:List (Addr×Obj)}{σ:St}{H:Hp}{s:Shared}{a:Addr}{kvs:List (Key×V)}{A:Around}{E:Value→Shared→Prop}
end
section
variable {X:Cx}{pins:List (Addr×Obj)}{σ:St}{H:Hp}{s:Shared}{a:Addr}{y:V}{u:Value}{A:Around}{E:Value→Shared→Prop}
end
end L2
namespace L3
open PySem PySem.Spec PyProof.Rows L2
abbrev St:=L2.St
inductive D where
 | non | bl (b:Bool) | int (i:Int) | str (x:Str) | tup (xs:List D) | ref (n:Nat) | exc (c:Addr)
inductive Ob where
 | lst (xs:List D) | frz (xs:List D)
  | ins (C:Addr) (fs:List (Str×D))
  | dct (kvs:List (List Key×D))
abbrev Sto:=List Ob
abbrev Ev:=List (Option D)
abbrev DK:=D→Sto→Prop
abbrev TDE:=Ev→Sto→DK→Prop
abbrev TDT:=Ev→Sto→(Bool→Sto→Prop)→Prop
abbrev TDA:=Ev→Sto→(List D→Sto→Prop)→Prop
structure zcX where
 nx:Ev→Sto→Prop
 rt:DK
 bk:Ev→Sto→Prop:=λ_ _=>False
 ct:Ev→Sto→Prop:=λ_ _=>False
abbrev TDS:=zcX→Ev→Sto→Prop
def isX (a c:Addr):HO:=.ext λh=>∃o,h.get? a=some o∧o.cls=.ref c
inductive Rp (r:List Addr)(H:Hp):D→V→Prop
 | non:Rp r H .non .non
 | bl (b:Bool):Rp r H (.bl b) (.bl b)
 | int (i:Int):Rp r H (.int i) (.int i)
 | str (x:Str):Rp r H (.str x) (.str x)
 | tup {ds:List D} {xs:List V} {a:Addr}:H a=some (.tup xs)→ds.length=xs.length→(∀(i:Nat) (d:D) (v:V),ds[i]?=some d→xs[i]?=some v→Rp r H d v)→Rp r H (.tup ds) (.ref a)
 | ref {n:Nat} {a:Addr}:r[n]?=some a→Rp r H (.ref n) (.ref a)
 | exc {c a:Addr}:H a=some (isX a c)→Rp r H (.exc c) (.ref a)
def Rps (r:List Addr)(H:Hp)(ds:List D)(vs:List V):Prop:=ds.length=vs.length∧∀(i:Nat) (d:D) (v:V),ds[i]?=some d→vs[i]?=some v→Rp r H d v
structure Ext (r r':List Addr)(H H':Hp):Prop where
 adr:∀(n:Nat) (a:Addr),r[n]?=some a→r'[n]?=some a
 tup:∀a xs,H a=some (.tup xs)→H' a=some (.tup xs)
 xc:∀a c,H a=some (isX a c)→H' a=some (isX a c)
section
variable {r r' r2:List Addr}{H H' H2:Hp}{d:D}{v:V}{ds:List D}{vs:List V}
theorem Ext.refl:Ext r r H H:=⟨λ_ _ h=>h,λ_ _ h=>h,λ_ _ h=>h⟩
theorem Ext.trans (a:Ext r r' H H')(b:Ext r' r2 H' H2):Ext r r2 H H2:=⟨λn x h=>b.adr n x (a.adr n x h),λx y h=>b.tup x y (a.tup x y h),λx y h=>b.xc x y (a.xc x y h)⟩
theorem Rp.ext (h:Rp r H d v)(e:Ext r r' H H'):Rp r' H' d v:=by
 induction h with
 | non=>exact .non
 | bl b=>exact .bl b
 | int i=>exact .int i
 | str x=>exact .str x
 | tup h l _ ih=>exact .tup (e.tup _ _ h) l ih
 | ref h=>exact .ref (e.adr _ _ h)
 | exc h=>exact .exc (e.xc _ _ h)
theorem Rps.ext (h:Rps r H ds vs)(e:Ext r r' H H'):Rps r' H' ds vs:=⟨h.1,λi d v h1 h2=>(h.2 i d v h1 h2).ext e⟩
theorem Rps.nil:Rps r H [] []:=⟨rfl,λi d v h=>by simp at h⟩
theorem Rps.cons (h:Rp r H d v)(t:Rps r H ds vs):Rps r H (d::ds) (v::vs):=by
 refine⟨by simp[t.1],λi x y h1 h2=>?_⟩
 cases i with
 | zero=>
  simp at h1 h2
  subst h1; subst h2
  exact h
 | succ i=>exact t.2 i x y (by simpa using h1) (by simpa using h2)
theorem Rps.tail {y:V}(h:Rps r H (d::ds) (y::vs)):Rp r H d y∧Rps r H ds vs:=
 ⟨h.2 0 d y rfl rfl,by simpa using h.1,λi a b h1 h2=>h.2 (i+1) a b (by simpa using h1) (by simpa using h2)⟩
theorem Rps.uncons (h:Rps r H (d::ds) vs):∃v vs',vs=v::vs'∧Rp r H d v∧Rps r H ds vs':=by
 cases vs with
 | nil=>exact absurd h.1 (by simp)
 | cons v vs'=>exact⟨v,vs',rfl,h.tail⟩
theorem Rps.unnil (h:Rps r H [] vs):vs=[]:=by
 cases vs with
 | nil=>rfl
 | cons v vs'=>exact absurd h.1 (by simp)
theorem Rps.get {i:Nat}(h:Rps r H ds vs)(e:ds[i]?=some d):∃v,vs[i]?=some v∧Rp r H d v:=by
 have hi:i<ds.length:=(Vab.mp e).1
 have hv:i<vs.length:=by rw[← h.1]; exact hi
 exact⟨vs[i],by simp[hv],h.2 i d vs[i] e (by simp[hv])⟩
theorem Rps.get' {i:Nat}(h:Rps r H ds vs)(e:vs[i]?=some v):∃d,ds[i]?=some d∧Rp r H d v:=by
 have hv:i<vs.length:=(Vab.mp e).1
 have hi:i<ds.length:=by rw[h.1]; exact hv
 exact⟨ds[i],by simp[hi],h.2 i ds[i] v (by simp[hi]) e⟩
theorem Rps.snoc (h:Rps r H ds vs)(t:Rp r H d v):Rps r H (ds++[d]) (vs++[v]):=by
 refine⟨by simp[h.1],λi x y h1 h2=>?_⟩
 by_cases hi:i<ds.length
 ·rw[Vao hi] at h1
  rw[Vao (by rw[← h.1]; exact hi)] at h2
  exact h.2 i x y h1 h2
 ·have hl:i<(ds++[d]).length:=(Vab.mp h1).1
  have e:i=ds.length:=by simp at hl; omega
  subst e
  rw[Vaz (Vad _)] at h1
  rw[h.1,Vaz (Vad _)] at h2
  simp at h1 h2
  subst h1; subst h2
  exact t
theorem Rps.tupR {a:Addr}(h:Rps r H ds vs)(e:H a=some (.tup vs)):Rp r H (.tup ds) (.ref a):=.tup e h.1 h.2
theorem Rp.untup {vs:V}(h:Rp r H (.tup ds) vs):∃a xs,vs=.ref a∧H a=some (.tup xs)∧Rps r H ds xs:=by
 cases h with
 | tup e l f=>exact⟨_,_,rfl,e,l,f⟩
end
def SqF (K:PySem.W.Frag)(H:Hp)(a:Addr)(xs:List V):Prop:=
 (∃o,H a=some (.frz o (.lst xs)))∨
  ∃(o:Obj) (its:Array Value) (n:Nat),K.lookup a=some o∧o.cls=.type "list"∧o.dict=none∧o.data=.seq its n∧its.size≤sizeLine∧zat xs its.toList
theorem SqF.sql {K:PySem.W.Frag}{H:Hp}{a:Addr}{xs:List V}(h:SqF K H a xs):SqL K H a xs:=by
 rcases h with ⟨o,h⟩ | h
 ·exact .inl (.inr ⟨o,h⟩)
 ·exact .inr h
def FR {α:Type}(r:List Addr)(H:Hp)(fs:List (α×D))(fs':List (α×V)):Prop:=fs.map (·.1)=fs'.map (·.1)∧Rps r H (fs.map (·.2)) (fs'.map (·.2))
theorem FR.ext {α:Type}{r r':List Addr}{H H':Hp}{fs:List (α×D)}{fs':List (α×V)}(h:FR r H fs fs')(e:Ext r r' H H'):FR r' H' fs fs':=⟨h.1,h.2.ext e⟩
theorem FR.nil {α:Type}{r:List Addr}{H:Hp}:FR (α:=α) r H [] []:=⟨rfl,Rps.nil⟩
def ObR (K:PySem.W.Frag)(r:List Addr)(H:Hp)(a:Addr):Ob→Prop
 | .lst ds=>∃xs,H a=some (.lst xs)∧Rps r H ds xs
 | .frz ds=>∃xs,SqF K H a xs∧Rps r H ds xs
 | .ins C fs=>∃dx fs',H a=some (.ins C dx fs')∧FR r H fs fs'
 | .dct kvs=>∃kvs',H a=some (.dT kvs')∧FR r H kvs kvs'
def zd9:Ob→Bool
 | .frz _=>false
 | _=>true
structure zaU (K:PySem.W.Frag)(r:List Addr)(S:Sto)(H:Hp):Prop where
 len:r.length=S.length
 ob:∀(n:Nat) (a:Addr) (o:Ob),r[n]?=some a→S[n]?=some o→ObR K r H a o
 nd:∀(n m:Nat) (a:Addr) (o u:Ob),r[n]?=some a→r[m]?=some a→S[n]?=some o→S[m]?=some u→zd9 o=true→zd9 u=true→n=m
def zak:Ob→List D
 | .lst ds=>ds
 | .frz ds=>ds
 | _=>[.exc 0]
def zbZ:Ob→Option Ob
 | .lst ds=>some (.lst ds)
 | .frz ds=>some (.frz ds)
 | _=>none
def lAt (S:Sto)(n:Nat):Option Ob:=(S[n]?).bind zbZ
theorem zxm {o u:Ob}(h:zbZ o=some u):u=o:=by
 cases o <;> simp[zbZ] at h <;> exact h.symm
theorem zbr {S:Sto}{n:Nat}{o:Ob}(h:lAt S n=some o):S[n]?=some o∧zbZ o=some o:=by
  unfold lAt at h
  cases q:S[n]? with
  | none=>
   rw[q] at h
   cases h
  | some u=>
    rw[q] at h
    have h':zbZ u=some o:=h
    have e:=zxm h'
    subst e
    exact⟨rfl,h'⟩
theorem zaN {S:Sto}{n:Nat}{o:Ob}(h:S[n]?=some o)(hL:zbZ o=some o):lAt S n=some o:=by
 unfold lAt
 rw[h]
 exact hL
section
variable {K:PySem.W.Frag}{r r':List Addr}{S:Sto}{H H':Hp}{n:Nat}{a p:Addr}
theorem zaU.at {o:Ob}(h:zaU K r S H)(e:S[n]?=some o):∃a,r[n]?=some a∧ObR K r H a o:=by
 have hn:n<S.length:=(Vab.mp e).1
 have hr:n<r.length:=by rw[h.len]; exact hn
 exact⟨r[n],by simp[hr],h.ob n r[n] o (by simp[hr]) e⟩
theorem ObR.list {o:Ob}(h:ObR K r H a o)(hL:zbZ o=some o):∃xs,SqL K H a xs∧Rps r H (zak o) xs:=by
 cases o with
 | lst ds=>obtain⟨xs,e,q⟩:=h; exact⟨xs,SqL.of e,q⟩
 | frz ds=>obtain⟨xs,e,q⟩:=h; exact⟨xs,e.sql,q⟩
 | ins C fs=>cases hL
 | dct kvs=>cases hL
theorem ObR.keep {o:Ob}(q:ObR K r H a o)(x:Ext r r' H H')(ha:∀u,H a=some u→H' a=some u):ObR K r' H' a o:=by
 cases o with
 | lst ds=>obtain⟨xs,h3,h4⟩:=q; exact⟨xs,ha _ h3,h4.ext x⟩
 | frz ds=>
  obtain⟨xs,h3,h4⟩:=q
  refine⟨xs,?_,h4.ext x⟩
  rcases h3 with ⟨o,h3⟩ | h3
  ·exact .inl ⟨o,ha _ h3⟩
  ·exact .inr h3
 | ins C fs=>obtain⟨dx,fs',h3,h4⟩:=q; exact⟨dx,fs',ha _ h3,h4.ext x⟩
 | dct kvs=>obtain⟨ks,h3,h4⟩:=q; exact⟨ks,ha _ h3,h4.ext x⟩
theorem ObR.own {o:Ob}(q:ObR K r H a o)(h:zd9 o=true):∃u,H a=some u∧(∀xs,u≠HO.tup xs)∧(∀b c,u≠isX b c)∧∀z y,u≠HO.frz z y:=by
 cases o with
 | lst ds=>obtain⟨xs,h3,h4⟩:=q; exact⟨_,h3,(λ_ z=>by cases z),(λ_ _ z=>by cases z),(λ_ _ z=>by cases z)⟩
 | frz ds=>cases h
 | ins C fs=>obtain⟨dx,fs',h3,h4⟩:=q; exact⟨_,h3,(λ_ z=>by cases z),(λ_ _ z=>by cases z),(λ_ _ z=>by cases z)⟩
 | dct kvs=>obtain⟨ks,h3,h4⟩:=q; exact⟨_,h3,(λ_ z=>by cases z),(λ_ _ z=>by cases z),(λ_ _ z=>by cases z)⟩
theorem zaU.same (h:zaU K r S H)(e:∀b o,H b=some o→H' b=some o):zaU K r S H':=
 ⟨h.len,λn a o h1 h2=>(h.ob n a o h1 h2).keep ⟨λ_ _ q=>q,λa xs q=>e _ _ q,λa c q=>e _ _ q⟩ (e a),h.nd⟩
theorem zdf {o:HO}(h:H p=none):∀b u,H b=some u→(upd H p o) b=some u:=λb u q=>by rw[za0 (zdM q h)]; exact q
theorem ziO {n:Nat}{b:Addr}(e:(r++[p])[n]?=some b):(n<r.length∧r[n]?=some b)∨(n=r.length∧b=p):=by
 by_cases hn:n<r.length
 ·rw[Vao hn] at e; exact .inl ⟨hn,e⟩
 ·have hl:n<(r++[p]).length:=(Vab.mp e).1
  have en:n=r.length:=by simp at hl; omega
  subst en
  rw[Vaz (Vad _)] at e
  simp at e
  exact .inr ⟨rfl,e.symm⟩
theorem zaU.pushO {o:Ob}(h:zaU K r S H)(hp:H p=none)(keep:∀b u,H b=some u→H' b=some u)(q:Ext r (r++[p]) H H'→ObR K (r++[p]) H' p o):zaU K (r++[p]) (S++[o]) H'∧Ext r (r++[p]) H H':=by
 have x:Ext r (r++[p]) H H':=⟨λn a e=>by
  have hn:n<r.length:=(Vab.mp e).1
  rw[Vao hn]; exact e,λa ys e=>keep _ _ e,λa c e=>keep _ _ e⟩
 have sS:∀ {n:Nat} {u:Ob},n<r.length→(S++[o])[n]?=some u→S[n]?=some u:=λ{n u} hn e=>by
  rw[Vao (by rw[← h.len]; exact hn)] at e; exact e
 refine⟨⟨by simp[h.len],λn a u h1 h2=>?_,λn m a u w h1 h2 h3 h4 o1 o2=>?_⟩,x⟩
 ·rcases ziO h1 with ⟨hn,e⟩ | ⟨rfl,rfl⟩
  ·exact(h.ob n a u e (sS hn h2)).keep x (keep a)
  ·rw[h.len,Vaz (Vad _)] at h2
   simp at h2
   subst h2
   exact q x
 ·rcases ziO h1 with ⟨hn,e⟩ | ⟨rfl,rfl⟩
  ·rcases ziO h2 with ⟨hm,e'⟩ | ⟨rfl,rfl⟩
   ·exact h.nd n m a u w e e' (sS hn h3) (sS hm h4) o1 o2
   ·obtain⟨zs,h5,_⟩:=(h.ob n _ _ e (sS hn h3)).own o1
    rw[hp] at h5; cases h5
  ·rcases ziO h2 with ⟨hm,e'⟩ | ⟨rfl,_⟩
   ·obtain⟨zs,h5,_⟩:=(h.ob m _ _ e' (sS hm h4)).own o2
    rw[hp] at h5; cases h5
   ·rfl
theorem zaU.push {ds:List D}{xs:List V}(h:zaU K r S H)(hp:H p=none)(q:Rps r H ds xs):zaU K (r++[p]) (S++[.lst ds]) (upd H p (.lst xs))∧Ext r (r++[p]) H (upd H p (.lst xs)):=
 h.pushO hp (zdf hp) λx=>⟨xs,zcK,q.ext x⟩
theorem zaU.setO {o o':Ob}{u:HO}(h:zaU K r S H)(hn:r[n]?=some a)(hS:S[n]?=some o)(ho:zd9 o=true)(ho':zd9 o'=true)(q:Ext r r H (upd H a u)→ObR K r (upd H a u) a o'):zaU K r (S.set n o') (upd H a u)∧Ext r r H (upd H a u):=by
 obtain⟨u0,h0,t1,t2,t3⟩:=(h.ob n a _ hn hS).own ho
 have x:Ext r r H (upd H a u):=⟨λ_ _ e=>e,λb zs e=>by
  rw[za0 (zon e h0 (λz=>t1 zs z.symm))]; exact e,λb c e=>by
  rw[za0 (zon e h0 (λz=>t2 b c z.symm))]; exact e⟩
 have hlt:n<S.length:=(Vab.mp hS).1
 have off:∀ {m:Nat} {w:Ob},m≠n→(S.set n o')[m]?=some w→S[m]?=some w:=λ{m w} hm e=>by
  rw[VaB (Ne.symm hm)] at e; exact e
 refine⟨⟨by simp[h.len],λm b w h1 h2=>?_,λm k b w y h1 h2 h3 h4 o1 o2=>?_⟩,x⟩
 ·by_cases hm:m=n
  ·subst hm
   rw[hn] at h1; cases h1
   rw[VaV hlt] at h2
   cases h2
   exact q x
  ·have h2':=off hm h2
   have q':=h.ob m b w h1 h2'
   by_cases hw:zd9 w=true
   ·have hb:b≠a:=λz=>hm (by subst z; exact h.nd m n b w o h1 hn h2' hS hw ho)
    exact q'.keep x λz e=>by rw[za0 hb]; exact e
   ·cases w with
    | frz es=>
     obtain⟨zs,h3,h4⟩:=q'
     refine⟨zs,?_,h4.ext x⟩
     rcases h3 with ⟨z,h3⟩ | h3
     ·exact .inl ⟨z,by rw[za0 (zon h3 h0 (λy=>t3 _ _ y.symm))]; exact h3⟩
     ·exact .inr h3
    | _=>exact absurd rfl hw
 ·have back:∀ {j:Nat} {w:Ob},(S.set n o')[j]?=some w→zd9 w=true→∃y,S[j]?=some y∧zd9 y=true:=λ{j w} e ow=>by
   by_cases hj:j=n
   ·subst hj; exact⟨o,hS,ho⟩
   ·exact⟨w,off hj e,ow⟩
  obtain⟨us',h3',q3⟩:=back h3 o1
  obtain⟨ws',h4',q4⟩:=back h4 o2
  exact h.nd m k b us' ws' h1 h2 h3' h4' q3 q4
theorem zaU.set {ds ds':List D}{xs:List V}(h:zaU K r S H)(hn:r[n]?=some a)(hS:S[n]?=some (.lst ds))(q:Rps r H ds' xs):zaU K r (S.set n (.lst ds')) (upd H a (.lst xs))∧Ext r r H (upd H a (.lst xs)):=
 h.setO hn hS rfl rfl λx=>⟨xs,zcK,q.ext x⟩
end
def Rs (r:List Addr)(H:Hp)(dl:Ev)(σ:St):Prop:=dl.length=σ.length∧∀(i:Nat) (d:D),dl[i]?=some (some d)→∃v,σ[i]?=some (some v)∧Rp r H d v
theorem Rs.ext {r r':List Addr}{H H':Hp}{dl:Ev}{σ:St}(h:Rs r H dl σ)(e:Ext r r' H H'):Rs r' H' dl σ:=⟨h.1,λi d q=>by
 obtain⟨v,h1,h2⟩:=h.2 i d q
 exact⟨v,h1,h2.ext e⟩⟩
theorem Rs.set {r:List Addr}{H:Hp}{dl:Ev}{σ:St}{d:D}{v:V}(i:Nat)(h:Rs r H dl σ)(q:Rp r H d v):Rs r H (dl.set i (some d)) (σ.set i (some v)):=by
 refine⟨by simp[h.1],λj e hj=>?_⟩
 by_cases hij:i=j
 ·subst hij
  have hl:i<dl.length:=by
   have:=(Vab.mp hj).1
   simpa using this
  rw[VaV hl] at hj
  cases hj
  exact⟨v,by rw[VaV (by rw[← h.1]; exact hl)],q⟩
 ·rw[VaB hij] at hj
  obtain⟨v',h1,h2⟩:=h.2 j e hj
  exact⟨v',by rw[VaB hij]; exact h1,h2⟩
structure Zx where
 ex:Ev→Addr→Sto→Prop
 w:St→XK
abbrev Zc (ex:Addr→Sto→Prop)(E:XK):Zx:=⟨λ_=>ex,λ_=>E⟩
def zez (K:PySem.W.Frag)(Z:Zx)(r:List Addr)(H:Hp):Prop:=∀(dl:Ev) (σ:St) (c:Addr) (H':Hp) (r':List Addr) (S':Sto),Ext r r' H H'→Rs r' H' dl σ→zaU K r' S' H'→Z.ex dl c S'→Z.w σ (.ref c) none H'
theorem zez.ext {K:PySem.W.Frag}{Z:Zx}{r r':List Addr}{H H':Hp}(h:zez K Z r H)(e:Ext r r' H H'):zez K Z r' H':=λdl σ c H2 r2 S2 x=>h dl σ c H2 r2 S2 (e.trans x)
structure Rel (K:PySem.W.Frag)(Z:Zx)(r:List Addr)(S:Sto)(H:Hp):Prop where
 b:zaU K r S H
 xw:zez K Z r H
section
variable {K:PySem.W.Frag}{Z:Zx}{r r':List Addr}{S:Sto}{H H':Hp}{n:Nat}{a p:Addr}
theorem Rel.len (h:Rel K Z r S H):r.length=S.length:=h.b.len
theorem Rel.at {o:Ob}(h:Rel K Z r S H)(e:S[n]?=some o):∃a,r[n]?=some a∧ObR K r H a o:=h.b.at e
theorem Rel.same (h:Rel K Z r S H)(e:∀b o,H b=some o→H' b=some o):Rel K Z r S H':=⟨h.b.same e,h.xw.ext ⟨λ_ _ q=>q,λa xs q=>e _ _ q,λa c q=>e _ _ q⟩⟩
theorem Rel.push {ds:List D}{xs:List V}(h:Rel K Z r S H)(hp:H p=none)(q:Rps r H ds xs):Rel K Z (r++[p]) (S++[.lst ds]) (upd H p (.lst xs))∧Ext r (r++[p]) H (upd H p (.lst xs)):=by
 obtain⟨h1,h2⟩:=h.b.push hp q
 exact⟨⟨h1,h.xw.ext h2⟩,h2⟩
theorem Rel.set {ds ds':List D}{xs:List V}(h:Rel K Z r S H)(hn:r[n]?=some a)(hS:S[n]?=some (.lst ds))(q:Rps r H ds' xs):Rel K Z r (S.set n (.lst ds')) (upd H a (.lst xs))∧Ext r r H (upd H a (.lst xs)):=by
 obtain⟨h1,h2⟩:=h.b.set hn hS q
 exact⟨⟨h1,h.xw.ext h2⟩,h2⟩
end
def Ret (K:PySem.W.Frag)(Z:Zx)(r:List Addr)(H:Hp)(Q:DK)(Qv:VK):Prop:=∀v H' r' d S',Ext r r' H H'→Rel K Z r' S' H'→Rp r' H' d v→Q d S'→Qv v H'
theorem Ret.ext {K:PySem.W.Frag}{Z:Zx}{r r':List Addr}{H H':Hp}{Q:DK}{Qv:VK}(h:Ret K Z r H Q Qv)(e:Ext r r' H H'):Ret K Z r' H' Q Qv:=λv H2 r2 d S2 x=>h v H2 r2 d S2 (e.trans x)
def up (K:PySem.W.Frag)(Z:Zx)(t:TDE):TE:=λσ H Qv=>∃r dl S Q,Rs r H dl σ∧Rel K Z r S H∧t dl S Q∧Ret K Z r H Q Qv
def upT (K:PySem.W.Frag)(Z:Zx)(t:TDT):TT:=λσ H Qb=>∃r dl S Q,Rs r H dl σ∧Rel K Z r S H∧t dl S Q∧∀b H' r' S',Ext r r' H H'→Rel K Z r' S' H'→Q b S'→Qb b H'
def upA (K:PySem.W.Frag)(Z:Zx)(t:TDA):TA:=λσ H Qv=>∃r dl S Q,Rs r H dl σ∧Rel K Z r S H∧t dl S Q∧∀vs H' r' ds S',Ext r r' H H'→Rel K Z r' S' H'→Rps r' H' ds vs→Q ds S'→Qv vs H'
structure zmu (K:PySem.W.Frag)(Z:Zx)(r:List Addr)(H:Hp)(E:zcX)(F:zd1):Prop where
 nx:∀σ' H' r' dl' S',Ext r r' H H'→Rs r' H' dl' σ'→Rel K Z r' S' H'→E.nx dl' S'→F.nx σ' H'
 bk:∀σ' H' r' dl' S',Ext r r' H H'→Rs r' H' dl' σ'→Rel K Z r' S' H'→E.bk dl' S'→F.bk σ' H'
 ct:∀σ' H' r' dl' S',Ext r r' H H'→Rs r' H' dl' σ'→Rel K Z r' S' H'→E.ct dl' S'→F.ct σ' H'
 rt:Ret K Z r H E.rt F.rt
theorem zmu.ext {K:PySem.W.Frag}{Z:Zx}{r r':List Addr}{H H':Hp}{E:zcX}{F:zd1}(h:zmu K Z r H E F)(e:Ext r r' H H'):zmu K Z r' H' E F:=
 ⟨λa b c d f x=>h.nx a b c d f (e.trans x),λa b c d f x=>h.bk a b c d f (e.trans x),λa b c d f x=>h.ct a b c d f (e.trans x),h.rt.ext e⟩
def upS (K:PySem.W.Frag)(Z:Zx)(t:TDS):TS:=λF σ H=>∃r dl S E,Rs r H dl σ∧Rel K Z r S H∧t E dl S∧zmu K Z r H E F
def PD (X:Cx)(Z:Zx)(e:Expr)(t:TDE):Prop:=PE X e (up X.K Z t)
def PDT (X:Cx)(Z:Zx)(e:Expr)(t:TDT):Prop:=PT X e (upT X.K Z t)
def PDW (X:Cx)(Z:Zx)(e:Expr)(t:TDT):Prop:=PW X e (upT X.K Z t)
def PDA (X:Cx)(Z:Zx)(es:List Expr)(t:TDA):Prop:=PA X es (upA X.K Z t)
def PDS (X:Cx)(Z:Zx)(st:Stmt)(t:TDS):Prop:=PS X st (upS X.K Z t)
def zc3 (X:Cx)(Z:Zx)(st:List Stmt)(t:TDS):Prop:=PSs X st (upS X.K Z t)
section
variable {X:Cx}{Z:Zx}
theorem zaY {e:Expr}{t t':TE}(h:PE X e t)(f:∀σ H Q,t' σ H Q→t σ H Q):PE X e t':=λpins s σ H Q I q=>h pins s σ H Q I (f σ H Q q)
theorem zmx {e:Expr}{t t':TT}(h:PT X e t)(f:∀σ H Q,t' σ H Q→t σ H Q):PT X e t':=λpins s σ H Q I q=>h pins s σ H Q I (f σ H Q q)
theorem zq6 {e:Expr}{t t':TT}(h:PW X e t)(f:∀σ H Q,t' σ H Q→t σ H Q):PW X e t':=λwh pins s σ H Q I q=>h wh pins s σ H Q I (f σ H Q q)
theorem zri {e:List Expr}{t t':TA}(h:PA X e t)(f:∀σ H Q,t' σ H Q→t σ H Q):PA X e t':=λpos pins s σ H Q I q=>h pos pins s σ H Q I (f σ H Q q)
theorem zbS {e:Stmt}{t t':TS}(h:PS X e t)(f:∀F σ H,t' F σ H→t F σ H):PS X e t':=λpins s σ H F I q=>h pins s σ H F I (f F σ H q)
theorem zqr {e:List Stmt}{t t':TS}(h:PSs X e t)(f:∀F σ H,t' F σ H→t F σ H):PSs X e t':=λpins s σ H F I q=>h pins s σ H F I (f F σ H q)
theorem PDW.pt {e:Expr}{t:TDT}(h:PDW X Z e t):PDT X Z e t:=PW.pt h
def zbq (i:Nat):TDE:=λdl S Q=>match dl[i]? with
 | some (some d)=>Q d S
 | _=>False
def dC (d:D):TDE:=λ_ S Q=>Q d S
theorem zvk {e:Expr}{i:Nat}(h:PE X e (tVar i)):PD X Z e (zbq i):=zaY h λσ H Qv ⟨r,dl,S,Q,rs,rel,q,ret⟩=>by
 unfold zbq at q
 split at q
 ·rename_i d e
  obtain⟨v,h1,h2⟩:=rs.2 i d e
  exact⟨v,h1,ret v H r d S Ext.refl rel h2 q⟩
 ·exact q.elim
theorem dv (i:Nat){x:Str}{pos:Pos}(hN:X.N[i]?=some x:=by rfl)(hv:Vis X.env.scope x:=by first | exact Or.inl rfl | exact Or.inr (Or.inl rfl) | exact Or.inr (Or.inr rfl))(hd:(x==("__debug__":Str))=false:=by decide)
  (hcd:(x==("__classdict__":Str))=false:=by decide):PD X Z (.Name x pos) (zbq i):=zvk (zrk hN hv hd hcd)
theorem zle {e:Expr}{d:D}{v:V}(h:PE X e (tC v))(q:∀r H,Rp r H d v):PD X Z e (dC d):=zaY h λσ H Qv ⟨r,dl,S,Q,rs,rel,h,ret⟩=>ret v H r d S Ext.refl rel (q r H) h
theorem zac {i j pos}:PD X Z (.Constant (.int i) j pos) (dC (.int i)):=zle zwU λ_ _=>.int i
theorem zcH {b j pos}:PD X Z (.Constant (.bool b) j pos) (dC (.bl b)):=zle pe_bl λ_ _=>.bl b
theorem zfv {j pos}:PD X Z (.Constant .none j pos) (dC .non):=zle zwb λ_ _=>.non
theorem zbP {x j pos}:PD X Z (.Constant (.str x) j pos) (dC (.str x)):=zle zwC λ_ _=>.str x
abbrev W2:=D→D→Sto→DK→Prop
abbrev W1:=D→Sto→DK→Prop
def upO (K:PySem.W.Frag)(Z:Zx)(w:W2):R2:=λx y H Qv=>∃r S dx dy Q,Rel K Z r S H∧Rp r H dx x∧Rp r H dy y∧w dx dy S Q∧Ret K Z r H Q Qv
def upU (K:PySem.W.Frag)(Z:Zx)(w:W1):V→Hp→VK→Prop:=λx H Qv=>∃r S dx Q,Rel K Z r S H∧Rp r H dx x∧w dx S Q∧Ret K Z r H Q Qv
def dOp (w:W2)(ta tb:TDE):TDE:=λdl S Q=>ta dl S λx S1=>tb dl S1 λy S2=>w x y S2 Q
def dUn (w:W1)(ta:TDE):TDE:=λdl S Q=>ta dl S λx S1=>w x S1 Q
variable {a b c:Expr}{ta tb tc:TDE}{pos:Pos}
theorem zkP {w:W2}{σ:St}{H:Hp}{Qv:VK}(h:up X.K Z (dOp w ta tb) σ H Qv):tOp (upO X.K Z w) (up X.K Z ta) (up X.K Z tb) σ H Qv:=by
 obtain⟨r,dl,S,Q,rs,rel,h,ret⟩:=h
 exact⟨r,dl,S,_,rs,rel,h,λv H1 r1 dx S1 e1 rel1 p1 h1=>⟨r1,dl,S1,_,rs.ext e1,rel1,h1,λv2 H2 r2 dy S2 e2 rel2 p2 h2=>⟨r2,S2,dx,dy,Q,rel2,p1.ext e2,p2,h2,ret.ext (e1.trans e2)⟩⟩⟩
theorem zao {op:Operator}{w:W2}(ho:OpR X (binaryOp op) (upO X.K Z w))(ha:PD X Z a ta)(hb:PD X Z b tb):PD X Z (.BinOp a op b pos) (dOp w ta tb):=zaY (pe_op ho ha hb) λ_ _ _ h=>zkP h
theorem ziG {op:UnaryOp}{w:W1}(ho:UnR X (unaryOp op) (upU X.K Z w))(ha:PD X Z a ta):PD X Z (.UnaryOp op a pos) (dUn w ta):=zaY (pe_un ho ha) λσ H Qv ⟨r,dl,S,Q,rs,rel,h,ret⟩=>
 ⟨r,dl,S,_,rs,rel,h,λv H1 r1 dx S1 e1 rel1 p1 h1=>⟨r1,S1,dx,Q,rel1,p1,h1,ret.ext e1⟩⟩
theorem zci {op:CmpOp}{w:W2}(ho:OpR X (compareOp op) (upO X.K Z w))(ha:PD X Z a ta)(hb:PD X Z b tb)(hm:behindInMarks op b=false):PD X Z (.Compare a [op] [b] pos) (dOp w ta tb):=zaY (zuh ho ha hb hm) λ_ _ _ h=>zkP h
theorem zeN {f:Value→Value→Sem Value}{r r':R2}(h:OpR X f r)(g:∀x y H Q,r' x y H Q→r x y H Q):OpR X f r':=λpins s σ H x y v u Q I rx ry q=>h pins s σ H x y v u Q I rx ry (g x y H Q q)
theorem zvD {f:Value→Sem Value}{r r':V→Hp→VK→Prop}(h:UnR X f r)(g:∀x H Q,r' x H Q→r x H Q):UnR X f r':=λpins s σ H x v Q I rx q=>h pins s σ H x v Q I rx (g x H Q q)
theorem zm5 {f:Value}{r r':List V→Hp→VK→Prop}(h:za7 X f r)(g:∀x H Q,r' x H Q→r x H Q):za7 X f r':=λpins s σ H xs us Q I rx q=>h pins s σ H xs us Q I rx (g xs H Q q)
def wI (C:Int→Int→Prop)(g:Int→Int→D):W2:=λx y S Q=>match x,y with
 | .int i,.int j=>C i j∧Q (g i j) S
 | _,_=>False
def wI0 (g:Int→Int→D):W2:=λx y S Q=>match x,y with
 | .int i,.int j=>Q (g i j) S
 | _,_=>False
theorem opD {f:Value→Value→Sem Value}{C:Int→Int→Prop}{g:Int→Int→V}{g':Int→Int→D}(h:OpR X f (rI C g))(hg:∀r H i j,Rp r H (g' i j) (g i j)):OpR X f (upO X.K Z (wI C g')):=
 zeN h λx y H Qv ⟨r,S,dx,dy,Q,rel,px,py,q,ret⟩=>by
  cases px <;> cases py <;> first
   | exact⟨_,_,rfl,rfl,q.1,ret _ _ _ _ _ Ext.refl rel (hg _ _ _ _) q.2⟩
   | exact(show False from q).elim
theorem zfV {f:Value→Value→Sem Value}{g:Int→Int→V}{g':Int→Int→D}(h:OpR X f (rI0 g))(hg:∀r H i j,Rp r H (g' i j) (g i j)):OpR X f (upO X.K Z (wI0 g')):=
 zeN h λx y H Qv ⟨r,S,dx,dy,Q,rel,px,py,q,ret⟩=>by
  cases px <;> cases py <;> first
   | exact⟨_,_,rfl,rfl,ret _ _ _ _ _ Ext.refl rel (hg _ _ _ _) q⟩
   | exact(show False from q).elim
abbrev wAdd:W2:=wI0 λi j=>.int (i+j)
abbrev wSub:W2:=wI0 λi j=>.int (i-j)
abbrev zgb:W2:=wI IntMulOk λi j=>.int (i*j)
def CFd (_ j:Int):Prop:=0<j∧j.natAbs.log2<9000
abbrev wFdiv:W2:=wI CFd λi j=>.int (i/j)
def CFn (_ j:Int):Prop:=j≠0∧j.natAbs.log2<9000
abbrev zwY:W2:=wI CFn λi j=>.int (i.fdiv j)
abbrev zjt:W2:=wI (λ_ j=>0<j) λi j=>.int (i%j)
theorem zbl:OpR X (binaryOp .Add) (upO X.K Z wAdd):=zfV ztT λ_ _ _ _=>.int _
theorem zcZ:OpR X (binaryOp .Sub) (upO X.K Z wSub):=zfV zxE λ_ _ _ _=>.int _
theorem za3:OpR X (binaryOp .Mult) (upO X.K Z zgb):=opD (opI λ_ _ _ _ _ _ _ hc q=>mul_int q hc) λ_ _ _ _=>.int _
theorem zel:OpR X (binaryOp .FloorDiv) (upO X.K Z wFdiv):=opD (opI λi j _ _ _ _ _ hc q=>floordiv_int (by have h:0<j:=hc.1; omega) (by have h:0<j:=hc.1; rw[Int.fdiv_eq_ediv_of_nonneg i (by omega)]; exact q) (.inl (PyProof.noPylong_of_log2 hc.2))) λ_ _ _ _=>.int _
theorem zsj:OpR X (binaryOp .FloorDiv) (upO X.K Z zwY):=opD (opI λ_ _ _ _ _ _ _ hc q=>floordiv_int hc.1 q (.inl (PyProof.noPylong_of_log2 hc.2))) λ_ _ _ _=>.int _
theorem zdb:OpR X (binaryOp .Mod) (upO X.K Z zjt):=opD ztR λ_ _ _ _=>.int _
abbrev wLt:W2:=wI0 λi j=>.bl (decide (i<j))
abbrev wLe:W2:=wI0 λi j=>.bl (decide (i≤j))
abbrev wGt:W2:=wI0 λi j=>.bl (decide (j<i))
abbrev wGe:W2:=wI0 λi j=>.bl (decide (j≤i))
theorem zea:OpR X (compareOp .Lt) (upO X.K Z wLt):=zfV op_lt λ_ _ _ _=>.bl _
theorem do_le:OpR X (compareOp .LtE) (upO X.K Z wLe):=zfV op_le λ_ _ _ _=>.bl _
theorem zoY:OpR X (compareOp .Gt) (upO X.K Z wGt):=zfV op_gt λ_ _ _ _=>.bl _
theorem zpd:OpR X (compareOp .GtE) (upO X.K Z wGe):=zfV op_ge λ_ _ _ _=>.bl _
def wNeg:W1:=λx S Q=>match x with
 | .int i=>Q (.int (-i)) S
 | _=>False
theorem zgF:UnR X (unaryOp .USub) (upU X.K Z wNeg):=zvD zsH λx H Qv ⟨r,S,dx,Q,rel,px,q,ret⟩=>by
 cases px <;> first
  | exact⟨_,rfl,ret _ _ _ _ _ Ext.refl rel (.int _) q⟩
  | exact(show False from q).elim
end
def eqF:D→D→Option Bool
 | .non,.non=>some true
 | .bl i,.bl j=>some (i==j)
 | .int i,.int j=>some (decide (i=j))
 | .str i,.str j=>some (decide (i=j))
 | .non,.int _=>some false | .int _,.non=>some false | .non,.bl _=>some false | .bl _,.non=>some false | .non,.str _=>some false | .str _,.non=>some false
 | .int _,.str _=>some false | .str _,.int _=>some false | .bl _,.str _=>some false | .str _,.bl _=>some false
 | _,_=>none
def eqL (f:D→D→Option Bool):List D→List D→Option Bool
 | [],[]=>some true
 | x::xs,y::ys=>match f x y,eqL f xs ys with
  | some b,some c=>some (b&&c)
  | _,_=>none
 | _,_=>some false
def eqT (f:D→D→Option Bool):D→D→Option Bool
 | .tup xs,.tup ys=>eqL f xs ys
 | x,y=>eqF x y
abbrev eq1:D→D→Option Bool:=eqT eqF
abbrev eq2:D→D→Option Bool:=eqT eq1
def zdN (n:Nat)(f:D→D→Option Bool):Prop:=∀(X:Cx) (pins:List (Addr×Obj)) (σ:St) (H:Hp) (s:Shared) (r:List Addr) (A:Around) (dx dy:D) (x y:V) (u v:Value) (b:Bool),
 Inv X pins σ H s→A.units+n<cLine→Rp r H dx x→Rp r H dy y→zau x u→zau y v→f dx dy=some b→SeqAt.EqAt A s u v b
def zfX (f:D→D→Option Bool):Prop:=∀(r:List Addr) (H:Hp) (dx dy:D) (x:V) (b:Bool),Rp r H dx x→Rp r H dy x→f dx dy=some b→b=true
theorem zfd:zfX eqF:=by
 intro r H dx dy x b px py e
 cases px <;> cases py <;> simp[eqF] at e <;> first | exact e.symm | exact e
theorem zqZ {f:D→D→Option Bool}(hf:zfX f){r:List Addr}{H:Hp}:∀ {xs ys:List D} {vs:List V} {b:Bool},Rps r H xs vs→Rps r H ys vs→eqL f xs ys=some b→b=true
 | [],[],_,b,_,_,e=>by simp[eqL] at e; exact e
 | [],y::ys,vs,b,p,q,e=>by
  have h1:=p.unnil
  subst h1
  exact absurd q.1 (by simp)
 | x::xs,[],vs,b,p,q,e=>by
  have h1:=q.unnil
  subst h1
  exact absurd p.1 (by simp)
 | x::xs,y::ys,vs,b,p,q,e=>by
  obtain⟨v,vs',rfl,p1,p2⟩:=p.uncons
  obtain⟨q1,q2⟩:=q.tail
  unfold eqL at e
  split at e
  ·rename_i b1 c1 e1 e2
   have h1:=hf r H x y v b1 p1 q1 e1
   have h2:=zqZ hf p2 q2 e2
   subst h1; subst h2
   simp at e
   exact e
  ·cases e
theorem zpo {f:D→D→Option Bool}(hf:zfX f):zfX (eqT f):=by
 intro r H dx dy x b px py e
 cases px with
 | tup e1 l1 f1=>
  cases py with
  | tup e2 l2 f2=>
   rw[e1] at e2; cases e2
   exact zqZ hf ⟨l1,f1⟩ ⟨l2,f2⟩ e
  | ref h=>simp[eqT,eqF] at e
  | exc h=>simp[eqT,eqF] at e
 | non=>exact zfd r H _ _ _ b .non py (by cases py <;> exact e)
 | bl i=>exact zfd r H _ _ _ b (.bl i) py (by cases py <;> exact e)
 | int i=>exact zfd r H _ _ _ b (.int i) py (by cases py <;> exact e)
 | str i=>exact zfd r H _ _ _ b (.str i) py (by cases py <;> exact e)
 | ref h=>cases py <;> simp[eqT,eqF] at e
 | exc h=>cases py <;> simp[eqT,eqF] at e
theorem zje (n:Nat):zdN n eqF:=by
 intro X pins σ H s r A dx dy x y u v b I hu px py rx ry e
 have fin:∀ {x y:V},zau x u→zau y v→zkU x=true→zkU y=true→eqV x y=b→SeqAt.EqAt A s u v b:=λrx ry fx fy e'=>by
  subst e'; exact zwI rx ry fx fy
 cases px <;> cases py <;> simp[eqF] at e <;> refine fin rx ry rfl rfl ?_ <;> simp[eqV,e] <;> first | exact e | (subst e; simp) | skip
theorem zf3 {X:Cx}{pins:List (Addr×Obj)}{σ:St}{H:Hp}{s:Shared}{a:Addr}{xs:List V}(I:Inv X pins σ H s)(h:H a=some (.tup xs)):∃its:List Value,zat xs its∧IsTup s.heap a its.toArray∧xs.length≤sizeLine:=I.tuple (SqT.of h)
def zcC (f:D→D→Option Bool)(xs ys:List D)(j:Nat):Bool:=match xs[j]?,ys[j]? with
 | some x,some y=>(f x y).getD false
 | _,_=>false
theorem zpB {f:D→D→Option Bool}:∀ {xs ys:List D} {b:Bool},eqL f xs ys=some b→(∀(j:Nat) (x y:D),xs[j]?=some x→ys[j]?=some y→∃c,f x y=some c)∧((List.range (min xs.length ys.length)).all (zcC f xs ys)&&xs.length==ys.length)=b
 | [],[],b,e=>by simp[eqL] at e; subst e; simp
 | [],y::ys,b,e=>by simp[eqL] at e; subst e; simp
 | x::xs,[],b,e=>by simp[eqL] at e; subst e; simp
 | x::xs,y::ys,b,e=>by
  unfold eqL at e
  split at e
  ·rename_i b1 c1 e1 e2
   obtain⟨h1,h2⟩:=zpB e2
   refine⟨λj p q hp hq=>?_,?_⟩
   ·cases j with
    | zero=>simp at hp hq; subst hp; subst hq; exact⟨b1,e1⟩
    | succ j=>exact h1 j p q (by simpa using hp) (by simpa using hq)
   ·have z:min (x::xs).length (y::ys).length=min xs.length ys.length+1:=by simp[Nat.succ_min_succ]
    rw[z,List.range_succ_eq_map,List.all_cons,List.all_map]
    have e0:zcC f (x::xs) (y::ys) 0=b1:=by simp[zcC,e1]
    have es:(zcC f (x::xs) (y::ys) ∘ Nat.succ)=zcC f xs ys:=by funext j; simp[zcC]
    rw[e0,es]
    have e3:((x::xs).length==(y::ys).length)=(xs.length==ys.length):=by simp
    rw[e3,Bool.and_assoc,h2]
    simp at e
    exact e
  ·cases e
theorem zg9 {n:Nat}{f:D→D→Option Bool}(hf:zdN n f){X:Cx}{pins:List (Addr×Obj)}{σ:St}{H:Hp}{s:Shared}{r:List Addr}{A:Around}{xs ys:List D}{us vs:List V}{is js:List Value}{b:Bool}
  (I:Inv X pins σ H s)(hu:A.units+n<cLine)(p:Rps r H xs us)(q:Rps r H ys vs)(ri:zat us is)(rj:zat vs js)(e:eqL f xs ys=some b):
  (∀j (h1:j<is.toArray.size) (h2:j<js.toArray.size),SeqAt.EqAt A s is.toArray[j] js.toArray[j] (zcC f xs ys j))∧((List.range (min is.toArray.size js.toArray.size)).all (zcC f xs ys)&&is.toArray.size==js.toArray.size)=b:=by
 obtain⟨h1,h2⟩:=zpB e
 have l1:is.toArray.size=xs.length:=by rw[Vak,← ri.length,p.1]
 have l2:js.toArray.size=ys.length:=by rw[Vak,← rj.length,q.1]
 refine⟨λj hj1 hj2=>?_,by rw[l1,l2]; exact h2⟩
 have k1:j<xs.length:=by omega
 have k2:j<ys.length:=by omega
 have g1:xs[j]?=some xs[j]:=by simp[k1]
 have g2:ys[j]?=some ys[j]:=by simp[k2]
 obtain⟨x,gx,px⟩:=p.get g1
 obtain⟨y,gy,py⟩:=q.get g2
 obtain⟨u,gu,ru⟩:=ri.get gx
 obtain⟨v,gv,rv⟩:=rj.get gy
 obtain⟨c,hc⟩:=h1 j _ _ g1 g2
 have eu:is.toArray[j]=u:=by
  have z:=Vab.mp gu
  simpa using z.2
 have ev:js.toArray[j]=v:=by
  have z:=Vab.mp gv
  simpa using z.2
 have ec:zcC f xs ys j=c:=by simp[zcC,g1,g2,hc]
 rw[eu,ev,ec]
 exact hf X pins σ H s r A _ _ x y u v c I hu px py ru rv hc
theorem zp6 {n:Nat}{f:D→D→Option Bool}(hf:zdN n f)(hs:zfX f):zdN (n+1) (eqT f):=by
 intro X pins σ H s r A dx dy x y u v b I hu px py rx ry e
 have za4:∀ {dx dy:D} {x y:V},Rp r H dx x→Rp r H dy y→zau x u→zau y v→eqF dx dy=some b→SeqAt.EqAt A s u v b:=λpx py rx ry e=>zje (n+1) X pins σ H s r A _ _ _ _ u v b I hu px py rx ry e
 cases px with
 | @tup ds xs a e1 l1 f1=>
  cases py with
  | @tup es ys a' e2 l2 f2=>
   cases rx
   cases ry
   by_cases z:a=a'
   ·subst z
    have hb:=zpo hs r H _ _ _ b (.tup e1 l1 f1) (.tup e2 l2 f2) e
    subst hb
    exact SeqAt.EqAt.same _
   ·obtain⟨is,ri,ti,_⟩:=zf3 I e1
    obtain⟨js,rj,tj,_⟩:=zf3 I e2
    obtain⟨g1,g2⟩:=zg9 (A:=A.in1) hf I (by show A.units+1+n<_; omega) ⟨l1,f1⟩ ⟨l2,f2⟩ ri rj e
    have q:=SeqAt.RcAt.tuples (A:=A) ti tj (by omega) g1
    rw[g2] at q
    exact SeqAt.EqAt.of_refs z q
  | ref h=>simp[eqT,eqF] at e
  | _=>simp[eqT,eqF] at e
 | non=>exact za4 .non py rx ry (by cases py <;> exact e)
 | bl i=>exact za4 (.bl i) py rx ry (by cases py <;> exact e)
 | int i=>exact za4 (.int i) py rx ry (by cases py <;> exact e)
 | str i=>exact za4 (.str i) py rx ry (by cases py <;> exact e)
 | ref h=>cases py <;> simp[eqT,eqF] at e
 | exc h=>cases py <;> simp[eqT,eqF] at e
theorem zqt (n:Nat):zdN (n+1) eq1:=zp6 (zje n) zfd
def wEq (f:D→D→Option Bool):W2:=λx y S Q=>match f x y with
 | some b=>Q (.bl b) S
 | none=>False
def wNe (f:D→D→Option Bool):W2:=λx y S Q=>match f x y with
 | some b=>Q (.bl (!b)) S
 | none=>False
section
variable {X:Cx}{Z:Zx}
theorem zps {r:List Addr}{H:Hp}{dx dy:D}{x y:V}{b:Bool}(px:Rp r H dx x)(py:Rp r H dy y)(e:eqF dx dy=some b):zjH x y=true∧decide (x=y)=b:=by
 cases px <;> cases py <;> simp[eqF] at e <;> simp[zjH] <;> first | exact e | (subst e; simp) | skip
theorem zxD {n:Nat}{f:D→D→Option Bool}(hf:zdN n f)(hu:X.A.units+1+n<cLine):OpR X (compareOp .Eq) (upO X.K Z (wEq (eqT f))):=by
 intro pins s σ H x y v u Qv I rx ry h
 obtain⟨r,S,dx,dy,Q,rel,px,py,q,ret⟩:=h
 unfold wEq at q
 split at q
 ·rename_i b e
  have za4:∀ {dx dy:D} {x y:V},Rp r H dx x→Rp r H dy y→zau x v→zau y u→eqF dx dy=some b→wpAny (model X.prog X.w) X.A (compareOp .Eq v u) (EP X pins σ Qv) X.xe s:=λpx py rx ry e=>by
   obtain⟨h1,h2⟩:=zps px py e
   refine zoR pins s σ H _ _ v u Qv I rx ry ⟨h1,?_⟩
   rw[h2]
   exact ret _ _ _ _ _ Ext.refl rel (.bl b) q
  cases px with
  | @tup ds xs a e1 l1 f1=>
   cases py with
   | @tup es ys a' e2 l2 f2=>
    cases rx
    cases ry
    obtain⟨is,ri,ti,_⟩:=zf3 I e1
    obtain⟨js,rj,tj,_⟩:=zf3 I e2
    obtain⟨g1,g2⟩:=zg9 (A:=X.A.in1) hf I (by show X.A.units+1+n<_; omega) ⟨l1,f1⟩ ⟨l2,f2⟩ ri rj e
    refine SeqAt.eq_tupleAt (A:=X.A) ti tj (by omega) g1 ?_
    rw[g2]
    exact⟨.bl b,H,I,rfl,ret _ _ _ _ _ Ext.refl rel (.bl b) q⟩
   | _=>simp[eqT,eqF] at e
  | non=>exact za4 .non py rx ry (by cases py <;> exact e)
  | bl i=>exact za4 (.bl i) py rx ry (by cases py <;> exact e)
  | int i=>exact za4 (.int i) py rx ry (by cases py <;> exact e)
  | str i=>exact za4 (.str i) py rx ry (by cases py <;> exact e)
  | ref h=>cases py <;> simp[eqT,eqF] at e
  | exc h=>cases py <;> simp[eqT,eqF] at e
 ·exact q.elim
theorem zrb {n:Nat}{f:D→D→Option Bool}(hf:zdN n f)(hu:X.A.units+1+n<cLine):OpR X (compareOp .NotEq) (upO X.K Z (wNe (eqT f))):=by
 intro pins s σ H x y v u Qv I rx ry h
 obtain⟨r,S,dx,dy,Q,rel,px,py,q,ret⟩:=h
 unfold wNe at q
 split at q
 ·rename_i b e
  have za4:∀ {dx dy:D} {x y:V},Rp r H dx x→Rp r H dy y→zau x v→zau y u→eqF dx dy=some b→wpAny (model X.prog X.w) X.A (compareOp .NotEq v u) (EP X pins σ Qv) X.xe s:=λpx py rx ry e=>by
   obtain⟨h1,h2⟩:=zps px py e
   refine op_ne pins s σ H _ _ v u Qv I rx ry ⟨h1,?_⟩
   rw[h2]
   exact ret _ _ _ _ _ Ext.refl rel (.bl (!b)) q
  cases px with
  | @tup ds xs a e1 l1 f1=>
   cases py with
   | @tup es ys a' e2 l2 f2=>
    cases rx
    cases ry
    obtain⟨is,ri,ti,_⟩:=zf3 I e1
    obtain⟨js,rj,tj,_⟩:=zf3 I e2
    obtain⟨g1,g2⟩:=zg9 (A:=X.A.in1) hf I (by show X.A.units+1+n<_; omega) ⟨l1,f1⟩ ⟨l2,f2⟩ ri rj e
    refine SeqAt.RcNeAt.tuples (A:=X.A) ti tj (by omega) g1 X.prog X.w _ _ ?_
    rw[g2]
    exact⟨.bl (!b),H,I,rfl,ret _ _ _ _ _ Ext.refl rel (.bl (!b)) q⟩
   | _=>simp[eqT,eqF] at e
  | non=>exact za4 .non py rx ry (by cases py <;> exact e)
  | bl i=>exact za4 (.bl i) py rx ry (by cases py <;> exact e)
  | int i=>exact za4 (.int i) py rx ry (by cases py <;> exact e)
  | str i=>exact za4 (.str i) py rx ry (by cases py <;> exact e)
  | ref h=>cases py <;> simp[eqT,eqF] at e
  | exc h=>cases py <;> simp[eqT,eqF] at e
 ·exact q.elim
theorem zaS {k:Nat}(hr:zaK k X.A):OpR X (compareOp .Eq) (upO X.K Z (wEq eq2)):=zxD (zqt 0) (by have:=hr.un; omega)
theorem zeE {k:Nat}(hr:zaK k X.A):OpR X (compareOp .NotEq) (upO X.K Z (wNe eq2)):=zrb (zqt 0) (by have:=hr.un; omega)
end
section
variable {X:Cx}{Z:Zx}{a b c:Expr}{ta tb tc:TDE}{pos:Pos}{za8:List Expr}
def zla (t:TDE):TDT:=λdl S Q=>t dl S λd S'=>match d with
 | .bl k=>Q k S'
 | _=>False
theorem znH {K:PySem.W.Frag}{Z:Zx}{r:List Addr}{H:Hp}{Q:Bool→Sto→Prop}{Qb:Bool→Hp→Prop}(h:∀b H' r' S',Ext r r' H H'→Rel K Z r' S' H'→Q b S'→Qb b H'):
  Ret K Z r H (λd S'=>match d with | .bl k=>Q k S' | _=>False) (λx H'=>∃k,x=.bl k∧Qb k H'):=λv H' r' d S' e rel p q=>by
 cases p with
 | bl k=>exact⟨k,rfl,h k H' r' S' e rel q⟩
 | _=>exact(show False from q).elim
theorem zaI {op:CmpOp}{w:W2}(ho:OpR X (compareOp op) (upO X.K Z w))(ha:PD X Z a ta)(hb:PD X Z b tb)(hm:behindInMarks op b=false):PDT X Z (.Compare a [op] [b] pos) (zla (dOp w ta tb)):=
 zmx (zwB ho ha hb hm) λσ H Qb ⟨r,dl,S,Q,rs,rel,h,ret⟩=>zkP ⟨r,dl,S,_,rs,rel,h,znH ret⟩
theorem zcl {e:Expr}{t:TDE}(h:PD X Z e t)(he:∀whole,isTrue e X.env whole=(do let v ← whole; standAt e.pos; holding [v] (truthy v)):=by intro _; rfl):PDT X Z e (zla t):=
 zmx (zwo h he) λσ H Qb ⟨r,dl,S,Q,rs,rel,h,ret⟩=>⟨r,dl,S,_,rs,rel,h,znH ret⟩
def dNot (t:TDT):TDT:=λdl S Q=>t dl S λk S'=>Q (!k) S'
theorem zcd {t:TDT}(ha:PDT X Z a t):PDT X Z (.UnaryOp .Not a pos) (dNot t):=
 zmx (zrX ha) λσ H Qb ⟨r,dl,S,Q,rs,rel,h,ret⟩=>⟨r,dl,S,_,rs,rel,h,λk H' r' S' e rel' q=>ret (!k) H' r' S' e rel' q⟩
def dAnd (t u:TDT):TDT:=λdl S Q=>t dl S λk S1=>if k=true then u dl S1 Q else Q false S1
def dOr (t u:TDT):TDT:=λdl S Q=>t dl S λk S1=>if k=true then Q true S1 else u dl S1 Q
theorem zpx {t:TDT}(ha:PDT X Z a t):PDW X Z (.BoolOp .And [a] pos) t:=zwt ha
theorem zec {t:TDT}(ha:PDT X Z a t):PDW X Z (.BoolOp .Or [a] pos) t:=zwd ha
theorem zrj {t u:TDT}(ha:PDT X Z a t)(hb:PDW X Z (.BoolOp .And (b::za8) pos) u):PDW X Z (.BoolOp .And (a::b::za8) pos) (dAnd t u):=
 zq6 (zrO ha hb) λσ H Qb ⟨r,dl,S,Q,rs,rel,h,ret⟩=>⟨r,dl,S,_,rs,rel,h,λk H1 r1 S1 e1 rel1 q1=>by
  cases k with
  | true=>exact zbL ⟨r1,dl,S1,Q,rs.ext e1,rel1,(by simpa using q1),λk' H2 r2 S2 e2=>ret k' H2 r2 S2 (e1.trans e2)⟩
  | false=>exact zbj (ret false H1 r1 S1 e1 rel1 (by simpa using q1))⟩
theorem zcN {t u:TDT}(ha:PDT X Z a t)(hb:PDW X Z (.BoolOp .Or (b::za8) pos) u):PDW X Z (.BoolOp .Or (a::b::za8) pos) (dOr t u):=
 zq6 (pw_or ha hb) λσ H Qb ⟨r,dl,S,Q,rs,rel,h,ret⟩=>⟨r,dl,S,_,rs,rel,h,λk H1 r1 S1 e1 rel1 q1=>by
  cases k with
  | true=>exact zbL (ret true H1 r1 S1 e1 rel1 (by simpa using q1))
  | false=>exact zbj ⟨r1,dl,S1,Q,rs.ext e1,rel1,(by simpa using q1),λk' H2 r2 S2 e2=>ret k' H2 r2 S2 (e1.trans e2)⟩⟩
def zpy (ta tb:TDE):TDE:=λdl S Q=>ta dl S λx S1=>match x with
 | .bl k=>if k=true then tb dl S1 Q else Q (.bl false) S1
 | _=>False
def dOrV (ta tb:TDE):TDE:=λdl S Q=>ta dl S λx S1=>match x with
 | .bl k=>if k=true then Q (.bl true) S1 else tb dl S1 Q
 | _=>False
def zro (ta:TDE):TDE:=λdl S Q=>ta dl S λx S1=>match x with
 | .bl k=>Q (.bl (!k)) S1
 | _=>False
theorem zhA {op}{t:TDE}(h:PD X Z a t):PD X Z (.BoolOp op [a] pos) t:=zxM h
theorem zhu (ha:PD X Z a ta)(hb:PD X Z (.BoolOp .And (b::za8) pos) tb):PD X Z (.BoolOp .And (a::b::za8) pos) (zpy ta tb):=
 zaY (zwW ha hb) λσ H Qv ⟨r,dl,S,Q,rs,rel,h,ret⟩=>⟨r,dl,S,_,rs,rel,h,λv H1 r1 d S1 e1 rel1 p q1=>by
  cases p with
  | bl k=>
   refine⟨k,rfl,?_⟩
   cases k with
   | true=>exact zbL ⟨r1,dl,S1,Q,rs.ext e1,rel1,(by simpa using q1),ret.ext e1⟩
   | false=>exact zbj (ret _ H1 r1 (.bl false) S1 e1 rel1 (.bl false) (by simpa using q1))
  | _=>exact(show False from q1).elim⟩
theorem pd_or (ha:PD X Z a ta)(hb:PD X Z (.BoolOp .Or (b::za8) pos) tb):PD X Z (.BoolOp .Or (a::b::za8) pos) (dOrV ta tb):=
 zaY (pe_or ha hb) λσ H Qv ⟨r,dl,S,Q,rs,rel,h,ret⟩=>⟨r,dl,S,_,rs,rel,h,λv H1 r1 d S1 e1 rel1 p q1=>by
  cases p with
  | bl k=>
   refine⟨k,rfl,?_⟩
   cases k with
   | true=>exact zbL (ret _ H1 r1 (.bl true) S1 e1 rel1 (.bl true) (by simpa using q1))
   | false=>exact zbj ⟨r1,dl,S1,Q,rs.ext e1,rel1,(by simpa using q1),ret.ext e1⟩
  | _=>exact(show False from q1).elim⟩
theorem ztk (ha:PD X Z a ta):PD X Z (.UnaryOp .Not a pos) (zro ta):=
 zaY (zyo ha) λσ H Qv ⟨r,dl,S,Q,rs,rel,h,ret⟩=>⟨r,dl,S,_,rs,rel,h,λv H1 r1 d S1 e1 rel1 p q1=>by
  cases p with
  | bl k=>exact⟨k,rfl,ret _ H1 r1 (.bl (!k)) S1 e1 rel1 (.bl (!k)) q1⟩
  | _=>exact(show False from q1).elim⟩
def dIfE (t:TDT)(ta tb:TDE):TDE:=λdl S Q=>t dl S λk S1=>if k=true then ta dl S1 Q else tb dl S1 Q
theorem znn {t:TDT}(hc:PDT X Z c t)(ha:PD X Z a ta)(hb:PD X Z b tb):PD X Z (.IfExp c a b pos) (dIfE t ta tb):=
 zaY (zuP hc ha hb) λσ H Qv ⟨r,dl,S,Q,rs,rel,h,ret⟩=>⟨r,dl,S,_,rs,rel,h,λk H1 r1 S1 e1 rel1 q1=>by
  cases k with
  | true=>exact zbL ⟨r1,dl,S1,Q,rs.ext e1,rel1,(by simpa using q1),ret.ext e1⟩
  | false=>exact zbj ⟨r1,dl,S1,Q,rs.ext e1,rel1,(by simpa using q1),ret.ext e1⟩⟩
def zoS (w w':W2)(ta tb tc:TDE):TDE:=λdl S Q=>ta dl S λx S1=>tb dl S1 λy S2=>w x y S2 λz S3=>match z with
 | .bl k=>if k=true then tc dl S3 λu S4=>w' y u S4 Q else Q (.bl false) S3
 | _=>False
theorem zso {w w':W2}{σ:St}{H:Hp}{Qv:VK}(h:up X.K Z (zoS w w' ta tb tc) σ H Qv):zpO (upO X.K Z w) (upO X.K Z w') (up X.K Z ta) (up X.K Z tb) (up X.K Z tc) σ H Qv:=by
 obtain⟨r,dl,S,Q,rs,rel,h,ret⟩:=h
 refine⟨r,dl,S,_,rs,rel,h,λv H1 r1 dx S1 e1 rel1 p1 h1=>⟨r1,dl,S1,_,rs.ext e1,rel1,h1,λv2 H2 r2 dy S2 e2 rel2 p2 h2=>⟨r2,S2,dx,dy,_,rel2,p1.ext e2,p2,h2,λv3 H3 r3 dz S3 e3 rel3 p3 h3=>?_⟩⟩⟩
 cases p3 with
 | bl k=>
  refine⟨k,rfl,?_⟩
  cases k with
  | true=>exact zbL ⟨r3,dl,S3,_,rs.ext (e1.trans (e2.trans e3)),rel3,(by simpa using h3),λv4 H4 r4 du S4 e4 rel4 p4 h4=>⟨r4,S4,dy,du,Q,rel4,(p2.ext e3).ext e4,p4,h4,ret.ext (e1.trans (e2.trans (e3.trans e4)))⟩⟩
  | false=>exact zbj (ret _ H3 r3 (.bl false) S3 (e1.trans (e2.trans e3)) rel3 (.bl false) (by simpa using h3))
 | _=>exact(show False from h3).elim
theorem zvK {op op':CmpOp}{w w':W2}(ho:OpR X (compareOp op) (upO X.K Z w))(ho':OpR X (compareOp op') (upO X.K Z w'))(ha:PD X Z a ta)(hb:PD X Z b tb)(hc:PD X Z c tc)
  (hm:lastMarks [op,op'] [b,c]=false:=by with_unfolding_all rfl):PDT X Z (.Compare a [op,op'] [b,c] pos) (zla (zoS w w' ta tb tc)):=
 zmx (zuM ho ho' ha hb hc hm) λσ H Qb ⟨r,dl,S,Q,rs,rel,h,ret⟩=>zso ⟨r,dl,S,_,rs,rel,h,znH ret⟩
def zju:D→Bool
 | .non=>true
 | _=>false
def wIsN:W2:=λx y S Q=>match y with
 | .non=>Q (.bl (zju x)) S
 | _=>False
def wNotN:W2:=λx y S Q=>match y with
 | .non=>Q (.bl (!zju x)) S
 | _=>False
theorem zwh {r:List Addr}{H:Hp}{d:D}{x:V}(p:Rp r H d x):decide (x=.non)=zju d:=by
 cases p <;> simp[zju]
theorem zp7:OpR X (compareOp .Is) (upO X.K Z wIsN):=zeN zwx λx y H Qv ⟨r,S,dx,dy,Q,rel,px,py,q,ret⟩=>by
 cases py with
 | non=>exact⟨rfl,by rw[zwh px]; exact ret _ _ _ _ _ Ext.refl rel (.bl _) q⟩
 | _=>exact(show False from q).elim
variable {e:Expr}{es:List Expr}
def zhg:TDA:=λ_ S Q=>Q [] S
def zeZ (ta:TDE)(tr:TDA):TDA:=λdl S Q=>ta dl S λx S1=>tr dl S1 λxs S2=>Q (x::xs) S2
theorem zab:PDA X Z [] zhg:=zri ziS λσ H Qv ⟨r,dl,S,Q,rs,rel,h,ret⟩=>ret [] H r [] S Ext.refl rel Rps.nil h
theorem zaa {te:TDE}{t:TDA}(ha:PD X Z e te)(hr:PDA X Z es t)(hs:starEach (e::es) X.env=(false,eval e X.env)::starEach es X.env:=by rfl):PDA X Z (e::es) (zeZ te t):=
 zri (zf6 ha hr hs) λσ H Qv ⟨r,dl,S,Q,rs,rel,h,ret⟩=>⟨r,dl,S,_,rs,rel,h,λv H1 r1 d S1 e1 rel1 p1 h1=>⟨r1,dl,S1,_,rs.ext e1,rel1,h1,λvs H2 r2 ds S2 e2 rel2 p2 h2=>
  ret (v::vs) H2 r2 (d::ds) S2 (e1.trans e2) rel2 (Rps.cons (p1.ext e2) p2) h2⟩⟩
def dTup (t:TDA):TDE:=λdl S Q=>t dl S λds S1=>if ds.length≤1000 then Q (.tup ds) S1 else False
def dLst (t:TDA):TDE:=λdl S Q=>t dl S λds S1=>if ds.length≤1000 then Q (.ref S1.length) (S1++[.lst ds]) else False
theorem zkb {A:Prop}{p:Prop} [Decidable p] (h:if p then A else False):p∧A:=by
 split at h
 ·exact⟨by assumption,h⟩
 ·exact h.elim
theorem zep {n:Nat}(h:n≤1000):n≤sizeLine:=VaU (zgE h)
theorem za1 {x1}{t:TDA}(h:PDA X Z es t):PD X Z (.Tuple es x1 pos) (dTup t):=
 zaY (zsi h) λσ H Qv ⟨r,dl,S,Q,rs,rel,h,ret⟩=>⟨r,dl,S,_,rs,rel,h,λvs H1 r1 ds S1 e1 rel1 p1 h1=>by
  obtain⟨hl,h1⟩:=zkb h1
  refine⟨by rw[← p1.1]; exact zep hl,λp hp=>?_⟩
  have x:Ext r1 r1 H1 (upd H1 p (.tup vs)):=⟨λ_ _ q=>q,λa xs q=>zdf hp _ _ q,λa c q=>zdf hp _ _ q⟩
  exact ret _ _ r1 (.tup ds) S1 (e1.trans x) (rel1.same (zdf hp)) ((p1.ext x).tupR zcK) h1⟩
theorem zek {r:List Addr}{p:Addr}{H:Hp}{n:Nat}(h:r.length=n):Rp (r++[p]) H (.ref n) (.ref p):=.ref (by subst h; simp)
theorem zcJ {t:TDA}(h:PDA X Z es t):PD X Z (.List es pos) (dLst t):=
 zaY (zxt h) λσ H Qv ⟨r,dl,S,Q,rs,rel,h,ret⟩=>⟨r,dl,S,_,rs,rel,h,λvs H1 r1 ds S1 e1 rel1 p1 h1=>by
  obtain⟨hl,h1⟩:=zkb h1
  refine⟨by rw[← p1.1]; exact zep hl,λp hp=>?_⟩
  obtain⟨rel2,x⟩:=rel1.push hp p1
  exact ret _ _ _ (.ref S1.length) _ (e1.trans x) rel2 (zek rel1.len) h1⟩
def wIx:W2:=λx y S Q=>match x,y with
 | .tup xs,.int i=>match atI xs i with
  | some d=>Q d S
  | none=>False
 | .ref n,.int i=>match lAt S n with
  | some o=>match atI (zak o) i with
   | some d=>Q d S
   | none=>False
  | none=>False
 | _,_=>False
theorem zp3 {r:List Addr}{H:Hp}{ds:List D}{vs:List V}{i:Int}{d:D}(h:Rps r H ds vs)(e:atI ds i=some d):∃v,atI vs i=some v∧Rp r H d v:=by
  unfold atI at e ⊢
  rw[← h.1]
  cases q:ixN ds.length i with
  | none=>
   rw[q] at e
   cases e
  | some j=>
    rw[q] at e
    exact h.get e
theorem do_ix:IxR X (upO X.K Z wIx):=by
 intro value slice pins s σ H x y v u Qv I rx ry h hs
 obtain⟨r,S,dx,dy,Q,rel,px,py,q,ret⟩:=h
 cases px with
 | @tup ds xs a e1 l1 f1=>
  cases py with
  | int i=>
   have q':(match atI ds i with | some d=>Q d S | none=>False):=q
   split at q'
   ·rename_i d e
    obtain⟨w,hw,pw⟩:=zp3 ⟨l1,f1⟩ e
    exact zsA value slice pins s σ H _ _ v u Qv I rx ry ⟨a,xs,i,w,rfl,rfl,SqT.of e1,hw,ret w H r d S Ext.refl rel pw q'⟩ hs
   ·exact q'.elim
  | _=>exact(show False from q).elim
 | @ref n a e1=>
  cases py with
  | int i=>
   have q':(match lAt S n with | some o=>(match atI (zak o) i with | some d=>Q d S | none=>False) | none=>False):=q
   split at q'
   ·rename_i o eo
    obtain⟨eo,eL⟩:=zbr eo
    obtain⟨a',ha,ob⟩:=rel.at eo
    rw[e1] at ha; cases ha
    obtain⟨xs,sq,pr⟩:=ob.list eL
    split at q'
    ·rename_i d e
     obtain⟨w,hw,pw⟩:=zp3 pr e
     exact zs1 value slice pins s σ H _ _ v u Qv I rx ry ⟨a,xs,i,w,rfl,rfl,sq,hw,ret w H r d S Ext.refl rel pw q'⟩ hs
    ·exact q'.elim
   ·exact q'.elim
  | _=>exact(show False from q).elim
 | _=>exact(show False from q).elim
theorem zav (ha:PD X Z a ta)(hb:PD X Z b tb)(hs:zmU b):PD X Z (.Subscript a b pos) (dOp wIx ta tb):=zaY (pe_ix do_ix ha hb hs) λ_ _ _ h=>zkP h
end
structure Bk (fs:List Addr)(H H':Hp)(B h:Heap)(ea:Addr):Prop where
 trk:∀b u,H' b=some u→∃o,B.get? b=some o
 old:∀b o,h.get? b=some o→H b=none→b ∉ fs→B.get? b=some o
 all:∀b o,h.get? b=some o→b ∉ fs→∃o',B.get? b=some o'
 new:H' ea=none
def CXE (P:Program)(w:World):CXT:=λouter H s E e s'=>∃(ea c:Addr) (a0:Value) (B:Heap) (H':Hp),e=.ref ea∧s'.os=s.os∧AllBare s'.gens∧Un (frs outer) [] H H' s.heap s'.heap∧HOk P w H' s'.heap∧
 Heap.FlyingW B outer ea (.ref c) a0 s'.heap∧Bk (frs outer) H H' B s.heap ea∧E (.ref c) none H'
section
variable {X:Cx}{pins:List (Addr×Obj)}{σ:St}{H:Hp}{s:Shared}
end
section
variable {P:Program}{w:World}{K:PySem.W.Frag}{mg:Str→Option Value}{base:Heap}{N:List Str}{qual:Str}{scope:Scope}{f:Addr}{cdv:Value}{A:Around}{outer:List Env}{s0:Shared}{H0:Hp}{E:XK}
end
structure Xc (K:PySem.W.Frag)(mg:Str→Option Value)(x:Str)(C:Addr)(bm:List Value)(nid:String):Prop where
 bound:mg x=some (.ref C)
 ex:PySem.W.excIn K C bm nid=true
abbrev WC:=List D→Sto→DK→Prop
abbrev Sd:=List D→Sto→DK→(Addr→Sto→Prop)→Prop
def upC (K:PySem.W.Frag)(Z:Zx)(w:WC):List V→Hp→VK→Prop:=λxs H Qv=>∃r S ds Q,Rel K Z r S H∧Rps r H ds xs∧w ds S Q∧Ret K Z r H Q Qv
def upF (K:PySem.W.Frag)(sd:Sd):Sp:=λvs H Qv E=>∃ex:Addr→Sto→Prop,upC K (Zc ex E) (λds S Q=>sd ds S Q ex) vs H Qv
def zj2 (w:WC)(t:TDA):TDE:=λdl S Q=>t dl S λds S1=>w ds S1 Q
def zlW (ex:Ev→Addr→Sto→Prop)(sd:Sd)(t:TDA):TDE:=λdl S Q=>t dl S λds S1=>sd ds S1 Q (ex dl)
def zdF (X:Cx)(W:St→XK):Prop:=∀(pins:List (Addr×Obj)) (σ:St) (H:Hp) (s:Shared) (e:Value) (s':Shared),Inv X pins σ H s→CXE X.prog X.w X.stack H s (W σ) e s'→X.xe e s'
section
variable {X:Cx}{k:Nat}{f:Addr}{fd:FuncData}{ps:List Str}{sp:Sp}{W:St→XK}{x:Str}{p pos:Pos}{e:Expr}{es:List Expr}{t:TA}
theorem znz {pins:List (Addr×Obj)}{σ:St}{H:Hp}{s:Shared}{Q:VK}{us:List Value}{vs:List V}(F:za5 X.prog X.w X.K X.mg X.base (CXE X.prog X.w) k f fd ps sp)(hr:zaK k X.A)(hb:zbI X.K fd ps [])(hx:zdF X W)
  (I:Inv X pins σ H s)(r:zat vs us)(h:sp vs H Q (W σ)):wpAny (model X.prog X.w) X.A (call (.ref f) us) (EP X pins σ Q) X.xe s:=by
 have hl:us.length=ps.length:=by rw[← r.length]; exact F.len _ _ _ _ h
 have hb':=hb s us I.kIn (by rw[Va0]; exact hl)
 rw[Va0] at hb'
 refine wpAny_call (codeAny_mono (F.run X.A X.stack s H ⟨us,[]⟩ us vs Q (W σ) hr I.env0 hb' r h) λz s' hq=>?_)
 cases z with
 | error ev=>exact hx pins σ H s ev s' I hq
 | ok fl=>
  cases fl with
  | ret u=>exact I.after hq
  | _=>exact False.elim hq
theorem ztd (F:za5 X.prog X.w X.K X.mg X.base (CXE X.prog X.w) k f fd ps sp)(hr:zaK k X.A)(hg:Gl X x)(hm:X.mg x=some (.ref f))(hk:PySem.W.keepIn X.K (.ref f)=true)(hb:zbI X.K fd ps [])(hx:zdF X W)
  (ha:PA X (e::es) t)(hdb:(x==("__debug__":Str))=false)(he:starEach (e::es) X.env=(false,eval e X.env)::starEach es X.env)(hpl:(backTo pos (starEach es X.env)).any (·.1)=false):
  PE X (.Call (.Name x p) (e::es) [] pos) (λσ H Q=>t σ H λvs H1=>sp vs H1 Q (W σ)):=by
 intro pins s σ H Q I h
 refine wpAny_Call_Name_kw (zqg I hg hm ?_ hdb)
 exact PySem.W.callWith_K (h₀:=X.base) I.ok.mod.kin hk (thn (ha pos pins s σ H _ I h) λus s1 ⟨vs,H1,I1,r,q⟩=>⟨I1.kIn,znz F hr hb hx I1 r q⟩) he hpl
end
section
variable {X:Cx}{Z:Zx}{x:Str}{p pos:Pos}{e:Expr}{es:List Expr}{t:TDA}{id T:String}{w:WC}
theorem zqk {σ:St}{H:Hp}{Qv:VK}(h:up X.K Z (zj2 w t) σ H Qv):upA X.K Z t σ H λvs H1=>upC X.K Z w vs H1 Qv:=by
 obtain⟨r,dl,S,Q,rs,rel,h,ret⟩:=h
 exact⟨r,dl,S,_,rs,rel,h,λvs H1 r1 ds S1 e1 rel1 p1 h1=>⟨r1,S1,ds,Q,rel1,p1,h1,ret.ext e1⟩⟩
theorem zaT (hc:za7 X (.builtin id) (upC X.K Z w))(hg:Gl X x)(hm:X.mg x=none)(hv:bootBuiltins x=some (.builtin id))(ha:PDA X Z (e::es) t)(hn:x≠"__name__":=by decide)(hdb:(x==("__debug__":Str))=false:=by decide)
  (he:starEach (e::es) X.env=(false,eval e X.env)::starEach es X.env:=by rfl)(hpl:(backTo pos (starEach es X.env)).any (·.1)=false:=by rfl):PD X Z (.Call (.Name x p) (e::es) [] pos) (zj2 w t):=
 zaY (zoe hc hg hm hv ha hn hdb he hpl) λ_ _ _ h=>zqk h
theorem zh0 (hc:za7 X (.type T) (upC X.K Z w))(hg:Gl X x)(hm:X.mg x=none)(hv:bootBuiltins x=some (.type T))(ha:PDA X Z (e::es) t)(hn:x≠"__name__":=by decide)(hdb:(x==("__debug__":Str))=false:=by decide)
  (he:starEach (e::es) X.env=(false,eval e X.env)::starEach es X.env:=by rfl)(hpl:(backTo pos (starEach es X.env)).any (·.1)=false:=by rfl):PD X Z (.Call (.Name x p) (e::es) [] pos) (zj2 w t):=
 zaY (zsB hc hg hm hv ha hn hdb he hpl) λ_ _ _ h=>zqk h
theorem zne {sd:Sd}{r:List Addr}{S:Sto}{H:Hp}{dl:Ev}{σ:St}{ds:List D}{vs:List V}{Q:DK}{Qv:VK}(rs:Rs r H dl σ)(rel:Rel X.K Z r S H)(p:Rps r H ds vs)(h:sd ds S Q (Z.ex dl))(ret:Ret X.K Z r H Q Qv):upF X.K sd vs H Qv (Z.w σ):=
 ⟨Z.ex dl,r,S,ds,Q,⟨rel.b,λ_ _ c H' r' S' x _ rb q=>rel.xw dl σ c H' r' S' x (rs.ext x) rb q⟩,p,h,λv H' r' d S' x rel' pv q=>ret v H' r' d S' x ⟨rel'.b,rel.xw.ext x⟩ pv q⟩
theorem zwG {k:Nat}{f:Addr}{fd:FuncData}{ps:List Str}{sd:Sd}(F:za5 X.prog X.w X.K X.mg X.base (CXE X.prog X.w) k f fd ps (upF X.K sd))(hr:zaK k X.A)(hg:Gl X x)(hm:X.mg x=some (.ref f))(hk:PySem.W.keepIn X.K (.ref f)=true)
  {ex:Ev→Addr→Sto→Prop}{W:St→XK}(hb:zbI X.K fd ps [])(hx:zdF X W)(ha:PDA X ⟨ex,W⟩ (e::es) t)(hdb:(x==("__debug__":Str))=false:=by decide)(he:starEach (e::es) X.env=(false,eval e X.env)::starEach es X.env:=by rfl)
  (hpl:(backTo pos (starEach es X.env)).any (·.1)=false:=by rfl):PD X ⟨ex,W⟩ (.Call (.Name x p) (e::es) [] pos) (zlW ex sd t):=
 zaY (ztd F hr hg hm hk hb hx ha hdb he hpl) λσ H Qv ⟨r,dl,S,Q,rs,rel,h,ret⟩=>⟨r,dl,S,_,rs,rel,h,λvs H1 r1 ds S1 e1 rel1 p1 h1=>zne (Z:=⟨ex,W⟩) (rs.ext e1) rel1 p1 h1 (ret.ext e1)⟩
def wAbs:WC:=λds S Q=>match ds with
 | [.int i]=>Q (.int (if i<0 then -i else i)) S
 | _=>False
theorem zxx:za7 X (.builtin "abs") (upC X.K Z wAbs):=zm5 zyk λxs H Qv ⟨r,S,ds,Q,rel,ps,q,ret⟩=>by
 unfold wAbs at q
 split at q
 ·rename_i i
  obtain⟨v,vs,rfl,p1,p2⟩:=ps.uncons
  have z:=p2.unnil
  subst z
  cases p1
  exact⟨i,rfl,ret _ _ _ _ _ Ext.refl rel (.int _) q⟩
 ·exact q.elim
def zcc:List D→Option (List Int)
 | []=>some []
 | .int i::r=>(zcc r).map (i::·)
 | _::_=>none
def zen (le:Int→Int→Prop)(two:Int→Int→Int):WC:=λds S Q=>match ds with
 | [.int i,.int j]=>Q (.int (two i j)) S
 | [.ref n]=>match lAt S n with
  | some o=>match zcc (zak o) with
   | some xs=>xs≠[]∧∀m,m∈xs→(∀y∈xs,le y m)→Q (.int m) S
   | none=>False
  | none=>False
 | _=>False
abbrev wMax:WC:=zen (λy m=>y≤m) λi j=>if j > i then j else i
abbrev wMin:WC:=zen (λy m=>m≤y) λi j=>if j<i then j else i
theorem zlw {r:List Addr}{H:Hp}:∀ {ds:List D} {ns:List Int} {vs:List V} {us:List Value},zcc ds=some ns→Rps r H ds vs→zat vs us→∃xs:List (Int×Tok),us.toArray=intItems xs.toArray∧xs.map (·.1)=ns
 | [],ns,vs,us,e,p,q=>by
  have z:=p.unnil
  subst z
  cases q
  simp[zcc] at e
  subst e
  exact⟨[],by simp[intItems],rfl⟩
 | d::ds,ns,vs,us,e,p,q=>by
  obtain⟨v,vs',rfl,p1,p2⟩:=p.uncons
  cases d with
  | int i=>
   cases p1
   cases q with
   | cons q1 q2=>
    obtain⟨t,rfl⟩:=q1
    simp only[zcc,Vam] at e
    obtain⟨ms,e1,rfl⟩:=e
    obtain⟨xs,h1,h2⟩:=zlw e1 p2 q2
    refine⟨(i,t)::xs,?_,by simp[h2]⟩
    simp[intItems] at h1 ⊢
    exact h1
  | _=>simp[zcc] at e
theorem zqA (f:Nat→Int):∀k j,j≤k→f j≤f (argBest (λi j=>decide (f i > f j)) k)
 | 0,j,h=>by
  have z:j=0:=by omega
  subst z
  exact VaJ _
 | k+1,j,h=>by
  have ih:=zqA f k
  unfold argBest
  split
  ·rename_i hb
   have hb':f (k+1) > f (argBest (λi j=>decide (f i > f j)) k):=of_decide_eq_true hb
   by_cases z:j=k+1
   ·subst z; exact VaJ _
   ·have:=ih j (by omega); omega
  ·rename_i hb
   have hb':¬ f (k+1) > f (argBest (λi j=>decide (f i > f j)) k):=λq=>hb (decide_eq_true q)
   by_cases z:j=k+1
   ·subst z; omega
   ·exact ih j (by omega)
theorem zra (f:Nat→Int):∀k j,j≤k→f (argBest (λi j=>decide (f i<f j)) k)≤f j
 | 0,j,h=>by
  have z:j=0:=by omega
  subst z
  exact VaJ _
 | k+1,j,h=>by
  have ih:=zra f k
  unfold argBest
  split
  ·rename_i hb
   have hb':f (k+1)<f (argBest (λi j=>decide (f i<f j)) k):=of_decide_eq_true hb
   by_cases z:j=k+1
   ·subst z; exact VaJ _
   ·have:=ih j (by omega); omega
  ·rename_i hb
   have hb':¬ f (k+1)<f (argBest (λi j=>decide (f i<f j)) k):=λq=>hb (decide_eq_true q)
   by_cases z:j=k+1
   ·subst z; omega
   ·exact ih j (by omega)
theorem zoN (bt:Nat→Nat→Bool):∀k,argBest bt k≤k
 | 0=>Vad _
 | k+1=>by
  unfold argBest
  split
  ·exact Vad _
  ·exact Nat.le_succ_of_le (zoN bt k)
theorem zoc {xs:List (Int×Tok)}{ns:List Int}(h:xs.map (·.1)=ns){j:Nat}{y:Int}(e:ns[j]?=some y):numAt xs.toArray j=y:=by
  subst h
  unfold numAt
  rw[Vae] at e
  simp only[List.getElem?_toArray]
  cases q:xs[j]? with
  | none=>
   rw[q] at e
   cases e
  | some z=>rw[q] at e; simpa using e
theorem zo5 {xs:List (Int×Tok)}{ns:List Int}(h:xs.map (·.1)=ns){j:Nat}(hj:j<ns.length):numAt xs.toArray j∈ns:=by
 have e:ns[j]?=some ns[j]:=by simp[hj]
 rw[zoc h e]
 exact VaH hj
theorem zjn (hc:X.calm=true):za7 X (.builtin "max") (upC X.K Z wMax):=by
 intro pins s σ H xs us Qv I rv h
 obtain⟨r,S,ds,Q,rel,ps,q,ret⟩:=h
 unfold wMax zen at q
 split at q
 ·rename_i i j
  obtain⟨v,vs,rfl,p1,p2⟩:=ps.uncons
  obtain⟨v2,vs2,rfl,p3,p4⟩:=p2.uncons
  have z:=p4.unnil
  subst z
  cases p1
  cases p3
  exact zvc hc pins s σ H _ us Qv I rv ⟨i,j,rfl,ret _ _ _ _ _ Ext.refl rel (.int _) q⟩
 ·rename_i n
  obtain⟨v,vs,rfl,p1,p2⟩:=ps.uncons
  have z:=p2.unnil
  subst z
  split at q
  ·rename_i o eo
   split at q
   ·rename_i ns en
    obtain⟨hne,q⟩:=q
    obtain⟨eo,eL⟩:=zbr eo
    obtain⟨a,ha,ob⟩:=rel.at eo
    cases p1 with
    | ref h1=>
     rw[h1] at ha; cases ha
     obtain⟨ys,sq,pr⟩:=ob.list eL
     obtain⟨u,rfl,ru⟩:=zdJ rv
     cases ru
     obtain⟨its,ri,pl,hz⟩:=I.list sq
     obtain⟨zs,hz1,hz2⟩:=zlw en pr ri
     have hl:zs.length=ns.length:=by rw[← hz2,Vac]
     have hpos:0<ns.length:=List.length_pos_iff.mpr hne
     have isl:=pl.isList
     rw[hz1] at isl
     refine max_intList (I.ok.hd hc) isl (by simp; omega) λv h' tk hv hk=>?_
     have hvi:=intItems_at hv
     obtain⟨t,rfl⟩:=hvi
     have hb:=zoN (λi j=>decide (numAt zs.toArray i > numAt zs.toArray j)) (zs.toArray.size-1)
     have hsz:zs.toArray.size=ns.length:=by simp[hl]
     refine⟨.int _,H,I.kept hk,⟨_,rfl⟩,ret _ _ _ _ _ Ext.refl rel (.int _) (q _ (zo5 hz2 (by omega)) λy hy=>?_)⟩
     obtain⟨j,hj,ej⟩:=VaK.mp hy
     have e1:=zoc hz2 (show ns[j]?=some y by simp[hj,ej])
     rw[← e1]
     exact zqA _ _ j (by omega)
   ·exact q.elim
  ·exact q.elim
 ·exact q.elim
theorem zoB (hc:X.calm=true):za7 X (.builtin "min") (upC X.K Z wMin):=by
 intro pins s σ H xs us Qv I rv h
 obtain⟨r,S,ds,Q,rel,ps,q,ret⟩:=h
 unfold wMin zen at q
 split at q
 ·rename_i i j
  obtain⟨v,vs,rfl,p1,p2⟩:=ps.uncons
  obtain⟨v2,vs2,rfl,p3,p4⟩:=p2.uncons
  have z:=p4.unnil
  subst z
  cases p1
  cases p3
  exact zs9 hc pins s σ H _ us Qv I rv ⟨i,j,rfl,ret _ _ _ _ _ Ext.refl rel (.int _) q⟩
 ·rename_i n
  obtain⟨v,vs,rfl,p1,p2⟩:=ps.uncons
  have z:=p2.unnil
  subst z
  split at q
  ·rename_i o eo
   split at q
   ·rename_i ns en
    obtain⟨hne,q⟩:=q
    obtain⟨eo,eL⟩:=zbr eo
    obtain⟨a,ha,ob⟩:=rel.at eo
    cases p1 with
    | ref h1=>
     rw[h1] at ha; cases ha
     obtain⟨ys,sq,pr⟩:=ob.list eL
     obtain⟨u,rfl,ru⟩:=zdJ rv
     cases ru
     obtain⟨its,ri,pl,hz⟩:=I.list sq
     obtain⟨zs,hz1,hz2⟩:=zlw en pr ri
     have hl:zs.length=ns.length:=by rw[← hz2,Vac]
     have hpos:0<ns.length:=List.length_pos_iff.mpr hne
     have isl:=pl.isList
     rw[hz1] at isl
     refine min_intList (I.ok.hd hc) isl (by simp; omega) λv h' tk hv hk=>?_
     have hvi:=intItems_at hv
     obtain⟨t,rfl⟩:=hvi
     have hb:=zoN (λi j=>decide (numAt zs.toArray i<numAt zs.toArray j)) (zs.toArray.size-1)
     have hsz:zs.toArray.size=ns.length:=by simp[hl]
     refine⟨.int _,H,I.kept hk,⟨_,rfl⟩,ret _ _ _ _ _ Ext.refl rel (.int _) (q _ (zo5 hz2 (by omega)) λy hy=>?_)⟩
     obtain⟨j,hj,ej⟩:=VaK.mp hy
     have e1:=zoc hz2 (show ns[j]?=some y by simp[hj,ej])
     rw[← e1]
     exact zra _ _ j (by omega)
   ·exact q.elim
  ·exact q.elim
 ·exact q.elim
def zfk:WC:=λds S Q=>match ds with
 | [.tup xs]=>Q (.int xs.length) S
 | [.ref n]=>match lAt S n with
  | some o=>Q (.int (zak o).length) S
  | none=>False
 | _=>False
theorem zbx:za7 X (.builtin "len") (upC X.K Z zfk):=zm5 zvb λxs H Qv ⟨r,S,ds,Q,rel,ps,q,ret⟩=>by
 unfold zfk at q
 split at q
 ·rename_i ys
  obtain⟨v,vs,rfl,p1,p2⟩:=ps.uncons
  have z:=p2.unnil
  subst z
  obtain⟨a,zs,rfl,h1,h2⟩:=p1.untup
  exact⟨a,zs,rfl,.inr (SqT.of h1),by rw[← h2.1]; exact ret _ _ _ _ _ Ext.refl rel (.int _) q⟩
 ·rename_i n
  obtain⟨v,vs,rfl,p1,p2⟩:=ps.uncons
  have z:=p2.unnil
  subst z
  split at q
  ·rename_i o eo
   obtain⟨eo,eL⟩:=zbr eo
   obtain⟨a,ha,ob⟩:=rel.at eo
   cases p1 with
   | ref h1=>
    rw[h1] at ha; cases ha
    obtain⟨ys,sq,pr⟩:=ob.list eL
    exact⟨_,ys,rfl,.inl sq,by rw[← pr.1]; exact ret _ _ _ _ _ Ext.refl rel (.int _) q⟩
  ·exact q.elim
 ·exact q.elim
def zdA (t T:String):Bool:=t==T||(t == "bool"&&T == "int")
def zqj (T:String)(te:TDE):TDE:=λdl S Q=>te dl S λd S1=>match d with
 | .ref _=>False
 | .exc _=>False
 | .non=>Q (.bl (zdA "NoneType" T)) S1
 | .bl _=>Q (.bl (zdA "bool" T)) S1
 | .int _=>Q (.bl (zdA "int" T)) S1
 | .str _=>Q (.bl (zdA "str" T)) S1
 | .tup _=>Q (.bl (zdA "tuple" T)) S1
def Kit (K:PySem.W.Frag)(T:String):Prop:=∀t∈["NoneType","bool","int","str","tuple"],PySem.W.kitOne K (.type t) (.type T)=some (zdA t T)
def rInst (K:PySem.W.Frag):List V→Hp→VK→Prop:=λxs H Qv=>∃x T t b,xs=[x,.ty T]∧zcz K H x t∧PySem.W.kitOne K t (.type T)=some b∧Qv (.bl b) H
theorem zo3:za7 X (.builtin "isinstance") (rInst X.K):=by
 intro pins s σ H xs us Q I r h
 obtain⟨x,T,t,b,rfl,ty,e,q⟩:=h
 obtain⟨u,w',rfl,r1,r2⟩:=zof r
 cases r2
 exact zxb I r1 ty e λtk=>⟨.bl b,H,I.tok tk,rfl,q⟩
theorem zmO {T:String}{te:TDE}{y:Str}{p2:Pos}(KT:Kit X.K T)(hg:Gl X "isinstance")(hm:X.mg "isinstance"=none)(hg2:Gl X y)(hm2:X.mg y=none)(hv2:bootBuiltins y=some (.type T))(ha:PD X Z e te)
  (hv:bootBuiltins "isinstance"=some (.builtin "isinstance"):=by exact PyProof.Rows.Boot.«isinstance»)
  (hn2:y≠"__name__":=by decide)(hd2:(y==("__debug__":Str))=false:=by decide)(he2:starEach [e,.Name y p2] X.env=(false,eval e X.env)::starEach [.Name y p2] X.env:=by rfl)
  (he3:starEach [.Name y p2] X.env=(false,eval (.Name y p2) X.env)::starEach [] X.env:=by rfl)(hpl:(backTo pos (starEach [.Name y p2] X.env)).any (·.1)=false:=by rfl):
  PD X Z (.Call (.Name "isinstance" p) [e,.Name y p2] [] pos) (zqj T te):=
 zaY (zoe zo3 hg hm hv (zf6 ha (zf6 (zqC (v:=.ty T) hg2 hm2 hv2 rfl hn2 hd2) ziS he3) he2) (by decide) (by decide) he2 hpl) λσ H Qv ⟨r,dl,S,Q,rs,rel,h,ret⟩=>
  ⟨r,dl,S,_,rs,rel,h,λv H1 r1 d S1 e1 rel1 p1 h1=>by
   cases p1 with
   | non=>exact⟨_,T,_,_,rfl,.non,KT _ (by simp),ret _ _ _ _ _ e1 rel1 (.bl _) h1⟩
   | bl b=>exact⟨_,T,_,_,rfl,.bl b,KT _ (by simp),ret _ _ _ _ _ e1 rel1 (.bl _) h1⟩
   | int b=>exact⟨_,T,_,_,rfl,.int b,KT _ (by simp),ret _ _ _ _ _ e1 rel1 (.bl _) h1⟩
   | str b=>exact⟨_,T,_,_,rfl,.str b,KT _ (by simp),ret _ _ _ _ _ e1 rel1 (.bl _) h1⟩
   | tup e2 _ _=>exact⟨_,T,_,_,rfl,.tup e2,KT _ (by simp),ret _ _ _ _ _ e1 rel1 (.bl _) h1⟩
   | ref _=>exact(show False from h1).elim
   | exc _=>exact(show False from h1).elim⟩
end
section
variable {X:Cx}{Z:Zx}{st:Stmt}{za8:List Stmt}{t u:TDS}{e:Expr}{te:TDE}{pos:Pos}
def zqa:TDS:=λE dl S=>E.nx dl S
def zcW (t u:TDS):TDS:=λE dl S=>t { nx:=λdl' S'=>u E dl' S',rt:=E.rt,bk:=E.bk,ct:=E.ct } dl S
theorem zaP:zc3 X Z [] zqa:=zqr zrY λF σ H ⟨r,dl,S,E,rs,rel,h,ret⟩=>ret.nx σ H r dl S Ext.refl rs rel h
theorem zap (h1:PDS X Z st t)(h2:zc3 X Z za8 u):zc3 X Z (st::za8) (zcW t u):=
 zqr (zsR h1 h2) λF σ H ⟨r,dl,S,E,rs,rel,h,ret⟩=>⟨r,dl,S,_,rs,rel,h,λσ' H' r' dl' S' x rs' rel' q=>⟨r',dl',S',E,rs',rel',q,ret.ext x⟩,ret.bk,ret.ct,ret.rt⟩
theorem zah (h1:PDS X Z st t):zc3 X Z [st] t:=zuk h1
def zpT (te:TDE):TDS:=λE dl S=>te dl S λ_ S1=>E.nx dl S1
theorem zce (he:PD X Z e te)(hs:swapsWith e none pos.line X.env=pure false:=by rfl):PDS X Z (.Expr e pos) (zpT te):=
 zbS (zwO he hs) λF σ H ⟨r,dl,S,E,rs,rel,h,ret⟩=>⟨r,dl,S,_,rs,rel,h,λv H1 r1 d S1 x rel1 p q=>ret.nx σ H1 r1 dl S1 x (rs.ext x) rel1 q⟩
def dRet (te:TDE):TDS:=λE dl S=>te dl S E.rt
theorem zar (he:PD X Z e te):PDS X Z (.Return (some e) pos) (dRet te):=
 zbS (zrE he) λF σ H ⟨r,dl,S,E,rs,rel,h,ret⟩=>⟨r,dl,S,_,rs,rel,h,ret.rt⟩
def dRetN:TDS:=λE _ S=>E.rt .non S
def dIf (c:TDT)(t u:TDS):TDS:=λE dl S=>c dl S λk S1=>if k=true then t E dl S1 else u E dl S1
theorem zaM {c:Expr}{a b:List Stmt}{tc:TDT}(hc:PDT X Z c tc)(ha:zc3 X Z a t)(hb:zc3 X Z b u):PDS X Z (.If c a b pos) (dIf tc t u):=
 zbS (ps_if hc ha hb) λF σ H ⟨r,dl,S,E,rs,rel,h,ret⟩=>⟨r,dl,S,_,rs,rel,h,λk H1 r1 S1 x rel1 q=>by
  cases k with
  | true=>exact zbL ⟨r1,dl,S1,E,rs.ext x,rel1,(by simpa using q),ret.ext x⟩
  | false=>exact zbj ⟨r1,dl,S1,E,rs.ext x,rel1,(by simpa using q),ret.ext x⟩⟩
def zhL (i:Nat)(te:TDE):TDS:=λE dl S=>te dl S λd S1=>E.nx (dl.set i (some d)) S1
theorem zaE {i:Nat}{x:Str}{pos':Pos}(hN:X.N.Nodup)(hi:X.N[i]?=some x)(hx:Loc X.env.scope x)(he:PD X Z e te)(hs:swapsWith e (some (.Name x pos')) pos.line X.env=pure false:=by rfl)
  (hf:X.fn x=true∨X.env.scope.names.lookup x=some .local:=by first | exact .inl rfl | exact .inr rfl | assumption):PDS X Z (.Assign [.Name x pos'] e pos) (zhL i te):=
 zbS (zrD hN hi hx he hs hf) λF σ H ⟨r,dl,S,E,rs,rel,h,ret⟩=>⟨r,dl,S,_,rs,rel,h,λv H1 r1 d S1 x rel1 p q=>ret.nx _ H1 r1 _ S1 x ((rs.ext x).set i p) rel1 q⟩
def zuR (c:TDT)(tb:TDS):TDS:=λE dl S=>∃W:Nat→Ev→Sto→Prop,(∃m,W m dl S)∧∀m dl S,W m dl S→
 c dl S λk S1=>if k=true then tb { nx:=λdl' S'=>∃m',m'<m∧W m' dl' S',rt:=E.rt,bk:=E.nx,ct:=λdl' S'=>∃m',m'<m∧W m' dl' S' } dl S1 else E.nx dl S1
theorem zvr {c:Expr}{body:List Stmt}{tc:TDT}{tb:TDS}(hp:PassesOwn (model X.prog X.w) X.A X.env X.xe)(hc:PDT X Z c tc)(hb:zc3 X Z body tb):PDS X Z (.While c body [] pos) (zuR tc tb):=
 zbS (zvp hp hc hb) λF σ H ⟨r,dl,S,E,rs,rel,⟨W,⟨m0,w0⟩,turn⟩,ret⟩=>by
  refine⟨λm σ' H'=>∃r' dl' S',Ext r r' H H'∧Rs r' H' dl' σ'∧Rel X.K Z r' S' H'∧W m dl' S',⟨m0,r,dl,S,Ext.refl,rs,rel,w0⟩,?_⟩
  rintro m σ1 H1 ⟨r1,dl1,S1,x1,rs1,rel1,w1⟩
  refine⟨r1,dl1,S1,_,rs1,rel1,turn m dl1 S1 w1,λk H2 r2 S2 x2 rel2 q2=>?_⟩
  cases k with
  | true=>
   refine zbL ⟨λσ' H'=>∃m',m'<m∧∃r' dl' S',Ext r r' H H'∧Rs r' H' dl' σ'∧Rel X.K Z r' S' H'∧W m' dl' S',λ_ _ z=>z,r2,dl1,S2,_,rs1.ext x2,rel2,(by simpa using q2),?_⟩
   have go:∀σ' H' r' dl' S',Ext r2 r' H2 H'→Rs r' H' dl' σ'→Rel X.K Z r' S' H'→(∃m',m'<m∧W m' dl' S')→∃m',m'<m∧∃r' dl' S',Ext r r' H H'∧Rs r' H' dl' σ'∧Rel X.K Z r' S' H'∧W m' dl' S':=
    λσ' H' r' dl' S' x rs' rel' ⟨m',hm,w'⟩=>⟨m',hm,r',dl',S',x1.trans (x2.trans x),rs',rel',w'⟩
   exact⟨go,λσ' H' r' dl' S' x rs' rel' q=>ret.nx σ' H' r' dl' S' (x1.trans (x2.trans x)) rs' rel' q,go,ret.rt.ext (x1.trans x2)⟩
  | false=>exact zbj (ret.nx σ1 H2 r2 dl1 S2 (x1.trans x2) (rs1.ext x2) rel2 (by simpa using q2))
def dFor (i:Nat)(tl:TDE)(tb:TDS):TDS:=λE dl S=>tl dl S λd S1=>match d with
 | .ref n=>(lAt S1 n).isSome=true∧∃W:Nat→Nat→Ev→Sto→Prop,(∃m,W 0 m dl S1)∧∀k m dl S,W k m dl S→match lAt S n with
  | some o=>match (zak o)[k]? with
   | some x=>tb { nx:=λdl' S'=>∃m',m'<m∧W (k+1) m' dl' S',rt:=E.rt,bk:=E.nx,ct:=λdl' S'=>∃m',m'<m∧W (k+1) m' dl' S' } (dl.set i (some x)) S
   | none=>E.nx dl S
  | none=>False
 | _=>False
theorem zda {i:Nat}{x:Str}{pos':Pos}{iter:Expr}{body:List Stmt}{tl:TDE}{tb:TDS}(hp:PassesOwn (model X.prog X.w) X.A X.env X.xe)(hc:X.calm=true)(hN:X.N.Nodup)(hi:X.N[i]?=some x)(hx:Loc X.env.scope x)
  (hl:PD X Z iter tl)(hb:zc3 X Z body tb)(hf:X.fn x=true∨X.env.scope.names.lookup x=some .local:=by first | exact .inl rfl | exact .inr rfl | assumption)
  (hs:∀y,foldedSetIterable iter X.env y=pure y:=by intro _; rfl):PDS X Z (.For (.Name x pos') iter body [] pos) (dFor i tl tb):=
 zbS (znE hp hc (zob hl) (zjW hN hi hx hf) hb hs) λF σ H ⟨r,dl,S,E,rs,rel,h,ret⟩=>by
  refine⟨r,dl,S,_,rs,rel,h,λv H1 r1 d S1 x1 rel1 p1 q1=>?_⟩
  cases p1 with
  | @ref n a hn=>
   obtain⟨hsome,W,⟨m0,w0⟩,turn⟩:=q1
   have sql:∀ {r':List Addr} {S':Sto} {H':Hp} {o:Ob},Ext r1 r' H1 H'→Rel X.K Z r' S' H'→lAt S' n=some o→∃xs,SqL X.K H' a xs∧Rps r' H' (zak o) xs:=λ{r' S' H' o} x' rel' eo=>by
    obtain⟨eo,eL⟩:=zbr eo
    obtain⟨a',ha,ob⟩:=rel'.at eo
    rw[x'.adr n a hn] at ha; cases ha
    exact ob.list eL
   obtain⟨o1,eo1⟩:=VaP.mp hsome
   obtain⟨xs1,sq1,_⟩:=sql Ext.refl rel1 eo1
   refine⟨a,rfl,⟨xs1,sq1⟩,λk m σ' H'=>∃r' dl' S',Ext r1 r' H1 H'∧Rs r' H' dl' σ'∧Rel X.K Z r' S' H'∧W k m dl' S',⟨m0,r1,dl,S1,Ext.refl,rs.ext x1,rel1,w0⟩,?_⟩
   rintro k m σ2 H2 ⟨r2,dl2,S2,x2,rs2,rel2,w2⟩
   have q:=turn k m dl2 S2 w2
   split at q
   ·rename_i o eo
    obtain⟨xs,sq,pr⟩:=sql x2 rel2 eo
    split at q
    ·rename_i y ey
     obtain⟨v,hv,pv⟩:=pr.get ey
     have go:∀ {r3:List Addr} {H3:Hp},Ext r2 r3 H2 H3→∀σ' H' r' dl' S',Ext r3 r' H3 H'→Rs r' H' dl' σ'→Rel X.K Z r' S' H'→(∃m',m'<m∧W (k+1) m' dl' S')→∃m',m'<m∧∃r' dl' S',Ext r1 r' H1 H'∧Rs r' H' dl' σ'∧Rel X.K Z r' S' H'∧W (k+1) m' dl' S':=
      λ{r3 H3} x3 σ' H' r' dl' S' x rs' rel' ⟨m',hm,w'⟩=>⟨m',hm,r',dl',S',x2.trans (x3.trans x),rs',rel',w'⟩
     refine .inr ⟨⟨xs,v,sq,hv⟩,λσ' H'=>∃m',m'<m∧∃r' dl' S',Ext r1 r' H1 H'∧Rs r' H' dl' σ'∧Rel X.K Z r' S' H'∧W (k+1) m' dl' S',λ_ _ z=>z,λv' H' y'=>?_⟩
     obtain⟨eH,y'⟩:=y'
     subst eH
     have ev:v'=v:=by
      have z:=y' xs sq
      rw[hv] at z; exact(Option.some.inj z).symm
     subst ev
     exact⟨r2,_,S2,_,rs2.set i pv,rel2,q,go Ext.refl,λσ' H' r' dl' S' x rs' rel' z=>ret.nx σ' H' r' dl' S' (x1.trans (x2.trans x)) rs' rel' z,go Ext.refl,ret.rt.ext (x1.trans x2)⟩
    ·rename_i ey
     have hlen:(zak o).length≤k:=VaQ.mp ey
     exact .inl ⟨⟨xs,sq,by rw[← pr.1]; exact hlen⟩,ret.nx σ2 H2 r2 dl2 S2 (x1.trans x2) rs2 rel2 q⟩
   ·exact q.elim
  | _=>exact(show False from q1).elim
def dForR (i:Nat)(ta:TDA)(tb:TDS):TDS:=λE dl S=>ta dl S λds S1=>match ds with
 | [.int j]=>(-(2^62)≤j∧j<2^62)∧∃W:Nat→Ev→Sto→Prop,W 0 dl S1∧∀k dl S,W k dl S→
   if k<j.toNat then tb { nx:=λdl' S'=>W (k+1) dl' S',rt:=E.rt,bk:=E.nx,ct:=λdl' S'=>W (k+1) dl' S' } (dl.set i (some (.int k))) S else E.nx dl S
 | _=>False
theorem zgd {i:Nat}{x:Str}{pos2 pos' p:Pos}{a:Expr}{body:List Stmt}{ta:TDA}{tb:TDS}(hp:PassesOwn (model X.prog X.w) X.A X.env X.xe)(hc:X.calm=true)(hN:X.N.Nodup)(hi:X.N[i]?=some x)(hx:Loc X.env.scope x)
  (hg:Gl X "range")(hm:X.mg "range"=none)(ha:PDA X Z [a] ta)(hb:zc3 X Z body tb)(hf:X.fn x=true∨X.env.scope.names.lookup x=some .local:=by first | exact .inl rfl | exact .inr rfl | assumption)
  (hs:∀y,foldedSetIterable (.Call (.Name "range" p) [a] [] pos) X.env y=pure y:=by intro _; rfl)(hst:starEach [a] X.env=[(false,eval a X.env)]:=by rfl):
  PDS X Z (.For (.Name x pos') (.Call (.Name "range" p) [a] [] pos) body [] pos2) (dForR i ta tb):=
 zbS (znE hp hc (znL hg hm ha hst) (zjW hN hi hx hf) hb hs) λF σ H ⟨r,dl,S,E,rs,rel,h,ret⟩=>by
  refine⟨r,dl,S,_,rs,rel,h,λvs H1 r1 ds S1 x1 rel1 p1 q1=>?_⟩
  split at q1
  ·rename_i j
   obtain⟨v,vs',rfl,p2,p3⟩:=p1.uncons
   have z:=p3.unnil
   subst z
   cases p2
   obtain⟨⟨b1,b2⟩,W,w0,turn⟩:=q1
   refine⟨j,rfl,b1,b2,λk m σ' H'=>m=j.toNat-k∧∃r' dl' S',Ext r1 r' H1 H'∧Rs r' H' dl' σ'∧Rel X.K Z r' S' H'∧W k dl' S',⟨j.toNat,by simp,r1,dl,S1,Ext.refl,rs.ext x1,rel1,w0⟩,?_⟩
   rintro k m σ2 H2 ⟨em,r2,dl2,S2,x2,rs2,rel2,w2⟩
   have q:=turn k dl2 S2 w2
   split at q
   ·rename_i hk
    have go:∀σ' H' r' dl' S',Ext r2 r' H2 H'→Rs r' H' dl' σ'→Rel X.K Z r' S' H'→W (k+1) dl' S'→∃r' dl' S',Ext r1 r' H1 H'∧Rs r' H' dl' σ'∧Rel X.K Z r' S' H'∧W (k+1) dl' S':=
     λσ' H' r' dl' S' x rs' rel' w'=>⟨r',dl',S',x2.trans x,rs',rel',w'⟩
    have pk:Rp r2 H2 (.int (k:Int)) (.int (0+(k:Int))):=by rw[Int.zero_add]; exact .int _
    refine .inr ⟨hk,λσ' H'=>∃r' dl' S',Ext r1 r' H1 H'∧Rs r' H' dl' σ'∧Rel X.K Z r' S' H'∧W (k+1) dl' S',λσ' H' z=>⟨j.toNat-(k+1),by omega,rfl,z⟩,λv' H' y'=>?_⟩
    obtain⟨eH,y'⟩:=y'
    subst eH
    subst y'
    exact⟨r2,_,S2,_,rs2.set i pk,rel2,q,go,λσ' H' r' dl' S' x rs' rel' z=>ret.nx σ' H' r' dl' S' (x1.trans (x2.trans x)) rs' rel' z,go,ret.rt.ext (x1.trans x2)⟩
   ·rename_i hk
    exact .inl ⟨by show j.toNat≤k; omega,ret.nx σ2 H2 r2 dl2 S2 (x1.trans x2) rs2 rel2 q⟩
  ·exact q1.elim
end
def zeJ (N:List Str)(ds:List D):Ev:=ds.map some++List.replicate (N.length-ds.length) none
theorem zw9 {r:List Addr}{H:Hp}{N:List Str}{ds:List D}{vs:List V}(h:Rps r H ds vs):Rs r H (zeJ N ds) (L2.start N vs):=by
  refine⟨by simp[zeJ,L2.start,h.1],λi d e=>?_⟩
  unfold zeJ at e
  by_cases hi:i<ds.length
  · rw[Vao (by simpa using hi),Vae] at e
    cases q:ds[i]? with
    | none=>
   rw[q] at e
   cases e
    | some z=>
      rw[q] at e
      cases e
      obtain⟨v,hv,pv⟩:=h.get q
      refine⟨v,?_,pv⟩
      unfold L2.start
      rw[Vao (by simpa [h.1] using hi),Vae,hv]
      rfl
  · rw[Vaz (by simpa using hi),List.getElem?_replicate] at e
    split at e <;> cases e
section
variable {P:Program}{w:World}{K:PySem.W.Frag}{mg:Str→Option Value}{base:Heap}
abbrev Z0:Zx:=Zc (λ_ _=>False) (λ_ _ _=>False)
theorem zfu {X:Cx}:zdF X Z0.w:=λ_ _ _ _ _ _ _ h=>by
 obtain⟨_,_,_,_,_,_,_,_,_,_,_,_,q⟩:=h
 exact q.elim
theorem zaw {x qual:Str}{st:Stmt}{f:Addr}{fd:FuncData}{N ps:List Str}{k:Nat}{sd:Sd}(F:Fun K x qual st f fd)(Sc:zay N ps (zam st))(len:∀ds S Q ex,sd ds S Q ex→ds.length=ps.length)
  (hbody:∀(cdv:Value) (A:Around) (outer:List Env) (s:Shared) (H:Hp) (E:XK),zaK k (A.deeper (envOfC qual (zam st) s.heap.objs.size f cdv))→
   ∃t,zc3 (zeA (CXE P w) P w K mg base N qual (zam st) f cdv A outer s H E).nox Z0 (zdv st) t∧∀ds S Q ex,sd ds S Q ex→t { nx:=λ_ S'=>Q .non S',rt:=Q } (zeJ N ds) S):za5 P w K mg base (CXE P w) (k+1) f fd ps (upF K sd):=by
 obtain⟨oc,od,kV,doc,pm,an,cdv,ct,osl,rfl,lk,hcd⟩:=F.ex
 refine zpX lk hcd Sc (λvs H Q E h=>?_) λA outer s H vs Q E hr h=>?_
 ·obtain⟨ex,r,S,ds,Q',rel,p,q,ret⟩:=h
  rw[← p.1]
  exact len ds S Q' ex q
 ·obtain⟨ex,r,S,ds,Q',rel,p,q,ret⟩:=h
  obtain⟨t,ht,hq⟩:=hbody cdv A outer s H E hr
  have back:∀ {H':Hp} {r':List Addr} {S':Sto},Ext r r' H H'→Rel K Z0 r' S' H'→Rel K (Zc ex E) r' S' H':=λx rel'=>⟨rel'.b,rel.xw.ext x⟩
  refine⟨upS K Z0 t,ht.nox,r,zeJ N ds,S,_,zw9 p,⟨rel.b,λ_ _ _ _ _ _ _ _ _ z=>z.elim⟩,hq ds S Q' ex q,?_,?_,?_,?_⟩
  ·intro σ' H' r' dl' S' x _ rel' z
   exact ret .non H' r' .non S' x (back x rel') .non z
  ·intro σ' H' r' dl' S' x _ rel' z
   exact z
  ·intro σ' H' r' dl' S' x _ rel' z
   exact z
  ·intro v H' r' d S' x rel' p' z
   exact ret v H' r' d S' x (back x rel') p' z
end
open PySem
def Sz (n:Nat)(i:Int):Prop:=i.natAbs<2^n
theorem Sz.mono {m n:Nat}{i:Int}(h:Sz m i)(hn:m≤n):Sz n i:=Vax h (Nat.pow_le_pow_right (by decide) hn)
theorem Sz.bits {n:Nat}{i:Int}(h:Sz n i):Builtin.Int.intBits i≤n:=by
 unfold Builtin.Int.intBits
 split
 ·exact Vat _
 ·rename_i hz
  have hp:i.natAbs≠0:=by
   intro z
   have z2:i=0:=by omega
   simp[z2] at hz
  have:=(Nat.log2_lt hp).mpr h
  omega
theorem zaR {m n:Nat}{i j:Int}(hi:Sz m i)(hj:Sz n j)(hm:m≤1048576:=by decide)(hn:n≤1048576:=by decide):IntMulOk i j:=by
 have e20:(2:Nat)^20=1048576:=by decide
 exact IntMulOk.of_bits (VaA hi.bits (by omega)) (VaA hj.bits (by omega))
theorem Sz.of {n:Nat}{i:Int}(m:Nat)(h:i.natAbs≤m)(hm:m<2^n:=by decide):Sz n i:=Nat.lt_of_le_of_lt h hm
theorem Sz.mul {m n:Nat}{i j:Int}(hi:Sz m i)(hj:Sz n j):Sz (m+n) (i*j):=by
 unfold Sz at *
 rw[Nat.pow_add,Vbg]
 exact Nat.mul_lt_mul'' hi hj
theorem Sz.add {m n:Nat}{i j:Int}(hi:Sz m i)(hj:Sz n j):Sz (max m n+1) (i+j):=by
 have h1:Sz (max m n) i:=hi.mono (Nat.le_max_left _ _)
 have h2:Sz (max m n) j:=hj.mono (Nat.le_max_right _ _)
 unfold Sz at *
 have e:(2:Nat)^(max m n+1)=2^max m n+2^max m n:=by rw[Nat.pow_succ]; omega
 rw[e]
 have:=Int.natAbs_add_le i j
 omega
theorem Sz.neg {m:Nat}{i:Int}(hi:Sz m i):Sz m (-i):=by
 unfold Sz at *
 rw[Int.natAbs_neg]; exact hi
theorem Sz.sub {m n:Nat}{i j:Int}(hi:Sz m i)(hj:Sz n j):Sz (max m n+1) (i-j):=by
 rw[Int.sub_eq_add_neg]; exact hi.add hj.neg
theorem Sz.log {n:Nat}{i:Int}(h:Sz n i)(hi:i≠0)(hn:n≤9000:=by decide):i.natAbs.log2<9000:=by
 have:=(Nat.log2_lt (by omega:i.natAbs≠0)).mpr h
 omega
theorem Sz.fd {n:Nat}{i:Int}(h:Sz n i)(hi:0<i)(hn:n≤9000:=by decide):0<i∧i.natAbs.log2<9000:=⟨hi,h.log (by omega) hn⟩
theorem zdq {a b:Int}(hb:0<b):0≤a%b∧a%b<b:=⟨Int.emod_nonneg _ (by omega),Int.emod_lt_of_pos _ hb⟩
theorem p40:((10:Int)^(40:Int).toNat)=10^40:=rfl
theorem p41:((10:Int)^(41:Int).toNat)=10^41:=rfl
theorem p20:((10:Int)^(20:Int).toNat)=10^20:=rfl
example (x:Int):-(10^40)≤x%(2*10^40+1)-10^40:=by omega
example (x:Int):x%(2*10^40+1)-10^40≤10^40:=by omega
example (x:Int) (h:-(10^40)≤x) (h2:x≤2*10^41):Sz 140 x:=Sz.of (2*10^41) (by omega)
theorem zvB (a b:Int):Int.gcd b (a%b)=Int.gcd a b:=by
 rw[Int.emod_def,show a-b*(a/b)=a-(a/b)*b by rw[VaL],Int.gcd_sub_mul_right_right,Int.gcd_comm]
def zdm (i:Int):Int:=if i<0 then -i else i
theorem zxo (i:Int):0≤zdm i:=by unfold zdm; split <;> omega
theorem ztP (a b:Int):Int.gcd (zdm a) (zdm b)=Int.gcd a b:=by
 have h:∀i:Int,(zdm i).natAbs=i.natAbs:=λi=>by unfold zdm; split <;> omega
 unfold Int.gcd
 rw[h,h]
theorem zus {T B d:Int}(hB:B≠0)(hd:d=(if B<0 then -((Int.gcd T B:Nat):Int) else ((Int.gcd T B:Nat):Int))):
  d≠0∧T.fdiv d*d=T∧B.fdiv d*d=B∧1≤B.fdiv d∧Int.gcd (T.fdiv d) (B.fdiv d)=1∧T.fdiv d*B=T*B.fdiv d:=by
 have g0:0<Int.gcd T B:=Nat.pos_of_ne_zero λz=>hB (Int.gcd_eq_zero_iff.mp z).2
 have dT:((Int.gcd T B:Nat):Int) ∣ T:=Int.gcd_dvd_left T B
 have dB:((Int.gcd T B:Nat):Int) ∣ B:=Int.gcd_dvd_right T B
 have hne:d≠0:=by
  rw[hd]; split <;> omega
 have eT:d ∣ T:=by rw[hd]; split <;> first | exact Int.neg_dvd.mpr dT | exact dT
 have eB:d ∣ B:=by rw[hd]; split <;> first | exact Int.neg_dvd.mpr dB | exact dB
 have fT:T.fdiv d=T/d:=Int.fdiv_eq_ediv_of_dvd eT
 have fB:B.fdiv d=B/d:=Int.fdiv_eq_ediv_of_dvd eB
 have mT:T.fdiv d*d=T:=by rw[fT]; exact Int.ediv_mul_cancel eT
 have mB:B.fdiv d*d=B:=by rw[fB]; exact Int.ediv_mul_cancel eB
 have gg:Int.gcd (T.fdiv d) (B.fdiv d)=1:=by
  have z:=Int.gcd_ediv_gcd_ediv_gcd g0
  rw[fT,fB,hd]
  split
  ·rw[Int.ediv_neg,Int.ediv_neg,Int.neg_gcd,Int.gcd_neg]; exact z
  ·exact z
 have pos:1≤B.fdiv d:=by
  by_cases hb:B<0
  ·have dn:d<0:=by rw[hd,if_pos hb]; omega
   by_cases q:B.fdiv d≤0
   ·have:=Int.mul_nonneg_of_nonpos_of_nonpos q (Int.le_of_lt dn)
    omega
   ·omega
  ·have dp:0<d:=by rw[hd,if_neg hb]; omega
   by_cases q:B.fdiv d≤0
   ·have:=Int.mul_nonneg (show 0≤-(B.fdiv d) by omega) (Int.le_of_lt dp)
    rw[Va3] at this
    omega
   ·omega
 refine⟨hne,mT,mB,pos,gg,?_⟩
 calc T.fdiv d*B=T.fdiv d*(B.fdiv d*d):=by rw[mB]
  _=T.fdiv d*d*B.fdiv d:=by grind
  _=T*B.fdiv d:=by rw[mT]
theorem zoV {T d:Int}(hne:d≠0)(mT:T.fdiv d*d=T):(T.fdiv d).natAbs≤T.natAbs:=by
 have h:(T.fdiv d).natAbs*d.natAbs=T.natAbs:=by rw[← Vbg,mT]
 have hd:1≤d.natAbs:=by omega
 calc (T.fdiv d).natAbs=(T.fdiv d).natAbs*1:=by omega
  _≤(T.fdiv d).natAbs*d.natAbs:=Nat.mul_le_mul_left _ hd
  _=T.natAbs:=h
theorem znm (m:Int){g:Int}(hg:0<g):m/g*g≤m∧m<(m/g+1)*g:=by
 have h1:=Int.emod_add_mul_ediv m g
 have h2:=Int.emod_nonneg m (show g≠0 by omega)
 have h3:=Int.emod_lt_of_pos m hg
 have e:(m/g+1)*g=g*(m/g)+g:=by grind
 have e2:m/g*g=g*(m/g):=VaL _ _
 omega
theorem zu2 (m:Int){g:Int}(hg:0<g):m≤-(-m/g)*g∧(-(-m/g)-1)*g<m:=by
 obtain⟨h1,h2⟩:=znm (-m) hg
 have e1:-(-m/g)*g=-(-m/g*g):=by rw[Va3]
 have e2:(-(-m/g)-1)*g=-((-m/g+1)*g):=by grind
 omega
section
variable {X:Cx}{Z:Zx}
def wIf (C:Int→Int→Bool)(g:Int→Int→D):W2:=λx y S Q=>match x,y with
 | .int i,.int j=>if C i j=true then Q (g i j) S else False
 | _,_=>False
theorem opIf {f:Value→Value→Sem Value}{C:Int→Int→Prop}{C':Int→Int→Bool}{g:Int→Int→D}(h:OpR X f (upO X.K Z (wI C g)))(hc:∀i j,C' i j=true→C i j):OpR X f (upO X.K Z (wIf C' g)):=
 zeN h λx y H Qv ⟨r,S,dx,dy,Q,rel,px,py,q,ret⟩=>⟨r,S,dx,dy,Q,rel,px,py,by
  unfold wIf at q
  split at q
  ·obtain⟨h1,h2⟩:=zkb q
   exact⟨hc _ _ h1,h2⟩
  ·exact q.elim,ret⟩
def zhz (_ j:Int):Bool:=decide (0<j)&&decide (j<1073741824)
abbrev zjc:W2:=wIf zhz λi j=>.int (i/j)
abbrev wModL:W2:=wIf zhz λi j=>.int (i%j)
def powB (i j:Int):Bool:=decide (0≤j)&&decide (j≤1000)&&decide (-1000<i)&&decide (i<1000)
theorem zpj {i j:Int}(h:zhz i j=true):0<j∧j<1073741824:=by
 unfold zhz at h
 simpa using h
theorem zbU:OpR X (binaryOp .FloorDiv) (upO X.K Z zjc):=opIf zel λi j h=>by
 obtain⟨h1,h2⟩:=zpj h
 refine⟨h1,?_⟩
 have:j.natAbs.log2<30:=(Nat.log2_lt (by omega)).mpr (by omega)
 omega
theorem zbv:OpR X (binaryOp .Mod) (upO X.K Z wModL):=opIf zdb λi j h=>(zpj h).1
structure Df (K:PySem.W.Frag)(mg:Str→Option Value)(x:Str)(st:Stmt)(ps:List Str) where
 f:Addr
 fd:FuncData
 F:Fun K x x st f fd
 m:mg x=some (.ref f)
 b:zbI K fd ps []
structure Fk (P:Program)(w:World)(K:PySem.W.Frag)(mg:Str→Option Value)(base:Heap)(k:Nat)(x:Str)(ps:List Str)(sd:Sd) where
 f:Addr
 fd:FuncData
 ok:za5 P w K mg base (CXE P w) k f fd ps (upF K sd)
 m:mg x=some (.ref f)
 kp:PySem.W.keepIn K (.ref f)=true
 b:zbI K fd ps []
def Df.mk' {P:Program}{w:World}{K:PySem.W.Frag}{mg:Str→Option Value}{base:Heap}{k:Nat}{x:Str}{st:Stmt}{ps:List Str}{sd:Sd}(d:Df K mg x st ps)(h:za5 P w K mg base (CXE P w) k d.f d.fd ps (upF K sd)):Fk P w K mg base k x ps sd:=
 ⟨d.f,d.fd,h,d.m,d.F.kp,d.b⟩
theorem zvG {x:Str}{p pos:Pos}{e:Expr}{es:List Expr}{t:TDA}{k:Nat}{ps:List Str}{sd:Sd}{ex:Ev→Addr→Sto→Prop}{W:St→XK}(G:Fk X.prog X.w X.K X.mg X.base k x ps sd)(hr:zaK k X.A)(hx:zdF X W)(hg:Gl X x)(ha:PDA X ⟨ex,W⟩ (e::es) t)
  (hdb:(x==("__debug__":Str))=false:=by decide)(he:starEach (e::es) X.env=(false,eval e X.env)::starEach es X.env:=by rfl)(hpl:(backTo pos (starEach es X.env)).any (·.1)=false:=by rfl):
  PD X ⟨ex,W⟩ (.Call (.Name x p) (e::es) [] pos) (zlW ex sd t):=zwG G.ok hr hg G.m G.kp G.b hx ha hdb he hpl
theorem zuq {st:Stmt}:PDS X Z st (λ_ _ _=>False):=zbS ztX λF σ H ⟨_,_,_,_,_,_,h,_⟩=>h
end
def zfh:Sd:=λds S Q _=>∃ns:List Int,ds=[.ref 0]∧S=[.frz (ns.map D.int)]∧ns.length≤63∧∀S',Q (.bl true) S'
theorem zv8:∀ds S Q ex,zfh ds S Q ex→ds.length=1:=λds S Q ex h=>by
 obtain⟨ns,rfl,_⟩:=h
 rfl
theorem zr4 {K:PySem.W.Frag}{H:Hp}{a:Addr}{xs:List V}(hO:zhM H)(h:SqL K H a xs):SqF K H a xs:=by
 rcases h with (h | ⟨o,h⟩) | h
 ·rcases hO a with z | ⟨o,ys,z⟩
  ·rw[h] at z; cases z
  ·rw[h] at z; cases z
 ·exact .inl ⟨o,h⟩
 ·exact .inr h
theorem zud {r:List Addr}{H:Hp}(ns:List Int):Rps r H (ns.map D.int) (ns.map V.int):=by
 refine⟨by simp,λi d v h1 h2=>?_⟩
 rw[Vae] at h1 h2
 cases q:ns[i]? with
 | none=>rw[q] at h1; cases h1
 | some z=>
  rw[q] at h1 h2
  cases h1
  cases h2
  exact .int z
theorem zrM {K:PySem.W.Frag}{H:Hp}{a:Addr}{ns:List Int}(hl:ns.length≤63)(hO:zhM H)(hS:SqL K H a (ns.map V.int)):upF K zfh [.ref a] H (λv _=>v=.bl true) λ_ _ _=>False:=by
 refine⟨λ_ _=>False,[a],[.frz (ns.map D.int)],[.ref 0],λd _=>d=.bl true,⟨⟨rfl,λn b o h1 h2=>?_,λn m b xs ys h1 h2 h3 h4 o1 o2=>?_⟩,λ_ _ _ _ _ _ _ _ _ z=>z.elim⟩,Rps.cons (.ref rfl) Rps.nil,⟨ns,rfl,rfl,hl,λ_=>rfl⟩,λv H' r' d S' e rel p q=>?_⟩
 ·cases n with
  | zero=>
   simp at h1 h2
   subst h1; subst h2
   exact⟨_,zr4 hO hS,zud ns⟩
  | succ n=>simp at h1
 ·cases n with
  | zero=>
   simp at h3
   subst h3
   cases o1
  | succ n=>simp at h1
 ·subst q
  cases p
  rfl
theorem zss {l:PySem.W.OpenLaw}{q:Program}{loose:List Str}{XP:(Str→Option Value)→Heap→Prop}{YP:World→Heap→Prop}{d:DefRec}{K:Params→PySem.W.Frag}{x:Str}(k:Nat)(hn:l.most=some 63)(hdf:d.params.defaults=[])(hr:zaK k callerA)
  (hY:∀(w:World) (h:Heap),YP w h→(K w.params).In h)
  (F:∀(w:World) (mg:Str→Option Value) (fa:Addr) (h:Heap),(K w.params).In h→h.Ns mainGlobals mg→mg d.name=some (.ref fa)→
   ∃fd:FuncData,(∀(s:Shared) (u:Value),BindsTo s fd ⟨[u],[]⟩ [(x,u)])∧∀base:Heap,(K w.params).In base→base.Ns mainGlobals mg→za5 l.prog w (K w.params) mg base (CXE l.prog w) k fa fd [x] (upF (K w.params) zfh)):
  PySem.W.WalkO q loose XP YP l.row.toRowW d [] (λf vs=>PySem.call f vs):=
 L2.zwq (n:=63) (k:=k) (x:=x) (CX:=λw=>CXE l.prog w) (sp:=λw=>upF (K w.params) zfh) hn (by decide) hdf hr hY F (λ_ _ a ns hl hO hS=>zrM hl hO hS) λ_ _ _ _ _ ⟨_,_,_,_,_,_,_,_,_,_,_,_,z⟩=>z
theorem znB (K:PySem.W.Frag)(T:String)(h:T∈["int","bool","tuple","str"]):Kit K T:=by
 intro t ht
 simp only[Vaw,List.not_mem_nil,or_false] at h ht
 rcases h with rfl | rfl | rfl | rfl <;> rcases ht with rfl | rfl | rfl | rfl | rfl <;> kernel_rfl
theorem ifF {c:Bool}{A B:Prop}(h:c=false)(b:B):if c=true then A else B:=by rw[h]; exact zbj b
theorem ifP {c A B:Prop} [Decidable c] (h:c)(a:A):if c then A else B:=by rw[if_pos h]; exact a
theorem ifD {c:Prop} [Decidable c] {A B:Prop}(h1:c→A)(h2:¬ c→B):if decide c=true then A else B:=by
 by_cases h:c
 ·rw[decide_eq_true h]; exact zbL (h1 h)
 ·rw[decide_eq_false h]; exact zbj (h2 h)
open PySem L2
open PySem L2
theorem Sz.pow {n:Nat}{i:Int}(h:Sz n i)(k:Nat):Sz (n*k+1) (i^k):=by
 unfold Sz at *
 rw[Int.natAbs_pow,Nat.pow_succ,Nat.pow_mul]
 have h1:i.natAbs^k≤(2^n)^k:=Nat.pow_le_pow_left (VaU h) k
 have h2:0<(2^n)^k:=VaM (VaM (by decide))
 omega
theorem ifN {c:Prop} [Decidable c] {A B:Prop}(h1:¬ c→A)(h2:c→B):if (!decide c)=true then A else B:=by
 by_cases h:c
 ·rw[decide_eq_true h]; exact L2.zbj (h2 h)
 ·rw[decide_eq_false h]; exact L2.zbL (h1 h)
section
variable {X:Cx}{Z:Zx}
abbrev Cx.held (X:Cx)(pins:List (Addr×Obj))(E:Value→Shared→Prop):Cx:={ X with pn:=X.pn++pins,xe:=E }
end
structure zeC (k:Nat)(A:Around):Prop where
 dp:A.depth+3*k+5<recursionLimit
 un:A.units+16*k+200<cLine
theorem zeC.mono {j k:Nat}{A:Around}(r:zeC k A)(h:j≤k):zeC j A:=⟨by have:=r.dp; omega,by have:=r.un; omega⟩
theorem zeC.deeper {k:Nat}{A:Around}(r:zeC (k+1) A)(env:Env):zeC k (A.deeper env):=
 ⟨by have:=r.dp; show A.depth+1+3*k+5<_; omega,by have:=r.un; show A.units+3+16*k+200<_; omega⟩
structure FnOkN (P:Program)(w:World)(K:PySem.W.Frag)(mg:Str→Option Value)(base:Heap)(k:Nat)(f:Addr)(fd:FuncData)(ps:List Str)(sp:Sp):Prop where
 len:∀vs H Q E,sp vs H Q E→vs.length=ps.length
 run:∀(A:Around) (outer:List Env) (s:Shared) (H:Hp) (args:Args) (us:List Value) (vs:List V) (Q:VK) (E:XK),zeC k A→zcO P w K mg base A outer s H→BindsTo s fd args (ps.zip us)→zat vs us→sp vs H Q E→
  codeAny (model P w) A (.call (.ref f) args) (CR (CXE P w) outer P w H s Q E) s
section
variable {X:Cx}{k:Nat}{f:Addr}{fd:FuncData}{ps:List Str}{sp:Sp}{W:St→XK}{x:Str}{p pos:Pos}{e:Expr}{es:List Expr}{t:TA}
end
section
variable {X:Cx}{Z:Zx}{x:Str}{p pos:Pos}{e:Expr}{es:List Expr}{t:TDA}
end
section
variable {P:Program}{w:World}{K:PySem.W.Frag}{mg:Str→Option Value}{base:Heap}
end
structure FkN (P:Program)(w:World)(K:PySem.W.Frag)(mg:Str→Option Value)(base:Heap)(k:Nat)(x:Str)(ps:List Str)(sd:Sd) where
 f:Addr
 fd:FuncData
 ok:FnOkN P w K mg base k f fd ps (upF K sd)
 m:mg x=some (.ref f)
 kp:PySem.W.keepIn K (.ref f)=true
 b:zbI K fd ps []
section
variable {X:Cx}{Z:Zx}
theorem zn8 {r:List Addr}{H:Hp}{a:Addr}{o:HO}(h:H a=none):Ext r r H (upd H a o):=⟨λ_ _ q=>q,λ_ _ q=>zdf h _ _ q,λ_ _ q=>zdf h _ _ q⟩
open PySem.W in
end
abbrev VE:List Value:=[.type "ValueError",.type "Exception",.type "BaseException",.type "object"]
structure Ec (K:PySem.W.Frag)(mg:Str→Option Value)(x:Str) where
 c:Addr
 xc:Xc K mg x c VE "ValueError.__new__"
theorem qt {Q:DK}{S:Sto}{b:Bool}(e:b=true)(h:Q (.bl true) S):Q (.bl b) S:=by rw[e]; exact h
theorem Sz.div {n:Nat}{i j:Int}(h:Sz n i)(hj:1≤j):Sz n (i/j):=by
 refine Nat.lt_of_le_of_lt ?_ h
 obtain⟨h1,h2⟩:=znm i (show 0<j by omega)
 by_cases q:0≤i/j
 ·have:=Int.mul_le_mul_of_nonneg_left hj q
  omega
 ·have:=Int.mul_le_mul_of_nonneg_left hj (show 0≤-(i/j+1) by omega)
  have e:-(i/j+1)*j=-((i/j+1)*j):=Va3 _ _
  omega
inductive Sco (n:Nat):D→Prop
 | non:Sco n .non
 | bl (b:Bool):Sco n (.bl b)
 | int (i:Int):Sco n (.int i)
 | str (x:Str):Sco n (.str x)
 | tup {ds:List D}:(∀d∈ds,Sco n d)→Sco n (.tup ds)
 | ref {m:Nat}:m<n→Sco n (.ref m)
 | exc (c:Addr):Sco n (.exc c)
theorem Rp.sco {r:List Addr}{H:Hp}{d:D}{v:V}(h:Rp r H d v):Sco r.length d:=by
 induction h with
 | non=>exact .non
 | bl b=>exact .bl b
 | int i=>exact .int i
 | str x=>exact .str x
 | @tup ds xs a _ l _ ih=>
  refine .tup λd hd=>?_
  obtain⟨i,hi,e⟩:=VaK.mp hd
  exact ih i d xs[i] (by simp[hi,e]) (by simp[l ▸ hi])
 | ref h=>exact .ref (Vab.mp h).1
 | exc _=>exact .exc _
theorem Rp.low {r r':List Addr}{H:Hp}{d:D}{v:V}(h:Rp r' H d v)(low:∀m a,m<r.length→r'[m]?=some a→r[m]?=some a)(s:Sco r.length d):Rp r H d v:=by
 induction h with
 | non=>exact .non
 | bl b=>exact .bl b
 | int i=>exact .int i
 | str x=>exact .str x
 | tup e l f ih=>
  cases s with
  | tup s=>exact .tup e l λi d v h1 h2=>ih i d v h1 h2 (s d (Val h1))
 | ref h=>
  cases s with
  | ref s=>exact .ref (low _ _ s h)
 | exc h=>exact .exc h
def Pre (S S':Sto):Prop:=∀(n:Nat) (o:Ob),S[n]?=some o→S'[n]?=some o
theorem Pre.refl {S:Sto}:Pre S S:=λ_ _ h=>h
theorem Pre.push {S S':Sto}{o:Ob}(h:Pre S S'):Pre S (S'++[o]):=λn u e=>by
 have z:=h n u e
 rw[Vao (Vab.mp z).1]; exact z
theorem Pre.trans {S S' S2:Sto}(h:Pre S S')(k:Pre S' S2):Pre S S2:=λn o e=>k n o (h n o e)
theorem zqX {r r':List Addr}{H H':Hp}(e:Ext r r' H H'):∀m a,m<r.length→r'[m]?=some a→r[m]?=some a:=λm a hm h=>by
 have z:r[m]?=some r[m]:=by simp[hm]
 rw[e.adr _ _ z] at h
 rw[z]; exact h
theorem zaU.low {K:PySem.W.Frag}{r r':List Addr}{S S':Sto}{H H':Hp}(h:zaU K r S H)(e:Ext r r' H H')(h':zaU K r' S' H')(p:Pre S S'):zaU K r S H':=by
 have rl:∀ {ds:List D} {xs ys:List V},Rps r H ds xs→Rps r' H' ds ys→Rps r H' ds ys:=λ{ds xs ys} a b=>⟨b.1,λi d v h1 h2=>by
  obtain⟨v0,_,q⟩:=a.get h1
  exact(b.2 i d v h1 h2).low (zqX e) q.sco⟩
 refine⟨h.len,λn a o h1 h2=>?_,λn m a xs ys h1 h2 h3 h4 o1 o2=>h'.nd n m a xs ys (e.adr _ _ h1) (e.adr _ _ h2) (p _ _ h3) (p _ _ h4) o1 o2⟩
 have q:=h.ob n a o h1 h2
 have q':=h'.ob n a o (e.adr _ _ h1) (p _ _ h2)
 cases o with
 | lst ds=>
  obtain⟨xs,_,a1⟩:=q
  obtain⟨ys,b0,b1⟩:=q'
  exact⟨ys,b0,rl a1 b1⟩
 | frz ds=>
  obtain⟨xs,_,a1⟩:=q
  obtain⟨ys,b0,b1⟩:=q'
  exact⟨ys,b0,rl a1 b1⟩
 | ins C fs=>
  obtain⟨_,_,_,a1⟩:=q
  obtain⟨dx,fs',b0,b1⟩:=q'
  exact⟨dx,fs',b0,b1.1,rl a1.2 b1.2⟩
 | dct kvs=>
  obtain⟨_,_,a1⟩:=q
  obtain⟨ks,b0,b1⟩:=q'
  exact⟨ks,b0,b1.1,rl a1.2 b1.2⟩
def Gc (S:Sto)(Q:DK):DK:=λd S'=>Pre S S'∧Sco S.length d∧Q d S
def GcX (S:Sto)(ex:Addr→Sto→Prop):Addr→Sto→Prop:=λc S'=>Pre S S'∧ex c S
theorem Ret.gc {K:PySem.W.Frag}{Z Z':Zx}{r:List Addr}{S:Sto}{H:Hp}{Q:DK}{Qv:VK}(h:Ret K Z r H Q Qv)(rel:Rel K Z r S H):Ret K Z' r H (Gc S Q) Qv:=λv H' r' d S' e rel' p q=>by
 obtain⟨pre,sc,q⟩:=q
 have e':Ext r r H H':=⟨λ_ _ z=>z,e.tup,e.xc⟩
 rw[← rel.len] at sc
 exact h v H' r d S e' ⟨rel.b.low e rel'.b pre,rel.xw.ext e'⟩ (p.low (zqX e) sc) q
theorem zez.gc {K:PySem.W.Frag}{ex:Addr→Sto→Prop}{E:XK}{r:List Addr}{S:Sto}{H:Hp}(rel:Rel K (Zc ex E) r S H):zez K (Zc (GcX S ex) E) r H:=λdl σ c H' r' S' e _ rb q=>by
 obtain⟨pre,q⟩:=q
 have e':Ext r r H H':=⟨λ_ _ z=>z,e.tup,e.xc⟩
 exact rel.xw [] [] c H' r S e' ⟨rfl,λi d z=>by simp at z⟩ (rel.b.low e rb pre) q
section
variable {P:Program}{w:World}{K:PySem.W.Frag}{mg:Str→Option Value}{base:Heap}
def gcS (sd:Sd):Sd:=λds S Q ex=>∃Q0 ex0,Q=Gc S Q0∧ex=GcX S ex0∧sd ds S Q0 ex0
theorem zb9 {CX:CXT}{k:Nat}{f:Addr}{fd:FuncData}{ps:List Str}{sd:Sd}(h:za5 P w K mg base CX k f fd ps (upF K (gcS sd))):za5 P w K mg base CX k f fd ps (upF K sd):=by
 have imp:∀vs H Q E,upF K sd vs H Q E→upF K (gcS sd) vs H Q E:=λvs H Qv E ⟨ex,r,S,ds,Q,rel,p,q,ret⟩=>
  ⟨GcX S ex,r,S,ds,Gc S Q,⟨rel.b,zez.gc rel⟩,p,⟨Q,ex,rfl,rfl,q⟩,ret.gc rel⟩
 obtain⟨h1,h2⟩:=h
 exact⟨λvs H Q E q=>h1 vs H Q E (imp vs H Q E q),λA outer s H args us vs Q E hr e0 hb rv q=>h2 A outer s H args us vs Q E hr e0 hb rv (imp vs H Q E q)⟩
end
theorem zb6 {sd:Sd}{n:Nat}(len:∀ds S Q ex,sd ds S Q ex→ds.length=n):∀ds S Q ex,gcS sd ds S Q ex→ds.length=n:=λds S Q ex h=>by
 obtain⟨Q0,ex0,_,_,h⟩:=h
 exact len _ _ _ _ h
structure zdj (sc around:Scope)(x:Str)(caps:List Str):Prop where
 kind:sc.kind=.function
 nocell:∀y∈sc.names,y.2≠.cell
 own:∀y∈sc.names,y.2=.local→sc.names.lookup y.1=some .local
 loc:sc.names.lookup x=some .local
 cap:∀y∈caps,sc.names.lookup y=some .free
 out:∀y∈sc.names,y.2=.free→around.names.lookup y.1=some .cell
theorem zii {α:Type}{y:Str}{v:α}:∀ {l:List (Str×α)},l.lookup y=some v→(y,v)∈l
 | [],h=>by simp at h
 | (n,k)::r,h=>by
  cases e:y==n with
  | true=>
   rw[Van,e] at h
   have z:k=v:=Option.some.inj h
   have z2:y=n:=by simpa using e
   rw[z,z2]; exact Va6
  | false=>
   rw[Van,e] at h
   exact VaN _ (zii h)
theorem zn3 {env:Env}:∀(l:List (Str×NameKind)) (acc:List (Str×Addr)),(∀y∈l,y.2=.free→∃c,env.cells.lookup y.1=some c)→(∀x c,acc.lookup x=some c→env.cells.lookup x=some c)→
  ∃cl,(forIn l acc λx r=>(if (x.2==NameKind.free)=true then do let a ← cellOf env x.1; pure (ForInStep.yield ((x.1,a)::r)) else pure (ForInStep.yield r):Sem (ForInStep (List (Str×Addr)))))=pure cl∧
   (∀x c,cl.lookup x=some c→env.cells.lookup x=some c)∧(∀y∈l,y.2=.free→cl.lookup y.1=env.cells.lookup y.1)∧∀x c,acc.lookup x=some c→∃c',cl.lookup x=some c'
 | [],acc,_,ha=>⟨acc,by simp,ha,λy hy=>(by cases hy),λx c e=>⟨c,e⟩⟩
 | (n,k)::r,acc,h,ha=>by
  cases hk:(k==NameKind.free) with
  | false=>
   obtain⟨cl,h1,h2,h3,h4⟩:=zn3 r acc (λy hy=>h y (VaN _ hy)) ha
   refine⟨cl,?_,h2,λy hy hf=>?_,h4⟩
   ·rw[List.forIn_cons]; simp[hk]; simpa using h1
   ·have hy':=Vaw.mp hy
    rcases hy' with rfl | hy
    ·rw[show k=NameKind.free from hf] at hk; exact absurd hk (by decide)
    ·exact h3 y hy hf
  | true=>
   have hf:k=NameKind.free:=by simpa using hk
   obtain⟨c,hc⟩:=h (n,k) Va6 hf
   obtain⟨cl,h1,h2,h3,h4⟩:=zn3 r ((n,c)::acc) (λy hy=>h y (VaN _ hy)) (λx c' e=>by
    cases q:x==n with
    | true=>
     rw[Van,q] at e
     have z:x=n:=by simpa using q
     rw[z,hc]; exact e
    | false=>
     rw[Van,q] at e
     exact ha x c' e)
   refine⟨cl,?_,h2,λy hy hf=>?_,λx c' e=>?_⟩
   ·have ec:cellOf env n=pure c:=by unfold cellOf; rw[hc]
    rw[List.forIn_cons]; simp[hk,ec]; simpa using h1
   ·have hy':=Vaw.mp hy
    rcases hy' with rfl | hy
    ·obtain⟨c',e⟩:=h4 n c (by simp)
     rw[e]; exact(h2 _ _ e).symm
    ·exact h3 y hy hf
   ·refine h4 x (if x==n then c else c') ?_
    cases q:x==n with
    | true=>simp[Van,q]
    | false=>simp[Van,q,e]
theorem zqn {sc:Scope}{env:Env}(h:∀y∈sc.names,y.2=.free→∃c,env.cells.lookup y.1=some c):
  ∃cl,closureFor sc env=pure cl∧(∀x c,cl.lookup x=some c→env.cells.lookup x=some c)∧∀y∈sc.names,y.2=.free→cl.lookup y.1=env.cells.lookup y.1:=by
 obtain⟨cl,h1,h2,h3,_⟩:=zn3 sc.names [] h (λx c e=>by simp at e)
 refine⟨cl,?_,h2,h3⟩
 unfold closureFor
 simp only[bind_pure]
 exact h1
theorem znF {env:Env}:∀ {names:List (Str×NameKind)} {x:Str},names.lookup x=some .free→
  (names.map λ(n,k)=>if (k==NameKind.free&&env.scope.kind==.function&&env.kindOf n==some .cell) then (n,NameKind.cell) else (n,k)).lookup x=some .cell∨
  (names.map λ(n,k)=>if (k==NameKind.free&&env.scope.kind==.function&&env.kindOf n==some .cell) then (n,NameKind.cell) else (n,k)).lookup x=some .free
 | [],_,h=>by simp at h
 | (n,k)::r,x,h=>by
  have ih:=@znF env r x
  rw[Vas]
  cases hx:x==n with
  | true=>
   rw[Van,hx] at h
   have hk:k=.free:=Option.some.inj h
   subst hk
   dsimp only
   split
   ·left; simp[Van,hx]
   ·right; simp[Van,hx]
  | false=>
   rw[Van,hx] at h
   dsimp only
   split
   ·simp only[Van,hx]; exact ih h
   ·simp only[Van,hx]; exact ih h
theorem znf {env:Env}:∀ {names:List (Str×NameKind)} {x:Str},(∀y∈names,y.2≠.cell)→
  ((names.map λ(n,k)=>if (k==NameKind.free&&env.scope.kind==.function&&env.kindOf n==some .cell) then (n,NameKind.cell) else (n,k)).lookup x=some .cell∨
  (names.map λ(n,k)=>if (k==NameKind.free&&env.scope.kind==.function&&env.kindOf n==some .cell) then (n,NameKind.cell) else (n,k)).lookup x=some .free)→names.lookup x=some .free
 | [],_,_,h=>by simp at h
 | (n,k)::r,x,hc,h=>by
  have ih:=@znf env r x λy hy=>hc y (VaN _ hy)
  rw[Vas] at h
  cases hx:x==n with
  | true=>
   rw[Van,hx]
   dsimp only at h
   split at h
   ·rename_i q
    simp only[Bool.and_eq_true] at q
    have hk:k=.free:=by simpa using q.1.1
    rw[hk]
   ·simp only[Van,hx] at h
    rcases h with h | h
    ·exact absurd (Option.some.inj h) (hc (n,k) Va6)
    ·exact h
  | false=>
   rw[Van,hx]
   dsimp only at h
   split at h
   ·simp only[Van,hx] at h; exact ih h
   ·simp only[Van,hx] at h; exact ih h
abbrev Cx.comp (X:Cx)(sc:Scope)(N:List Str)(cl:List (Str×Addr))(C:Addr)(s0:Shared)(H0:Hp)(fp:List Addr)(pn:List (Addr×Obj)):Cx:=
 { X with N:=N,env:=compEnvC sc cl C X.env,s₀:=s0,H₀:=H0,outer:=X.stack,stack:=X.stack,ex:=fp,fn:=λ_=>false,pn:=pn,xe:=λ_ _=>False }
def zbb (caps:List Nat)(σ:St):St:=caps.map λj=>(σ[j]?).join
def zbt (caps:List Nat)(dl:Ev):Ev:=caps.map λj=>(dl[j]?).join
def zhS (caps:List Nat)(wi:TI)(tc:TT)(te:TE):TE:=λσ H Q=>wi σ H λJ H1=>∀D,H1 D=none→∃W:Nat→Nat→Hp→Prop,(∃m,W 0 m (upd H1 D (.lst [])))∧∀i m H,W i m H→
 (J.stop i H∧Q (.ref D) H)∨(J.go i H∧∀x H',J.yld i H x H'→tc (some x::zbb caps σ) H' λb H2=>if b=true then te (some x::zbb caps σ) H2 λy H3=>∃ys,H3 D=some (.lst ys)∧ys.length<sizeLine∧∃m',m'<m∧W (i+1) m' (upd H3 D (.lst (ys++[y])))
  else ∃m',m'<m∧W (i+1) m' H2)
def PTs (Y:Cx)(ifs:List Expr)(tc:TT):Prop:=∀(pins:List (Addr×Obj)) (s:Shared) (σ:St) (H:Hp) (Q:Bool→Hp→Prop),Inv Y pins σ H s→tc σ H Q→
 wpAny (model Y.prog Y.w) Y.A (forIn ifs true λc r=>if r=true then do let ok ← isTrue c Y.env (eval c Y.env); pure (ForInStep.yield ok) else pure (ForInStep.yield r)) (TP Y pins σ Q) Y.xe s
theorem zxO {Y:Cx}:PTs Y [] (λ_ H Q=>Q true H):=λ_ _ _ H _ I h=>wpAny_tests_nil ⟨H,I,h⟩
theorem ztF {Y:Cx}{c:Expr}{tc:TT}(h:PT Y c tc):PTs Y [c] tc:=λpins s σ H Q I q=>wpAny_tests_one (h pins s σ H Q I q)
section
variable {X:Cx}{pins:List (Addr×Obj)}{σ:St}{H:Hp}{s:Shared}
theorem zvL {sc:Scope}{x:Str}{N:List Str}{caps:List Nat}{cl:List (Str×Addr)}{fp:List Addr}{h1:Heap}{m:Str→Option Value}{tk:Nat}(I:Inv X pins σ H s)(cs:zdj sc X.env.scope x N)
  (hN:∀(j:Nat) (y:Str),N[j]?=some y→∃i,caps[j]?=some i∧X.N[i]?=some y)(hlen:caps.length=N.length)
  (c1:∀x c,cl.lookup x=some c→X.env.cells.lookup x=some c)(c2:∀y∈sc.names,y.2=.free→cl.lookup y.1=X.env.cells.lookup y.1)
  (hf:∀b∈fp,zbK X pins H b)(hfo:∀b∈fp,b<s.heap.objs.size)(hns:h1.Ns s.heap.objs.size m)(hk:∀b o,s.heap.get? b=some o→h1.get? b=some o):
  Inv (Cx.comp X sc (x::N) cl s.heap.objs.size s H fp (X.pn++pins)) [] (none::zbb caps σ) H { s with heap:=h1,toks:=tk }:=by
 have stk:∀b∈frs X.stack,b=X.env.locals∨b∈X.fs:=λb hb=>Vaw.mp (I.stkSub b hb)
 refine⟨⟨I.ok.mod,cs.kind,I.ok.glob,I.ok.blt,Vad _,λa b c h1 h2=>I.ok.inj a b c (c1 _ _ h1) (c1 _ _ h2),λy hy=>?_,λ_ _ z=>Bool.noConfusion z,I.ok.hd,I.ok.frames,.inl rfl,λb hb=>⟨Vap (hfo b hb),λy c e=>(hf b hb).2.2.2.2.1 y c (c1 _ _ e)⟩,
  I.bs,VaA I.ok.bsz I.sz,λb o e hb=>?_,λb hb z=>?_,I.stack,I.stkFree⟩,rfl,I.bare,Un.kept hk,⟨m,hns,λi y v e1 e2 e3=>?_⟩,λy c e=>?_,I.hok.fresh (Vad _),λy c e=>I.freeC y c (c1 _ _ e),λp hp=>?_,I.hok.kept hk,?_⟩
 ·have hfr:sc.names.lookup y=some .free:=znf cs.nocell hy
  have hm:=zii hfr
  obtain⟨c,e⟩:=I.ok.has y (.inl (cs.out _ hm rfl))
  exact⟨c,(c2 _ hm rfl).trans e⟩
 ·rcases (hf b hb).2.2.2.1 with z | z
  ·exact I.ok.noex b o e z
  ·exact absurd (Vax (Heap.lt_size (I.ok.bs b o e).1) z) (VaF _)
 ·rcases stk b z with z | z
  ·exact(hf b hb).2.1 z
  ·exact(hf b hb).2.2.1 z
 ·cases i with
  | zero=>simp at e2
  | succ i=>
   have e1':N[i]?=some y:=by simpa using e1
   obtain⟨j,hj,hy⟩:=hN i y e1'
   have e2':σ[j]?=some (some v):=by
    simp only[List.getElem?_cons_succ,zbb,Vae,hj,Option.map_some,Option.some.injEq] at e2
    cases q:σ[j]? with
    | none=>rw[q] at e2; cases e2
    | some o=>rw[q] at e2; simp at e2; rw[e2]
   have hfr:sc.names.lookup y=some .free:=cs.cap y (Val e1')
   have hm:=zii hfr
   have hce:X.env.scope.names.lookup y=some .cell:=cs.out _ hm rfl
   obtain⟨m0,_,hl⟩:=I.loc
   obtain⟨u,r,l⟩:=hl j y v hy e2' (.inr (.inl hce))
   refine⟨u,r,.inr ⟨znF hfr,?_⟩⟩
   rcases l with ⟨k,_⟩ | ⟨_,c,ec,hcell⟩
   ·rw[show X.env.kindOf y=some .cell from hce] at k; cases k
   ·exact⟨c,(c2 _ hm rfl).trans ec,hcell.keeps hk⟩
 ·obtain⟨v,z⟩:=I.cell y c (c1 _ _ e)
  exact⟨v,z.keeps hk⟩
 ·have hp':p∈X.pn++pins:=by simpa using hp
  obtain⟨p1,p2,p3,p4,p5⟩:=I.pin p hp'
  refine⟨hk _ _ p1,p2,Vap (Heap.lt_size p1),λz=>?_,p5⟩
  rcases stk _ z with z | z
  ·exact p3 z
  ·exact p4 z
 ·simp[zbb,hlen]
end
section
variable {X:Cx}{elt iter:Expr}{x:Str}{px pos:Pos}{ifs:List Expr}{sc:Scope}{N:List Str}{caps:List Nat}{wi:TI}{tc:TT}{te:TE}
structure zql (X:Cx)(pins:List (Addr×Obj))(σ:St)(C:Addr)(Q:VK)(D:Addr)(s':Shared):Prop where
 q:∃H',Inv X pins σ H' s'∧Q (.ref D) H'∧H' C=none
 ns:∃m,s'.heap.Ns C m
 loc:C≠X.env.locals
 old:X.s₀.heap.objs.size≤C
 cell:∀x c,X.env.cells.lookup x=some c→c≠C
 pin:∀p∈X.pn++pins,p.1≠C
theorem zrp {use:Option (Value→Sem Unit)}{Qr:Value→Shared→Prop}(hc:X.calm=true)(cs:zdj sc X.env.scope x N)(hN:∀(j:Nat) (y:Str),N[j]?=some y→∃i,caps[j]?=some i∧X.N[i]?=some y)(hlen:caps.length=N.length)(hnd:(x::N).Nodup)
  (hi:PI X (.Name x px) iter wi)(ht:∀cl C s0 H0 fp pn,PTs (Cx.comp X sc (x::N) cl C s0 H0 fp pn) ifs tc)(he:∀cl C s0 H0 fp pn,PE (Cx.comp X sc (x::N) cl C s0 H0 fp pn) elt te)
  (hs:∀y,foldedSetIterable iter X.env y=pure y)
  {pins:List (Addr×Obj)}{s:Shared}{σ:St}{H:Hp}{Q:VK}{p2:Pos}(I:Inv X pins σ H s)(h:zhS caps wi tc te σ H Q)
  (fin:∀D C s',zql X pins σ C Q D s'→compPost (model X.prog X.w) X.A X.xe use Qr (.ref D) C (.ok .next) s'):
  wpAny (model X.prog X.w) X.A (comprehension (.ListComp elt [⟨.Name x px,iter,ifs,0⟩] sc pos) sc X.env p2 (newList []) false (eval iter X.env) use) Qr X.xe s:=by
 obtain⟨cl,k1,k2,k3⟩:=zqn (sc:=sc) (env:=X.env) λy hy hf=>I.ok.has y.1 (.inl (cs.out y hy hf))
 refine wpAny_comprehension_free rfl hs k1 cs.kind cs.own (thn (hi pins s σ H _ I h) λv s1 h1=>thn h1 λitv s2 h2=>?_)
 obtain⟨it,fp,tn,J,H2,e,I2,T,st2,f2,body⟩:=h2
 subst e
 have hfo:∀b∈fp,b<s2.heap.objs.size:=λb hb=>by
  obtain⟨o,e,_⟩:=T.obj _ _ st2 b hb
  exact Heap.lt_size e
 have hD:H2 s2.heap.objs.size=none:=I2.hok.fresh (Vad _)
 obtain⟨W,⟨m0,w0⟩,turn⟩:=body _ hD
 refine wpAny_newObj_type ?_
 have I3:Inv X pins σ (upd H2 s2.heap.objs.size (.lst [])) { s2 with heap:=s2.heap.push { cls:=.type "list",dict:=none,data:=.seq ([]:List Value).toArray },toks:=s2.toks }:=
  I2.laid (t':=s2.toks) (λb u e=>Heap.get?_push_of_some _ e) (Vad _) ⟨Vat _,[],0,.nil,Heap.get?_push_size _ rfl⟩
 generalize hs3:({ s2 with heap:=s2.heap.push { cls:=.type "list",dict:=none,data:=.seq ([]:List Value).toArray },toks:=s2.toks }:Shared)=s3 at I3
 have es3:({ s2 with heap:=s2.heap.push { cls:=.type "list",dict:=none,data:=.seq ([]:List Value).toArray } }:Shared)=s3:=hs3
 try rw[es3]
 have f3:∀b∈fp,zbK X pins (upd H2 s2.heap.objs.size (.lst [])) b:=λb hb=>⟨by rw[za0 (Vap (hfo b hb))]; exact(f2 b hb).1,(f2 b hb).2⟩
 have up3:∀b o,s2.heap.get? b=some o→s3.heap.get? b=some o:=λb o e=>by rw[← hs3]; exact Heap.get?_push_of_some _ e
 have st3:tn 0 s3.heap:=T.keep _ _ _ st2 λb _ o e=>up3 b o e
 have hfo3:∀b∈fp,b<s3.heap.objs.size:=λb hb=>by
  obtain⟨o,e,_⟩:=T.obj _ _ st3 b hb
  exact Heap.lt_size e
 refine wpAny_newFunctionEnv cs.nocell (λy hy=>by simp at hy) (λh4 ns4 sb4=>?_) cs.kind
 have hk4:∀b o,s3.heap.get? b=some o→h4.get? b=some o:=λb o e=>(sb4.2 b (Vap (Heap.lt_size e))).trans (Heap.get?_push_of_some _ e)
 have I4:=zvL (tk:=s3.toks+([]:List (Str×Value)).length) I3 cs hN hlen k2 k3 f3 hfo3 ns4 hk4
 generalize hs4:({ s3 with heap:=h4,toks:=s3.toks+([]:List (Str×Value)).length }:Shared)=s4 at I4 ⊢
 have eh4:s4.heap=h4:=by rw[← hs4]
 have st4:tn 0 s4.heap:=by rw[eh4]; exact T.keep _ _ _ st3 λb _ o e=>hk4 b o e
 have fY:∀ {H':Hp},(∀b∈fp,H' b=none)→∀b∈fp,zbK (Cx.comp X sc (x::N) cl s3.heap.objs.size s3 (upd H2 s2.heap.objs.size (.lst [])) fp (X.pn++pins)) [] H' b:=λhn b hb=>by
  obtain⟨_,z2,z3,z4,z5,z6⟩:=f3 b hb
  refine⟨hn b hb,Vap (hfo3 b hb),λz=>?_,.inl hb,λy c e=>z5 y c (k2 _ _ e),λp hp=>z6 p (by simpa using hp)⟩
  rcases Vaw.mp (I3.stkSub b z) with z | z
  ·exact z2 z
  ·exact z3 z
 have locY:(Cx.comp X sc (x::N) cl s3.heap.objs.size s3 (upd H2 s2.heap.objs.size (.lst [])) fp (X.pn++pins)).env.scope.names.lookup x=some .local:=lookup_relabel_local cs.loc
 have loop:codeAny (model X.prog X.w) X.A (.compLoop (.ListComp elt [⟨.Name x px,iter,ifs,0⟩] sc pos) 0 (.ref it) (.ref s2.heap.objs.size) (compEnvC sc cl s3.heap.objs.size X.env))
   (compPost (model X.prog X.w) X.A X.xe use Qr (.ref s2.heap.objs.size) s3.heap.objs.size) s4:=by
  refine codeAny_compLoop_tests (λn s'=>∃i o H',Inv (Cx.comp X sc (x::N) cl s3.heap.objs.size s3 (upd H2 s2.heap.objs.size (.lst [])) fp (X.pn++pins)) [] (o::zbb caps σ) H' s'∧tn i s'.heap∧(∀b∈fp,H' b=none)∧W i n H') ?_ m0
   ⟨0,none,_,I4,st4,λb hb=>(f3 b hb).1,w0⟩
  rintro n s5 ⟨i,o,H5,I5,st5,fr5,w5⟩
  rcases turn i n H5 w5 with ⟨stop,q⟩ | ⟨go,step⟩
  ·refine thn (T.done (Cx.comp X sc (x::N) cl s3.heap.objs.size s3 (upd H2 s2.heap.objs.size (.lst [])) fp (X.pn++pins)) rfl rfl rfl hc i [] s5 _ H5 _ I5 (fY fr5) st5 stop) λr s6 ⟨hr,I6⟩=>?_
   subst hr
   refine fin _ _ _ ⟨⟨H5,I3.call' I6.os I6.base I6.hok I6.bare (λb hb=>?_),q,I6.free⟩,?_,Nat.ne_of_gt I3.lt,I3.sz,λy c e z=>?_,λp hp z=>?_⟩
   ·obtain⟨_,z2,z3,z4,z5,z6⟩:=f3 b hb
    exact⟨z4,z2,z5,z6⟩
   ·obtain⟨m,hm,_⟩:=I6.loc
    exact⟨m,hm⟩
   ·obtain⟨v,hv⟩:=I3.cell y c e
    exact absurd (z ▸ hv.lt) (VaF _)
   ·exact absurd (z ▸ Heap.lt_size (I3.pin p hp).1) (VaF _)
  ·refine thn (T.item (Cx.comp X sc (x::N) cl s3.heap.objs.size s3 (upd H2 s2.heap.objs.size (.lst [])) fp (X.pn++pins)) rfl rfl rfl hc i [] s5 _ H5 _ I5 (fY fr5) st5 go) λr s6 ⟨u,hr,h6⟩=>?_
   subst hr
   show wpAny _ _ (letOwnedTupleGo (.Name x px) (.ref it) u >>= λ_=>assign (.Name x px) (compEnvC sc cl s3.heap.objs.size X.env) u) _ _ s6
   refine wpAny_bind (thn h6 λ_ s7 ⟨y,H7,I7,r7,y7,st7,fr7⟩=>?_)
   have I7':=I7.pinned (fY fr7) (T.obj _ _ st7)
   refine wpAny_mono (zjW (X:=Cx.comp X sc (x::N) cl s3.heap.objs.size s3 (upd H2 s2.heap.objs.size (.lst [])) fp (X.pn++pins)) (pos:=px) hnd (i:=0) rfl (.inl locY) (.inr locY) _ s7 _ H7 y u (λσ8 H8=>σ8=some y::zbb caps σ∧H8=H7) I7' r7 ⟨rfl,rfl⟩) (λ_ s8 ⟨σ8,H8,I8,e8,e8'⟩=>?_) λ_ _ z=>z.elim
   subst e8
   subst e8'
   have stay:∀ {H':Hp} {s':Shared},Inv (Cx.comp X sc (x::N) cl s3.heap.objs.size s3 (upd H2 s2.heap.objs.size (.lst [])) fp (X.pn++pins)) ([]++zfW fp s7.heap) (some y::zbb caps σ) H' s'→∀m',m'<n→W (i+1) m' H'→
     ∃m,m<n∧∃i o H',Inv (Cx.comp X sc (x::N) cl s3.heap.objs.size s3 (upd H2 s2.heap.objs.size (.lst [])) fp (X.pn++pins)) [] (o::zbb caps σ) H' s'∧tn i s'.heap∧(∀b∈fp,H' b=none)∧W i m H':=λ{H' s'} J m' hm w'=>by
    refine⟨m',hm,i+1,some y,H',J.unpinned,T.keep _ _ _ st7 λb hb o e=>(J.pin (b,o) (VaG _ (VaG _ (zeS hb e)))).1,λb hb=>?_,w'⟩
    obtain⟨o,e,d⟩:=T.obj _ _ st7 b hb
    exact(J.pin (b,o) (VaG _ (VaG _ (zeS hb e)))).2.1
   refine wpAny_mono (ht _ _ _ _ _ _ _ s8 _ H8 _ I8 (step y H8 y7)) (λb s9 ⟨H9,I9,q9⟩=>?_) λ_ _ z=>z.elim
   cases b with
   | false=>
    rw[if_neg Vaq] at q9 ⊢
    obtain⟨m',hm,w9⟩:=q9
    exact stay I9 m' hm w9
   | true=>
    rw[if_pos rfl] at q9 ⊢
    refine wpAny_mono (he _ _ _ _ _ _ _ s9 _ H9 _ I9 q9) (λu2 s10 ⟨z,H10,I10,r10,q10⟩=>?_) λ_ _ z=>z.elim
    obtain⟨ys,hD10,hlt,m',hm,w10⟩:=q10
    refine wpAny_mono (zm7 (X:=(Cx.comp X sc (x::N) cl s3.heap.objs.size s3 (upd H2 s2.heap.objs.size (.lst [])) fp (X.pn++pins))) _ s10 _ H10 (.ref s2.heap.objs.size) [z] (.ref s2.heap.objs.size) [u2] (λ_ H'=>H'=upd H10 s2.heap.objs.size (.lst (ys++[z]))) I10 rfl (.cons r10 .nil) ⟨_,ys,z,rfl,rfl,hD10,hlt,rfl⟩) (λ_ s11 ⟨_,H11,I11,_,e11⟩=>?_) λ_ _ z=>z.elim
    subst e11
    exact stay I11 m' hm w10
 exact codeAny_compStart_list loop (T.self _ 0 s4 _ _ st4 loop)
theorem zdP {X:Cx}{caps:List Nat}{N:List Str}(h:caps.map (λi=>X.N[i]?)=N.map some):(∀(j:Nat) (y:Str),N[j]?=some y→∃i,caps[j]?=some i∧X.N[i]?=some y)∧caps.length=N.length:=by
 refine⟨λj y e=>?_,by simpa using congrArg List.length h⟩
 have z:(caps.map (λi=>X.N[i]?))[j]?=some (some y):=by rw[h,Vae,e]; rfl
 rw[Vae] at z
 cases q:caps[j]? with
 | none=>rw[q] at z; cases z
 | some i=>rw[q] at z; exact⟨i,rfl,by simpa using z⟩
theorem zoX (hc:X.calm=true)(cs:zdj sc X.env.scope x N)(hN:caps.map (λi=>X.N[i]?)=N.map some)(hnd:(x::N).Nodup)
  (hi:PI X (.Name x px) iter wi)(ht:∀cl C s0 H0 fp pn,PTs (Cx.comp X sc (x::N) cl C s0 H0 fp pn) ifs tc)(he:∀cl C s0 H0 fp pn,PE (Cx.comp X sc (x::N) cl C s0 H0 fp pn) elt te)
  (hs:∀y,foldedSetIterable iter X.env y=pure y:=by intro _; rfl):PE X (.ListComp elt [⟨.Name x px,iter,ifs,0⟩] sc pos) (zhS caps wi tc te):=by
 intro pins s σ H Q I h
 rw[eval_ListComp]
 refine zrp (use:=none) hc cs (zdP hN).1 (zdP hN).2 hnd hi ht he hs I h λD C s' f=>?_
 obtain⟨⟨H',I',q,hC⟩,⟨m,ns⟩,l,o,c,p⟩:=f
 exact⟨m,ns,λh' sb=>⟨.ref D,H',I'.turned (t':=s'.toks) (λb ob hb e=>(sb.2 b hb).trans e) hC l (.inr o) c p,rfl,q⟩⟩
theorem zre {i:Nat}{y:Str}{py spos:Pos}(hc:X.calm=true)(cs:zdj sc X.env.scope x N)(hN:caps.map (λi=>X.N[i]?)=N.map some)(hnd:(x::N).Nodup)
  (hi:PI X (.Name x px) iter wi)(ht:∀cl C s0 H0 fp pn,PTs (Cx.comp X sc (x::N) cl C s0 H0 fp pn) ifs tc)(he:∀cl C s0 H0 fp pn,PE (Cx.comp X sc (x::N) cl C s0 H0 fp pn) elt te)
  (hNd:X.N.Nodup)(hy:X.N[i]?=some y)(hl:X.env.scope.names.lookup y=some .local)
  (hsw:swapsWith (.ListComp elt [⟨.Name x px,iter,ifs,0⟩] sc pos) (some (.Name y py)) spos.line X.env=pure true)
  (hs:∀y,foldedSetIterable iter X.env y=pure y:=by intro _; rfl):PS X (.Assign [.Name y py] (.ListComp elt [⟨.Name x px,iter,ifs,0⟩] sc pos) spos) (λE σ H=>zhS caps wi tc te σ H λv H1=>E.nx (σ.set i (some v)) H1):=by
 intro pins s σ H E I h
 rw[exec_Assign_Name_used (hs:=hsw)]
 refine wpAny_bind (wpAny_standAt ?_); refine wpAny_bind ?_; show wpAny _ _ (comprehension _ sc X.env _ (newList []) false (eval iter X.env) (some (assign (.Name y py) X.env)) >>= λ_=>pure ()) _ _ s
 refine wpAny_bind (thn (zrp (use:=some (assign (.Name y py) X.env)) (Qr:=λ_ s'=>SP X pins E .next s') hc cs (zdP hN).1 (zdP hN).2 hnd hi ht he hs I h λD C s' f=>?_) λ_ s' hq=>wpAny_pure (wpAny_pure hq))
 obtain⟨⟨H',I',q,hC⟩,⟨m,ns⟩,l,o,c,p⟩:=f
 refine wpAny_assign_Name (zmS (v:=.ref D) I' hNd hy (.inl hl) rfl (λs'' I'' ⟨a,sb,ha⟩=>⟨m,ns.sameBut sb ?_,λh' sb'=>⟨_,H',I''.turned (t':=s''.toks) (λb ob hb e=>(sb'.2 b hb).trans e) hC l (.inr o) c p,q⟩⟩) (.inr hl))
 rcases ha with rfl | ha
 ·exact l
 ·exact Ne.symm (c _ _ ha)
end
section
variable {X:Cx}{Z:Zx}{elt iter:Expr}{x:Str}{px pos:Pos}{ifs:List Expr}{sc ar:Scope}{N:List Str}{caps:List Nat}
theorem zpe {r:List Addr}{H:Hp}{dl:Ev}{σ:St}{d:D}{v:V}(h:Rs r H dl σ)(p:Rp r H d v):Rs r H (some d::zbt caps dl) (some v::zbb caps σ):=by
 refine⟨by simp[zbt,zbb],λi e hi=>?_⟩
 cases i with
 | zero=>simp at hi; subst hi; exact⟨v,rfl,p⟩
 | succ i=>
  simp only[List.getElem?_cons_succ,zbt,Vae] at hi
  cases q:caps[i]? with
  | none=>rw[q] at hi; cases hi
  | some j=>
   rw[q] at hi
   simp only[Option.map_some,Option.some.injEq] at hi
   have hj:dl[j]?=some (some e):=by
    cases q2:dl[j]? with
    | none=>rw[q2] at hi; cases hi
    | some o=>rw[q2] at hi; simp at hi; rw[hi]
   obtain⟨w,h1,h2⟩:=h.2 j e hj
   refine⟨w,?_,h2⟩
   simp only[List.getElem?_cons_succ,zbb,Vae,q,Option.map_some,h1,Option.join_some]
def zfU (Y:Cx)(ifs:List Expr)(t:TDT):Prop:=PTs Y ifs (upT Y.K Z0 t)
def zb8:TDT:=λ_ S Q=>Q true S
theorem zbh {Y:Cx}:zfU Y [] zb8:=λpins s σ H Qb I ⟨r,dl,S,Q,rs,rel,q,ret⟩=>zxO pins s σ H Qb I (ret true H r S Ext.refl rel q)
theorem zpY {Y:Cx}{c:Expr}{t:TDT}(h:PDT Y Z0 c t):zfU Y [c] t:=ztF h
def zdo (caps:List Nat)(tc:TDT)(te:TDE)(k:Nat)(dl:Ev)(d:D)(S:Sto)(nx:Sto→Prop):Prop:=
 tc (some d::zbt caps dl) S λb S1=>if b=true then te (some d::zbt caps dl) S1 λy S2=>match S2[k]? with
  | some (.lst ys)=>ys.length<1000∧nx (S2.set k (.lst (ys++[y])))
  | _=>False
 else nx S1
@[irreducible] def zct (caps:List Nat)(tl:TDE)(tc:TDT)(te:TDE):TDE:=λdl S Q=>tl dl S λd S1=>match d with
 | .ref n=>(lAt S1 n).isSome=true∧∃W:Nat→Nat→Sto→Prop,(∃m,W 0 m (S1++[.lst []]))∧∀k m S2,W k m S2→match lAt S2 n with
  | some o=>match (zak o)[k]? with
   | some y=>zdo caps tc te S1.length dl y S2 λS3=>∃m',m'<m∧W (k+1) m' S3
   | none=>Q (.ref S1.length) S2
  | none=>False
 | _=>False
@[irreducible] def zc5 (caps:List Nat)(ta:TDA)(tc:TDT)(te:TDE):TDE:=λdl S Q=>ta dl S λds S1=>match ds with
 | [.int j]=>(-(2^62)≤j∧j<2^62)∧∃W:Nat→Sto→Prop,W 0 (S1++[.lst []])∧∀k S2,W k S2→
   if k<j.toNat then zdo caps tc te S1.length dl (.int k) S2 λS3=>W (k+1) S3 else Q (.ref S1.length) S2
 | _=>False
theorem zqu {tc:TDT}{te:TDE}{r2:List Addr}{H2:Hp}{S1 S2:Sto}{dl:Ev}{σ:St}{D0:Addr}{d:D}{v:V}{nx:Sto→Prop}{Nx:Hp→Prop}(rs:Rs r2 H2 dl σ)(ha:r2[S1.length]?=some D0)(rb:zaU X.K r2 S2 H2)(p:Rp r2 H2 d v)
  (h:zdo caps tc te S1.length dl d S2 nx)(hn:∀r' S' H',Ext r2 r' H2 H'→zaU X.K r' S' H'→nx S'→Nx H'):
  upT X.K Z0 tc (some v::zbb caps σ) H2 λb H3=>if b=true then up X.K Z0 te (some v::zbb caps σ) H3 λy H4=>∃ys,H4 D0=some (.lst ys)∧ys.length<sizeLine∧Nx (upd H4 D0 (.lst (ys++[y]))) else Nx H3:=by
 have rsY:Rs r2 H2 (some d::zbt caps dl) (some v::zbb caps σ):=zpe rs p
 refine⟨r2,_,S2,_,rsY,⟨rb,λ_ _ _ _ _ _ _ _ _ z=>z.elim⟩,h,λb H3 r3 S3 x3 rel3 q3=>?_⟩
 cases b with
 | false=>rw[if_neg Vaq] at q3 ⊢; exact hn r3 S3 H3 x3 rel3.b q3
 | true=>
  rw[if_pos rfl] at q3 ⊢
  refine⟨r3,_,S3,_,rsY.ext x3,rel3,q3,λz H4 r4 dz S4 x4 rel4 p4 q4=>?_⟩
  split at q4
  ·rename_i ys eys
   obtain⟨hl,q4⟩:=q4
   have ha4:r4[S1.length]?=some D0:=x4.adr _ _ (x3.adr _ _ ha)
   obtain⟨zs,hD4,pz⟩:=rel4.b.ob _ _ _ ha4 eys
   obtain⟨rel5,x5⟩:=rel4.b.set ha4 eys (pz.snoc p4)
   exact⟨zs,hD4,by rw[← pz.1]; exact zgE (VaU hl),hn r4 _ _ (x3.trans (x4.trans x5)) rel5 q4⟩
  ·exact q4.elim
theorem zif {r:List Addr}{D0:Addr}{n:Nat}(h:r.length=n):(r++[D0])[n]?=some D0:=by subst h; simp
theorem zp2 {tl:TDE}{tc:TDT}{te:TDE}{σ:St}{H:Hp}{Qv:VK}(h:up X.K Z (zct caps tl tc te) σ H Qv):zhS caps (zrm X.K (up X.K Z tl)) (upT X.K Z0 tc) (up X.K Z0 te) σ H Qv:=by
 obtain⟨r,dl,S,Q,rs,rel,h,ret⟩:=h
 unfold zct at h
 refine⟨r,dl,S,_,rs,rel,h,λv H1 r1 d S1 x1 rel1 p1 q1=>?_⟩
 cases p1 with
 | @ref n a hn=>
  obtain⟨hsome,W,⟨m0,w0⟩,turn⟩:=q1
  have sql:∀ {r':List Addr} {S':Sto} {H':Hp} {o:Ob},Ext r1 r' H1 H'→zaU X.K r' S' H'→lAt S' n=some o→∃xs,SqL X.K H' a xs∧Rps r' H' (zak o) xs:=λ{r' S' H' o} x' rel' eo=>by
   obtain⟨eo,eL⟩:=zbr eo
   obtain⟨a',ha,ob⟩:=rel'.at eo
   rw[x'.adr n a hn] at ha; cases ha
   exact ob.list eL
  obtain⟨o1,eo1⟩:=VaP.mp hsome
  obtain⟨xs1,sq1,_⟩:=sql Ext.refl rel1.b eo1
  refine⟨a,rfl,⟨xs1,sq1⟩,λD0 hD=>?_⟩
  obtain⟨rel2,x2⟩:=rel1.b.push (ds:=[]) (xs:=[]) hD Rps.nil
  refine⟨λk m H'=>∃r' S',Ext (r1++[D0]) r' (upd H1 D0 (.lst [])) H'∧zaU X.K r' S' H'∧W k m S',⟨m0,_,_,Ext.refl,rel2,w0⟩,?_⟩
  rintro k m H2 ⟨r2,S2,x3,rb2,w2⟩
  have ha2:r2[S1.length]?=some D0:=x3.adr _ _ (zif rel1.len)
  have q:=turn k m S2 w2
  split at q
  ·rename_i o eo
   obtain⟨xs,sq,pr⟩:=sql (x2.trans x3) rb2 eo
   split at q
   ·rename_i y ey
    obtain⟨v,hv,pv⟩:=pr.get ey
    refine .inr ⟨⟨xs,v,sq,hv⟩,λv' H' y'=>?_⟩
    obtain⟨eH,y'⟩:=y'
    subst eH
    have ev:v'=v:=by
     have z:=y' xs sq
     rw[hv] at z; exact(Option.some.inj z).symm
    subst ev
    have z:=zqu (Nx:=λH'=>∃m',m'<m∧∃r' S',Ext (r1++[D0]) r' (upd H1 D0 (.lst [])) H'∧zaU X.K r' S' H'∧W (k+1) m' S') (rs.ext (x1.trans (x2.trans x3))) ha2 rb2 pv q λr' S' H' x' rb' ⟨m',hm,w'⟩=>⟨m',hm,r',S',x3.trans x',rb',w'⟩
    exact z
   ·rename_i ey
    have hlen:(zak o).length≤k:=VaQ.mp ey
    exact .inl ⟨⟨xs,sq,by rw[← pr.1]; exact hlen⟩,ret _ H2 r2 _ S2 (x1.trans (x2.trans x3)) ⟨rb2,rel.xw.ext (x1.trans (x2.trans x3))⟩ (.ref ha2) q⟩
  ·exact q.elim
 | _=>exact(show False from q1).elim
theorem zph {ta:TDA}{tc:TDT}{te:TDE}{σ:St}{H:Hp}{Qv:VK}(h:up X.K Z (zc5 caps ta tc te) σ H Qv):zhS caps (zpI (upA X.K Z ta)) (upT X.K Z0 tc) (up X.K Z0 te) σ H Qv:=by
 obtain⟨r,dl,S,Q,rs,rel,h,ret⟩:=h
 unfold zc5 at h
 refine⟨r,dl,S,_,rs,rel,h,λvs H1 r1 ds S1 x1 rel1 p1 q1=>?_⟩
 split at q1
 ·rename_i j
  obtain⟨v,vs',rfl,p2,p3⟩:=p1.uncons
  have z:=p3.unnil
  subst z
  cases p2
  obtain⟨⟨b1,b2⟩,W,w0,turn⟩:=q1
  refine⟨j,rfl,b1,b2,λD0 hD=>?_⟩
  obtain⟨rel2,x2⟩:=rel1.b.push (ds:=[]) (xs:=[]) hD Rps.nil
  refine⟨λk m H'=>m=j.toNat-k∧∃r' S',Ext (r1++[D0]) r' (upd H1 D0 (.lst [])) H'∧zaU X.K r' S' H'∧W k S',⟨j.toNat,by simp,_,_,Ext.refl,rel2,w0⟩,?_⟩
  rintro k m H2 ⟨em,r2,S2,x3,rb2,w2⟩
  have ha2:r2[S1.length]?=some D0:=x3.adr _ _ (zif rel1.len)
  have q:=turn k S2 w2
  split at q
  ·rename_i hk
   refine .inr ⟨hk,λv' H' y'=>?_⟩
   obtain⟨eH,y'⟩:=y'
   subst eH
   subst y'
   have pk:Rp r2 H' (.int (k:Int)) (.int (0+(k:Int))):=by rw[Int.zero_add]; exact .int _
   have z:=zqu (Nx:=λH'=>∃m',m'<m∧m'=j.toNat-(k+1)∧∃r' S',Ext (r1++[D0]) r' (upd H1 D0 (.lst [])) H'∧zaU X.K r' S' H'∧W (k+1) S') (rs.ext (x1.trans (x2.trans x3))) ha2 rb2 pk q
    λr' S' H' x' rb' w'=>⟨j.toNat-(k+1),by omega,rfl,r',S',x3.trans x',rb',w'⟩
   exact z
  ·rename_i hk
   exact .inl ⟨by show j.toNat≤k; omega,ret _ H2 r2 _ S2 (x1.trans (x2.trans x3)) ⟨rb2,rel.xw.ext (x1.trans (x2.trans x3))⟩ (.ref ha2) q⟩
 ·exact q1.elim
theorem zcD {tl:TDE}{tc:TDT}{te:TDE}(har:X.env.scope=ar)(hc:X.calm=true)(cs:zdj sc ar x N)(hN:caps.map (λi=>X.N[i]?)=N.map some)(hnd:(x::N).Nodup)(hl:PD X Z iter tl)
  (ht:∀cl C s0 H0 fp pn,zfU (Cx.comp X sc (x::N) cl C s0 H0 fp pn) ifs tc)(he:∀cl C s0 H0 fp pn,PD (Cx.comp X sc (x::N) cl C s0 H0 fp pn) Z0 elt te)
  (hs:∀y,foldedSetIterable iter X.env y=pure y:=by intro _; rfl):PD X Z (.ListComp elt [⟨.Name x px,iter,ifs,0⟩] sc pos) (zct caps tl tc te):=by
 subst har
 exact zaY (zoX hc cs hN hnd (tc:=upT X.K Z0 tc) (te:=up X.K Z0 te) (zob hl) ht he hs) λ_ _ _ h=>zp2 h
theorem zd2 {ta:TDA}{tc:TDT}{te:TDE}{a:Expr}{p pos2:Pos}(har:X.env.scope=ar)(hc:X.calm=true)(cs:zdj sc ar x N)(hN:caps.map (λi=>X.N[i]?)=N.map some)(hnd:(x::N).Nodup)(hg:Gl X "range")(hm:X.mg "range"=none)(ha:PDA X Z [a] ta)
  (ht:∀cl C s0 H0 fp pn,zfU (Cx.comp X sc (x::N) cl C s0 H0 fp pn) ifs tc)(he:∀cl C s0 H0 fp pn,PD (Cx.comp X sc (x::N) cl C s0 H0 fp pn) Z0 elt te)
  (hs:∀y,foldedSetIterable (.Call (.Name "range" p) [a] [] pos2) X.env y=pure y:=by intro _; rfl)(hst:starEach [a] X.env=[(false,eval a X.env)]:=by rfl):
  PD X Z (.ListComp elt [⟨.Name x px,.Call (.Name "range" p) [a] [] pos2,ifs,0⟩] sc pos) (zc5 caps ta tc te):=by
 subst har
 exact zaY (zoX hc cs hN hnd (tc:=upT X.K Z0 tc) (te:=up X.K Z0 te) (znL hg hm ha hst) ht he hs) λ_ _ _ h=>zph h
theorem zn1 {t:TE}{td:TDE}{i:Nat}{F:zd1}{σ:St}{H:Hp}(imp:∀Qv,up X.K Z td σ H Qv→t σ H Qv)(h:upS X.K Z (λE dl S=>td dl S λd S1=>E.nx (dl.set i (some d)) S1) F σ H):t σ H λv H1=>F.nx (σ.set i (some v)) H1:=by
 obtain⟨r,dl,S,E,rs,rel,h,ret⟩:=h
 exact imp _ ⟨r,dl,S,_,rs,rel,h,λv H1 r1 d S1 x rel1 p q=>ret.nx _ H1 r1 _ S1 x ((rs.ext x).set i p) rel1 q⟩
theorem zoi {tl:TDE}{tc:TDT}{te:TDE}{i:Nat}{y:Str}{py spos:Pos}(har:X.env.scope=ar)(hc:X.calm=true)(cs:zdj sc ar x N)(hN:caps.map (λi=>X.N[i]?)=N.map some)(hnd:(x::N).Nodup)(hNd:X.N.Nodup)(hy:X.N[i]?=some y)(hlo:ar.names.lookup y=some .local)
  (hl:PD X Z iter tl)(ht:∀cl C s0 H0 fp pn,zfU (Cx.comp X sc (x::N) cl C s0 H0 fp pn) ifs tc)(he:∀cl C s0 H0 fp pn,PD (Cx.comp X sc (x::N) cl C s0 H0 fp pn) Z0 elt te)
  (hsw:swapsWith (.ListComp elt [⟨.Name x px,iter,ifs,0⟩] sc pos) (some (.Name y py)) spos.line X.env=pure true:=by rfl)
  (hs:∀y,foldedSetIterable iter X.env y=pure y:=by intro _; rfl):PDS X Z (.Assign [.Name y py] (.ListComp elt [⟨.Name x px,iter,ifs,0⟩] sc pos) spos) (zhL i (zct caps tl tc te)):=by
 subst har
 exact zbS (zre hc cs hN hnd (tc:=upT X.K Z0 tc) (te:=up X.K Z0 te) (zob hl) ht he hNd hy hlo hsw hs) λF σ H h=>zn1 (λ_ h=>zp2 h) h
theorem zo4 {ta:TDA}{tc:TDT}{te:TDE}{a:Expr}{p pos2:Pos}{i:Nat}{y:Str}{py spos:Pos}(har:X.env.scope=ar)(hc:X.calm=true)(cs:zdj sc ar x N)(hN:caps.map (λi=>X.N[i]?)=N.map some)(hnd:(x::N).Nodup)(hNd:X.N.Nodup)(hy:X.N[i]?=some y)
  (hlo:ar.names.lookup y=some .local)(hg:Gl X "range")(hm:X.mg "range"=none)(ha:PDA X Z [a] ta)
  (ht:∀cl C s0 H0 fp pn,zfU (Cx.comp X sc (x::N) cl C s0 H0 fp pn) ifs tc)(he:∀cl C s0 H0 fp pn,PD (Cx.comp X sc (x::N) cl C s0 H0 fp pn) Z0 elt te)
  (hsw:swapsWith (.ListComp elt [⟨.Name x px,.Call (.Name "range" p) [a] [] pos2,ifs,0⟩] sc pos) (some (.Name y py)) spos.line X.env=pure true:=by rfl)
  (hs:∀y,foldedSetIterable (.Call (.Name "range" p) [a] [] pos2) X.env y=pure y:=by intro _; rfl)(hst:starEach [a] X.env=[(false,eval a X.env)]:=by rfl):
  PDS X Z (.Assign [.Name y py] (.ListComp elt [⟨.Name x px,.Call (.Name "range" p) [a] [] pos2,ifs,0⟩] sc pos) spos) (zhL i (zc5 caps ta tc te)):=by
 subst har
 exact zbS (zre hc cs hN hnd (tc:=upT X.K Z0 tc) (te:=up X.K Z0 te) (znL hg hm ha hst) ht he hNd hy hlo hsw hs) λF σ H h=>zn1 (λ_ h=>zph h) h
@[irreducible] def zed (to te:TDE):TDE:=λdl S Q=>to dl S λx S1=>match x with
 | .ref n=>match S1[n]? with
  | some (.lst _)=>te dl S1 λy S2=>match S2[n]? with
   | some (.lst xs)=>if xs.length<1000 then Q .non (S2.set n (.lst (xs++[y]))) else False
   | _=>False
  | _=>False
 | _=>False
theorem zdk {o e:Expr}{to te:TDE}{apos cpos:Pos}(ho:PD X Z o to)(he:PD X Z e te)(hbase:attributeBase o "append" X.env (eval o X.env)=eval o X.env:=by rfl)
  (hfew:((backTo cpos (starEach [e] X.env)).all (λx=>!x.1)&&(backToKw cpos (keywordEach [] X.env)).all (λx=>x.1.isSome)
  &&decide (([e]:List Expr).length+([]:List Keyword).length+(if ([]:List Keyword).isEmpty then 0 else 1)<30))=true:=by rfl)
  (hline:(apos.endLine==cpos.line)=true:=by rfl)(hst:starEach [e] X.env=[(false,eval e X.env)]:=by rfl):
  PD X Z (.Call (.Attribute o "append" apos) [e] [] cpos) (zed to te):=
 zaY (zlp PySem.F.plainAttrs_list PySem.F.slot_list_append PySem.F.type_list_append zm7 ho (zf6 he ziS hst) hbase hfew hline hst rfl) λσ H Qv h=>by
  obtain⟨r,dl,S,Q,rs,rel,h,ret⟩:=h
  unfold zed at h
  refine⟨r,dl,S,_,rs,rel,h,λv H1 r1 d S1 x1 rel1 p1 h1=>?_⟩
  cases p1 with
  | @ref n a hn=>
   dsimp only at h1
   split at h1
   ·rename_i xs0 e0
    obtain⟨a',ha,ob⟩:=rel1.at e0
    rw[hn] at ha; cases ha
    obtain⟨ys,hH,_⟩:=ob
    refine⟨.inl ⟨rfl,ys,SqL.of hH⟩,r1,dl,S1,_,rs.ext x1,rel1,h1,λv2 H2 r2 d2 S2 x2 rel2 p2 h2=>?_⟩
    split at h2
    ·rename_i xs1 e1
     obtain⟨hlt,h2⟩:=zkb h2
     have ha2:=x2.adr n a hn
     obtain⟨zs,hH2,pz⟩:=rel2.b.ob n a _ ha2 e1
     obtain⟨rel3,x3⟩:=rel2.set ha2 e1 (pz.snoc p2)
     exact⟨a,zs,v2,rfl,rfl,hH2,by rw[← pz.1]; exact zgE (VaU hlt),ret .non _ r2 .non _ (x1.trans (x2.trans x3)) rel3 .non h2⟩
    ·exact h2.elim
   ·exact h1.elim
  | _=>exact(show False from h1).elim
def zj8:WC:=λds S Q=>match ds with
 | [.tup xs]=>Q (.ref S.length) (S++[.lst xs])
 | [.ref n]=>match lAt S n with
  | some o=>Q (.ref S.length) (S++[.lst (zak o)])
  | none=>False
 | _=>False
theorem znG:za7 X (.type "list") (upC X.K Z zj8):=zm5 zvt λxs H Qv ⟨r,S,ds,Q,rel,ps,q,ret⟩=>by
 unfold zj8 at q
 split at q
 ·rename_i ys
  obtain⟨v,vs,rfl,p1,p2⟩:=ps.uncons
  have z:=p2.unnil
  subst z
  obtain⟨a,zs,rfl,h1,h2⟩:=p1.untup
  refine⟨a,zs,rfl,.inr (SqT.of h1),λl hl=>?_⟩
  obtain⟨rel2,x⟩:=rel.push hl h2
  exact ret _ _ _ (.ref S.length) _ x rel2 (zek rel.len) q
 ·rename_i n
  obtain⟨v,vs,rfl,p1,p2⟩:=ps.uncons
  have z:=p2.unnil
  subst z
  split at q
  ·rename_i o eo
   obtain⟨eo,eL⟩:=zbr eo
   obtain⟨a,ha,ob⟩:=rel.at eo
   cases p1 with
   | ref h1=>
    rw[h1] at ha; cases ha
    obtain⟨ys,sq,pr⟩:=ob.list eL
    refine⟨_,ys,rfl,.inl sq,λl hl=>?_⟩
    obtain⟨rel2,x⟩:=rel.push hl pr
    exact ret _ _ _ (.ref S.length) _ x rel2 (zek rel.len) q
  ·exact q.elim
 ·exact q.elim
def zco:List D→Option (List Bool)
 | []=>some []
 | .bl b::r=>(zco r).map (b::·)
 | _::_=>none
def zhj (g:List Bool→Bool):WC:=λds S Q=>match ds with
 | [.ref n]=>match lAt S n with
  | some o=>match zco (zak o) with
   | some bs=>Q (.bl (g bs)) S
   | none=>False
  | none=>False
 | _=>False
theorem zoW {r:List Addr}{H:Hp}:∀ {ds:List D} {bs:List Bool} {vs:List V} {us:List Value},zco ds=some bs→Rps r H ds vs→zat vs us→us=bs.map Value.bool
 | [],bs,vs,us,e,p,q=>by
  have z:=p.unnil
  subst z
  cases q
  simp[zco] at e
  subst e
  rfl
 | d::ds,bs,vs,us,e,p,q=>by
  obtain⟨v,vs',rfl,p1,p2⟩:=p.uncons
  cases d with
  | bl b=>
   cases p1
   cases q with
   | cons q1 q2=>
    have q1':_=Value.bool b:=q1
    subst q1'
    simp only[zco,Vam] at e
    obtain⟨ms,e1,rfl⟩:=e
    rw[zoW e1 p2 q2]
    rfl
  | _=>simp[zco] at e
theorem zto {bs:List Bool}:(List.range bs.length).all (λi=>bs.getD i false)=bs.all id:=by
 rw[Vbe]
 rw[Vbh,Vbh]
 refine⟨λh b hb=>?_,λh i hi=>?_⟩
 ·obtain⟨i,hi,e⟩:=VaK.mp hb
  have hb':=h i (VaR.mpr hi)
  simpa [hi,e] using hb'
 ·have hi':i<bs.length:=VaR.mp hi
  have:=h bs[i] (VaH hi')
  simpa [hi'] using this
theorem zrS {prog:Program}{w:World}{A:Around}{bs:List Bool}:TruthOf prog w A (λi v=>(bs.map Value.bool).toArray[i]?=some v) λi=>bs.getD i false:=λi v s Q E hP hQ=>by
  have e:(bs.map Value.bool)[i]?=some v:=by simpa using hP
  rw[Vae] at e
  cases q:bs[i]? with
  | none=>
   rw[q] at e
   cases e
  | some b=>
    rw[q] at e
    have z:Value.bool b=v:=by simpa using e
    subst z
    have z2:bs.getD i false=b:=by simp[Vaf,q]
    have hQ':Q (bs.getD i false) s:=hQ
    rw[z2] at hQ'
    exact wpAny_truthy_bool hQ'
theorem zvU {n:Nat}{a:Addr}{o:Ob}{bs:List Bool}{pins:List (Addr×Obj)}{σ:St}{H:Hp}{s:Shared}{r:List Addr}{S:Sto}{Q:DK}{Qv:VK}{E:Value→Shared→Prop}{g:List Bool→Bool}(G:List Nat→(Nat→Bool)→Bool)
  (hG:G (List.range bs.length) (λi=>bs.getD i false)=g bs)(hc:X.calm=true)(I:Inv X pins σ H s)(rel:Rel X.K Z r S H)(hn:r[n]?=some a)(eo:lAt S n=some o)(eb:zco (zak o)=some bs)(q:Q (.bl (g bs)) S)(ret:Ret X.K Z r H Q Qv):
  wpAny (model X.prog X.w) X.A.in1 (pyIter (.ref a)) (λit s₂=>∃I fp wr n P' St tr,it=.ref I∧Walks X.prog X.w X.A.in1 I fp wr n P' St∧St 0 s₂.heap∧TruthOf X.prog X.w X.A.in1 P' tr∧
   ∀h' tk,(∀b o,b ∉ wr→s₂.heap.get? b=some o→h'.get? b=some o)→EP X pins σ Qv (.bool (G (List.range n) tr)) { s₂ with heap:=h',toks:=tk }) E s:=by
 obtain⟨eo,eL⟩:=zbr eo
 obtain⟨a',ha,ob⟩:=rel.at eo
 rw[hn] at ha; cases ha
 obtain⟨ys,sq,pr⟩:=ob.list eL
 obtain⟨its,ri,pl,hz⟩:=I.list sq
 have eits:=zoW eb pr ri
 subst eits
 refine wpAny_pyIter_list pl.isList ?_
 have hne:a≠s.heap.objs.size:=Vap (by
  obtain⟨ob,e,_⟩:=pl.isList
  exact Heap.lt_size e)
 refine⟨s.heap.objs.size,_,_,_,_,_,λi=>bs.getD i false,rfl,Walks.list (show X.A.in1.handled=none from I.ok.hd hc) _ a hne (bs.map Value.bool).toArray,⟨⟨_,Heap.get?_push_size _ rfl,rfl,rfl⟩,pl.isList.at λo e=>Heap.get?_push_of_some _ e⟩,zrS,λh' tk hk=>?_⟩
 have ez:(bs.map Value.bool).toArray.size=bs.length:=by simp
 rw[ez,hG]
 refine⟨.bl (g bs),H,I.kept λb o e=>hk b o (λz=>?_) (Heap.get?_push_of_some _ e),rfl,ret _ _ _ _ _ Ext.refl rel (.bl _) q⟩
 have z':b=s.heap.objs.size:=by simpa using z
 exact absurd (z' ▸ Heap.lt_size e) (VaF _)
theorem zxu {id:String}{g:List Bool→Bool}(rule:∀(pins:List (Addr×Obj)) (σ:St) (H:Hp) (s:Shared) (r:List Addr) (S:Sto) (Q:DK) (Qv:VK) (n:Nat) (a:Addr) (o:Ob) (bs:List Bool),Inv X pins σ H s→Rel X.K Z r S H→r[n]?=some a→lAt S n=some o→zco (zak o)=some bs→
   Q (.bl (g bs)) S→Ret X.K Z r H Q Qv→wpAny (model X.prog X.w) X.A (call (.builtin id) [.ref a]) (EP X pins σ Qv) X.xe s):za7 X (.builtin id) (upC X.K Z (zhj g)):=by
 intro pins s σ H xs us Qv I rv h
 obtain⟨r,S,ds,Q,rel,ps,q,ret⟩:=h
 unfold zhj at q
 split at q
 ·rename_i n
  obtain⟨v,vs,rfl,p1,p2⟩:=ps.uncons
  have z:=p2.unnil
  subst z
  split at q
  ·rename_i o eo
   split at q
   ·rename_i bs eb
    cases p1 with
    | ref h1=>
     obtain⟨u,rfl,ru⟩:=zdJ rv
     cases ru
     exact rule pins σ H s r S Q Qv n _ o bs I rel h1 eo eb q ret
   ·exact q.elim
  ·exact q.elim
 ·exact q.elim
theorem zrg (hc:X.calm=true):za7 X (.builtin "all") (upC X.K Z (zhj λbs=>bs.all id)):=
 zxu λ_ _ _ _ _ _ _ _ _ _ _ _ I rel h1 eo eb q ret=>call_all_walk (zvU (g:=λbs=>bs.all id) (λl f=>l.all f) zto hc I rel h1 eo eb q ret)
@[irreducible] def irr (w:WC):WC:=w
@[irreducible] def zbV (w:W2):W2:=w
theorem zev (w:WC):irr w=w:=by unfold irr; rfl
theorem zcu (w:W2):zbV w=w:=by unfold zbV; rfl
theorem zaW {f:Value}{w:WC}(h:za7 X f (upC X.K Z w)):za7 X f (upC X.K Z (irr w)):=by rw[zev]; exact h
theorem zaH {a b:Expr}{ta tb:TDE}(ha:PD X Z a ta)(hb:PD X Z b tb)(hs:zmU b):PD X Z (.Subscript a b pos) (dOp (zbV wIx) ta tb):=by rw[zcu]; exact zav ha hb hs
theorem zax (S:Sto)(o:Ob):(S++[o])[S.length]?=some o:=by simp
theorem zcQ {S:Sto}{o u:Ob}{n:Nat}(h:S[n]?=some o):(S++[u])[n]?=some o:=by
 rw[Vao (Vab.mp h).1]; exact h
theorem zcY {tl te:TDE}{dl:Ev}{S S1:Sto}{Q:DK}{n:Nat}{o:Ob}(g:D→D)(htl:∀K:DK,K (.ref n) S1→tl dl S K)(h1:S1[n]?=some o)(hl:(zak o).length≤1000)
  (ht:∀x∈zak o,∀(S2:Sto) (K:DK),Pre S1 S2→K (g x) S2→te (some x::zbt caps dl) S2 K)(hq:Q (.ref S1.length) (S1++[.lst ((zak o).map g)]))(hL:zbZ o=some o:=by rfl):zct caps tl zb8 te dl S Q:=by
 unfold zct
 refine htl _ ⟨by rw[zaN h1 hL]; rfl,λk m S2=>S2=S1++[.lst (((zak o).take k).map g)]∧m+k=(zak o).length,⟨(zak o).length,by simp,by omega⟩,?_⟩
 rintro k m S2 ⟨rfl,hm⟩
 rw[zaN (zcQ h1) hL]
 dsimp only
 split
 ·rename_i x hx
  have hk:k<(zak o).length:=(Vab.mp hx).1
  unfold zdo zb8
  simp only[if_true]
  refine ht x (Val hx) _ _ Pre.refl.push ?_
  rw[zax]
  refine⟨by simp; omega,m-1,by omega,?_,by omega⟩
  have e:(zak o).take (k+1)=(zak o).take k++[x]:=by rw[Vba,hx]; rfl
  rw[e,Vav,List.set_append_right _ _ (Vad _)]
  simp
 ·rename_i hx
  have hk:(zak o).length≤k:=VaQ.mp hx
  rw[VaD hk]
  exact hq
theorem zrW {o:Ob}{bs:List Bool}(h:zco (zak o)=some bs):zbZ o=some o:=by
 cases o <;> first | rfl | cases h
theorem zp4 {o:Ob}{xs:List Int}(h:zcc (zak o)=some xs):zbZ o=some o:=by
 cases o <;> first | rfl | cases h
theorem zrd {g:List Bool→Bool}{n:Nat}{S:Sto}{o:Ob}{bs:List Bool}{Q:DK}(h:S[n]?=some o)(hb:zco (zak o)=some bs)(hq:Q (.bl (g bs)) S):irr (zhj g) [.ref n] S Q:=by
 rw[zev]
 unfold zhj
 simp only[zaN h (zrW hb),hb]
 exact hq
theorem zd6 {le:Int→Int→Prop}{two:Int→Int→Int}{n:Nat}{S:Sto}{o:Ob}{xs:List Int}{Q:DK}(h:S[n]?=some o)(hb:zcc (zak o)=some xs)(hne:xs≠[])(hq:∀m,m∈xs→(∀y∈xs,le y m)→Q (.int m) S):irr (zen le two) [.ref n] S Q:=by
 rw[zev]
 unfold zen
 simp only[zaN h (zp4 hb),hb]
 exact⟨hne,hq⟩
theorem zmZ {n:Nat}{S:Sto}{o:Ob}{Q:DK}(h:lAt S n=some o)(hq:Q (.ref S.length) (S++[.lst (zak o)])):irr zj8 [.ref n] S Q:=by
 rw[zev]
 unfold zj8
 simp only[h]
 exact hq
theorem zqp {to te:TDE}{dl:Ev}{S S1:Sto}{Q:DK}{n:Nat}{xs:List D}{y:D}(hto:∀K:DK,K (.ref n) S1→to dl S K)(h:S1[n]?=some (.lst xs))(hte:∀K:DK,K y S1→te dl S1 K)(hl:xs.length<1000)(hq:Q .non (S1.set n (.lst (xs++[y])))):zed to te dl S Q:=by
 unfold zed
 refine hto _ ?_
 simp only[h]
 refine hte _ ?_
 simp only[h]
 exact ifP hl hq
end
theorem zfF {n:Nat}{x y:Int}:Sco n (.tup [.int x,.int y]):=.tup λd hd=>by
 have z:d=.int x∨d=.int y:=by simpa using hd
 rcases z with rfl | rfl <;> exact .int _
open PySem PySem.Spec PyProof.Rows L2 PySem.W Builtin Builtin.ObjectAttr Builtin.Getset_descriptor
structure Nx (K:Frag)(D:Addr):Prop where
 ga:findIn K (.ref D) "__getattribute__"=some (some (.builtin "BaseException.__getattribute__"))
 hk:findIn K (.ref D) "__getattr__"=some none
 ha:findIn K (.ref D) "__class__"=some (some (.builtin "object.__class__"))
 hn:specialIn K (.builtin "object.__class__") "__get__"=some (some (.builtin "getset_descriptor.__get__"))
 ht:takesIn K (.builtin "object.__class__")=some true
 hm:mroIn K D (.type "object")=some true
 hb:mroIn K D (.type "BaseException")=some true
section
variable {X:Cx}{Z:Zx}
end
def eqN:Nat→D→D→Option Bool
 | 0=>eqF
 | k+1=>eqT (eqN k)
theorem zpL:∀k,zfX (eqN k)
 | 0=>zfd
 | k+1=>zpo (zpL k)
theorem zeV:∀k,zdN k (eqN k)
 | 0=>zje 0
 | k+1=>zp6 (zeV k) (zpL k)
def zjZ (k:Nat)(S:Sto):D→D→Option Bool
 | .ref n,.ref m=>match lAt S n,lAt S m with
  | some o,some o'=>eqL (eqN k) (zak o) (zak o')
  | _,_=>none
 | x,y=>eqN (k+1) x y
def zeF (k:Nat):W2:=λx y S Q=>match zjZ k S x y with
 | some b=>Q (.bl (!b)) S
 | none=>False
section
variable {X:Cx}{Z:Zx}
def zb7 (f:D→D→Option Bool):List D→D→Option Bool
 | [],_=>some false
 | y::ys,x=>match f y x,zb7 f ys x with
  | some b,some c=>some (b||c)
  | _,_=>none
def wIn (k:Nat)(neg:Bool):W2:=λx y S Q=>match y with
 | .ref n=>match lAt S n with
  | some o=>match zb7 (eqN k) (zak o) x with
   | some b=>Q (.bl (if neg then !b else b)) S
   | none=>False
  | none=>False
 | _=>False
theorem zo8 {v v':V}{u:Value}(h:zau v u)(h':zau v' u):v=v':=by
 cases v <;> cases v' <;> simp[L2.zau] at h h' <;> first
  | rfl
  | (subst h; simp at h'; subst h'; rfl)
  | (obtain⟨t,rfl⟩:=h; simp at h'; subst h'; rfl)
  | (obtain⟨t,rfl⟩:=h; simp at h')
  | (subst h; simp at h')
  | skip
theorem zhB {r:List Addr}{H:Hp}{d d' x:D}{v:V}{b b':Bool}(p:Rp r H d v)(p':Rp r H d' v)(e:eqF d x=some b)(e':eqF d' x=some b'):b=b':=by
 have z:d=d':=by
  cases p <;> cases p' <;> first
   | rfl
   | (cases x <;> simp[eqF] at e)
   | (cases x <;> simp[eqF] at e')
 subst z
 rw[e] at e'
 exact Option.some.inj e'
theorem zqV {f:D→D→Option Bool}{r:List Addr}{H:Hp}(hf:∀(d d' x:D) (v:V) (b b':Bool),Rp r H d v→Rp r H d' v→f d x=some b→f d' x=some b'→b=b'):
  ∀ {ds ds' zs:List D} {vs:List V} {b b':Bool},Rps r H ds vs→Rps r H ds' vs→eqL f ds zs=some b→eqL f ds' zs=some b'→b=b'
 | [],ds',zs,vs,b,b',p,p',e,e'=>by
  have z:=p.unnil
  subst z
  cases ds' with
  | nil=>rw[e] at e'; exact Option.some.inj e'
  | cons y ys=>exact absurd p'.1 (by simp)
 | d::ds,ds',zs,vs,b,b',p,p',e,e'=>by
  obtain⟨v,vs',rfl,p1,p2⟩:=p.uncons
  cases ds' with
  | nil=>exact absurd p'.1 (by simp)
  | cons d' ds'=>
   obtain⟨q1,q2⟩:=p'.tail
   cases zs with
   | nil=>
    simp only[eqL,Option.some.injEq] at e e'
    exact e.symm.trans e'
   | cons z zs=>
    unfold eqL at e e'
    split at e
    ·rename_i b1 c1 a1 a2
     split at e'
     ·rename_i b2 c2 a3 a4
      have h1:=hf d d' z v b1 b2 p1 q1 a1 a3
      have h2:=zqV hf p2 q2 a2 a4
      subst h1 h2
      simp only[Option.some.injEq] at e e'
      exact e.symm.trans e'
     ·cases e'
    ·cases e
theorem znc:∀(k:Nat) {r:List Addr} {H:Hp} (d d' x:D) (v:V) (b b':Bool),Rp r H d v→Rp r H d' v→eqN k d x=some b→eqN k d' x=some b'→b=b'
 | 0,r,H,d,d',x,v,b,b',p,p',e,e'=>zhB p p' e e'
 | k+1,r,H,d,d',x,v,b,b',p,p',e,e'=>by
  cases p with
  | tup h1 l1 f1=>
   cases p' with
   | tup h2 l2 f2=>
    rw[h1] at h2; cases h2
    cases x with
    | tup zs=>exact zqV (λd d' x v b b'=>znc k d d' x v b b') ⟨l1,f1⟩ ⟨l2,f2⟩ e e'
    | _=>simp[eqN,eqT,eqF] at e
   | ref h=>cases x <;> simp[eqN,eqT,eqF] at e'
   | exc h=>cases x <;> simp[eqN,eqT,eqF] at e'
  | non=>exact zhB (x:=x) .non p' (by cases x <;> exact e) (by cases p' <;> cases x <;> exact e')
  | bl i=>exact zhB (x:=x) (.bl i) p' (by cases x <;> exact e) (by cases p' <;> cases x <;> exact e')
  | int i=>exact zhB (x:=x) (.int i) p' (by cases x <;> exact e) (by cases p' <;> cases x <;> exact e')
  | str i=>exact zhB (x:=x) (.str i) p' (by cases x <;> exact e) (by cases p' <;> cases x <;> exact e')
  | ref h=>cases x <;> simp[eqN,eqT,eqF] at e
  | exc h=>cases x <;> simp[eqN,eqT,eqF] at e
theorem zqO {f:D→D→Option Bool}{x:D}:∀ {ys:List D} {b:Bool},zb7 f ys x=some b→(∀y∈ys,∃c,f y x=some c)∧(b=true↔∃y∈ys,f y x=some true)
 | [],b,e=>by
  simp only[zb7,Option.some.injEq] at e
  subst e
  simp
 | y::ys,b,e=>by
  unfold zb7 at e
  split at e
  ·rename_i b1 c1 e1 e2
   obtain⟨h1,h2⟩:=zqO e2
   simp only[Option.some.injEq] at e
   subst e
   refine⟨λz hz=>?_,?_⟩
   ·rcases Vaw.mp hz with rfl | hz'
    ·exact⟨b1,e1⟩
    ·exact h1 z hz'
   ·rw[Bool.or_eq_true,h2]
    refine⟨λq=>?_,λ⟨z,hz,q⟩=>?_⟩
    ·rcases q with q | ⟨z,hz,q⟩
     ·exact⟨y,Va6,by rw[e1,q]⟩
     ·exact⟨z,VaN _ hz,q⟩
    ·rcases Vaw.mp hz with rfl | hz'
     ·left
      rw[e1] at q
      exact Option.some.inj q
     ·exact .inr ⟨z,hz',q⟩
  ·cases e
theorem zwy {k:Nat}{pins:List (Addr×Obj)}{σ:St}{H:Hp}{s:Shared}{r:List Addr}{A:Around}{ds:List D}{vs:List V}{us:List Value}{dx:D}{x:V}{u:Value}{b:Bool}(I:Inv X pins σ H s)(hu:A.units+k<cLine)
  (p:Rps r H ds vs)(rv:zat vs us)(px:Rp r H dx x)(rx:zau x u)(e:zb7 (eqN k) ds dx=some b):∃g:Value→Bool,(∀y,y∈us.toArray→SeqAt.EqAt A s y u (g y))∧us.toArray.any g=b:=by
 obtain⟨h1,h2⟩:=zqO e
 have at_:∀y∈us,∃d v,d∈ds∧Rp r H d v∧zau v y:=λy hy=>by
  obtain⟨j,hj,ej⟩:=VaK.mp hy
  have hv:j<vs.length:=by rw[rv.length]; exact hj
  have gv:vs[j]?=some vs[j]:=by simp[hv]
  obtain⟨w,gw,rw'⟩:=rv.get gv
  obtain⟨d,gd,pd⟩:=p.get' gv
  have ew:w=y:=by
   rw[Vaa hj,ej] at gw
   exact(Option.some.inj gw).symm
  subst ew
  exact⟨d,_,Val gd,pd,rw'⟩
 classical
 refine⟨λy=>decide (∃d v,d∈ds∧Rp r H d v∧zau v y∧eqN k d dx=some true),λy hy=>?_,?_⟩
 ·obtain⟨d,v,hd,pd,rd⟩:=at_ y (by simpa using hy)
  obtain⟨c,hc⟩:=h1 d hd
  have same:decide (∃d v,d∈ds∧Rp r H d v∧zau v y∧eqN k d dx=some true)=c:=by
   cases c with
   | true=>exact decide_eq_true ⟨d,v,hd,pd,rd,hc⟩
   | false=>
    refine decide_eq_false λ⟨d',v',_,pd',rd',hc'⟩=>?_
    have ev:=zo8 rd rd'
    subst ev
    exact absurd (znc k d d' dx v false true pd pd' hc hc') (by decide)
  show SeqAt.EqAt A s y u (decide _)
  rw[same]
  exact zeV k X pins σ H s r A d dx v x y u c I hu pd px rd rx hc
 ·rw[Vbe,h2,List.any_toArray,List.any_eq_true]
  refine⟨λ⟨y,hy,q⟩=>?_,λ⟨d,hd,q⟩=>?_⟩
  ·obtain⟨d,v,hd,_,_,q'⟩:=of_decide_eq_true q
   exact⟨d,hd,q'⟩
  ·obtain⟨j,hj,ej⟩:=VaK.mp hd
   have gd:ds[j]?=some d:=by simp[hj,ej]
   obtain⟨v,gv,pv⟩:=p.get gd
   obtain⟨w,gw,rw'⟩:=rv.get gv
   exact⟨w,Val gw,decide_eq_true ⟨d,v,hd,pv,rw',q⟩⟩
theorem zul (k:Nat)(hu:X.A.units+1+k<cLine):OpR X (compareOp .NotIn) (upO X.K Z (wIn k true)):=by
 intro pins s σ H x y v u Qv I rx ry h
 obtain⟨r,S,dx,dy,Q,rel,px,py,q,ret⟩:=h
 cases py with
 | @ref n a hn=>
  unfold wIn at q
  dsimp only at q
  split at q
  ·rename_i o eo
   split at q
   ·rename_i b eb
    cases ry
    obtain⟨eo,eL⟩:=zbr eo
    obtain⟨a',ha,ob⟩:=rel.at eo
    rw[hn] at ha; cases ha
    obtain⟨ys,sq,pr⟩:=ob.list eL
    obtain⟨us,ru,pl,_⟩:=I.list sq
    obtain⟨g,g1,g2⟩:=zwy (A:=X.A.in1) I (by show X.A.units+1+k<_; omega) pr ru px rx eb
    refine SeqAt.notIn_listAt g pl.isList g1 ?_
    rw[g2]
    exact⟨.bl (!b),H,I,rfl,ret _ _ _ _ _ Ext.refl rel (.bl (!b)) q⟩
   ·exact q.elim
  ·exact q.elim
 | _=>exact(show False from q).elim
end
section
variable {X:Cx}{Z:Zx}{pos:Pos}
def zfo:List Nat→List D→Ev→Ev
 | i::is,d::ds,dl=>zfo is ds (dl.set i (some d))
 | _,_,dl=>dl
def zmm:List Nat→List V→St→St
 | i::is,v::vs,σ=>zmm is vs (σ.set i (some v))
 | _,_,σ=>σ
theorem zn5 {r:List Addr}{H:Hp}:∀ {is:List Nat} {ds:List D} {vs:List V} {dl:Ev} {σ:St},Rs r H dl σ→Rps r H ds vs→Rs r H (zfo is ds dl) (zmm is vs σ)
 | [],ds,vs,dl,σ,h,p=>by cases ds <;> cases vs <;> exact h
 | i::is,[],vs,dl,σ,h,p=>by
  have z:=p.unnil
  subst z
  exact h
 | i::is,d::ds,vs,dl,σ,h,p=>by
  obtain⟨v,vs',rfl,p1,p2⟩:=p.uncons
  show Rs r H (zfo is ds (dl.set i (some d))) (zmm is vs' (σ.set i (some v)))
  exact zn5 (Rs.set i h p1) p2
inductive Nms (X:Cx):List Expr→List Nat→Prop
 | nil:Nms X [] []
 | cons {x:Str} {p:Pos} {i:Nat} {es:List Expr} {is:List Nat}:X.N[i]?=some x→Loc X.env.scope x→(X.fn x=true∨X.env.scope.names.lookup x=some .local)→Nms X es is→Nms X (.Name x p::es) (i::is)
def zeY (is:List Nat):TGs:=λvs σ H Q=>vs.length=is.length∧Q (zmm is vs σ) H
theorem ze5 (hN:X.N.Nodup):∀ {es:List Expr} {is:List Nat},Nms X es is→PGs X es (zeY is)
 | _,_,.nil=>λpins s σ H vs us Q I r h=>by
  obtain⟨e,h⟩:=h
  have z:vs=[]:=by simpa using e
  subst z
  exact zvq pins s σ H [] us Q I r ⟨rfl,h⟩
 | _,_,.cons (x:=x) (p:=p) (es:=es) (is:=is) h1 h2 h3 t=>λpins s σ H vs us Q I r h=>by
  obtain⟨e,h⟩:=h
  cases vs with
  | nil=>simp at e
  | cons v vs=>exact zsx (zjW hN h1 h2 h3) (ze5 hN t) rfl pins s σ H (v::vs) us Q I r ⟨v,vs,rfl,by simpa using e,h⟩
def dSetT (is:List Nat)(te:TDE):TDS:=λE dl S=>te dl S λd S1=>match d with
 | .tup xs=>xs.length=is.length∧E.nx (zfo is xs dl) S1
 | _=>False
theorem ztg {es:List Expr}{e:Expr}{te:TDE}{k:Nat}{p:Pos}{is:List Nat}(hc:X.calm=true)(hN:X.N.Nodup)(hn:Nms X es is)(he:PD X Z e te)(hlen:(assignEach es X.env).length=is.length:=by rfl)(hst:(assignEach es X.env).findIdx? (·.1)=none:=by rfl)
  (hs:swapsWithSole [.Tuple es k p] e pos.line X.env=pure false:=by rfl)(hw:swappedStores [.Tuple es k p] e X.env=pure none:=by rfl)
  (h1:(assignEach [.Tuple es k p] X.env).map (·.2)=[assign (.Tuple es k p) X.env]:=by rfl):PDS X Z (.Assign [.Tuple es k p] e pos) (dSetT is te):=
 zbS (zpE he (zik hc (ze5 hN hn) hlen hst) hs hw h1) λF σ H ⟨r,dl,S,E,rs,rel,h,ret⟩=>by
  refine⟨r,dl,S,_,rs,rel,h,λv H1 r1 d S1 x1 rel1 p1 q1=>?_⟩
  cases p1 with
  | @tup ds xs a e1 l1 f1=>
   obtain⟨hl,q⟩:=q1
   exact⟨a,xs,rfl,SqT.of e1,by rw[← l1]; exact hl,by rw[← l1]; exact hl,ret.nx _ H1 r1 _ S1 x1 (zn5 (rs.ext x1) ⟨l1,f1⟩) rel1 q⟩
  | _=>exact(show False from q1).elim
end
open PySem L2
theorem zkw (S:Sto)(o u:Ob):(S++[o]).set S.length u=S++[u]:=by simp
section
variable {X:Cx}{Z:Zx}
end
def zpp:Sd:=λ_ _ _ _=>False
def Df.never {P:Program}{w:World}{K:PySem.W.Frag}{mg:Str→Option Value}{base:Heap}{x:Str}{st:Stmt}{ps:List Str}(k:Nat)(d:Df K mg x st ps):Fk P w K mg base k x ps zpp:=
 ⟨d.f,d.fd,⟨λ_ _ _ _ ⟨_,_,_,_,_,_,_,z,_⟩=>z.elim,λ_ _ _ _ _ _ _ _ _ _ _ _ _ ⟨_,_,_,_,_,_,_,z,_⟩=>z.elim⟩,d.m,d.F.kp,d.b⟩
section
variable {X:Cx}{Z:Zx}{pos:Pos}
end
section
variable {X:Cx}{Z:Zx}{elt iter:Expr}{x:Str}{px pos:Pos}{ifs:List Expr}{sc ar:Scope}{N:List Str}{caps:List Nat}
theorem zdY {ta:TDA}{te:TDE}{dl:Ev}{S S1:Sto}{Q:DK}{j:Int}(g:Nat→D)(hta:∀K:List D→Sto→Prop,K [.int j] S1→ta dl S K)(hj:0≤j∧j≤1000)
  (ht:∀k:Nat,k<j.toNat→∀(S2:Sto) (K:DK),Pre S1 S2→K (g k) S2→te (some (.int k)::zbt caps dl) S2 K)(hq:Q (.ref S1.length) (S1++[.lst ((List.range j.toNat).map g)])):zc5 caps ta zb8 te dl S Q:=by
 unfold zc5
 refine hta _ ⟨⟨by omega,by omega⟩,λk S2=>S2=S1++[.lst ((List.range k).map g)]∧k≤j.toNat,⟨by simp,by omega⟩,?_⟩
 rintro k S2 ⟨rfl,hk⟩
 split
 ·rename_i hk'
  unfold zdo zb8
  simp only[if_true]
  refine ht k hk' _ _ Pre.refl.push ?_
  rw[zax]
  refine⟨by simp; omega,?_,by omega⟩
  rw[Vaj,Vav,List.set_append_right _ _ (Vad _)]
  simp
 ·have e:k=j.toNat:=by omega
  subst e
  exact hq
end
section
variable {X:Cx}{Z:Zx}{pos:Pos}
def za4 (zs:List Str):Str:=⟨(zs.flatMap λz=>z.cps.toList).toArray⟩
abbrev TDO:=Ev→Sto→(Option Int→Sto→Prop)→Prop
def upP (K:PySem.W.Frag)(Z:Zx)(t:TDO):TO:=λσ H Q=>∃(r:List Addr) (dl:Ev) (S:Sto) (Q':Option Int→Sto→Prop),Rs r H dl σ∧Rel K Z r S H∧t dl S Q'∧∀o H' r' S',Ext r r' H H'→Rel K Z r' S' H'→Q' o S'→Q o H'
def PDO (X:Cx)(Z:Zx)(e:Option Expr)(t:TDO):Prop:=PO X e (upP X.K Z t)
def zmV:TDO:=λ_ S Q=>Q none S
def zot (t:TDE):TDO:=λdl S Q=>t dl S λd S1=>match d with
 | .int i=>Q (some i) S1
 | _=>False
theorem zq5 {e:Option Expr}{t t':TO}(h:PO X e t)(g:∀σ H Q,t' σ H Q→t σ H Q):PO X e t':=λpins s σ H Q I q=>h pins s σ H Q I (g σ H Q q)
theorem zhE:PDO X Z none zmV:=zq5 zyG λσ H Q ⟨r,dl,S,Q',rs,rel,h,ret⟩=>ret none H r S Ext.refl rel h
theorem zew {e:Expr}{t:TDE}(he:PD X Z e t):PDO X Z (some e) (zot t):=zq5 (zye he) λσ H Q ⟨r,dl,S,Q',rs,rel,h,ret⟩=>⟨r,dl,S,_,rs,rel,h,λv H1 r1 d S1 e1 rel1 p1 q1=>by
 cases p1 with
 | int i=>exact⟨i,rfl,ret (some i) H1 r1 S1 e1 rel1 q1⟩
 | _=>exact(show False from q1).elim⟩
end
section
variable {X:Cx}{Z:Zx}
end
section
variable {X:Cx}{Z:Zx}
end
theorem zaG {n:Nat}{S:Sto}{o:Ob}{Q:DK}{i:Int}{d:D}(ho:S[n]?=some o)(hd:atI (zak o) i=some d)(hq:Q d S)(hL:zbZ o=some o:=by rfl):zbV wIx (.ref n) (.int i) S Q:=by
 rw[zcu]
 unfold wIx
 simp only[zaN ho hL,hd]
 exact hq
def ze9 (f:Str)(v:D):List (Str×D)→List (Str×D)
 | []=>[(f,v)]
 | p::r=>if p.1=f then (f,v)::r else p::ze9 f v r
theorem FR.lookup {r:List Addr}{H:Hp}{f:Str}:∀ {fs:List (Str×D)} {fs':List (Str×V)},FR r H fs fs'→(∀d,fs.lookup f=some d→∃v,fs'.lookup f=some v∧Rp r H d v)∧(fs.lookup f=none→fs'.lookup f=none)
 | [],fs',h=>by
  have e:fs'=[]:=by
   have:=h.1
   simpa using this.symm
  subst e
  exact⟨λd z=>by simp at z,λ_=>rfl⟩
 | p::fs,[],h=>by
  have:=h.1
  simp at this
 | p::fs,q::fs',h=>by
  obtain⟨h1,h2⟩:=h
  simp only[Vas,List.cons.injEq] at h1
  obtain⟨p1,p2⟩:=h2.tail
  obtain⟨i1,i2⟩:=FR.lookup (f:=f) (fs:=fs) (fs':=fs') ⟨h1.2,p2⟩
  obtain⟨pk,pv⟩:=p
  obtain⟨qk,qv⟩:=q
  have ek:pk=qk:=h1.1
  subst ek
  by_cases z:f=pk
  ·subst z
   simp only[List.lookup_cons_self]
   exact⟨λd hd=>⟨qv,rfl,by cases hd; exact p1⟩,λhd=>by cases hd⟩
  ·have zb:(f==pk)=false:=by simpa using z
   simp only[Van,zb]
   exact⟨i1,i2⟩
theorem FR.put {r:List Addr}{H:Hp}{f:Str}{d:D}{v:V}(q:Rp r H d v):∀ {fs:List (Str×D)} {fs':List (Str×V)},FR r H fs fs'→FR r H (ze9 f d fs) (zbw f v fs')
 | [],fs',h=>by
  have e:fs'=[]:=by
   have:=h.1
   simpa using this.symm
  subst e
  exact⟨rfl,Rps.cons q Rps.nil⟩
 | p::fs,[],h=>by
  have:=h.1
  simp at this
 | p::fs,p'::fs',h=>by
  obtain⟨h1,h2⟩:=h
  simp only[Vas,List.cons.injEq] at h1
  obtain⟨p1,p2⟩:=h2.tail
  have ih:=FR.put (f:=f) q (fs:=fs) (fs':=fs') ⟨h1.2,p2⟩
  obtain⟨pk,pv⟩:=p
  obtain⟨qk,qv⟩:=p'
  have ek:pk=qk:=h1.1
  subst ek
  unfold ze9 zbw
  by_cases z:pk=f
  ·rw[if_pos z,if_pos z]
   exact⟨by simp[h1.2,z],Rps.cons q p2⟩
  ·rw[if_neg z,if_neg z]
   exact⟨by simp[ih.1],Rps.cons p1 ih.2⟩
section
variable {X:Cx}{Z:Zx}{pos:Pos}
def zc9 (C:Addr)(S:Sto):D→Option (Nat×List (Str×D))
 | .ref n=>match S[n]? with
  | some (.ins C' fs)=>if C'=C then some (n,fs) else none
  | _=>none
 | _=>none
theorem zn4 {C:Addr}{S:Sto}{d:D}{n:Nat}{fs:List (Str×D)}(h:zc9 C S d=some (n,fs)):d=.ref n∧S[n]?=some (.ins C fs):=by
 unfold zc9 at h
 split at h
 ·split at h
  ·rename_i m _ C' fs' e
   split at h
   ·rename_i ec
    subst ec
    simp only[Option.some.injEq,Prod.mk.injEq] at h
    obtain⟨rfl,rfl⟩:=h
    exact⟨rfl,e⟩
   ·cases h
  ·cases h
 ·cases h
@[irreducible] def zkl (C:Addr)(f:Str)(to:TDE):TDE:=λdl S Q=>to dl S λd S1=>match zc9 C S1 d with
 | some (_,fs)=>match fs.lookup f with
  | some v=>Q v S1
  | none=>False
 | none=>False
theorem za6 {C:Addr}{f:Str}{o:Expr}{to:TDE}(c:Cls X.K C)(n:zbz X.K C f)(ho:PD X Z o to)(hb:attributeBase o f X.env (eval o X.env)=eval o X.env:=by rfl):PD X Z (.Attribute o f pos) (zkl C f to):=
 zaY (zvz ho hb) λσ H Qv ⟨r,dl,S,Q,rs,rel,h,ret⟩=>by unfold zkl at h; exact⟨r,dl,S,_,rs,rel,h,λv H1 r1 d S1 e1 rel1 p1 q1=>by
  split at q1
  ·rename_i m fs ei
   obtain⟨rfl,eS⟩:=zn4 ei
   split at q1
   ·rename_i w ew
    obtain⟨a,ha,ob⟩:=rel1.at eS
    obtain⟨dx,fs',eH,fr⟩:=ob
    cases p1 with
    | ref hr=>
     rw[hr] at ha; cases ha
     obtain⟨u,hu,pu⟩:=fr.lookup.1 w ew
     exact⟨a,C,dx,fs',u,rfl,eH,c,n,hu,ret u H1 r1 w S1 e1 rel1 pu q1⟩
   ·exact q1.elim
  ·exact q1.elim⟩
@[irreducible] def zl7 (C:Addr)(f:Str)(to te:TDE):TDS:=λE dl S=>te dl S λv S1=>to dl S1 λd S2=>match zc9 C S2 d with
 | some (n,fs)=>fs.length<1000∧E.nx dl (S2.set n (.ins C (ze9 f v fs)))
 | none=>False
theorem zc0 {C:Addr}{f:Str}{o e:Expr}{to te:TDE}{p2:Pos}(c:Cls X.K C)(n:zbz X.K C f)(ho:PD X Z o to)(he:PD X Z e te)
  (hs:swapsWith e (some (.Attribute o f p2)) pos.line X.env=pure false:=by rfl):PDS X Z (.Assign [.Attribute o f p2] e pos) (zl7 C f to te):=
 zbS (zwr ho he hs) λF σ H ⟨r,dl,S,E,rs,rel,h,ret⟩=>by unfold zl7 at h; exact⟨r,dl,S,_,rs,rel,h,λv H1 r1 dv S1 e1 rel1 p1 q1=>⟨r1,dl,S1,_,rs.ext e1,rel1,q1,λw H2 r2 d S2 e2 rel2 p2' q2=>by
  split at q2
  ·rename_i m fs ei
   obtain⟨rfl,eS⟩:=zn4 ei
   obtain⟨hl,q2⟩:=q2
   obtain⟨a,ha,ob⟩:=rel2.at eS
   obtain⟨dx,fs',eH,fr⟩:=id ob
   cases p2' with
   | ref hr=>
    rw[hr] at ha; cases ha
    have hlen:fs'.length=fs.length:=by
     have:=congrArg List.length fr.1
     simpa using this.symm
    obtain⟨rb,x⟩:=rel2.b.setO (o':=.ins C (ze9 f dv fs)) (u:=.ins C dx (zbw f v fs')) hr eS rfl rfl λx=>⟨dx,_,zcK,(fr.put (p1.ext e2)).ext x⟩
    exact⟨a,C,dx,fs',rfl,eH,c,n,by omega,ret.nx _ _ r2 _ _ (e1.trans (e2.trans x)) (rs.ext (e1.trans (e2.trans x))) ⟨rb,rel2.xw.ext x⟩ q2⟩
  ·exact q2.elim⟩⟩
@[irreducible] def zlO (C:Addr)(m:Str)(ex:Ev→Addr→Sto→Prop)(sd:Sd)(to:TDE)(t:TDA):TDE:=λdl S Q=>to dl S λd S1=>match zc9 C S1 d with
 | some (_,fs)=>fs.lookup m=none∧t dl S1 λds S2=>sd (d::ds) S2 Q (ex dl)
 | none=>False
theorem ztw {C:Addr}{m:Str}{f:Addr}{fd:FuncData}{k:Nat}{ps:List Str}{sp:Sp}{W:St→XK}{o e:Expr}{es:List Expr}{ta:TE}{t:TA}{apos:Pos}{pl:Sem Bool}(he:PE X o ta)(c:Cls X.K C)(hm:zfi X.K C m f)
  (F:za5 X.prog X.w X.K X.mg X.base (CXE X.prog X.w) k f fd ps sp)(hr:zaK k X.A)(hb:zbI X.K fd ps [])(hx:zdF X W)(ha:PA X (e::es) t)(hst:starEach (e::es) X.env=(false,eval e X.env)::starEach es X.env)(hpl:(backTo pos (starEach es X.env)).any (·.1)=false)
  (ht:eval (.Call (.Attribute o m apos) (e::es) [] pos) X.env=(do
   let ov ← eval o X.env
   standAt apos.atName
   let (f,first) ← holding [ov] (getMethod ov m pl)
   callWith pos f first (backTo pos (starEach (e::es) X.env)) (backToKw pos (keywordEach [] X.env)))):
  PE X (.Call (.Attribute o m apos) (e::es) [] pos) (λσ H Q=>ta σ H λx H1=>∃a dx fs,x=.ref a∧H1 a=some (.ins C dx fs)∧fs.lookup m=none∧t σ H1 λvs H2=>sp (x::vs) H2 Q (W σ)):=by
 intro pins s σ H Q I h
 refine PySem.W.methodCall_KW (pl:=pl) (thn (he pins s σ H _ I h) λu s1 ⟨x,H1,I1,rx,a,dx,fs,ex,ea,l,q⟩=>?_) ht
 subst ex
 obtain rfl:u=Value.ref a:=rx
 refine zpf I1 ea c hm l ?_
 exact PySem.W.callWith_K (first:=[.ref a]) (h₀:=X.base) I.ok.mod.kin hm.kp (thn (ha pos pins s1 σ H1 _ I1 q) λus s2 ⟨vs,H2,I2,r,q2⟩=>⟨I2.kIn,znz (us:=.ref a::us) (vs:=.ref a::vs) F hr hb hx I2 (.cons rfl r) q2⟩) hst hpl
theorem zpU {C:Addr}{r:List Addr}{S:Sto}{H:Hp}{d:D}{v:V}{n:Nat}{fs:List (Str×D)}(rel:zaU X.K r S H)(p:Rp r H d v)(h:zc9 C S d=some (n,fs)):∃a dx fs',v=.ref a∧r[n]?=some a∧H a=some (.ins C dx fs')∧FR r H fs fs':=by
 obtain⟨rfl,eS⟩:=zn4 h
 obtain⟨a,ha,dx,fs',eH,fr⟩:=rel.at eS
 cases p with
 | ref hr=>
  rw[hr] at ha; cases ha
  exact⟨a,dx,fs',rfl,hr,eH,fr⟩
theorem zov {C:Addr}{m:Str}{f:Addr}{fd:FuncData}{k:Nat}{ps:List Str}{sd:Sd}{o e:Expr}{es:List Expr}{to:TDE}{t:TDA}{apos:Pos}{pl:Sem Bool}{ex:Ev→Addr→Sto→Prop}{W:St→XK}(ho:PD X ⟨ex,W⟩ o to)(c:Cls X.K C)(hm:zfi X.K C m f)
  (F:za5 X.prog X.w X.K X.mg X.base (CXE X.prog X.w) k f fd ps (upF X.K sd))(hr:zaK k X.A)(hb:zbI X.K fd ps [])(hx:zdF X W)(ha:PDA X ⟨ex,W⟩ (e::es) t)
  (hst:starEach (e::es) X.env=(false,eval e X.env)::starEach es X.env:=by rfl)(hpl:(backTo pos (starEach es X.env)).any (·.1)=false:=by rfl)
  (ht:eval (.Call (.Attribute o m apos) (e::es) [] pos) X.env=(do
   let ov ← eval o X.env
   standAt apos.atName
   let (f,first) ← holding [ov] (getMethod ov m pl)
   callWith pos f first (backTo pos (starEach (e::es) X.env)) (backToKw pos (keywordEach [] X.env))):=by rfl):PD X ⟨ex,W⟩ (.Call (.Attribute o m apos) (e::es) [] pos) (zlO C m ex sd to t):=
 zaY (ztw ho c hm F hr hb hx ha hst hpl ht) λσ H Qv ⟨r,dl,S,Q,rs,rel,h,ret⟩=>by unfold zlO at h; exact⟨r,dl,S,_,rs,rel,h,λv H1 r1 d S1 e1 rel1 p1 q1=>by
  split at q1
  ·rename_i n fs ei
   obtain⟨hl,q1⟩:=q1
   obtain⟨a,dx,fs',rfl,hr1,eH,fr⟩:=zpU rel1.b p1 ei
   exact⟨a,dx,fs',rfl,eH,fr.lookup.2 hl,r1,dl,S1,_,rs.ext e1,rel1,q1,λvs H2 r2 ds S2 e2 rel2 p2 q2=>zne (Z:=⟨ex,W⟩) (rs.ext (e1.trans e2)) rel2 (Rps.cons (p1.ext e2) p2) q2 (ret.ext (e1.trans e2))⟩
  ·exact q1.elim⟩
def dMake (C:Addr)(ex:Addr→Sto→Prop)(sd:Sd)(t:TDA):TDE:=λdl S Q=>t dl S λds S1=>sd (.ref S1.length::ds) (S1++[.ins C []]) (λd S2=>d=.non∧Q (.ref S1.length) S2) ex
theorem zxd {C x dx:Addr}{r:List Addr}{S:Sto}{H:Hp}(rel:Rel X.K Z r S H)(h1:H x=none)(h2:H dx=none)(h3:dx≠x):
  Rel X.K Z (r++[x]) (S++[.ins C []]) (upd (upd H dx (.own x)) x (.ins C dx []))∧Ext r (r++[x]) H (upd (upd H dx (.own x)) x (.ins C dx [])):=by
 obtain⟨rb,e⟩:=rel.b.pushO (o:=.ins C []) (H':=upd (upd H dx (.own x)) x (.ins C dx [])) h1 (λb u q=>by rw[za0 (zdM q h1),za0 (zdM q h2)]; exact q) λ_=>⟨dx,[],zcK,FR.nil⟩
 exact⟨⟨rb,rel.xw.ext e⟩,e⟩
theorem zyh {C x:Addr}{r r':List Addr}{n:Nat}{H H':Hp}{Z:Zx}{K:PySem.W.Frag}{Q:DK}{Qv:VK}(ret:Ret K Z r H Q Qv)(e:Ext r r' H H')(hx:r'[n]?=some x):
  Ret K Z r' H' (λd S2=>d=.non∧Q (.ref n) S2) (λv H2=>v=.non∧Qv (.ref x) H2):=λv H2 r2 d S2 e2 rel2 p2 q2=>by
 obtain⟨rfl,q2⟩:=q2
 cases p2
 exact⟨rfl,ret _ H2 r2 (.ref n) S2 (e.trans e2) rel2 (.ref (e2.adr _ _ hx)) q2⟩
theorem zf7 {C f:Addr}{fd:FuncData}{k:Nat}{ps:List Str}{sd:Sd}{ex:Addr→Sto→Prop}{W:XK}{x:Str}{p:Pos}{e:Expr}{es:List Expr}{t:TDA}(M:Mk X.K C f)
  (F:za5 X.prog X.w X.K X.mg X.base (CXE X.prog X.w) k f fd ps (upF X.K sd))(hr:zaK (k+1) X.A)(hg:Gl X x)(hm:X.mg x=some (.ref C))(hb:zbI X.K fd ps [])(hx:zml (CXE X.prog X.w) X W)(ha:PDA X (Zc ex W) (e::es) t)
  (hdb:(x==("__debug__":Str))=false:=by decide)(he:starEach (e::es) X.env=(false,eval e X.env)::starEach es X.env:=by rfl)(hpl:(backTo pos (starEach es X.env)).any (·.1)=false:=by rfl):
  PD X (Zc ex W) (.Call (.Name x p) (e::es) [] pos) (dMake C ex sd t):=
 zaY (zxF M F hr hg hm hb .nil hx ha hdb he hpl) λσ H Qv ⟨r,dl,S,Q,rs,rel,h,ret⟩=>⟨r,dl,S,_,rs,rel,h,λvs H1 r1 ds S1 e1 rel1 p1 q1=>λx dx n1 n2 n3=>by
  obtain⟨rel2,e2⟩:=zxd (C:=C) rel1 n1 n2 n3
  show upF X.K sd (.ref x::(vs++[])) _ _ W
  rw[Va0]
  exact⟨ex,_,_,.ref S1.length::ds,_,rel2,Rps.cons (zek rel1.len) (p1.ext e2),q1,zyh (C:=C) ret (e1.trans e2) (zif rel1.len)⟩⟩
end
section
variable {κ:Type} [DecidableEq κ]
def zee (kvs:List (κ×D))(k:κ):Option D:=(kvs.find? λkv=>decide (kv.1=k)).map (·.2)
def zqb (kvs:List (κ×D))(k:κ)(v:D):List (κ×D):=
 if (kvs.any λkv=>decide (kv.1=k))=true then kvs.map (λkv=>if kv.1=k then (kv.1,v) else kv) else kvs++[(k,v)]
theorem FR.split {r:List Addr}{H:Hp}{p:κ×D}{fs:List (κ×D)}{gs:List (κ×V)}(h:FR r H (p::fs) gs):∃q gs',gs=q::gs'∧p.1=q.1∧Rp r H p.2 q.2∧FR r H fs gs':=by
 cases gs with
 | nil=>
  have:=h.1
  simp at this
 | cons q gs'=>
  obtain⟨h1,h2⟩:=h
  simp only[Vas,List.cons.injEq] at h1
  obtain⟨p1,p2⟩:=h2.tail
  exact⟨q,gs',rfl,h1.1,p1,h1.2,p2⟩
theorem FR.unnil {r:List Addr}{H:Hp}{gs:List (κ×V)}(h:FR r H ([]:List (κ×D)) gs):gs=[]:=by
 have:=h.1
 simpa using this.symm
theorem FR.cons {r:List Addr}{H:Hp}{k:κ}{d:D}{v:V}{fs:List (κ×D)}{gs:List (κ×V)}(p:Rp r H d v)(h:FR r H fs gs):FR r H ((k,d)::fs) ((k,v)::gs):=⟨by simp[h.1],Rps.cons p h.2⟩
theorem FR.val {r:List Addr}{H:Hp}{k:κ}:∀ {fs:List (κ×D)} {gs:List (κ×V)},FR r H fs gs→(∀d,zee fs k=some d→∃v,zch gs k=some v∧Rp r H d v)∧(zee fs k=none→zch gs k=none)
 | [],gs,h=>by
  have z:=h.unnil
  subst z
  exact⟨(λd e=>by cases e),λ_=>rfl⟩
 | p::fs,gs,h=>by
  obtain⟨q,gs',rfl,e,pr,t⟩:=h.split
  obtain⟨i1,i2⟩:=FR.val (k:=k) t
  by_cases z:p.1=k
  ·have z':q.1=k:=e.symm.trans z
   rw[zkq z']
   have zd:zee (p::fs) k=some p.2:=by simp[zee,Va2,z]
   rw[zd]
   exact⟨λd hd=>⟨q.2,rfl,by cases hd; exact pr⟩,λhd=>by cases hd⟩
  ·have z':¬ q.1=k:=λy=>z (e.trans y)
   rw[zlA z']
   have zd:zee (p::fs) k=zee fs k:=by simp[zee,Va2,z]
   rw[zd]
   exact⟨i1,i2⟩
theorem FR.putK {r:List Addr}{H:Hp}{k:κ}{d:D}{v:V}{fs:List (κ×D)}{gs:List (κ×V)}(p:Rp r H d v)(h:FR r H fs gs):FR r H (zqb fs k d) (putK gs k v):=by
 have any:∀ {fs:List (κ×D)} {gs:List (κ×V)},FR r H fs gs→(fs.any λkv=>decide (kv.1=k))=(gs.any λkv=>decide (kv.1=k)):=by
  intro fs
  induction fs with
  | nil=>intro gs h; have z:=h.unnil; subst z; rfl
  | cons q fs ih=>
   intro gs h
   obtain⟨q',gs',rfl,e,_,t⟩:=h.split
   rw[List.any_cons,List.any_cons,ih t,e]
 have mp:∀ {fs:List (κ×D)} {gs:List (κ×V)},FR r H fs gs→FR r H (fs.map λkv=>if kv.1=k then (kv.1,d) else kv) (gs.map λkv=>if kv.1=k then (kv.1,v) else kv):=by
  intro fs
  induction fs with
  | nil=>intro gs h; have z:=h.unnil; subst z; exact FR.nil
  | cons q fs ih=>
   intro gs h
   obtain⟨q',gs',rfl,e,pr,t⟩:=h.split
   rw[Vas,Vas]
   obtain⟨qk,qd⟩:=q
   obtain⟨qk',qv⟩:=q'
   have e':qk=qk':=e
   subst e'
   by_cases z:qk=k
   ·rw[if_pos z,if_pos z]; exact FR.cons p (ih t)
   ·rw[if_neg z,if_neg z]; exact FR.cons pr (ih t)
 have ap:∀ {fs:List (κ×D)} {gs:List (κ×V)},FR r H fs gs→FR r H (fs++[(k,d)]) (gs++[(k,v)]):=by
  intro fs
  induction fs with
  | nil=>intro gs h; have z:=h.unnil; subst z; exact FR.cons p FR.nil
  | cons q fs ih=>
   intro gs h
   obtain⟨q',gs',rfl,e,pr,t⟩:=h.split
   obtain⟨qk,qd⟩:=q
   obtain⟨qk',qv⟩:=q'
   have e':qk=qk':=e
   subst e'
   exact FR.cons pr (ih t)
 unfold zqb L2.putK
 rw[any h]
 split
 ·exact mp h
 ·exact ap h
end
section
variable {X:Cx}{Z:Zx}{pos:Pos}
end
section
variable {X:Cx}{Z:Zx}{pos:Pos}
def zbk (xs:List D)(lo hi:Option Int):List D:=(xs.drop (HT.sIx xs.length 0 lo)).take (HT.sIx xs.length xs.length hi-HT.sIx xs.length 0 lo)
theorem Rps.drop {r:List Addr}{H:Hp}{ds:List D}{vs:List V}(h:Rps r H ds vs)(k:Nat):Rps r H (ds.drop k) (vs.drop k):=
 ⟨by simp[h.1],λi d v h1 h2=>h.2 (k+i) d v (by simpa using h1) (by simpa using h2)⟩
theorem Rps.take {r:List Addr}{H:Hp}{ds:List D}{vs:List V}(h:Rps r H ds vs)(k:Nat):Rps r H (ds.take k) (vs.take k):=by
 refine⟨by simp[h.1],λi d v h1 h2=>?_⟩
 rw[List.getElem?_take] at h1 h2
 split at h1
 ·rw[if_pos (by assumption)] at h2
  exact h.2 i d v h1 h2
 ·cases h1
theorem Rps.cut {r:List Addr}{H:Hp}{ds:List D}{vs:List V}(h:Rps r H ds vs)(lo hi:Option Int):Rps r H (zbk ds lo hi) (zeM vs lo hi):=by
 unfold zbk zeM
 rw[h.1]
 exact(h.drop _).take _
@[irreducible] def ze0 (te:TDE)(tl th:TDO):TDE:=λdl S Q=>te dl S λd S1=>tl dl S1 λl S2=>th dl S2 λu S3=>match d with
 | .ref n=>match lAt S3 n with
  | some o=>Q (.ref S3.length) (S3++[.lst (zbk (zak o) l u)])
  | none=>False
 | _=>False
theorem ze7 {e:Expr}{te:TDE}{lo hi:Option Expr}{tl th:TDO}{p2:Pos}(he:PD X Z e te)(hl:PDO X Z lo tl)(hu:PDO X Z hi th):PD X Z (.Subscript e (.Slice lo hi none p2) pos) (ze0 te tl th):=
 zaY (zuw zt3 he hl hu) λσ H Qv ⟨r,dl,S,Q,rs,rel,h,ret⟩=>by
  unfold ze0 at h
  refine⟨r,dl,S,_,rs,rel,h,λv H1 r1 d S1 e1 rel1 p1 q1=>⟨r1,dl,S1,_,rs.ext e1,rel1,q1,λl H2 r2 S2 e2 rel2 q2=>⟨r2,dl,S2,_,rs.ext (e1.trans e2),rel2,q2,λu H3 r3 S3 e3 rel3 q3=>?_⟩⟩⟩
  cases p1 with
  | @ref n a hn=>
   dsimp only at q3
   split at q3
   ·rename_i o eo
    obtain⟨eo,eL⟩:=zbr eo
    obtain⟨a',ha,ob⟩:=rel3.at eo
    rw[e3.adr _ _ (e2.adr _ _ hn)] at ha; cases ha
    obtain⟨xs,sq,pr⟩:=ob.list eL
    refine⟨a,xs,rfl,sq,λp hp=>?_⟩
    obtain⟨rel4,x⟩:=rel3.push hp (pr.cut l u)
    exact ret _ _ _ (.ref S3.length) _ (e1.trans (e2.trans (e3.trans x))) rel4 (zek rel3.len) q3
   ·exact q3.elim
  | _=>exact(show False from q3).elim
theorem ze6 {te:TDE}{tl th:TDO}{dl:Ev}{S S3:Sto}{Q:DK}{n:Nat}{o:Ob}{lo hi:Option Int}(h:∀K:DK,K (.ref n) S3→te dl S K)(hl:∀K:Option Int→Sto→Prop,K lo S3→tl dl S3 K)(hh:∀K:Option Int→Sto→Prop,K hi S3→th dl S3 K)(ho:S3[n]?=some o)
  (hq:Q (.ref S3.length) (S3++[.lst (zbk (zak o) lo hi)]))(hL:zbZ o=some o:=by rfl):ze0 te tl th dl S Q:=by
 unfold ze0
 refine h _ (hl _ (hh _ ?_))
 simp only[zaN ho hL]
 exact hq
end
section
variable {X:Cx}{Z:Zx}{pos:Pos}
theorem Rps.put {r:List Addr}{H:Hp}{ds:List D}{vs:List V}{d:D}{v:V}(h:Rps r H ds vs)(p:Rp r H d v)(j:Nat):Rps r H (ds.set j d) (vs.set j v):=by
 refine⟨by simp[h.1],λi x y h1 h2=>?_⟩
 by_cases z:j=i
 ·subst z
  have hl:j<ds.length:=by
   have:=(Vab.mp h1).1
   simpa using this
  rw[VaV hl] at h1
  rw[VaV (by rw[← h.1]; exact hl)] at h2
  cases h1
  cases h2
  exact p
 ·rw[VaB z] at h1 h2
  exact h.2 i x y h1 h2
@[irreducible] def zfR (to ti te:TDE):TDS:=λE dl S=>te dl S λv S1=>to dl S1 λd S2=>ti dl S2 λi S3=>match d,i with
 | .ref n,.int k=>match S3[n]? with
  | some (.lst xs)=>match ixN xs.length k with
   | some j=>E.nx dl (S3.set n (.lst (xs.set j v)))
   | none=>False
  | _=>False
 | _,_=>False
theorem zh4 {o i e:Expr}{to ti te:TDE}{p2:Pos}(ho:PD X Z o to)(hi:PD X Z i ti)(he:PD X Z e te)
  (hs:swapsWithSole [.Subscript o i p2] e pos.line X.env=pure false:=by rfl)(hw:swappedStores [.Subscript o i p2] e X.env=pure none:=by rfl)(h1:(assignEach [.Subscript o i p2] X.env).map (·.2)=[assign (.Subscript o i p2) X.env]:=by rfl)
  (ha:∀v,assign (.Subscript o i p2) X.env v=(do let ov ← holding [v] (eval o X.env); let iv ← holding [v,ov] (eval i X.env); standAt p2; holding [v,ov,iv] (setItem ov iv v); release [v,ov,iv] []):=by intro _; rfl):PDS X Z (.Assign [.Subscript o i p2] e pos) (zfR to ti te):=
 zbS (zpE he (zyb ho hi ztm ha) hs hw h1) λF σ H ⟨r,dl,S,E,rs,rel,h,ret⟩=>by
  unfold zfR at h
  refine⟨r,dl,S,_,rs,rel,h,λv H1 r1 dv S1 e1 rel1 p1 q1=>⟨r1,dl,S1,_,rs.ext e1,rel1,q1,λx H2 r2 d S2 e2 rel2 pd q2=>⟨r2,dl,S2,_,rs.ext (e1.trans e2),rel2,q2,λy H3 r3 di S3 e3 rel3 pi q3=>?_⟩⟩⟩
  cases pd with
  | @ref n a hn=>
   cases pi with
   | int k=>
    dsimp only at q3
    split at q3
    ·rename_i xs eS
     split at q3
     ·rename_i j ej
      have hn3:=e3.adr _ _ hn
      obtain⟨ys,eH,pr⟩:=rel3.b.ob n a _ hn3 eS
      obtain⟨rel4,x4⟩:=rel3.set hn3 eS (pr.put (p1.ext (e2.trans e3)) j)
      exact⟨a,ys,k,j,rfl,rfl,eH,by rw[← pr.1]; exact ej,ret.nx _ _ r3 _ _ (e1.trans (e2.trans (e3.trans x4))) (rs.ext (e1.trans (e2.trans (e3.trans x4)))) rel4 q3⟩
     ·exact q3.elim
    ·exact q3.elim
   | _=>exact(show False from q3).elim
  | _=>exact(show False from q3).elim
def zdu (f:D→D→Option Bool):List D→D→Option (Option Nat)
 | [],_=>some none
 | y::ys,x=>match f y x,zdu f ys x with
  | some true,some _=>some (some 0)
  | some false,some o=>some (o.map (·+1))
  | _,_=>none
theorem zmW {f:D→D→Option Bool}{x:D}:∀ {ys:List D} {o:Option Nat},zdu f ys x=some o→(∀y∈ys,∃c,f y x=some c)∧∀j,o=some j→(∃y,ys[j]?=some y∧f y x=some true)∧∀m y,m<j→ys[m]?=some y→f y x=some false
 | [],o,e=>by
  have h:=Option.some.inj e
  subst h
  exact⟨(λy hy=>by cases hy),λj z=>by cases z⟩
 | y::ys,o,e=>by
  unfold zdu at e
  split at e
  ·rename_i o1 e1 e2
   have h:=Option.some.inj e
   subst h
   obtain⟨h1,_⟩:=zmW e2
   refine⟨λz hz=>?_,λj hj=>?_⟩
   ·rcases Vaw.mp hz with rfl | hz
    ·exact⟨true,e1⟩
    ·exact h1 z hz
   ·cases hj
    exact⟨⟨y,rfl,e1⟩,λm z hm=>by omega⟩
  ·rename_i o1 e1 e2
   have h:=Option.some.inj e
   subst h
   obtain⟨h1,h2⟩:=zmW e2
   refine⟨λz hz=>?_,λj hj=>?_⟩
   ·rcases Vaw.mp hz with rfl | hz
    ·exact⟨false,e1⟩
    ·exact h1 z hz
   ·obtain⟨k,rfl,rfl⟩:=Vam.mp hj
    obtain⟨⟨z,hz1,hz2⟩,h3⟩:=h2 k rfl
    refine⟨⟨z,by simpa using hz1,hz2⟩,λm w hm hw=>?_⟩
    cases m with
    | zero=>
     have:w=y:=by simpa using hw.symm
     rw[this]; exact e1
    | succ m=>exact h3 m w (by omega) (by simpa using hw)
  ·cases e
theorem zyF {k:Nat}{pins:List (Addr×Obj)}{σ:St}{H:Hp}{s:Shared}{r:List Addr}{A:Around}{ds:List D}{vs:List V}{us:List Value}{dx:D}{x:V}{u:Value}{j:Nat}(I:Inv X pins σ H s)(hu:A.units+k<cLine)
  (p:Rps r H ds vs)(rv:zat vs us)(px:Rp r H dx x)(rx:zau x u)(e:zdu (eqN k) ds dx=some (some j)):
  ∃g:Value→Bool,(∀y,y∈us.toArray→SeqAt.EqAt A s y u (g y))∧∃hj:j<us.toArray.size,g us.toArray[j]=true∧∀m (hm:m<us.toArray.size),m<j→g us.toArray[m]=false:=by
 obtain⟨h1,h2⟩:=zmW e
 obtain⟨⟨yj,hyj,htj⟩,hno⟩:=h2 j rfl
 classical
 have at_:∀(m:Nat) (hm:m<us.length),∃d v,ds[m]?=some d∧Rp r H d v∧zau v us[m]:=λm hm=>by
  have hv:m<vs.length:=by rw[rv.length]; exact hm
  have gv:vs[m]?=some vs[m]:=by simp[hv]
  obtain⟨w,gw,rw'⟩:=rv.get gv
  obtain⟨d,gd,pd⟩:=p.get' gv
  have ew:w=us[m]:=by
   rw[Vaa hm] at gw
   exact(Option.some.inj gw).symm
  subst ew
  exact⟨d,_,gd,pd,rw'⟩
 have val:∀(m:Nat) (hm:m<us.length) (d:D) (c:Bool),ds[m]?=some d→eqN k d dx=some c→decide (∃d v,d∈ds∧Rp r H d v∧zau v us[m]∧eqN k d dx=some true)=c:=λm hm d c hd hc=>by
  obtain⟨d',v',gd,pd,rd⟩:=at_ m hm
  rw[hd] at gd; cases gd
  cases c with
  | true=>exact decide_eq_true ⟨d,v',Val hd,pd,rd,hc⟩
  | false=>
   refine decide_eq_false λ⟨d2,v2,_,pd2,rd2,hc2⟩=>?_
   have ev:=zo8 rd rd2
   subst ev
   exact absurd (znc k d d2 dx v' false true pd pd2 hc hc2) (by decide)
 refine⟨λy=>decide (∃d v,d∈ds∧Rp r H d v∧zau v y∧eqN k d dx=some true),λy hy=>?_,?_⟩
 ·have hy':y∈us:=by simpa using hy
  obtain⟨m,hm,rfl⟩:=VaK.mp hy'
  obtain⟨d,v,gd,pd,rd⟩:=at_ m hm
  obtain⟨c,hc⟩:=h1 d (Val gd)
  show SeqAt.EqAt A s us[m] u (decide _)
  rw[val m hm d c gd hc]
  exact zeV k X pins σ H s r A d dx v x _ u c I hu pd px rd rx hc
 ·have hjl:j<us.length:=by
   have:=(Vab.mp hyj).1
   rw[p.1,rv.length] at this
   exact this
  refine⟨by simpa using hjl,?_,λm hm hmj=>?_⟩
  ·have z:=val j hjl yj true hyj htj
   simpa using z
  ·have hm':m<us.length:=by simpa using hm
   obtain⟨d,v,gd,pd,rd⟩:=at_ m hm'
   have z:=val m hm' d false gd (hno m d hmj gd)
   simpa using z
def zlN (k:Nat)(d y:D)(S:Sto)(Q:DK):Prop:=match d with
 | .ref n=>match lAt S n with
  | some o=>match zdu (eqN k) (zak o) y with
   | some (some j)=>Q (.int (j:Int)) S
   | _=>False
  | none=>False
 | _=>False
@[irreducible] def zlZ (k:Nat)(to:TDE)(t:TDA):TDE:=λdl S Q=>to dl S λd S1=>(match d with
 | .ref n=>(lAt S1 n).isSome=true∧t dl S1 λds S2=>match ds with
  | [y]=>zlN k d y S2 Q
  | _=>False
 | _=>False)
theorem zyJ {k j:Nat}(hr:zaK j X.A)(hk:k≤3):MtR X "list.index" (λx xs H Qv=>∃(r:List Addr) (S:Sto) (d y:D) (v:V) (Q:DK),Rel X.K Z r S H∧Rp r H d x∧xs=[v]∧Rp r H y v∧zlN k d y S Q∧Ret X.K Z r H Q Qv):=by
 intro pins s σ H x xs v us Qv I rx rv h
 obtain⟨r,S,d,y,v1,Q,rel,pd,rfl,py,q,ret⟩:=h
 obtain⟨u,rfl,ru⟩:=zdJ rv
 unfold zlN at q
 split at q
 ·rename_i n
  split at q
  ·rename_i o eo
   obtain⟨eo,eL⟩:=zbr eo
   split at q
   ·rename_i i ei
    cases pd with
    | @ref n a hn=>
     cases rx
     obtain⟨a',ha,ob⟩:=rel.at eo
     rw[hn] at ha; cases ha
     obtain⟨ys,sq,pr⟩:=ob.list eL
     obtain⟨its,ri,pl,hz⟩:=I.list sq
     have hun:=hr.un
     obtain⟨g,g1,hj,g2,g3⟩:=zyF (A:=X.A.in1) I (by show X.A.units+1+k<_; omega) pr ri py ru ei
     obtain⟨ob2,m,e,c,hd,hdat⟩:=pl
     obtain⟨oc,od,odat,osl⟩:=ob2
     have c':oc=.type "list":=c
     have hdat':odat=.seq its.toArray m:=hdat
     subst c' hdat'
     refine call_meets PySem.F.slot_list_index ⟨_,e,rfl⟩ PySem.F.entry_list_index (PySem.F.args_list_index_2 _ _) (PySem.SeqAt.list_indexAt a its.toArray m od osl u g i hj (by
      have:its.toArray.size≤sizeLine:=by rw[Vak,← ri.length]; exact hz
      have h2:=zin
      omega) g2 λm hm h2=>g3 m hm h2) ⟨e,g1,?_⟩
     exact⟨.int (i:Int),H,I.tok _,⟨_,rfl⟩,ret _ H r (.int _) S Ext.refl rel (.int _) q⟩
   ·exact q.elim
  ·exact q.elim
 ·exact q.elim
theorem zut {k j:Nat}{o e:Expr}{to:TDE}{t:TDA}{apos cpos:Pos}(hr:zaK j X.A)(hk:k≤3)(ho:PD X Z o to)(ha:PDA X Z [e] t)(hbase:attributeBase o "index" X.env (eval o X.env)=eval o X.env:=by rfl)
  (hfew:((backTo cpos (starEach [e] X.env)).all (λx=>!x.1)&&(backToKw cpos (keywordEach [] X.env)).all (λx=>x.1.isSome)
  &&decide ([e].length+([]:List Keyword).length+(if ([]:List Keyword).isEmpty then 0 else 1)<30))=true:=by rfl)
  (hline:(apos.endLine==cpos.line)=true:=by rfl)(hs:starEach [e] X.env=(false,eval e X.env)::starEach [] X.env:=by rfl)(hplain:(backTo cpos (starEach [] X.env)).any (·.1)=false:=by rfl):
  PD X Z (.Call (.Attribute o "index" apos) [e] [] cpos) (zlZ k to t):=
 zaY (zlp (T:="list") PySem.F.plainAttrs_list PySem.F.slot_list_index PySem.F.type_list_index (zyJ (Z:=Z) hr hk) ho ha hbase hfew hline hs hplain) λσ H Qv ⟨r,dl,S,Q,rs,rel,h,ret⟩=>by
  unfold zlZ at h
  refine⟨r,dl,S,_,rs,rel,h,λv H1 r1 d S1 e1 rel1 p1 q1=>?_⟩
  cases p1 with
  | @ref n a hn=>
   obtain⟨hsome,q1⟩:=q1
   obtain⟨o1,eo⟩:=VaP.mp hsome
   obtain⟨eo,eL⟩:=zbr eo
   obtain⟨a',ha',ob⟩:=rel1.at eo
   rw[hn] at ha'; cases ha'
   obtain⟨xs,sq,_⟩:=ob.list eL
   refine⟨.inl ⟨rfl,xs,sq⟩,r1,dl,S1,_,rs.ext e1,rel1,q1,λvs H2 r2 ds S2 e2 rel2 p2 q2=>?_⟩
   split at q2
   ·rename_i y
    obtain⟨v2,vs',rfl,p3,p4⟩:=p2.uncons
    have z:=p4.unnil
    subst z
    exact⟨r2,S2,.ref n,y,v2,Q,rel2,.ref (e2.adr _ _ hn),rfl,p3,q2,ret.ext (e1.trans e2)⟩
   ·exact q2.elim
  | _=>exact(show False from q1).elim
end
section
variable {X:Cx}{pins:List (Addr×Obj)}{σ:St}{H:Hp}{s:Shared}{h':Heap}
theorem zpA {t':Nat}{ch:List Addr}{T:Addr}{xs:List V}{vals:Array Value}(I:Inv X pins σ H s)(k:∀b o,b ∉ ch→s.heap.get? b=some o→h'.get? b=some o)(hch:∀b∈ch,zbK X pins H b)
  (hT:s.heap.objs.size≤T)(ht:h'.IsTuple T vals)(rv:zat xs vals.toList)(hl:xs.length≤sizeLine):Inv X pins σ (upd H T (.tup xs)) { s with heap:=h',toks:=t' }:=by
 have hTn:H T=none:=I.hok.fresh hT
 have old:∀ {b:Addr} {o:Obj},s.heap.get? b=some o→b≠T:=λ{b o} e z=>absurd (Vax (Heap.lt_size e) hT) (by rw[z]; exact VaF _)
 have trk:∀b u,H b=some u→b ∉ ch:=λb u e z=>by
  rw[(hch b z).1] at e; cases e
 have up:∀b u,H b=some u→(upd H T (.tup xs)) b=some u:=zdf hTn
 refine I.step (g':=s.gens) (d':=s.drawn) (ch:=ch) (λb hb=>?_) (λb o _ _ hc e _=>k b o hc e) (λb o _ _ hc e _=>⟨o.slots,k b o hc e⟩) (λb o _ e n=>by rw[za0 (old e)]; exact n)
  (λb o hc e=>⟨o,k b o hc e⟩) (λb ys e=>up _ _ e) (λb o u e=>up _ _ e) (λb ps e=>⟨#[],by rw[up _ _ e]; simp⟩) (λm hm=>?_) (λb u e=>?_) I.bare
 ·obtain⟨_,f1,_,f3,f4,f5⟩:=hch b hb
  exact⟨f3,f1,f4,f5⟩
 ·obtain⟨o,es,ep,ho,r⟩:=hm
  exact⟨o,es,ep,k _ o (λz=>(hch _ z).2.1 rfl) ho,r⟩
 ·by_cases hb:b=T
  ·subst hb
   rw[zcK] at e
   cases e
   exact⟨hl,vals.toList,rv,by rw[Array.toArray_toList]; exact ht⟩
  ·rw[za0 hb] at e
   refine(I.hok b u e).stay (λc v hc q=>k c v ?_ q) (λd z=>up _ _ z) λd ys z=>up _ _ z
   rcases hc with z | z
   ·rw[z]; exact trk b u e
   ·exact trk c _ z
theorem zlg {t':Nat}{ch:List Addr}(I:Inv X pins σ H s)(k:∀b o,b ∉ ch→s.heap.get? b=some o→h'.get? b=some o)(hch:∀b∈ch,zbK X pins H b):Inv X pins σ H { s with heap:=h',toks:=t' }:=by
 have trk:∀b u,H b=some u→b ∉ ch:=λb u e z=>by
  rw[(hch b z).1] at e; cases e
 refine I.step (g':=s.gens) (d':=s.drawn) (ch:=ch) (λb hb=>?_) (λb o _ _ hc e _=>k b o hc e) (λb o _ _ hc e _=>⟨o.slots,k b o hc e⟩) (λb o _ e n=>n)
  (λb o hc e=>⟨o,k b o hc e⟩) (λb ys e=>e) (λb o u e=>e) (λb ps e=>⟨#[],by rw[e]; simp⟩) (λm hm=>?_) (λb u e=>?_) I.bare
 ·obtain⟨_,f1,_,f3,f4,f5⟩:=hch b hb
  exact⟨f3,f1,f4,f5⟩
 ·obtain⟨o,es,ep,ho,r⟩:=hm
  exact⟨o,es,ep,k _ o (λz=>(hch _ z).2.1 rfl) ho,r⟩
 ·refine(I.hok b u e).stay (λc v hc q=>k c v ?_ q) (λd z=>z) λd ys z=>z
  rcases hc with z | z
  ·rw[z]; exact trk b u e
  ·exact trk c _ z
end
def Ite (K:PySem.W.Frag)(a:Addr):It:=
 ⟨λi H=>∃xs x,SqL K H a xs∧xs[i]?=some x,λi H x H'=>∃T v,x=.ref T∧H T=none∧H'=upd H T (.tup [.int (i:Int),v])∧∀xs,SqL K H a xs→xs[i]?=some v,λi H=>∃xs,SqL K H a xs∧xs.length=i⟩
theorem zsh {P:Program}{w:World}{K:PySem.W.Frag}{elts:List Expr}{kk:Nat}{tp:Pos}(a e it:Addr)(hei:e≠it)(hae:a≠e)(hai:a≠it):
  zgJ P w K (.Tuple elts kk tp) (Ite K a) [e,it] e (λi h=>(∃old,IsEnum h e it i old)∧h.IsListIter it a i) where
 mem:=by simp
 obj:=λi h st b hb=>by
  obtain⟨⟨old,he⟩,o,e1,c,d⟩:=st
  have hb':b=e∨b=it:=by simpa using hb
  rcases hb' with rfl | rfl
  ·exact⟨_,he,λv z=>by cases z⟩
  ·exact⟨o,e1,λv z=>by rw[d] at z; cases z⟩
 keep:=λi h h' st k=>by
  obtain⟨⟨old,he⟩,hit⟩:=st
  exact⟨⟨old,k e (by simp) _ he⟩,hit.at λo x=>k it (by simp) o x⟩
 item:=by
  intro X hP hw hK hc i pins s σ H E I hf st hg
  subst hP hw hK
  obtain⟨xs,x,hq,hx⟩:=hg
  obtain⟨its,rv,p,hz⟩:=I.list hq
  obtain⟨u,hu,ru⟩:=rv.get hx
  have hi:i<its.toArray.size:=by
   have:=(Vab.mp hu).1
   simpa using this
  have W:=WalksT.enumerate (prog:=X.prog) (w:=X.w) (A:=X.A) (I.ok.hd hc) e it a hei hae hai its.toArray
  refine W.item i s _ _ hi ⟨st.1,st.2,p.isList⟩ λT vals h' tk hP hT ht mid k1=>?_
  obtain⟨t,y,hy,rfl⟩:=hP
  have ey:y=u:=by
   have z:its[i]?=some y:=by simpa using hy
   rw[hu] at z; exact(Option.some.inj z).symm
  subst ey
  have hw:∀b∈[e,it],zbK X pins H b:=hf
  have I1:Inv X pins σ (upd H T (.tup [.int (i:Int),x])) { s with heap:=h',toks:=tk }:=zpA I k1 hw hT ht (.cons ⟨t,rfl⟩ (.cons ru .nil)) (show 2≤sizeLine from zep (by decide))
  have neT:∀b∈[e,it],b≠T:=λb hb z=>W.apart i T h' mid (z ▸ hb)
  have hf1:∀b∈[e,it],zbK X pins (upd H T (.tup [.int (i:Int),x])) b:=λb hb=>⟨by rw[za0 (neT b hb)]; exact(hf b hb).1,(hf b hb).2⟩
  refine⟨.ref T,rfl,W.go elts kk tp i T _ _ _ mid λh2 st2 k2=>?_⟩
  have I2:Inv X pins σ (upd H T (.tup [.int (i:Int),x])) { s with heap:=h2,toks:=tk }:=zlg (s:={ s with heap:=h',toks:=tk }) (t':=tk) I1 k2 hf1
  exact⟨.ref T,_,I2,rfl,⟨T,x,rfl,I.hok.fresh hT,rfl,λys hy=>by rw[I.list_inj hy hq]; exact hx⟩,⟨st2.1,st2.2.1⟩,λb hb=>(hf1 b hb).1⟩
 done:=by
  intro X hP hw hK hc i pins s σ H E I hf st hg
  subst hP hw hK
  obtain⟨xs,hq,hx⟩:=hg
  obtain⟨its,rv,p,hz⟩:=I.list hq
  have W:=WalksT.enumerate (prog:=X.prog) (w:=X.w) (A:=X.A) (I.ok.hd hc) e it a hei hae hai its.toArray
  have hi:i=its.toArray.size:=by rw[Vak,← rv.length]; exact hx.symm
  subst hi
  exact W.done s _ _ ⟨st.1,st.2,p.isList⟩ λh' tk k1=>⟨rfl,zlg (t':=tk) I k1 hf⟩
 self:=λA i s Q E st h=>by
  obtain⟨⟨old,he⟩,_⟩:=st
  exact wpAny_pyIter_enum he h
section
variable {X:Cx}
def zqh (K:PySem.W.Frag)(ta:TA):TI:=λσ H R=>ta σ H λvs H1=>∃a,vs=[.ref a]∧(∃xs,SqL K H1 a xs)∧R (Ite K a) H1
theorem zxk {a:Expr}{ta:TA}{p pos tp:Pos}{elts:List Expr}{kk:Nat}(hg:Gl X "enumerate")(hm:X.mg "enumerate"=none)(hv:bootBuiltins "enumerate"=some (.type "enumerate"))(ha:PA X [a] ta)(hs:starEach [a] X.env=[(false,eval a X.env)]:=by rfl):
  PI X (.Tuple elts kk tp) (.Call (.Name "enumerate" p) [a] [] pos) (zqh X.K ta):=by
 intro pins s σ H R I h
 refine Call_ (zeO I hg hm hv (PyProof.Rows.callWith_type1 (thn (ha pos pins s σ H _ I h) λus s1 ⟨vs,H1,I1,r1,q1⟩=>?_) hs rfl))
 obtain⟨l,e,⟨xs,hq⟩,q⟩:=q1
 subst e
 cases r1 with
 | cons r rr=>
  cases rr
  cases r
  obtain⟨its,rv,pl,hz⟩:=I1.list hq
  have hll:l<s1.heap.objs.size:=by
   obtain⟨o,e,_⟩:=pl.isList
   exact Heap.lt_size e
  refine call_enumerate_list pl.isList λh' he hit hsz hk=>?_
  have I2:Inv X pins σ H1 { s1 with heap:=h' }:=I1.kept (t':=s1.toks) hk
  refine wpAny_pyIter_enum he ⟨s1.heap.objs.size+1,[s1.heap.objs.size+1,s1.heap.objs.size],_,_,H1,rfl,I2,zsh l _ _ (Nat.succ_ne_self _) (Vap (Nat.lt_succ_of_lt hll)) (Vap hll),⟨⟨_,he⟩,hit⟩,λb hb=>?_,q⟩
  have hb':b=s1.heap.objs.size+1∨b=s1.heap.objs.size:=by simpa using hb
  rcases hb' with rfl | rfl
  ·exact I1.fpOk (Nat.le_succ _) (I1.hok.fresh (Nat.le_succ _))
  ·exact I1.fpOk (Vad _) (I1.hok.fresh (Vad _))
end
def Itz (K:PySem.W.Frag)(a b:Addr):It:=
  ⟨λi H=>∃xs ys x y,SqL K H a xs∧SqL K H b ys∧xs[i]?=some x∧ys[i]?=some y,
   λi H x H'=>∃T v u,x=.ref T∧H T=none∧H'=upd H T (.tup [v,u])∧(∀xs,SqL K H a xs→xs[i]?=some v)∧∀ys,SqL K H b ys→ys[i]?=some u,
   λi H=>∃xs ys,SqL K H a xs∧SqL K H b ys∧min xs.length ys.length=i⟩
theorem zsZ {P:Program}{w:World}{K:PySem.W.Frag}{elts:List Expr}{kk:Nat}{tp:Pos}(a b z TI TO i1 i2:Addr)(D:ZipApart z TI TO i1 i2 a b):
  zgJ P w K (.Tuple elts kk tp) (Itz K a b) [z,TI,TO,i1,i2] z (λi h=>IsZip h z TI TO .none∧IsPair h TI (.ref i1) (.ref i2)∧(∃p q,IsPair h TO p q)∧h.IsListIter i1 a i∧h.IsListIter i2 b i) where
 mem:=by simp
 obj:=λi h st c hc=>by
  obtain⟨hz,hTI,⟨p,q,hTO⟩,⟨o1,e1,c1,d1⟩,o2,e2,c2,d2⟩:=st
  have hc':c=z∨c=TI∨c=TO∨c=i1∨c=i2:=by simpa using hc
  rcases hc' with rfl | rfl | rfl | rfl | rfl
  ·exact⟨_,hz,λv y=>by cases y⟩
  ·exact⟨_,hTI,λv y=>by cases y⟩
  ·exact⟨_,hTO,λv y=>by cases y⟩
  ·exact⟨o1,e1,λv y=>by rw[d1] at y; cases y⟩
  ·exact⟨o2,e2,λv y=>by rw[d2] at y; cases y⟩
 keep:=λi h h' st k=>by
  obtain⟨hz,hTI,⟨p,q,hTO⟩,h1,h2⟩:=st
  exact⟨k z (by simp) _ hz,k TI (by simp) _ hTI,⟨p,q,k TO (by simp) _ hTO⟩,h1.at λo x=>k i1 (by simp) o x,h2.at λo x=>k i2 (by simp) o x⟩
 item:=by
  intro X hP hw hK hc i pins s σ H E I hf st hg
  subst hP hw hK
  obtain⟨xs,ys,x,y,hq,hq2,hx,hy⟩:=hg
  obtain⟨its,rv,p,_⟩:=I.list hq
  obtain⟨jts,rv2,p2,_⟩:=I.list hq2
  obtain⟨u,hu,ru⟩:=rv.get hx
  obtain⟨u2,hu2,ru2⟩:=rv2.get hy
  have hi:i<min its.toArray.size jts.toArray.size:=by
   have z1:=(Vab.mp hu).1
   have z2:=(Vab.mp hu2).1
   have sizes:its.toArray.size=its.length∧jts.toArray.size=jts.length:=⟨by simp,by simp⟩
   omega
  have W:=WalksT.zip2 (prog:=X.prog) (w:=X.w) (A:=X.A) (I.ok.hd hc) z TI TO i1 i2 a b D its.toArray jts.toArray
  obtain⟨s1,s2,s3,s4,s5⟩:=st
  refine W.item i s _ _ hi ⟨s1,s2,s3,s4,s5,p.isList,p2.isList⟩ λT vals h' tk hP hT ht mid k1=>?_
  obtain⟨v1,v2,hv1,hv2,rfl⟩:=hP
  have e1:v1=u:=by
   have z:its[i]?=some v1:=by simpa using hv1
   rw[hu] at z; exact(Option.some.inj z).symm
  have e2:v2=u2:=by
   have z:jts[i]?=some v2:=by simpa using hv2
   rw[hu2] at z; exact(Option.some.inj z).symm
  subst e1 e2
  have sub:∀c∈[z,TO,i1,i2],c∈[z,TI,TO,i1,i2]:=λc hc=>by
   have hc':c=z∨c=TO∨c=i1∨c=i2:=by simpa using hc
   rcases hc' with rfl | rfl | rfl | rfl <;> simp
  have I1:Inv X pins σ (upd H T (.tup [x,y])) { s with heap:=h',toks:=tk }:=zpA I k1 (λc hc=>hf c (sub c hc)) hT ht (.cons ru (.cons ru2 .nil)) (show 2≤sizeLine from zep (by decide))
  have tiT:TI≠T:=λq=>by
   have hl:TI<s.heap.objs.size:=Heap.lt_size s2
   rw[q] at hl
   exact absurd (Vax hl hT) (VaF _)
  have neT:∀c∈[z,TI,TO,i1,i2],c≠T:=λc hc q=>by
   have hc':c=TI∨c∈[z,TO,i1,i2]:=by
    have hc2:c=z∨c=TI∨c=TO∨c=i1∨c=i2:=by simpa using hc
    rcases hc2 with rfl | rfl | rfl | rfl | rfl <;> simp
   rcases hc' with rfl | hc'
   ·exact tiT q
   ·exact W.apart i T h' mid (q ▸ hc')
  have hf1:∀c∈[z,TI,TO,i1,i2],zbK X pins (upd H T (.tup [x,y])) c:=λc hc=>⟨by rw[za0 (neT c hc)]; exact(hf c hc).1,(hf c hc).2⟩
  refine⟨.ref T,rfl,W.go elts kk tp i T _ _ _ mid λh2 st2 k2=>?_⟩
  have I2:Inv X pins σ (upd H T (.tup [x,y])) { s with heap:=h2,toks:=tk }:=zlg (s:={ s with heap:=h',toks:=tk }) (t':=tk) I1 k2 λc hc=>hf1 c (sub c hc)
  obtain⟨t1,t2,t3,t4,t5,_,_⟩:=st2
  exact⟨.ref T,_,I2,rfl,⟨T,x,y,rfl,I.hok.fresh hT,rfl,λzs hz=>by rw[I.list_inj hz hq]; exact hx,λzs hz=>by rw[I.list_inj hz hq2]; exact hy⟩,⟨t1,t2,t3,t4,t5⟩,λc hc=>(hf1 c hc).1⟩
 done:=by
  intro X hP hw hK hc i pins s σ H E I hf st hg
  subst hP hw hK
  obtain⟨xs,ys,hq,hq2,hx⟩:=hg
  obtain⟨its,rv,p,_⟩:=I.list hq
  obtain⟨jts,rv2,p2,_⟩:=I.list hq2
  have W:=WalksT.zip2 (prog:=X.prog) (w:=X.w) (A:=X.A) (I.ok.hd hc) z TI TO i1 i2 a b D its.toArray jts.toArray
  have hi:i=min its.toArray.size jts.toArray.size:=by rw[Vak,Vak,← rv.length,← rv2.length]; exact hx.symm
  subst hi
  have sub:∀c∈[z,TO,i1,i2],c∈[z,TI,TO,i1,i2]:=λc hc=>by
   have hc':c=z∨c=TO∨c=i1∨c=i2:=by simpa using hc
   rcases hc' with rfl | rfl | rfl | rfl <;> simp
  obtain⟨s1,s2,s3,s4,s5⟩:=st
  exact W.done s _ _ ⟨s1,s2,s3,s4,s5,p.isList,p2.isList⟩ λh' tk k1=>⟨rfl,zlg (t':=tk) I k1 λc hc=>hf c (sub c hc)⟩
 self:=λA i s Q E st h=>wpAny_pyIter_zip st.1 h
section
variable {X:Cx}
theorem zuy {n l m:Nat}(h1:l<n)(h2:m<n):ZipApart (n+4) (n+2) (n+3) n (n+1) l m:=by
 have ne:∀ {i j:Nat},i<j∨j<i→i≠j:=λ{i j} h z=>by omega
 exact⟨ne (by omega),ne (by omega),ne (by omega),ne (by omega),ne (by omega),ne (by omega),ne (by omega),ne (by omega),ne (by omega),ne (by omega),ne (by omega),ne (by omega),ne (by omega),ne (by omega),ne (by omega),ne (by omega),ne (by omega),ne (by omega)⟩
def iZip (K:PySem.W.Frag)(ta:TA):TI:=λσ H R=>ta σ H λvs H1=>∃a b,vs=[.ref a,.ref b]∧(∃xs,SqL K H1 a xs)∧(∃ys,SqL K H1 b ys)∧R (Itz K a b) H1
theorem znq {a b:Expr}{ta:TA}{p pos tp:Pos}{elts:List Expr}{kk:Nat}(hg:Gl X "zip")(hm:X.mg "zip"=none)(hv:bootBuiltins "zip"=some (.type "zip"))(ha:PA X [a,b] ta)
  (hs:starEach [a,b] X.env=[(false,eval a X.env),(false,eval b X.env)]:=by rfl)(hs2:starEach [b] X.env=[(false,eval b X.env)]:=by rfl):PI X (.Tuple elts kk tp) (.Call (.Name "zip" p) [a,b] [] pos) (iZip X.K ta):=by
 intro pins s σ H R I h
 refine Call_ (zeO I hg hm hv (PyProof.Rows.callWith_type1 (thn (ha pos pins s σ H _ I h) λus s1 ⟨vs,H1,I1,r1,q1⟩=>?_) (by rw[hs,hs2]) (by rw[hs2]; rfl)))
 obtain⟨l,m,e,⟨xs,hq⟩,⟨ys,hq2⟩,q⟩:=q1
 subst e
 cases r1 with
 | cons r rr=>
  cases rr with
  | cons r2 rr=>
   cases rr
   cases r
   cases r2
   obtain⟨its,rv,pl,_⟩:=I1.list hq
   obtain⟨jts,rv2,pl2,_⟩:=I1.list hq2
   have h1:l<s1.heap.objs.size:=by
    obtain⟨o,e,_⟩:=pl.isList
    exact Heap.lt_size e
   have h2:m<s1.heap.objs.size:=by
    obtain⟨o,e,_⟩:=pl2.isList
    exact Heap.lt_size e
   refine call_zip_2 pl.isList pl2.isList λh' hz hTI hTO hi1 hi2 hsz hk=>?_
   have I2:Inv X pins σ H1 { s1 with heap:=h' }:=I1.kept (t':=s1.toks) hk
   have D:=zuy h1 h2
   refine wpAny_pyIter_zip hz ⟨s1.heap.objs.size+4,[s1.heap.objs.size+4,s1.heap.objs.size+2,s1.heap.objs.size+3,s1.heap.objs.size,s1.heap.objs.size+1],_,_,H1,rfl,I2,zsZ l m _ _ _ _ _ D,⟨hz,hTI,⟨_,_,hTO⟩,hi1,hi2⟩,λc hc=>?_,q⟩
   have hge:s1.heap.objs.size≤c:=by
    have hc':c=s1.heap.objs.size+4∨c=s1.heap.objs.size+2∨c=s1.heap.objs.size+3∨c=s1.heap.objs.size∨c=s1.heap.objs.size+1:=by simpa using hc
    rcases hc' with rfl | rfl | rfl | rfl | rfl
    ·exact Nat.le_add_right _ _
    ·exact Nat.le_add_right _ _
    ·exact Nat.le_add_right _ _
    ·exact Vad _
    ·exact Nat.le_add_right _ _
   exact I1.fpOk hge (I1.hok.fresh hge)
end
section
variable {X:Cx}{Z:Zx}{pos:Pos}
theorem zdc {r r':List Addr}{S':Sto}{H':Hp}{n:Nat}{a:Addr}{o:Ob}(hn:r'[n]?=some a)(rel:zaU X.K r' S' H')(eo:lAt S' n=some o):∃xs,SqL X.K H' a xs∧Rps r' H' (zak o) xs:=by
 obtain⟨eo,eL⟩:=zbr eo
 obtain⟨a',ha,ob⟩:=rel.at eo
 rw[hn] at ha; cases ha
 exact ob.list eL
@[irreducible] def ziQ (is:List Nat)(ta:TDA)(tb:TDS):TDS:=λE dl S=>ta dl S λds S1=>match ds with
 | [.ref n,.ref n']=>((lAt S1 n).isSome=true∧(lAt S1 n').isSome=true)∧∃W:Nat→Nat→Ev→Sto→Prop,(∃m,W 0 m dl S1)∧∀k m dl S,W k m dl S→match lAt S n,lAt S n' with
  | some o,some o'=>match (zak o)[k]?,(zak o')[k]? with
   | some x,some y=>tb { nx:=λdl' S'=>∃m',m'<m∧W (k+1) m' dl' S',rt:=E.rt,bk:=E.nx,ct:=λdl' S'=>∃m',m'<m∧W (k+1) m' dl' S' } (zfo is [x,y] dl) S
   | _,_=>k=min (zak o).length (zak o').length∧E.nx dl S
  | _,_=>False
 | _=>False
theorem zup {i1 i2:Expr}{body:List Stmt}{es:List Expr}{kk:Nat}{tp p pos2:Pos}{is:List Nat}{ta:TDA}{tb:TDS}(hp:PassesOwn (model X.prog X.w) X.A X.env X.xe)(hc:X.calm=true)(hN:X.N.Nodup)(hn:Nms X es is)(h2:is.length=2)
  (hg:Gl X "zip")(hm:X.mg "zip"=none)(hv:bootBuiltins "zip"=some (.type "zip"))(ha:PDA X Z [i1,i2] ta)(hb:zc3 X Z body tb)
  (hlen:(assignEach es X.env).length=is.length:=by rfl)(hst:(assignEach es X.env).findIdx? (·.1)=none:=by rfl)(hse:starEach [i1,i2] X.env=[(false,eval i1 X.env),(false,eval i2 X.env)]:=by rfl)(hse2:starEach [i2] X.env=[(false,eval i2 X.env)]:=by rfl)
  (hs:∀y,foldedSetIterable (.Call (.Name "zip" p) [i1,i2] [] pos2) X.env y=pure y:=by intro _; rfl):PDS X Z (.For (.Tuple es kk tp) (.Call (.Name "zip" p) [i1,i2] [] pos2) body [] pos) (ziQ is ta tb):=
 zbS (znE hp hc (znq hg hm hv ha hse hse2) (zik hc (ze5 hN hn) hlen hst) hb hs) λF σ H ⟨r,dl,S,E,rs,rel,h,ret⟩=>by
  unfold ziQ at h
  refine⟨r,dl,S,_,rs,rel,h,λvs H1 r1 ds S1 x1 rel1 p1 q1=>?_⟩
  split at q1
  ·rename_i n n'
   obtain⟨v,vs',rfl,p2,p3⟩:=p1.uncons
   obtain⟨v',vs2,rfl,p4,p5⟩:=p3.uncons
   have z:=p5.unnil
   subst z
   cases p2 with
   | @ref n a hr=>
    cases p4 with
    | @ref n' a' hr'=>
     obtain⟨⟨hsome,hsome'⟩,W,⟨m0,w0⟩,turn⟩:=q1
     obtain⟨o1,eo1⟩:=VaP.mp hsome
     obtain⟨o2,eo2⟩:=VaP.mp hsome'
     obtain⟨xs1,sq1,_⟩:=zdc (r:=r1) hr rel1.b eo1
     obtain⟨ys1,sq2,_⟩:=zdc (r:=r1) hr' rel1.b eo2
     refine⟨a,a',rfl,⟨xs1,sq1⟩,⟨ys1,sq2⟩,λk m σ' H'=>∃r' dl' S',Ext r1 r' H1 H'∧Rs r' H' dl' σ'∧Rel X.K Z r' S' H'∧W k m dl' S',⟨m0,r1,dl,S1,Ext.refl,rs.ext x1,rel1,w0⟩,?_⟩
     rintro k m σ2 H2 ⟨r2,dl2,S2,x2,rs2,rel2,w2⟩
     have q:=turn k m dl2 S2 w2
     split at q
     ·rename_i o o' eo eo'
      obtain⟨xs,sq,pr⟩:=zdc (r:=r2) (x2.adr _ _ hr) rel2.b eo
      obtain⟨ys,sq',pr'⟩:=zdc (r:=r2) (x2.adr _ _ hr') rel2.b eo'
      split at q
      ·rename_i y y2 ey ey2
       obtain⟨v,hvv,pv⟩:=pr.get ey
       obtain⟨u,hvu,pu⟩:=pr'.get ey2
       refine .inr ⟨⟨xs,ys,v,u,sq,sq',hvv,hvu⟩,λσ' H'=>∃m',m'<m∧∃r' dl' S',Ext r1 r' H1 H'∧Rs r' H' dl' σ'∧Rel X.K Z r' S' H'∧W (k+1) m' dl' S',λ_ _ z=>z,λv' H' y'=>?_⟩
       obtain⟨T,w,w2',rfl,hT,rfl,hw,hw2⟩:=y'
       have ew:w=v:=by
        have z:=hw xs sq
        rw[hvv] at z; exact(Option.some.inj z).symm
       have ew2:w2'=u:=by
        have z:=hw2 ys sq'
        rw[hvu] at z; exact(Option.some.inj z).symm
       subst ew ew2
       have x3:Ext r2 r2 H2 (upd H2 T (.tup [w,w2'])):=zn8 hT
       have pp:Rps r2 (upd H2 T (.tup [w,w2'])) [y,y2] [w,w2']:=Rps.cons (pv.ext x3) (Rps.cons (pu.ext x3) Rps.nil)
       have rel3:=rel2.same (zdf (o:=.tup [w,w2']) hT)
       have go:∀σ' H' r' dl' S',Ext r2 r' (upd H2 T (.tup [w,w2'])) H'→Rs r' H' dl' σ'→Rel X.K Z r' S' H'→(∃m',m'<m∧W (k+1) m' dl' S')→∃m',m'<m∧∃r' dl' S',Ext r1 r' H1 H'∧Rs r' H' dl' σ'∧Rel X.K Z r' S' H'∧W (k+1) m' dl' S':=
        λσ' H' r' dl' S' x rs' rel' ⟨m',hm,w'⟩=>⟨m',hm,r',dl',S',x2.trans (x3.trans x),rs',rel',w'⟩
       exact⟨T,[w,w2'],rfl,SqT.of zcK,by rw[h2]; rfl,by rw[h2]; rfl,r2,_,S2,_,zn5 (rs2.ext x3) pp,rel3,q,⟨go,λσ' H' r' dl' S' x rs' rel' z=>ret.nx σ' H' r' dl' S' (x1.trans (x2.trans (x3.trans x))) rs' rel' z,go,ret.rt.ext (x1.trans (x2.trans x3))⟩⟩
      ·obtain⟨hk,q⟩:=q
       exact .inl ⟨⟨xs,ys,sq,sq',by rw[← pr.1,← pr'.1]; exact hk.symm⟩,ret.nx σ2 H2 r2 dl2 S2 (x1.trans x2) rs2 rel2 q⟩
     ·exact q.elim
  ·exact q1.elim
end
section
variable {X:Cx}{Z:Zx}{pos:Pos}
@[irreducible] def ziX (T:String)(te:TDE):TDE:=λdl S Q=>te dl S λd S1=>match d with
 | .ref n=>match S1[n]? with
  | some (.lst _)=>Q (.bl (zdA "list" T)) S1
  | _=>False
 | _=>False
theorem zno {T:String}{e:Expr}{te:TDE}{y:Str}{p p2:Pos}(KT:PySem.W.kitOne X.K (.type "list") (.type T)=some (zdA "list" T))(hg:Gl X "isinstance")(hm:X.mg "isinstance"=none)(hg2:Gl X y)(hm2:X.mg y=none)(hv2:bootBuiltins y=some (.type T))(ha:PD X Z e te)
  (hv:bootBuiltins "isinstance"=some (.builtin "isinstance"):=by exact PyProof.Rows.Boot.«isinstance»)
  (hn2:y≠"__name__":=by decide)(hd2:(y==("__debug__":Str))=false:=by decide)(he2:starEach [e,.Name y p2] X.env=(false,eval e X.env)::starEach [.Name y p2] X.env:=by rfl)
  (he3:starEach [.Name y p2] X.env=(false,eval (.Name y p2) X.env)::starEach [] X.env:=by rfl)(hpl:(backTo pos (starEach [.Name y p2] X.env)).any (·.1)=false:=by rfl):
  PD X Z (.Call (.Name "isinstance" p) [e,.Name y p2] [] pos) (ziX T te):=
 zaY (zoe zo3 hg hm hv (zf6 ha (zf6 (zqC (v:=.ty T) hg2 hm2 hv2 rfl hn2 hd2) ziS he3) he2) (by decide) (by decide) he2 hpl) λσ H Qv ⟨r,dl,S,Q,rs,rel,h,ret⟩=>
  by unfold ziX at h; exact⟨r,dl,S,_,rs,rel,h,λv H1 r1 d S1 e1 rel1 p1 h1=>by
   cases p1 with
   | @ref n a hr=>
    dsimp only at h1
    split at h1
    ·rename_i xs eS
     obtain⟨ys,eH,_⟩:=rel1.b.ob n a _ hr eS
     exact⟨_,T,_,_,rfl,.lst eH,KT,ret _ _ _ _ _ e1 rel1 (.bl _) h1⟩
    ·exact h1.elim
   | _=>exact(show False from h1).elim⟩
end
theorem znj (K:PySem.W.Frag):PySem.W.kitOne K (.type "list") (.type "list")=some (zdA "list" "list"):=by kernel_rfl
structure Dm (K:PySem.W.Frag)(C:Addr)(m qual:Str)(st:Stmt)(ps:List Str) where
 f:Addr
 fd:FuncData
 F:Fun K m qual st f fd
 m:zfi K C m f
 b:zbI K fd ps []
structure Fm (P:Program)(w:World)(K:PySem.W.Frag)(mg:Str→Option Value)(base:Heap)(k:Nat)(C:Addr)(x:Str)(ps:List Str)(sd:Sd) where
 f:Addr
 fd:FuncData
 ok:za5 P w K mg base (CXE P w) k f fd ps (upF K sd)
 m:zfi K C x f
 b:zbI K fd ps []
def Dm.mk' {P:Program}{w:World}{K:PySem.W.Frag}{mg:Str→Option Value}{base:Heap}{k:Nat}{C:Addr}{x qual:Str}{st:Stmt}{ps:List Str}{sd:Sd}(d:Dm K C x qual st ps)(h:za5 P w K mg base (CXE P w) k d.f d.fd ps (upF K sd)):Fm P w K mg base k C x ps sd:=
 ⟨d.f,d.fd,h,d.m,d.b⟩
theorem zeQ {P:Program}{w:World}{X:Cx}:zml (CXE P w) X (λ_ _ _=>False):=λ_ _ _ _ _ _ _ h=>by
 obtain⟨_,_,_,_,_,_,_,_,_,_,_,_,q⟩:=h
 exact q.elim
section
variable {X:Cx}{Z:Zx}
theorem zyz {k:Nat}(hr:zaK k X.A):OpR X (compareOp .NotIn) (upO X.K Z (zbV (wIn 1 true))):=by rw[zcu]; exact zul 1 (by have:=hr.un; omega)
end
section
variable {X:Cx}{Z:Zx}{pos:Pos}
theorem ztn {k n m:Nat}{a a':Addr}{o o':Ob}{b:Bool}{pins:List (Addr×Obj)}{σ:St}{H:Hp}{s:Shared}{r:List Addr}{S:Sto}(I:Inv X pins σ H s)(rel:Rel X.K Z r S H)(hn:r[n]?=some a)(hm:r[m]?=some a')(eo:lAt S n=some o)(eo':lAt S m=some o')
  (e:eqL (eqN k) (zak o) (zak o')=some b)(hu:X.A.units+1+k<cLine):SeqAt.RcNeAt X.A s (.ref a) (.ref a') (!b):=by
 obtain⟨eo,eL⟩:=zbr eo
 obtain⟨eo',eL'⟩:=zbr eo'
 obtain⟨z,hz,ob⟩:=rel.at eo
 rw[hn] at hz; cases hz
 obtain⟨z,hz,ob'⟩:=rel.at eo'
 rw[hm] at hz; cases hz
 obtain⟨xs,sq,pr⟩:=ob.list eL
 obtain⟨ys,sq',pr'⟩:=ob'.list eL'
 obtain⟨is,ri,pl,_⟩:=I.list sq
 obtain⟨js,rj,pl',_⟩:=I.list sq'
 obtain⟨g1,g2⟩:=zg9 (A:=X.A.in1) (zeV k) I (by show X.A.units+1+k<_; omega) pr pr' ri rj e
 by_cases hs:is.toArray.size=js.toArray.size
 ·have q:=SeqAt.RcNeAt.lists (A:=X.A) pl.isList pl'.isList hs (by omega) g1
  have e2:(List.range is.toArray.size).all (zcC (eqN k) (zak o) (zak o'))=b:=by
   rw[← g2,← hs,Nat.min_self]; simp
  rw[e2] at q
  exact q
 ·have q:=SeqAt.RcNeAt.lists_lengths (A:=X.A) pl.isList pl'.isList (by simpa using hs) (by omega)
  have e2:b=false:=by
   rw[← g2,show (is.toArray.size==js.toArray.size)=false by simpa using hs,Bool.and_false]
  rw[e2]
  exact q
theorem zrF (k:Nat){j:Nat}(hr:zaK j X.A)(hu:X.A.units+1+k<cLine):OpR X (compareOp .NotEq) (upO X.K Z (zeF k)):=by
 intro pins s σ H x y v u Qv I rx ry h
 obtain⟨r,S,dx,dy,Q,rel,px,py,q,ret⟩:=h
 have za4:∀ {dx dy:D} {x y:V},Rp r H dx x→Rp r H dy y→zau x v→zau y u→zjZ k S dx dy=eqN (k+1) dx dy→zeF k dx dy S Q→wpAny (model X.prog X.w) X.A (compareOp .NotEq v u) (EP X pins σ Qv) X.xe s:=λpx py rx ry e q=>by
  refine zrb (Z:=Z) (zeV k) hu pins s σ H _ _ v u Qv I rx ry ⟨r,S,_,_,Q,rel,px,py,?_,ret⟩
  unfold zeF at q
  rw[e] at q
  exact q
 cases px with
 | @ref n a hn=>
  cases py with
  | @ref m a' hm=>
   cases rx
   cases ry
   unfold zeF zjZ at q
   dsimp only at q
   split at q
   ·rename_i b e
    split at e
    ·rename_i o o' eo eo'
     exact ztn I rel hn hm eo eo' e hu X.prog X.w X.xe _ ⟨.bl (!b),H,I,rfl,ret _ _ _ _ _ Ext.refl rel (.bl (!b)) q⟩
    ·cases e
   ·exact q.elim
  | non=>exact za4 (.ref hn) .non rx ry rfl q
  | bl i=>exact za4 (.ref hn) (.bl i) rx ry rfl q
  | int i=>exact za4 (.ref hn) (.int i) rx ry rfl q
  | str i=>exact za4 (.ref hn) (.str i) rx ry rfl q
  | tup a b c=>exact za4 (.ref hn) (.tup a b c) rx ry rfl q
  | exc a=>exact za4 (.ref hn) (.exc a) rx ry rfl q
 | non=>exact za4 .non py rx ry rfl q
 | bl i=>exact za4 (.bl i) py rx ry rfl q
 | int i=>exact za4 (.int i) py rx ry rfl q
 | str i=>exact za4 (.str i) py rx ry rfl q
 | tup a b c=>exact za4 (.tup a b c) py rx ry rfl q
 | exc a=>exact za4 (.exc a) py rx ry rfl q
theorem zw8 {k:Nat}(hr:zaK k X.A):OpR X (compareOp .NotEq) (upO X.K Z (zbV (zeF 1))):=by rw[zcu]; exact zrF 1 hr (by have:=hr.un; omega)
theorem zrK {k n m:Nat}{S:Sto}{Q:DK}{o o':Ob}{b:Bool}(h1:lAt S n=some o)(h2:lAt S m=some o')(e:eqL (eqN k) (zak o) (zak o')=some b)(hq:Q (.bl (!b)) S):zbV (zeF k) (.ref n) (.ref m) S Q:=by
 rw[zcu]
 unfold zeF
 simp only[zjZ,h1,h2,e]
 exact hq
def ziB:W2:=λx y S Q=>match x,y with
 | .ref n,.ref m=>match S[n]?,S[m]? with
  | some (.lst xs),some (.lst ys)=>xs.length+ys.length≤1000∧Q (.ref S.length) (S++[.lst (xs++ys)])
  | _,_=>False
 | _,_=>False
theorem Rps.app {r:List Addr}{H:Hp}:∀ {ds es:List D} {xs ys:List V},Rps r H ds xs→Rps r H es ys→Rps r H (ds++es) (xs++ys)
 | [],es,xs,ys,p,q=>by
  have z:=p.unnil
  subst z
  exact q
 | d::ds,es,xs,ys,p,q=>by
  obtain⟨v,vs,rfl,p1,p2⟩:=p.uncons
  exact Rps.cons p1 (p2.app q)
theorem zqc:OpR X (binaryOp .Add) (upO X.K Z (zbV ziB)):=by
 rw[zcu]
 exact zeN zxa λx y H Qv ⟨r,S,dx,dy,Q,rel,px,py,q,ret⟩=>by
  unfold ziB at q
  split at q
  ·rename_i n m
   split at q
   ·rename_i xs ys e1 e2
    obtain⟨hl,q⟩:=q
    cases px with
    | @ref _ a hn=>
     cases py with
     | @ref _ a' hm=>
      obtain⟨z,hz,ob⟩:=rel.at e1
      rw[hn] at hz; cases hz
      obtain⟨z,hz,ob'⟩:=rel.at e2
      rw[hm] at hz; cases hz
      obtain⟨us,h1,p1⟩:=ob
      obtain⟨vs,h2,p2⟩:=ob'
      refine⟨a,a',us,vs,rfl,rfl,h1,h2,?_,λp hp=>?_⟩
      ·rw[← p1.1,← p2.1]; exact zep hl
      ·obtain⟨rel4,x⟩:=rel.push hp (p1.app p2)
       exact ret _ _ _ (.ref S.length) _ x rel4 (zek rel.len) q
   ·exact q.elim
  ·exact q.elim
theorem zpc {n m:Nat}{S:Sto}{Q:DK}{xs ys:List D}(h1:S[n]?=some (.lst xs))(h2:S[m]?=some (.lst ys))(hl:xs.length+ys.length≤1000)(hq:Q (.ref S.length) (S++[.lst (xs++ys)])):zbV ziB (.ref n) (.ref m) S Q:=by
 rw[zcu]
 unfold ziB
 simp only[h1,h2]
 exact⟨hl,hq⟩
def MT (X:Cx)(m:Str)(tbl:List (Addr×Sd)):Prop:=∀C sd,(C,sd)∈tbl→Cls X.K C∧∃(f:Addr) (fd:FuncData) (k:Nat) (ps:List Str),zfi X.K C m f∧za5 X.prog X.w X.K X.mg X.base (CXE X.prog X.w) k f fd ps (upF X.K sd)∧zaK k X.A∧zbI X.K fd ps []
theorem zrl {m:Str}:MT X m []:=λ_ _ h=>by cases h
theorem zcI {C:Addr}{m:Str}{k:Nat}{ps:List Str}{sd:Sd}{tbl:List (Addr×Sd)}(c:Cls X.K C)(G:Fm X.prog X.w X.K X.mg X.base k C m ps sd)(hr:zaK k X.A)(h:MT X m tbl):MT X m ((C,sd)::tbl):=λC' sd' hm=>by
 rcases Vaw.mp hm with e | e
 ·cases e
  exact⟨c,G.f,G.fd,k,ps,G.m,G.ok,hr,G.b⟩
 ·exact h C' sd' e
theorem ztt {m:Str}{W:St→XK}{o e:Expr}{es:List Expr}{ta:TE}{t:TA}{apos:Pos}{pl:Sem Bool}{tbl:List (Addr×Sd)}(he:PE X o ta)(M:MT X m tbl)(hx:zdF X W)(ha:PA X (e::es) t)(hst:starEach (e::es) X.env=(false,eval e X.env)::starEach es X.env)(hpl:(backTo pos (starEach es X.env)).any (·.1)=false)
  (ht:eval (.Call (.Attribute o m apos) (e::es) [] pos) X.env=(do
   let ov ← eval o X.env
   standAt apos.atName
   let (f,first) ← holding [ov] (getMethod ov m pl)
   callWith pos f first (backTo pos (starEach (e::es) X.env)) (backToKw pos (keywordEach [] X.env)))):
  PE X (.Call (.Attribute o m apos) (e::es) [] pos) (λσ H Q=>ta σ H λx H1=>∃a C dx fs sd,x=.ref a∧H1 a=some (.ins C dx fs)∧(C,sd)∈tbl∧fs.lookup m=none∧t σ H1 λvs H2=>upF X.K sd (x::vs) H2 Q (W σ)):=by
 intro pins s σ H Q I h
 refine PySem.W.methodCall_KW (pl:=pl) (thn (he pins s σ H _ I h) λu s1 ⟨x,H1,I1,rx,a,C,dx,fs,sd,ex,ea,hm',l,q⟩=>?_) ht
 subst ex
 obtain rfl:u=Value.ref a:=rx
 obtain⟨c,f,fd,k,ps,hm,F,hr,hb⟩:=M C sd hm'
 refine zpf I1 ea c hm l ?_
 exact PySem.W.callWith_K (first:=[.ref a]) (h₀:=X.base) I.ok.mod.kin hm.kp (thn (ha pos pins s1 σ H1 _ I1 q) λus s2 ⟨vs,H2,I2,r,q2⟩=>⟨I2.kIn,znz (us:=.ref a::us) (vs:=.ref a::vs) F hr hb hx I2 (.cons rfl r) q2⟩) hst hpl
@[irreducible] def zlK (tbl:List (Addr×Sd))(m:Str)(ex:Ev→Addr→Sto→Prop)(to:TDE)(t:TDA):TDE:=λdl S Q=>to dl S λd S1=>∃n C fs sd,d=.ref n∧S1[n]?=some (.ins C fs)∧(C,sd)∈tbl∧fs.lookup m=none∧t dl S1 λds S2=>sd (d::ds) S2 Q (ex dl)
theorem zqi {m:Str}{o e:Expr}{es:List Expr}{to:TDE}{t:TDA}{apos:Pos}{pl:Sem Bool}{ex:Ev→Addr→Sto→Prop}{W:St→XK}{tbl:List (Addr×Sd)}(ho:PD X ⟨ex,W⟩ o to)(M:MT X m tbl)(hx:zdF X W)(ha:PDA X ⟨ex,W⟩ (e::es) t)
  (hst:starEach (e::es) X.env=(false,eval e X.env)::starEach es X.env:=by rfl)(hpl:(backTo pos (starEach es X.env)).any (·.1)=false:=by rfl)
  (ht:eval (.Call (.Attribute o m apos) (e::es) [] pos) X.env=(do
   let ov ← eval o X.env
   standAt apos.atName
   let (f,first) ← holding [ov] (getMethod ov m pl)
   callWith pos f first (backTo pos (starEach (e::es) X.env)) (backToKw pos (keywordEach [] X.env))):=by rfl):PD X ⟨ex,W⟩ (.Call (.Attribute o m apos) (e::es) [] pos) (zlK tbl m ex to t):=
 zaY (ztt ho M hx ha hst hpl ht) λσ H Qv ⟨r,dl,S,Q,rs,rel,h,ret⟩=>by
  unfold zlK at h
  refine⟨r,dl,S,_,rs,rel,h,λv H1 r1 d S1 e1 rel1 p1 q1=>?_⟩
  obtain⟨n,C,fs,sd,rfl,eS,hm,hl,q1⟩:=q1
  obtain⟨a,dx,fs',rfl,hr1,eH,fr⟩:=zpU (C:=C) (n:=n) (fs:=fs) rel1.b p1 (by simp only[zc9,eS,if_pos])
  exact⟨a,C,dx,fs',sd,rfl,eH,hm,fr.lookup.2 hl,r1,dl,S1,_,rs.ext e1,rel1,q1,λvs H2 r2 ds S2 e2 rel2 p2 q2=>zne (Z:=⟨ex,W⟩) (rs.ext (e1.trans e2)) rel2 (Rps.cons (p1.ext e2) p2) q2 (ret.ext (e1.trans e2))⟩
theorem zo2 {tbl:List (Addr×Sd)}{C:Addr}{m:Str}{ex:Ev→Addr→Sto→Prop}{sd:Sd}{to:TDE}{t:TDA}{dl:Ev}{S S1:Sto}{Q:DK}{n:Nat}{fs:List (Str×D)}(hto:∀K:DK,K (.ref n) S1→to dl S K)(h:S1[n]?=some (.ins C fs))(hm:(C,sd)∈tbl)(hf:fs.lookup m=none)(hq:t dl S1 λds S2=>sd (.ref n::ds) S2 Q (ex dl)):zlK tbl m ex to t dl S Q:=by
 unfold zlK
 exact hto _ ⟨n,C,fs,sd,rfl,h,hm,hf,hq⟩
structure Kx (K:PySem.W.Frag)(C:Addr):Prop where
 cl:Cls K C
 ha:PySem.W.findIn K (.ref C) "__class__"=some (some (.builtin "object.__class__"))
 hn:PySem.W.specialIn K (.builtin "object.__class__") "__get__"=some (some (.builtin "getset_descriptor.__get__"))
 ht:PySem.W.takesIn K (.builtin "object.__class__")=some true
 hm:PySem.W.mroIn K C (.type "object")=some true
def KT (K:PySem.W.Frag)(cv:Value)(ans:List (Addr×Bool)):Prop:=∀C b,(C,b)∈ans→PySem.W.kitOne K (.ref C) cv=some b∧Kx K C
end
section
variable {X:Cx}{Z:Zx}
end
section
variable {n:Nat}{I:Addr}{fp wr:List Addr}{P:Nat→Value→Prop}{St:Nat→Shared→Prop}{prog:Program}{w:World}{A:Around}{s:Shared}{E:Value→Shared→Prop}{G:Array GenState→Array GenState→Prop}
end
section
variable {X:Cx}{Z:Zx}
end
structure zd0 (sc around:Scope)(own caps:List Str):Prop where
 kind:sc.kind=.function
 nocell:∀y∈sc.names,y.2≠.cell
 own:∀y∈sc.names,y.2=.local→sc.names.lookup y.1=some .local
 cap:∀y∈caps,sc.names.lookup y=some .free
 out:∀y∈sc.names,y.2=.free→around.names.lookup y.1=some .cell
def zh5 (k:Nat)(caps:List Nat)(wi:TI)(gt:TG)(te:TE):TE:=λσ H Q=>wi σ H λJ H1=>∀D,H1 D=none→∃W:Nat→Nat→Hp→Prop,(∃m,W 0 m (upd H1 D (.lst [])))∧∀i m H,W i m H→
 (J.stop i H∧Q (.ref D) H)∨(J.go i H∧∀x H',J.yld i H x H'→∀o:St,o.length=k→gt x (o++zbb caps σ) H' λσ8 H8=>(∃o8:St,o8.length=k∧σ8=o8++zbb caps σ)∧
  te σ8 H8 λy H3=>∃ys,H3 D=some (.lst ys)∧ys.length<sizeLine∧∃m',m'<m∧W (i+1) m' (upd H3 D (.lst (ys++[y]))))
section
variable {X:Cx}{pins:List (Addr×Obj)}{σ:St}{H:Hp}{s:Shared}
theorem zt7 {sc:Scope}{own N:List Str}{caps:List Nat}{cl:List (Str×Addr)}{fp:List Addr}{h1:Heap}{m:Str→Option Value}{tk:Nat}(I:Inv X pins σ H s)(cs:zd0 sc X.env.scope own N)
  (hN:∀(j:Nat) (y:Str),N[j]?=some y→∃i,caps[j]?=some i∧X.N[i]?=some y)(hlen:caps.length=N.length)
  (c1:∀x c,cl.lookup x=some c→X.env.cells.lookup x=some c)(c2:∀y∈sc.names,y.2=.free→cl.lookup y.1=X.env.cells.lookup y.1)
  (hf:∀b∈fp,zbK X pins H b)(hfo:∀b∈fp,b<s.heap.objs.size)(hns:h1.Ns s.heap.objs.size m)(hk:∀b o,s.heap.get? b=some o→h1.get? b=some o):
  Inv (Cx.comp X sc (own++N) cl s.heap.objs.size s H fp (X.pn++pins)) [] (List.replicate own.length none++zbb caps σ) H { s with heap:=h1,toks:=tk }:=by
 have stk:∀b∈frs X.stack,b=X.env.locals∨b∈X.fs:=λb hb=>Vaw.mp (I.stkSub b hb)
 refine⟨⟨I.ok.mod,cs.kind,I.ok.glob,I.ok.blt,Vad _,λa b c h1 h2=>I.ok.inj a b c (c1 _ _ h1) (c1 _ _ h2),λy hy=>?_,λ_ _ z=>Bool.noConfusion z,I.ok.hd,I.ok.frames,.inl rfl,λb hb=>⟨Vap (hfo b hb),λy c e=>(hf b hb).2.2.2.2.1 y c (c1 _ _ e)⟩,
  I.bs,VaA I.ok.bsz I.sz,λb o e hb=>?_,λb hb z=>?_,I.stack,I.stkFree⟩,rfl,I.bare,Un.kept hk,⟨m,hns,λi y v e1 e2 e3=>?_⟩,λy c e=>?_,I.hok.fresh (Vad _),λy c e=>I.freeC y c (c1 _ _ e),λp hp=>?_,I.hok.kept hk,?_⟩
 ·have hfr:sc.names.lookup y=some .free:=znf cs.nocell hy
  have hm:=zii hfr
  obtain⟨c,e⟩:=I.ok.has y (.inl (cs.out _ hm rfl))
  exact⟨c,(c2 _ hm rfl).trans e⟩
 ·rcases (hf b hb).2.2.2.1 with z | z
  ·exact I.ok.noex b o e z
  ·exact absurd (Vax (Heap.lt_size (I.ok.bs b o e).1) z) (VaF _)
 ·rcases stk b z with z | z
  ·exact(hf b hb).2.1 z
  ·exact(hf b hb).2.2.1 z
 ·rcases Nat.lt_or_ge i own.length with hi | hi
  ·rw[Vao (by simpa using hi),List.getElem?_replicate] at e2
   simp[hi] at e2
  ·obtain⟨i,rfl⟩:∃k,i=own.length+k:=⟨i-own.length,by omega⟩
   have e1':N[i]?=some y:=by
    rw[Vaz hi] at e1
    simpa using e1
   have e2:(zbb caps σ)[i]?=some (some v):=by
    rw[Vaz (by simp)] at e2
    simpa using e2
   obtain⟨j,hj,hy⟩:=hN i y e1'
   have e2':σ[j]?=some (some v):=by
    simp only[zbb,Vae,hj,Option.map_some,Option.some.injEq] at e2
    cases q:σ[j]? with
    | none=>rw[q] at e2; cases e2
    | some o=>rw[q] at e2; simp at e2; rw[e2]
   have hfr:sc.names.lookup y=some .free:=cs.cap y (Val e1')
   have hm:=zii hfr
   have hce:X.env.scope.names.lookup y=some .cell:=cs.out _ hm rfl
   obtain⟨m0,_,hl⟩:=I.loc
   obtain⟨u,r,l⟩:=hl j y v hy e2' (.inr (.inl hce))
   refine⟨u,r,.inr ⟨znF hfr,?_⟩⟩
   rcases l with ⟨k,_⟩ | ⟨_,c,ec,hcell⟩
   ·rw[show X.env.kindOf y=some .cell from hce] at k; cases k
   ·exact⟨c,(c2 _ hm rfl).trans ec,hcell.keeps hk⟩
 ·obtain⟨v,z⟩:=I.cell y c (c1 _ _ e)
  exact⟨v,z.keeps hk⟩
 ·have hp':p∈X.pn++pins:=by simpa using hp
  obtain⟨p1,p2,p3,p4,p5⟩:=I.pin p hp'
  refine⟨hk _ _ p1,p2,Vap (Heap.lt_size p1),λz=>?_,p5⟩
  rcases stk _ z with z | z
  ·exact p3 z
  ·exact p4 z
 ·simp[zbb,hlen]
end
section
variable {X:Cx}{elt iter:Expr}{elts:List Expr}{kk:Nat}{tp:Pos}{pos:Pos}{sc:Scope}{own N:List Str}{caps:List Nat}{wi:TI}{gt:TG}{te:TE}
theorem zqU {use:Option (Value→Sem Unit)}{Qr:Value→Shared→Prop}(hc:X.calm=true)(cs:zd0 sc X.env.scope own N)(hN:∀(j:Nat) (y:Str),N[j]?=some y→∃i,caps[j]?=some i∧X.N[i]?=some y)(hlen:caps.length=N.length)
  (hi:PI X (.Tuple elts kk tp) iter wi)(hg:∀cl C s0 H0 fp pn,PG (Cx.comp X sc (own++N) cl C s0 H0 fp pn) (.Tuple elts kk tp) gt)(he:∀cl C s0 H0 fp pn,PE (Cx.comp X sc (own++N) cl C s0 H0 fp pn) elt te)
  (hs:∀y,foldedSetIterable iter X.env y=pure y)
  {pins:List (Addr×Obj)}{s:Shared}{σ:St}{H:Hp}{Q:VK}{p2:Pos}(I:Inv X pins σ H s)(h:zh5 own.length caps wi gt te σ H Q)
  (fin:∀D C s',zql X pins σ C Q D s'→compPost (model X.prog X.w) X.A X.xe use Qr (.ref D) C (.ok .next) s'):
  wpAny (model X.prog X.w) X.A (comprehension (.ListComp elt [⟨.Tuple elts kk tp,iter,[],0⟩] sc pos) sc X.env p2 (newList []) false (eval iter X.env) use) Qr X.xe s:=by
 obtain⟨cl,k1,k2,k3⟩:=zqn (sc:=sc) (env:=X.env) λy hy hf=>I.ok.has y.1 (.inl (cs.out y hy hf))
 refine wpAny_comprehension_free rfl hs k1 cs.kind cs.own (thn (hi pins s σ H _ I h) λv s1 h1=>thn h1 λitv s2 h2=>?_)
 obtain⟨it,fp,tn,J,H2,e,I2,T,st2,f2,body⟩:=h2
 subst e
 have hfo:∀b∈fp,b<s2.heap.objs.size:=λb hb=>by
  obtain⟨o,e,_⟩:=T.obj _ _ st2 b hb
  exact Heap.lt_size e
 have hD:H2 s2.heap.objs.size=none:=I2.hok.fresh (Vad _)
 obtain⟨W,⟨m0,w0⟩,turn⟩:=body _ hD
 refine wpAny_newObj_type ?_
 have I3:Inv X pins σ (upd H2 s2.heap.objs.size (.lst [])) { s2 with heap:=s2.heap.push { cls:=.type "list",dict:=none,data:=.seq ([]:List Value).toArray },toks:=s2.toks }:=
  I2.laid (t':=s2.toks) (λb u e=>Heap.get?_push_of_some _ e) (Vad _) ⟨Vat _,[],0,.nil,Heap.get?_push_size _ rfl⟩
 generalize hs3:({ s2 with heap:=s2.heap.push { cls:=.type "list",dict:=none,data:=.seq ([]:List Value).toArray },toks:=s2.toks }:Shared)=s3 at I3
 have es3:({ s2 with heap:=s2.heap.push { cls:=.type "list",dict:=none,data:=.seq ([]:List Value).toArray } }:Shared)=s3:=hs3
 try rw[es3]
 have f3:∀b∈fp,zbK X pins (upd H2 s2.heap.objs.size (.lst [])) b:=λb hb=>⟨by rw[za0 (Vap (hfo b hb))]; exact(f2 b hb).1,(f2 b hb).2⟩
 have up3:∀b o,s2.heap.get? b=some o→s3.heap.get? b=some o:=λb o e=>by rw[← hs3]; exact Heap.get?_push_of_some _ e
 have st3:tn 0 s3.heap:=T.keep _ _ _ st2 λb _ o e=>up3 b o e
 have hfo3:∀b∈fp,b<s3.heap.objs.size:=λb hb=>by
  obtain⟨o,e,_⟩:=T.obj _ _ st3 b hb
  exact Heap.lt_size e
 refine wpAny_newFunctionEnv cs.nocell (λy hy=>by simp at hy) (λh4 ns4 sb4=>?_) cs.kind
 have hk4:∀b o,s3.heap.get? b=some o→h4.get? b=some o:=λb o e=>(sb4.2 b (Vap (Heap.lt_size e))).trans (Heap.get?_push_of_some _ e)
 have I4:=zt7 (tk:=s3.toks+([]:List (Str×Value)).length) I3 cs hN hlen k2 k3 f3 hfo3 ns4 hk4
 generalize hs4:({ s3 with heap:=h4,toks:=s3.toks+([]:List (Str×Value)).length }:Shared)=s4 at I4 ⊢
 have eh4:s4.heap=h4:=by rw[← hs4]
 have st4:tn 0 s4.heap:=by rw[eh4]; exact T.keep _ _ _ st3 λb _ o e=>hk4 b o e
 have fY:∀ {H':Hp},(∀b∈fp,H' b=none)→∀b∈fp,zbK (Cx.comp X sc (own++N) cl s3.heap.objs.size s3 (upd H2 s2.heap.objs.size (.lst [])) fp (X.pn++pins)) [] H' b:=λhn b hb=>by
  obtain⟨_,z2,z3,z4,z5,z6⟩:=f3 b hb
  refine⟨hn b hb,Vap (hfo3 b hb),λz=>?_,.inl hb,λy c e=>z5 y c (k2 _ _ e),λp hp=>z6 p (by simpa using hp)⟩
  rcases Vaw.mp (I3.stkSub b z) with z | z
  ·exact z2 z
  ·exact z3 z
 have loop:codeAny (model X.prog X.w) X.A (.compLoop (.ListComp elt [⟨.Tuple elts kk tp,iter,[],0⟩] sc pos) 0 (.ref it) (.ref s2.heap.objs.size) (compEnvC sc cl s3.heap.objs.size X.env))
   (compPost (model X.prog X.w) X.A X.xe use Qr (.ref s2.heap.objs.size) s3.heap.objs.size) s4:=by
  refine LCp.codeAny_compLoop_pair (λn s'=>∃i o H',o.length=own.length∧Inv (Cx.comp X sc (own++N) cl s3.heap.objs.size s3 (upd H2 s2.heap.objs.size (.lst [])) fp (X.pn++pins)) [] (o++zbb caps σ) H' s'∧tn i s'.heap∧(∀b∈fp,H' b=none)∧W i n H') ?_ m0
   ⟨0,_,_,List.length_replicate,I4,st4,λb hb=>(f3 b hb).1,w0⟩
  rintro n s5 ⟨i,o,H5,ho,I5,st5,fr5,w5⟩
  rcases turn i n H5 w5 with ⟨stop,q⟩ | ⟨go,step⟩
  ·refine thn (T.done (Cx.comp X sc (own++N) cl s3.heap.objs.size s3 (upd H2 s2.heap.objs.size (.lst [])) fp (X.pn++pins)) rfl rfl rfl hc i [] s5 _ H5 _ I5 (fY fr5) st5 stop) λr s6 ⟨hr,I6⟩=>?_
   subst hr
   refine fin _ _ _ ⟨⟨H5,I3.call' I6.os I6.base I6.hok I6.bare (λb hb=>?_),q,I6.free⟩,?_,Nat.ne_of_gt I3.lt,I3.sz,λy c e z=>?_,λp hp z=>?_⟩
   ·obtain⟨_,z2,z3,z4,z5,z6⟩:=f3 b hb
    exact⟨z4,z2,z5,z6⟩
   ·obtain⟨m,hm,_⟩:=I6.loc
    exact⟨m,hm⟩
   ·obtain⟨v,hv⟩:=I3.cell y c e
    exact absurd (z ▸ hv.lt) (VaF _)
   ·exact absurd (z ▸ Heap.lt_size (I3.pin p hp).1) (VaF _)
  ·refine thn (T.item (Cx.comp X sc (own++N) cl s3.heap.objs.size s3 (upd H2 s2.heap.objs.size (.lst [])) fp (X.pn++pins)) rfl rfl rfl hc i [] s5 _ H5 _ I5 (fY fr5) st5 go) λr s6 ⟨u,hr,h6⟩=>?_
   subst hr
   refine wpAny_mono h6 (λ_ s7 ⟨y,H7,I7,r7,y7,st7,fr7⟩=>?_) λ_ _ z=>z
   have I7':=I7.pinned (fY fr7) (T.obj _ _ st7)
   refine wpAny_mono (hg _ _ _ _ _ _ _ s7 _ H7 y u _ I7' r7 (step y H7 y7 o ho)) (λ_ s8 ⟨σ8,H8,I8,⟨o8,ho8,e8⟩,q8⟩=>?_) λ_ _ z=>z.elim
   subst e8
   have stay:∀ {H':Hp} {s':Shared},Inv (Cx.comp X sc (own++N) cl s3.heap.objs.size s3 (upd H2 s2.heap.objs.size (.lst [])) fp (X.pn++pins)) ([]++zfW fp s7.heap) (o8++zbb caps σ) H' s'→∀m',m'<n→W (i+1) m' H'→
     ∃m,m<n∧∃i o H',o.length=own.length∧Inv (Cx.comp X sc (own++N) cl s3.heap.objs.size s3 (upd H2 s2.heap.objs.size (.lst [])) fp (X.pn++pins)) [] (o++zbb caps σ) H' s'∧tn i s'.heap∧(∀b∈fp,H' b=none)∧W i m H':=λ{H' s'} J m' hm w'=>by
    refine⟨m',hm,i+1,o8,H',ho8,J.unpinned,T.keep _ _ _ st7 λb hb o e=>(J.pin (b,o) (VaG _ (VaG _ (zeS hb e)))).1,λb hb=>?_,w'⟩
    obtain⟨o,e,d⟩:=T.obj _ _ st7 b hb
    exact(J.pin (b,o) (VaG _ (VaG _ (zeS hb e)))).2.1
   refine wpAny_mono (he _ _ _ _ _ _ _ s8 _ H8 _ I8 q8) (λu2 s10 ⟨z,H10,I10,r10,q10⟩=>?_) λ_ _ z=>z.elim
   obtain⟨ys,hD10,hlt,m',hm,w10⟩:=q10
   refine wpAny_mono (zm7 (X:=(Cx.comp X sc (own++N) cl s3.heap.objs.size s3 (upd H2 s2.heap.objs.size (.lst [])) fp (X.pn++pins))) _ s10 _ H10 (.ref s2.heap.objs.size) [z] (.ref s2.heap.objs.size) [u2] (λ_ H'=>H'=upd H10 s2.heap.objs.size (.lst (ys++[z]))) I10 rfl (.cons r10 .nil) ⟨_,ys,z,rfl,rfl,hD10,hlt,rfl⟩) (λ_ s11 ⟨_,H11,I11,_,e11⟩=>?_) λ_ _ z=>z.elim
   subst e11
   exact stay I11 m' hm w10
 exact codeAny_compStart_list loop (T.self _ 0 s4 _ _ st4 loop)
theorem zpz (hc:X.calm=true)(cs:zd0 sc X.env.scope own N)(hN:caps.map (λi=>X.N[i]?)=N.map some)
  (hi:PI X (.Tuple elts kk tp) iter wi)(hg:∀cl C s0 H0 fp pn,PG (Cx.comp X sc (own++N) cl C s0 H0 fp pn) (.Tuple elts kk tp) gt)(he:∀cl C s0 H0 fp pn,PE (Cx.comp X sc (own++N) cl C s0 H0 fp pn) elt te)
  (hs:∀y,foldedSetIterable iter X.env y=pure y:=by intro _; rfl):PE X (.ListComp elt [⟨.Tuple elts kk tp,iter,[],0⟩] sc pos) (zh5 own.length caps wi gt te):=by
 intro pins s σ H Q I h
 rw[eval_ListComp]
 refine zqU (use:=none) hc cs (zdP hN).1 (zdP hN).2 hi hg he hs I h λD C s' f=>?_
 obtain⟨⟨H',I',q,hC⟩,⟨m,ns⟩,l,o,c,p⟩:=f
 exact⟨m,ns,λh' sb=>⟨.ref D,H',I'.turned (t':=s'.toks) (λb ob hb e=>(sb.2 b hb).trans e) hC l (.inr o) c p,rfl,q⟩⟩
end
section
variable {X:Cx}{Z:Zx}{elt:Expr}{pos:Pos}{sc ar:Scope}{N:List Str}{caps:List Nat}
def zl5 (caps:List Nat)(te:TDE)(k:Nat)(dl:Ev)(d1 d2:D)(S:Sto)(nx:Sto→Prop):Prop:=
 te (some d1::some d2::zbt caps dl) S λy S2=>match S2[k]? with
  | some (.lst ys)=>ys.length<1000∧nx (S2.set k (.lst (ys++[y])))
  | _=>False
@[irreducible] def zir (caps:List Nat)(ta:TDA)(te:TDE):TDE:=λdl S Q=>ta dl S λds S1=>match ds with
 | [.ref n]=>(lAt S1 n).isSome=true∧∃W:Nat→Nat→Sto→Prop,(∃m,W 0 m (S1++[.lst []]))∧∀k m S2,W k m S2→match lAt S2 n with
  | some o=>match (zak o)[k]? with
   | some y=>zl5 caps te S1.length dl (.int (k:Int)) y S2 λS3=>∃m',m'<m∧W (k+1) m' S3
   | none=>k=(zak o).length∧Q (.ref S1.length) S2
  | none=>False
 | _=>False
theorem zqy {r:List Addr}{H:Hp}{dl:Ev}{σ:St}{d1 d2:D}{v1 v2:V}(h:Rs r H dl σ)(p1:Rp r H d1 v1)(p2:Rp r H d2 v2):Rs r H (some d1::some d2::zbt caps dl) (some v1::some v2::zbb caps σ):=by
 have z:=zpe (caps:=caps) h p2
 refine⟨by have:=z.1; simp only[Vay] at this ⊢; omega,λi e hi=>?_⟩
 cases i with
 | zero=>simp at hi; subst hi; exact⟨v1,rfl,p1⟩
 | succ i=>exact z.2 i e (by simpa using hi)
theorem zv1 {ta:TDA}{te:TDE}{σ:St}{H:Hp}{Qv:VK}(h:up X.K Z (zir caps ta te) σ H Qv):
  zh5 2 caps (zqh X.K (upA X.K Z ta)) (zeK X.K 2 (zeY [0,1])) (up X.K Z0 te) σ H Qv:=by
 obtain⟨r,dl,S,Q,rs,rel,h,ret⟩:=h
 unfold zir at h
 refine⟨r,dl,S,_,rs,rel,h,λvs H1 r1 ds S1 x1 rel1 p1 q1=>?_⟩
 split at q1
 ·rename_i n
  obtain⟨v,vs',rfl,p2,p3⟩:=p1.uncons
  have z:=p3.unnil
  subst z
  cases p2 with
  | @ref n a hr=>
   obtain⟨hsome,W,⟨m0,w0⟩,turn⟩:=q1
   obtain⟨o1,eo1⟩:=VaP.mp hsome
   obtain⟨xs1,sq1,_⟩:=zdc (r:=r1) hr rel1.b eo1
   refine⟨a,rfl,⟨xs1,sq1⟩,λD0 hD=>?_⟩
   obtain⟨rel2,x2⟩:=rel1.b.push (ds:=[]) (xs:=[]) hD Rps.nil
   refine⟨λk m H'=>∃r' S',Ext (r1++[D0]) r' (upd H1 D0 (.lst [])) H'∧zaU X.K r' S' H'∧W k m S',⟨m0,_,_,Ext.refl,rel2,w0⟩,?_⟩
   rintro k m H2 ⟨r2,S2,x3,rb2,w2⟩
   have ha2:r2[S1.length]?=some D0:=x3.adr _ _ (zif rel1.len)
   have hr2:r2[n]?=some a:=(x2.trans x3).adr _ _ hr
   have q:=turn k m S2 w2
   split at q
   ·rename_i o eo
    obtain⟨xs,sq,pr⟩:=zdc (r:=r2) hr2 rb2 eo
    split at q
    ·rename_i y ey
     obtain⟨v,hv,pv⟩:=pr.get ey
     refine .inr ⟨⟨xs,v,sq,hv⟩,λv' H' y' o8 ho8=>?_⟩
     obtain⟨T,w,rfl,hT,rfl,hw⟩:=y'
     have ew:w=v:=by
      have z:=hw xs sq
      rw[hv] at z; exact(Option.some.inj z).symm
     subst ew
     obtain⟨c1,c2,rfl⟩:∃c1 c2,o8=[c1,c2]:=by
      match o8,ho8 with
      | [c1,c2],_=>exact⟨c1,c2,rfl⟩
     have x4:Ext r2 r2 H2 (upd H2 T (.tup [.int (k:Int),w])):=zn8 hT
     have rb3:=rb2.same (zdf (o:=.tup [.int (k:Int),w]) hT)
     have rs3:=rs.ext (x1.trans (x2.trans (x3.trans x4)))
     refine⟨T,[.int (k:Int),w],rfl,SqT.of zcK,rfl,rfl,⟨[some (.int (k:Int)),some w],rfl,rfl⟩,?_⟩
     have rsY:=zqy (caps:=caps) rs3 (.int (k:Int)) (pv.ext x4)
     refine⟨r2,_,S2,_,rsY,⟨rb3,λ_ _ _ _ _ _ _ _ _ z=>z.elim⟩,q,λz H4 r4 dz S4 x6 rel4 p4 q4=>?_⟩
     split at q4
     ·rename_i ys eys
      obtain⟨hl,m',hm,q4⟩:=q4
      have ha4:r4[S1.length]?=some D0:=x6.adr _ _ ha2
      obtain⟨zs,hD4,pz⟩:=rel4.b.ob _ _ _ ha4 eys
      obtain⟨rel5,x7⟩:=rel4.b.set ha4 eys (pz.snoc p4)
      exact⟨zs,hD4,by rw[← pz.1]; exact zgE (VaU hl),m',hm,r4,_,x3.trans (x4.trans (x6.trans x7)),rel5,q4⟩
     ·exact q4.elim
    ·obtain⟨hk,q⟩:=q
     exact .inl ⟨⟨xs,sq,by rw[← pr.1]; exact hk.symm⟩,ret _ H2 r2 _ S2 (x1.trans (x2.trans x3)) ⟨rb2,rel.xw.ext (x1.trans (x2.trans x3))⟩ (.ref ha2) q⟩
   ·exact q.elim
 ·exact q1.elim
theorem zfG {ta:TDA}{te:TDE}{x1 x2:Str}{p1 p2 p pos2 tp:Pos}{kk:Nat}{a:Expr}(har:X.env.scope=ar)(hc:X.calm=true)(cs:zd0 sc ar [x1,x2] N)(hl1:sc.names.lookup x1=some .local)(hl2:sc.names.lookup x2=some .local)
  (hN:caps.map (λi=>X.N[i]?)=N.map some)(hnd:([x1,x2]++N).Nodup)(hg:Gl X "enumerate")(hm:X.mg "enumerate"=none)(hv:bootBuiltins "enumerate"=some (.type "enumerate"))(ha:PDA X Z [a] ta)
  (he:∀cl C s0 H0 fp pn,PD (Cx.comp X sc ([x1,x2]++N) cl C s0 H0 fp pn) Z0 elt te)
  (hse:starEach [a] X.env=[(false,eval a X.env)]:=by rfl)(hs:∀y,foldedSetIterable (.Call (.Name "enumerate" p) [a] [] pos2) X.env y=pure y:=by intro _; rfl):
  PD X Z (.ListComp elt [⟨.Tuple [.Name x1 p1,.Name x2 p2] kk tp,.Call (.Name "enumerate" p) [a] [] pos2,[],0⟩] sc pos) (zir caps ta te):=by
 subst har
 refine zaY (zpz hc cs hN (gt:=zeK X.K 2 (zeY [0,1])) (te:=up X.K Z0 te) (zxk hg hm hv ha hse) (λcl C s0 H0 fp pn=>?_) he hs) λ_ _ _ h=>zv1 h
 have l1:(Cx.comp X sc ([x1,x2]++N) cl C s0 H0 fp pn).env.scope.names.lookup x1=some .local:=lookup_relabel_local hl1
 have l2:(Cx.comp X sc ([x1,x2]++N) cl C s0 H0 fp pn).env.scope.names.lookup x2=some .local:=lookup_relabel_local hl2
 exact zik hc (ze5 hnd (.cons rfl (.inl l1) (.inr l1) (.cons rfl (.inl l2) (.inr l2) .nil))) rfl rfl
end
section
variable {X:Cx}{Z:Zx}{pos:Pos}
def zkM:WC:=λds S Q=>match ds with
 | [.ref n]=>match lAt S n with
  | some o=>match zcc (zak o) with
   | some ns=>Q (.int ns.sum) S
   | none=>False
  | none=>False
 | _=>False
theorem zf0 (hc:X.calm=true):za7 X (.builtin "sum") (upC X.K Z zkM):=by
 intro pins s σ H xs us Qv I rv h
 obtain⟨r,S,ds,Q,rel,ps,q,ret⟩:=h
 unfold zkM at q
 split at q
 ·rename_i n
  obtain⟨v,vs,rfl,p1,p2⟩:=ps.uncons
  have z:=p2.unnil
  subst z
  split at q
  ·rename_i o eo
   split at q
   ·rename_i ns en
    cases p1 with
    | ref h1=>
     obtain⟨eo,eL⟩:=zbr eo
     obtain⟨a,ha,ob⟩:=rel.at eo
     rw[h1] at ha; cases ha
     obtain⟨ys,sq,pr⟩:=ob.list eL
     obtain⟨u,rfl,ru⟩:=zdJ rv
     cases ru
     obtain⟨its,ri,pl,hz⟩:=I.list sq
     obtain⟨zs,hz1,hz2⟩:=zlw en pr ri
     have isl:=pl.isList
     rw[hz1] at isl
     refine sum_intListG (I.ok.hd hc) isl λh' tk t' hk=>?_
     have e:preSum (numAt zs.toArray) zs.toArray.size=ns.sum:=by
      rw[preSum_eq,VaD (by simp)]
      show (zs.map (·.1)).sum=ns.sum
      rw[hz2]
     rw[e]
     exact⟨.int _,H,I.kept hk,⟨_,rfl⟩,ret _ _ _ _ _ Ext.refl rel (.int _) q⟩
   ·exact q.elim
  ·exact q.elim
 ·exact q.elim
end
section
variable {X:Cx}{Z:Zx}
theorem zvd {A:Around}{k n m:Nat}{a a':Addr}{o o':Ob}{b:Bool}{pins:List (Addr×Obj)}{σ:St}{H:Hp}{s:Shared}{r:List Addr}{S:Sto}(I:Inv X pins σ H s)(rel:Rel X.K Z r S H)(hn:r[n]?=some a)(hm:r[m]?=some a')(eo:lAt S n=some o)(eo':lAt S m=some o')
  (e:eqL (eqN k) (zak o) (zak o')=some b)(hu:A.units+1+k<cLine):SeqAt.RcAt A s (.ref a) (.ref a') b:=by
 obtain⟨eo,eL⟩:=zbr eo
 obtain⟨eo',eL'⟩:=zbr eo'
 obtain⟨z,hz,ob⟩:=rel.at eo
 rw[hn] at hz; cases hz
 obtain⟨z,hz,ob'⟩:=rel.at eo'
 rw[hm] at hz; cases hz
 obtain⟨xs,sq,pr⟩:=ob.list eL
 obtain⟨ys,sq',pr'⟩:=ob'.list eL'
 obtain⟨is,ri,pl,_⟩:=I.list sq
 obtain⟨js,rj,pl',_⟩:=I.list sq'
 obtain⟨g1,g2⟩:=zg9 (A:=A.in1) (zeV k) I (by show A.units+1+k<_; omega) pr pr' ri rj e
 by_cases hs:is.toArray.size=js.toArray.size
 ·have q:=SeqAt.RcAt.lists (A:=A) pl.isList pl'.isList hs (by omega) g1
  have e2:(List.range is.toArray.size).all (zcC (eqN k) (zak o) (zak o'))=b:=by
   rw[← g2,← hs,Nat.min_self]; simp
  rw[e2] at q
  exact q
 ·have q:=SeqAt.RcAt.lists_lengths (A:=A) pl.isList pl'.isList (by simpa using hs) (by omega)
  have e2:b=false:=by
   rw[← g2,show (is.toArray.size==js.toArray.size)=false by simpa using hs,Bool.and_false]
  rw[e2]
  exact q
def zlD:W2:=λx y S Q=>match x,y with
 | .ref n,.ref m=>(∃ds es,S[n]?=some (.lst ds)∧S[m]?=some (.lst es)∧ds.length=es.length∧∀(k:Nat) (d e:D),ds[k]?=some d→es[k]?=some e→∃a b xs ys,d=.ref a∧e=.ref b∧S[a]?=some (.lst xs)∧S[b]?=some (.lst ys)∧eqL (eqN 1) xs ys=some true)∧Q (.bl false) S
 | _,_=>False
theorem zvE {j:Nat}(hr:zaK j X.A):OpR X (compareOp .NotEq) (upO X.K Z zlD):=by
 intro pins s σ H x y v u Qv I rx ry h
 obtain⟨r,S,dx,dy,Q,rel,px,py,q,ret⟩:=h
 have hun:=hr.un
 unfold zlD at q
 split at q
 ·rename_i n m
  obtain⟨⟨ds,es,e1,e2,hl,hall⟩,q⟩:=q
  cases px with
  | @ref n a hn=>
   cases py with
   | @ref m a' hm=>
    cases rx
    cases ry
    obtain⟨z,hz,ob⟩:=rel.at e1
    rw[hn] at hz; cases hz
    obtain⟨z,hz,ob'⟩:=rel.at e2
    rw[hm] at hz; cases hz
    obtain⟨xs,sq,pr⟩:=ob.list rfl
    obtain⟨ys,sq',pr'⟩:=ob'.list rfl
    obtain⟨is,ri,pl,_⟩:=I.list sq
    obtain⟨js,rj,pl',_⟩:=I.list sq'
    have l1:ds.length=xs.length:=pr.1
    have l2:es.length=ys.length:=pr'.1
    have l3:=ri.length
    have l4:=rj.length
    have main:∀(k:Nat) (h1:k<is.toArray.size) (h2:k<js.toArray.size),SeqAt.EqAt X.A.in1 s is.toArray[k] js.toArray[k] true:=λk h1 h2=>by
     have k1:k<is.length:=by simpa using h1
     have k2:k<js.length:=by simpa using h2
     obtain⟨d,hd,pd⟩:=pr.get' (Vaa (l:=xs) (i:=k) (by omega))
     obtain⟨e,he,pe⟩:=pr'.get' (Vaa (l:=ys) (i:=k) (by omega))
     obtain⟨a1,b1,xs1,ys1,rfl,rfl,s1,s2,eq⟩:=hall k d e hd he
     obtain⟨u1,hu1,ru1⟩:=ri.get (Vaa (l:=xs) (i:=k) (by omega))
     obtain⟨u2,hu2,ru2⟩:=rj.get (Vaa (l:=ys) (i:=k) (by omega))
     have z1:is.toArray[k]=u1:=by
      rw[Vaa k1] at hu1
      simpa using Option.some.inj hu1
     have z2:js.toArray[k]=u2:=by
      rw[Vaa k2] at hu2
      simpa using Option.some.inj hu2
     rw[z1,z2]
     generalize xs[k]'(by omega)=v1 at pd ru1
     generalize ys[k]'(by omega)=v2 at pe ru2
     cases pd with
     | @ref _ p hp=>
      cases pe with
      | @ref _ p' hp'=>
       cases ru1
       cases ru2
       by_cases hne:p=p'
       ·subst hne; exact SeqAt.EqAt.same _
       ·exact SeqAt.EqAt.of_refs hne (zvd (A:=X.A.in1) I rel hp hp' (zaN s1 rfl) (zaN s2 rfl) eq (by show X.A.units+1+1+1<_; omega))
    have q2:=SeqAt.RcNeAt.lists (A:=X.A) (e:=λ_=>true) pl.isList pl'.isList (by simp; omega) (by omega) main
    have e3:(!(List.range is.toArray.size).all λ_=>true)=false:=by simp
    rw[e3] at q2
    exact q2 X.prog X.w X.xe _ ⟨.bl false,H,I,rfl,ret _ _ _ _ _ Ext.refl rel (.bl false) q⟩
 ·exact q.elim
end
section
variable {X:Cx}{Z:Zx}{pos:Pos}
theorem zja:∀ {us:List Value} {ms:List Int},IntsAre us ms→zat (ms.map V.int) us
 | _,_,.nil=>.nil
 | _,_,.cons n t h=>.cons ⟨t,rfl⟩ (zja h)
def zlV:W2:=λx y S Q=>match x,y with
 | .ref n,.int k=>match S[n]? with
  | some (.lst xs)=>(0≤k∧k≤1000∧xs.length*k.toNat≤1000)∧Q (.ref S.length) (S++[.lst (List.replicate k.toNat xs).flatten])
  | _=>False
 | _,_=>False
theorem Rps.rep {r:List Addr}{H:Hp}{ds:List D}{xs:List V}(h:Rps r H ds xs):∀k:Nat,Rps r H (List.replicate k ds).flatten (List.replicate k xs).flatten
 | 0=>Rps.nil
 | k+1=>by
  simp only[Va8,Vbf]
  exact h.app (Rps.rep h k)
theorem zw5:OpR X (binaryOp .Mult) (upO X.K Z (zbV zlV)):=by
 rw[zcu]
 exact zeN zsd λx y H Qv ⟨r,S,dx,dy,Q,rel,px,py,q,ret⟩=>by
  unfold zlV at q
  split at q
  ·rename_i n k
   split at q
   ·rename_i xs e1
    obtain⟨⟨h0,h1,hl⟩,q⟩:=q
    cases py
    cases px with
    | @ref _ a hn=>
     obtain⟨z,hz,ob⟩:=rel.at e1
     rw[hn] at hz; cases hz
     obtain⟨us,g1,p1⟩:=ob
     refine⟨a,k,us,rfl,rfl,g1,by omega,by omega,by rw[← p1.1]; exact zep hl,λp hp=>?_⟩
     obtain⟨rel4,x⟩:=rel.push hp (p1.rep k.toNat)
     exact ret _ _ _ (.ref S.length) _ x rel4 (zek rel.len) q
   ·exact q.elim
  ·exact q.elim
theorem zuS {n:Nat}{k:Int}{S:Sto}{Q:DK}{xs:List D}(h1:S[n]?=some (.lst xs))(hk:0≤k∧k≤1000)(hl:xs.length*k.toNat≤1000)(hq:Q (.ref S.length) (S++[.lst (List.replicate k.toNat xs).flatten])):zbV zlV (.ref n) (.int k) S Q:=by
 rw[zcu]
 unfold zlV
 simp only[h1]
 exact⟨⟨hk.1,hk.2,hl⟩,hq⟩
end
section
variable {X:Cx}{Z:Zx}{elt:Expr}{pos:Pos}{sc ar:Scope}{N:List Str}{caps:List Nat}
@[irreducible] def zfj (caps:List Nat)(ta:TDA)(te:TDE):TDE:=λdl S Q=>ta dl S λds S1=>match ds with
 | [.ref n,.ref n']=>((lAt S1 n).isSome=true∧(lAt S1 n').isSome=true)∧∃W:Nat→Nat→Sto→Prop,(∃m,W 0 m (S1++[.lst []]))∧∀k m S2,W k m S2→match lAt S2 n,lAt S2 n' with
  | some o,some o'=>match (zak o)[k]?,(zak o')[k]? with
   | some x,some y=>zl5 caps te S1.length dl x y S2 λS3=>∃m',m'<m∧W (k+1) m' S3
   | _,_=>k=min (zak o).length (zak o').length∧Q (.ref S1.length) S2
  | _,_=>False
 | _=>False
theorem zrv {ta:TDA}{te:TDE}{σ:St}{H:Hp}{Qv:VK}(h:up X.K Z (zfj caps ta te) σ H Qv):
  zh5 2 caps (iZip X.K (upA X.K Z ta)) (zeK X.K 2 (zeY [0,1])) (up X.K Z0 te) σ H Qv:=by
 obtain⟨r,dl,S,Q,rs,rel,h,ret⟩:=h
 unfold zfj at h
 refine⟨r,dl,S,_,rs,rel,h,λvs H1 r1 ds S1 x1 rel1 p1 q1=>?_⟩
 split at q1
 ·rename_i n n'
  obtain⟨v,vs',rfl,p2,p3⟩:=p1.uncons
  obtain⟨v',vs2,rfl,p4,p5⟩:=p3.uncons
  have z:=p5.unnil
  subst z
  cases p2 with
  | @ref n a hr=>
   cases p4 with
   | @ref n' a' hr'=>
    obtain⟨⟨hsome,hsome'⟩,W,⟨m0,w0⟩,turn⟩:=q1
    obtain⟨o1,eo1⟩:=VaP.mp hsome
    obtain⟨o2,eo2⟩:=VaP.mp hsome'
    obtain⟨xs1,sq1,_⟩:=zdc (r:=r1) hr rel1.b eo1
    obtain⟨ys1,sq2,_⟩:=zdc (r:=r1) hr' rel1.b eo2
    refine⟨a,a',rfl,⟨xs1,sq1⟩,⟨ys1,sq2⟩,λD0 hD=>?_⟩
    obtain⟨rel2,x2⟩:=rel1.b.push (ds:=[]) (xs:=[]) hD Rps.nil
    refine⟨λk m H'=>∃r' S',Ext (r1++[D0]) r' (upd H1 D0 (.lst [])) H'∧zaU X.K r' S' H'∧W k m S',⟨m0,_,_,Ext.refl,rel2,w0⟩,?_⟩
    rintro k m H2 ⟨r2,S2,x3,rb2,w2⟩
    have ha2:r2[S1.length]?=some D0:=x3.adr _ _ (zif rel1.len)
    have hr2:r2[n]?=some a:=(x2.trans x3).adr _ _ hr
    have hr2':r2[n']?=some a':=(x2.trans x3).adr _ _ hr'
    have q:=turn k m S2 w2
    split at q
    ·rename_i o o' eo eo'
     obtain⟨xs,sq,pr⟩:=zdc (r:=r2) hr2 rb2 eo
     obtain⟨ys,sq',pr'⟩:=zdc (r:=r2) hr2' rb2 eo'
     split at q
     ·rename_i y y2 ey ey2
      obtain⟨v,hv,pv⟩:=pr.get ey
      obtain⟨u,hvu,pu⟩:=pr'.get ey2
      refine .inr ⟨⟨xs,ys,v,u,sq,sq',hv,hvu⟩,λv' H' y' o8 ho8=>?_⟩
      obtain⟨T,w,w2',rfl,hT,rfl,hw,hw2⟩:=y'
      have ew:w=v:=by
       have z:=hw xs sq
       rw[hv] at z; exact(Option.some.inj z).symm
      have ew2:w2'=u:=by
       have z:=hw2 ys sq'
       rw[hvu] at z; exact(Option.some.inj z).symm
      subst ew ew2
      obtain⟨c1,c2,rfl⟩:∃c1 c2,o8=[c1,c2]:=by
       match o8,ho8 with
       | [c1,c2],_=>exact⟨c1,c2,rfl⟩
      have x4:Ext r2 r2 H2 (upd H2 T (.tup [w,w2'])):=zn8 hT
      have rb3:=rb2.same (zdf (o:=.tup [w,w2']) hT)
      have rs3:=rs.ext (x1.trans (x2.trans (x3.trans x4)))
      refine⟨T,[w,w2'],rfl,SqT.of zcK,rfl,rfl,⟨[some w,some w2'],rfl,rfl⟩,?_⟩
      have rsY:=zqy (caps:=caps) rs3 (pv.ext x4) (pu.ext x4)
      refine⟨r2,_,S2,_,rsY,⟨rb3,λ_ _ _ _ _ _ _ _ _ z=>z.elim⟩,q,λz H4 r4 dz S4 x6 rel4 p4 q4=>?_⟩
      split at q4
      ·rename_i ys eys
       obtain⟨hl,m',hm,q4⟩:=q4
       have ha4:r4[S1.length]?=some D0:=x6.adr _ _ ha2
       obtain⟨zs,hD4,pz⟩:=rel4.b.ob _ _ _ ha4 eys
       obtain⟨rel5,x7⟩:=rel4.b.set ha4 eys (pz.snoc p4)
       exact⟨zs,hD4,by rw[← pz.1]; exact zgE (VaU hl),m',hm,r4,_,x3.trans (x4.trans (x6.trans x7)),rel5,q4⟩
      ·exact q4.elim
     ·obtain⟨hk,q⟩:=q
      exact .inl ⟨⟨xs,ys,sq,sq',by rw[← pr.1,← pr'.1]; exact hk.symm⟩,ret _ H2 r2 _ S2 (x1.trans (x2.trans x3)) ⟨rb2,rel.xw.ext (x1.trans (x2.trans x3))⟩ (.ref ha2) q⟩
    ·exact q.elim
 ·exact q1.elim
theorem zmD {ta:TDA}{te:TDE}{x1 x2:Str}{p1 p2 p pos2 tp:Pos}{kk:Nat}{a b:Expr}(har:X.env.scope=ar)(hc:X.calm=true)(cs:zd0 sc ar [x1,x2] N)(hl1:sc.names.lookup x1=some .local)(hl2:sc.names.lookup x2=some .local)
  (hN:caps.map (λi=>X.N[i]?)=N.map some)(hnd:([x1,x2]++N).Nodup)(hg:Gl X "zip")(hm:X.mg "zip"=none)(hv:bootBuiltins "zip"=some (.type "zip"))(ha:PDA X Z [a,b] ta)
  (he:∀cl C s0 H0 fp pn,PD (Cx.comp X sc ([x1,x2]++N) cl C s0 H0 fp pn) Z0 elt te)
  (hse:starEach [a,b] X.env=[(false,eval a X.env),(false,eval b X.env)]:=by rfl)(hse2:starEach [b] X.env=[(false,eval b X.env)]:=by rfl)(hs:∀y,foldedSetIterable (.Call (.Name "zip" p) [a,b] [] pos2) X.env y=pure y:=by intro _; rfl):
  PD X Z (.ListComp elt [⟨.Tuple [.Name x1 p1,.Name x2 p2] kk tp,.Call (.Name "zip" p) [a,b] [] pos2,[],0⟩] sc pos) (zfj caps ta te):=by
 subst har
 refine zaY (zpz hc cs hN (gt:=zeK X.K 2 (zeY [0,1])) (te:=up X.K Z0 te) (znq hg hm hv ha hse hse2) (λcl C s0 H0 fp pn=>?_) he hs) λ_ _ _ h=>zrv h
 have l1:(Cx.comp X sc ([x1,x2]++N) cl C s0 H0 fp pn).env.scope.names.lookup x1=some .local:=lookup_relabel_local hl1
 have l2:(Cx.comp X sc ([x1,x2]++N) cl C s0 H0 fp pn).env.scope.names.lookup x2=some .local:=lookup_relabel_local hl2
 exact zik hc (ze5 hnd (.cons rfl (.inl l1) (.inr l1) (.cons rfl (.inl l2) (.inr l2) .nil))) rfl rfl
end
section
variable {X:Cx}{Z:Zx}{pos:Pos}
def dPar (i j:Nat)(ta:TDA):TDS:=λE dl S=>ta dl S λds S1=>match ds with
 | [v,w]=>E.nx ((dl.set i (some v)).set j (some w)) S1
 | _=>False
theorem zvX {i j:Nat}{x y:Str}{a b:Expr}{ta:TDA}{px py pt:Pos}{kt k2 pt2}(hc:X.calm=true)(hN:X.N.Nodup)(hi:X.N[i]?=some x)(hj:X.N[j]?=some y)(hij:i≠j)
  (hx:X.env.scope.names.lookup x=some .local)(hy:X.env.scope.names.lookup y=some .local)(ha:PDA X Z [a,b] ta)
  (hw:swappedStores [.Tuple [.Name x px,.Name y py] kt pt] (.Tuple [a,b] k2 pt2) X.env=pure (some [x,y]):=by rfl)
  (hs:swapsWithSole [.Tuple [.Name x px,.Name y py] kt pt] (.Tuple [a,b] k2 pt2) pos.line X.env=pure false:=by rfl):
  PDS X Z (.Assign [.Tuple [.Name x px,.Name y py] kt pt] (.Tuple [a,b] k2 pt2) pos) (dPar i j ta):=
 zbS (zw3 hc hN hi hj hij hx hy ha hw hs) λF σ H ⟨r,dl,S,E,rs,rel,h,ret⟩=>by
  refine⟨r,dl,S,_,rs,rel,h,λvs H1 r1 ds S1 x1 rel1 p1 q1=>?_⟩
  split at q1
  ·rename_i v w
   obtain⟨v1,vs1,rfl,p2,p3⟩:=p1.uncons
   obtain⟨v2,vs2,rfl,p4,p5⟩:=p3.uncons
   have z:=p5.unnil
   subst z
   exact⟨v1,v2,rfl,ret.nx _ H1 r1 _ S1 x1 (((rs.ext x1).set i p2).set j p4) rel1 q1⟩
  ·exact q1.elim
end
section
variable {n:Nat}{I:Addr}{fp wr:List Addr}{P:Nat→Value→Prop}{St:Nat→Shared→Prop}{prog:Program}{w:World}{A:Around}{s:Shared}{E:Value→Shared→Prop}{G:Array GenState→Array GenState→Prop}
end
section
variable {X:Cx}{Z:Zx}{pos:Pos}
end
section
variable {X:Cx}{Z:Zx}{pos:Pos}
theorem Rps.erase {r:List Addr}{H:Hp}:∀ {ds:List D} {xs:List V} (k:Nat),Rps r H ds xs→Rps r H (ds.eraseIdx k) (xs.eraseIdx k)
 | [],xs,k,h=>by
  have z:=h.unnil
  subst z
  exact h
 | d::ds,xs,0,h=>by
  obtain⟨v,vs,rfl,p1,p2⟩:=h.uncons
  exact p2
 | d::ds,xs,k+1,h=>by
  obtain⟨v,vs,rfl,p1,p2⟩:=h.uncons
  exact Rps.cons p1 (p2.erase k)
theorem Rps.ins {r:List Addr}{H:Hp}{y:D}{w:V}(hy:Rp r H y w):∀ {ds:List D} {xs:List V} (k:Nat),Rps r H ds xs→Rps r H (ds.take k++y::ds.drop k) (xs.take k++w::xs.drop k)
 | [],xs,k,h=>by
  have z:=h.unnil
  subst z
  simpa using Rps.cons hy h
 | d::ds,xs,0,h=>Rps.cons hy h
 | d::ds,xs,k+1,h=>by
  obtain⟨v,vs,rfl,p1,p2⟩:=h.uncons
  exact Rps.cons p1 (Rps.ins hy k p2)
@[irreducible] def zjh (to:TDE)(t:TDA):TDE:=λdl S Q=>to dl S λd S1=>match d with
 | .ref n=>(lAt S1 n).isSome=true∧t dl S1 λds S2=>match ds with
  | [.int i]=>match S2[n]? with
   | some (.lst xs)=>(0≤i∧i<xs.length∧xs.length≤1000)∧∀y,xs[i.toNat]?=some y→Q y (S2.set n (.lst (xs.eraseIdx i.toNat)))
   | _=>False
  | _=>False
 | _=>False
theorem zu1 {to:TDE}{t:TDA}{dl:Ev}{S S1:Sto}{Q:DK}{n:Nat}{i:Int}{xs:List D}(hto:∀K:DK,K (.ref n) S1→to dl S K)(h:S1[n]?=some (.lst xs))(ht:∀K:List D→Sto→Prop,K [.int i] S1→t dl S1 K)(hi:0≤i∧i<xs.length∧xs.length≤1000)(hq:∀y,Q y (S1.set n (.lst (xs.eraseIdx i.toNat)))):zjh to t dl S Q:=by
 unfold zjh
 refine hto _ ⟨by rw[zaN h rfl]; rfl,ht _ ?_⟩
 simp only[h]
 exact⟨hi,λy _=>hq y⟩
theorem zyy {i:Int}{n:Nat}(h0:0≤i)(h1:i<n):seqIndex? i n=some i.toNat:=by
 unfold seqIndex?
 simp
 omega
theorem zyg {o e:Expr}{to:TDE}{t:TDA}{apos cpos:Pos}(ho:PD X Z o to)(ha:PDA X Z [e] t)(hbase:attributeBase o "pop" X.env (eval o X.env)=eval o X.env:=by rfl)
  (hfew:((backTo cpos (starEach [e] X.env)).all (λx=>!x.1)&&(backToKw cpos (keywordEach [] X.env)).all (λx=>x.1.isSome)
  &&decide ([e].length+([]:List Keyword).length+(if ([]:List Keyword).isEmpty then 0 else 1)<30))=true:=by rfl)
  (hline:(apos.endLine==cpos.line)=true:=by rfl)(hs:starEach [e] X.env=(false,eval e X.env)::starEach [] X.env:=by rfl)(hplain:(backTo cpos (starEach [] X.env)).any (·.1)=false:=by rfl):
  PD X Z (.Call (.Attribute o "pop" apos) [e] [] cpos) (zjh to t):=
 zaY (zlp (T:="list") PySem.F.plainAttrs_list PySem.F.slot_list_pop PySem.F.type_list_pop zt6 ho ha hbase hfew hline hs hplain) λσ H Qv ⟨r,dl,S,Q,rs,rel,h,ret⟩=>by
  unfold zjh at h
  refine⟨r,dl,S,_,rs,rel,h,λv H1 r1 d S1 e1 rel1 p1 q1=>?_⟩
  cases p1 with
  | @ref n a hn=>
   obtain⟨hsome,q1⟩:=q1
   obtain⟨o1,eo⟩:=VaP.mp hsome
   obtain⟨eo,eL⟩:=zbr eo
   obtain⟨a',ha',ob⟩:=rel1.at eo
   rw[hn] at ha'; cases ha'
   obtain⟨xs,sq,_⟩:=ob.list eL
   refine⟨.inl ⟨rfl,xs,sq⟩,r1,dl,S1,_,rs.ext e1,rel1,q1,λvs H2 r2 ds S2 e2 rel2 p2 q2=>?_⟩
   split at q2
   ·rename_i i
    obtain⟨v2,vs',rfl,p3,p4⟩:=p2.uncons
    have z:=p4.unnil
    subst z
    cases p3
    split at q2
    ·rename_i zs ez
     obtain⟨⟨h0,h1,h2⟩,q⟩:=q2
     have hn2:=e2.adr _ _ hn
     obtain⟨ys,hH,pr⟩:=rel2.b.ob n a _ hn2 ez
     have hk:i.toNat<zs.length:=by omega
     obtain⟨y,hy,py⟩:=pr.get (Vaa hk)
     obtain⟨rel3,x3⟩:=rel2.set hn2 ez (pr.erase i.toNat)
     exact⟨a,ys,i,i.toNat,y,rfl,rfl,hH,by omega,by omega,by rw[← pr.1]; exact zyy h0 h1,hy,ret _ _ r2 _ _ (e1.trans (e2.trans x3)) rel3 (py.ext x3) (q _ (Vaa hk))⟩
    ·exact q2.elim
   ·exact q2.elim
  | _=>exact(show False from q1).elim
theorem zyt:MtM X "list.insert" (λx vs H Q=>∃l xs i y,x=.ref l∧vs=[.int i,y]∧H l=some (.lst xs)∧0≤i∧i≤xs.length∧xs.length<1000∧Q .non (upd H l (.lst (xs.take i.toNat++y::xs.drop i.toNat)))):=by
 intro pins s σ H x vs v us Q I rx rv h
 obtain⟨l,xs,i,y,rfl,rfl,hH,h0,h1,h2,q⟩:=h
 cases rx
 obtain⟨t,u,rfl,ru⟩:∃t u,us=[Value.int i t,u]∧zau y u:=by
  cases rv with
  | cons p q=>
   obtain⟨t,rfl⟩:=p
   cases q with
   | cons p' q'=>
    cases q'
    exact⟨t,_,rfl,p'⟩
 obtain⟨z,its,n,r,hl,e⟩:=I.lstM hH
 have fit:Builtin.List.listFitsIndex i=true:=fitsIndex_both (by omega) (by omega)
 refine call_meets PySem.F.slot_list_insert ⟨_,e,rfl⟩ PySem.F.entry_list_insert (PySem.F.args_list_insert_3 _ _ _) (PySem.AutoSeq1.list_insert_list_int_val_1 l its.toArray n i t u (by simp[fit]) (by rw[Vak]; omega)) ⟨e,?_⟩
 refine⟨.non,_,I.lset (t':=s.toks) (ys:=xs.take i.toNat++y::xs.drop i.toNat) (its':=its.take i.toNat++u::its.drop i.toNat) hH e ?_ ((r.take _).append (.cons ru (r.drop _))) ?_,rfl,q⟩
 ·have k1:(if i<0 then (i+(its.toArray.size:Int)).toNat else min i.toNat its.toArray.size)=i.toNat:=by
   rw[if_neg (by omega),Vak]
   omega
  show (its.toArray.extract 0 (if i<0 then (i+(its.toArray.size:Int)).toNat else min i.toNat its.toArray.size)).push u++its.toArray.extract (if i<0 then (i+(its.toArray.size:Int)).toNat else min i.toNat its.toArray.size)=_
  rw[k1]
  apply Array.toList_inj.mp
  simp
  refine VaD (?_:_≤_)
  simp
 ·rw[Var,Vay,Vau,Va1]
  exact zep (by omega)
@[irreducible] def zgc (to:TDE)(t:TDA):TDE:=λdl S Q=>to dl S λd S1=>match d with
 | .ref n=>(lAt S1 n).isSome=true∧t dl S1 λds S2=>match ds with
  | [.int i,y]=>match S2[n]? with
   | some (.lst xs)=>(0≤i∧i≤xs.length∧xs.length<1000)∧Q .non (S2.set n (.lst (xs.take i.toNat++y::xs.drop i.toNat)))
   | _=>False
  | _=>False
 | _=>False
theorem zpk {to:TDE}{t:TDA}{dl:Ev}{S S1 S2:Sto}{Q:DK}{n:Nat}{i:Int}{y:D}{xs ys:List D}(hto:∀K:DK,K (.ref n) S1→to dl S K)(h:S1[n]?=some (.lst ys))(ht:∀K:List D→Sto→Prop,K [.int i,y] S2→t dl S1 K)(h2:S2[n]?=some (.lst xs))(hi:0≤i∧i≤xs.length∧xs.length<1000)(hq:Q .non (S2.set n (.lst (xs.take i.toNat++y::xs.drop i.toNat)))):zgc to t dl S Q:=by
 unfold zgc
 refine hto _ ⟨by rw[zaN h rfl]; rfl,ht _ ?_⟩
 simp only[h2]
 exact⟨hi,hq⟩
theorem zpr {o e e2:Expr}{to:TDE}{t:TDA}{apos cpos:Pos}(ho:PD X Z o to)(ha:PDA X Z [e,e2] t)(hbase:attributeBase o "insert" X.env (eval o X.env)=eval o X.env:=by rfl)
  (hfew:((backTo cpos (starEach [e,e2] X.env)).all (λx=>!x.1)&&(backToKw cpos (keywordEach [] X.env)).all (λx=>x.1.isSome)
  &&decide ([e,e2].length+([]:List Keyword).length+(if ([]:List Keyword).isEmpty then 0 else 1)<30))=true:=by rfl)
  (hline:(apos.endLine==cpos.line)=true:=by rfl)(hs:starEach [e,e2] X.env=(false,eval e X.env)::starEach [e2] X.env:=by rfl)(hplain:(backTo cpos (starEach [e2] X.env)).any (·.1)=false:=by rfl):
  PD X Z (.Call (.Attribute o "insert" apos) [e,e2] [] cpos) (zgc to t):=
 zaY (zlp (T:="list") PySem.F.plainAttrs_list PySem.F.slot_list_insert PySem.F.type_list_insert zyt ho ha hbase hfew hline hs hplain) λσ H Qv ⟨r,dl,S,Q,rs,rel,h,ret⟩=>by
  unfold zgc at h
  refine⟨r,dl,S,_,rs,rel,h,λv H1 r1 d S1 e1 rel1 p1 q1=>?_⟩
  cases p1 with
  | @ref n a hn=>
   obtain⟨hsome,q1⟩:=q1
   obtain⟨o1,eo⟩:=VaP.mp hsome
   obtain⟨eo,eL⟩:=zbr eo
   obtain⟨a',ha',ob⟩:=rel1.at eo
   rw[hn] at ha'; cases ha'
   obtain⟨xs,sq,_⟩:=ob.list eL
   refine⟨.inl ⟨rfl,xs,sq⟩,r1,dl,S1,_,rs.ext e1,rel1,q1,λvs H2 r2 ds S2 e2 rel2 p2 q2=>?_⟩
   split at q2
   ·rename_i i y
    obtain⟨v2,vs',rfl,p3,p4⟩:=p2.uncons
    obtain⟨v3,vs3,rfl,p5,p6⟩:=p4.uncons
    have z:=p6.unnil
    subst z
    cases p3
    split at q2
    ·rename_i zs ez
     obtain⟨⟨h0,h1,h2⟩,q⟩:=q2
     have hn2:=e2.adr _ _ hn
     obtain⟨ys,hH,pr⟩:=rel2.b.ob n a _ hn2 ez
     obtain⟨rel3,x3⟩:=rel2.set hn2 ez (Rps.ins p5 i.toNat pr)
     exact⟨a,ys,i,v3,rfl,rfl,hH,h0,by rw[← pr.1]; exact h1,by rw[← pr.1]; exact h2,ret .non _ r2 .non _ (e1.trans (e2.trans x3)) rel3 .non q⟩
    ·exact q2.elim
   ·exact q2.elim
  | _=>exact(show False from q1).elim
theorem zpR {P:Sto→D→D→Prop}{A:Around}{H:Hp}{s:Shared}{r:List Addr}{S:Sto}{ds es:List D}{xs ys:List V}{is js:List Value}(f:∀ {d e:D} {v1 v2:V} {u1 u2:Value},P S d e→Rp r H d v1→Rp r H e v2→zau v1 u1→zau v2 u2→SeqAt.EqAt A s u1 u2 true)(pr:Rps r H ds xs)(pr':Rps r H es ys)(ri:zat xs is)(rj:zat ys js)(hall:∀(k:Nat) (d e:D),ds[k]?=some d→es[k]?=some e→P S d e):
  ∀(k:Nat) (h1:k<is.toArray.size) (h2:k<js.toArray.size),SeqAt.EqAt A s is.toArray[k] js.toArray[k] true:=λk h1 h2=>by
 have l3:=ri.length
 have l4:=rj.length
 have k1:k<is.length:=by simpa using h1
 have k2:k<js.length:=by simpa using h2
 obtain⟨d,hd,pd⟩:=pr.get' (Vaa (l:=xs) (i:=k) (by omega))
 obtain⟨e,he,pe⟩:=pr'.get' (Vaa (l:=ys) (i:=k) (by omega))
 obtain⟨u1,hu1,ru1⟩:=ri.get (Vaa (l:=xs) (i:=k) (by omega))
 obtain⟨u2,hu2,ru2⟩:=rj.get (Vaa (l:=ys) (i:=k) (by omega))
 have z1:is.toArray[k]=u1:=by
  rw[Vaa k1] at hu1
  simpa using Option.some.inj hu1
 have z2:js.toArray[k]=u2:=by
  rw[Vaa k2] at hu2
  simpa using Option.some.inj hu2
 rw[z1,z2]
 exact f (hall k d e hd he) pd pe ru1 ru2
end
section
variable {X:Cx}{Z:Zx}{elt iter:Expr}{elts:List Expr}{kk:Nat}{tp pos:Pos}{sc ar:Scope}{own N:List Str}{caps:List Nat}{wi:TI}{gt:TG}
theorem zue {te:TE}{i:Nat}{y:Str}{py spos:Pos}(hc:X.calm=true)(cs:zd0 sc X.env.scope own N)(hN:caps.map (λi=>X.N[i]?)=N.map some)
  (hi:PI X (.Tuple elts kk tp) iter wi)(hg:∀cl C s0 H0 fp pn,PG (Cx.comp X sc (own++N) cl C s0 H0 fp pn) (.Tuple elts kk tp) gt)(he:∀cl C s0 H0 fp pn,PE (Cx.comp X sc (own++N) cl C s0 H0 fp pn) elt te)
  (hNd:X.N.Nodup)(hy:X.N[i]?=some y)(hl:X.env.scope.names.lookup y=some .local)
  (hsw:swapsWith (.ListComp elt [⟨.Tuple elts kk tp,iter,[],0⟩] sc pos) (some (.Name y py)) spos.line X.env=pure true)
  (hs:∀y,foldedSetIterable iter X.env y=pure y:=by intro _; rfl):PS X (.Assign [.Name y py] (.ListComp elt [⟨.Tuple elts kk tp,iter,[],0⟩] sc pos) spos) (λE σ H=>zh5 own.length caps wi gt te σ H λv H1=>E.nx (σ.set i (some v)) H1):=by
 intro pins s σ H E I h
 rw[exec_Assign_Name_used (hs:=hsw)]
 refine wpAny_bind (wpAny_standAt ?_); refine wpAny_bind ?_; show wpAny _ _ (comprehension _ sc X.env _ (newList []) false (eval iter X.env) (some (assign (.Name y py) X.env)) >>= λ_=>pure ()) _ _ s
 refine wpAny_bind (thn (zqU (use:=some (assign (.Name y py) X.env)) (Qr:=λ_ s'=>SP X pins E .next s') hc cs (zdP hN).1 (zdP hN).2 hi hg he hs I h λD C s' f=>?_) λ_ s' hq=>wpAny_pure (wpAny_pure hq))
 obtain⟨⟨H',I',q,hC⟩,⟨m,ns⟩,l,o,c,p⟩:=f
 refine wpAny_assign_Name (zmS (v:=.ref D) I' hNd hy (.inl hl) rfl (λs'' I'' ⟨a,sb,ha⟩=>⟨m,ns.sameBut sb ?_,λh' sb'=>⟨_,H',I''.turned (t':=s''.toks) (λb ob hb e=>(sb'.2 b hb).trans e) hC l (.inr o) c p,q⟩⟩) (.inr hl))
 rcases ha with rfl | ha
 ·exact l
 ·exact Ne.symm (c _ _ ha)
theorem zxA {ta:TDA}{te:TDE}{x1 x2:Str}{p1 p2 p pos2:Pos}{a b:Expr}{i:Nat}{y:Str}{py spos:Pos}(har:X.env.scope=ar)(hc:X.calm=true)(cs:zd0 sc ar [x1,x2] N)(hl1:sc.names.lookup x1=some .local)(hl2:sc.names.lookup x2=some .local)
  (hN:caps.map (λi=>X.N[i]?)=N.map some)(hnd:([x1,x2]++N).Nodup)(hNd:X.N.Nodup)(hy:X.N[i]?=some y)(hlo:ar.names.lookup y=some .local)(hg:Gl X "zip")(hm:X.mg "zip"=none)(hv:bootBuiltins "zip"=some (.type "zip"))(ha:PDA X Z [a,b] ta)
  (he:∀cl C s0 H0 fp pn,PD (Cx.comp X sc ([x1,x2]++N) cl C s0 H0 fp pn) Z0 elt te)
  (hsw:swapsWith (.ListComp elt [⟨.Tuple [.Name x1 p1,.Name x2 p2] kk tp,.Call (.Name "zip" p) [a,b] [] pos2,[],0⟩] sc pos) (some (.Name y py)) spos.line X.env=pure true:=by rfl)
  (hse:starEach [a,b] X.env=[(false,eval a X.env),(false,eval b X.env)]:=by rfl)(hse2:starEach [b] X.env=[(false,eval b X.env)]:=by rfl)(hs:∀y,foldedSetIterable (.Call (.Name "zip" p) [a,b] [] pos2) X.env y=pure y:=by intro _; rfl):
  PDS X Z (.Assign [.Name y py] (.ListComp elt [⟨.Tuple [.Name x1 p1,.Name x2 p2] kk tp,.Call (.Name "zip" p) [a,b] [] pos2,[],0⟩] sc pos) spos) (zhL i (zfj caps ta te)):=by
 subst har
 refine zbS (zue hc cs hN (gt:=zeK X.K 2 (zeY [0,1])) (te:=up X.K Z0 te) (znq hg hm hv ha hse hse2) (λcl C s0 H0 fp pn=>?_) he hNd hy hlo hsw hs) λF σ H h=>zn1 (λ_ h=>zrv h) h
 have l1:(Cx.comp X sc ([x1,x2]++N) cl C s0 H0 fp pn).env.scope.names.lookup x1=some .local:=lookup_relabel_local hl1
 have l2:(Cx.comp X sc ([x1,x2]++N) cl C s0 H0 fp pn).env.scope.names.lookup x2=some .local:=lookup_relabel_local hl2
 exact zik hc (ze5 hnd (.cons rfl (.inl l1) (.inr l1) (.cons rfl (.inl l2) (.inr l2) .nil))) rfl rfl
end
section
variable {X:Cx}{Z:Zx}
def zpi:WC:=λds S Q=>match ds with
 | [.bl b]=>Q (.int (if b then 1 else 0)) S
 | _=>False
theorem zqm:za7 X (.type "int") (upC X.K Z zpi):=by
 intro pins s σ H xs us Qv I rv h
 obtain⟨r,S,ds,Q,rel,ps,q,ret⟩:=h
 unfold zpi at q
 split at q
 ·rename_i b
  obtain⟨v,vs,rfl,p1,p2⟩:=ps.uncons
  have z:=p2.unnil
  subst z
  cases p1
  obtain⟨u,rfl,ru⟩:=zdJ rv
  cases ru
  exact call_int_bool ⟨.int _,H,I.tok _,⟨_,rfl⟩,ret _ _ _ _ _ Ext.refl rel (.int _) q⟩
 ·exact q.elim
end
section
variable {X:Cx}{Z:Zx}{pos:Pos}
end
end L3
namespace L2
open PySem PySem.Spec PyProof.Rows
section
variable {X:Cx}{tg:Expr}
end
end L2
namespace L3
open PySem PySem.Spec PyProof.Rows L2
section
variable {X:Cx}{Z:Zx}{pos:Pos}
end
end L3
set_option Elab.async false
set_option linter.all false
set_option maxRecDepth 100000
set_option maxHeartbeats 40000000
namespace Mine
open PySem PySem.Spec PyProof.Rows L2 L3
theorem fsc {N P:List Str}{sc:Scope}(a:sc.kind=.function:=by rfl)(b:sc.isCoroutine=false:=by rfl)(c:sc.isGenerator=false:=by rfl)(d:N.Nodup:=by decide +kernel)(e:N.take P.length=P:=by rfl)(f:∀x∈P,sc.names.lookup x=some .local∨sc.names.lookup x=some .cell:=by decide +kernel)(g:∀y∈sc.names,y.2≠.free:=by decide +kernel):zay N P sc:=⟨a,b,c,d,e,f,g⟩
theorem csc {sc ar:Scope}{x:Str}{caps:List Str}(a:sc.kind=.function:=by rfl)(b:∀y∈sc.names,y.2≠.cell:=by decide +kernel)(c:∀y∈sc.names,y.2=.local→sc.names.lookup y.1=some .local:=by decide +kernel)(d:sc.names.lookup x=some .local:=by rfl)(e:∀y∈caps,sc.names.lookup y=some .free:=by decide +kernel)(f:∀y∈sc.names,y.2=.free→ar.names.lookup y.1=some .cell:=by decide +kernel):zdj sc ar x caps:=⟨a,b,c,d,e,f⟩
theorem zcT {sc ar:Scope}{own caps:List Str}(a:sc.kind=.function:=by rfl)(b:∀y∈sc.names,y.2≠.cell:=by decide +kernel)(c:∀y∈sc.names,y.2=.local→sc.names.lookup y.1=some .local:=by decide +kernel)(e:∀y∈caps,sc.names.lookup y=some .free:=by decide +kernel)(f:∀y∈sc.names,y.2=.free→ar.names.lookup y.1=some .cell:=by decide +kernel):zd0 sc ar own caps:=⟨a,b,c,e,f⟩
abbrev Ln (sp:Sd)(n:Nat):Prop:=∀ds S Q ex,sp ds S Q ex→ds.length=n
theorem zaq {X:Cx}{x:Str}{p pos:Pos}{e:Expr}{es:List Expr}{t:TDA}{k j:Nat}{ps:List Str}{sd:Sd}{ex:Ev→Addr→Sto→Prop}(G:Fk X.prog X.w X.K X.mg X.base k x ps sd)(hr:zaK j X.A)(ha:PDA X ⟨ex,Z0.w⟩ (e::es) t)(hk:k≤j:=by decide)(hg:Gl X x:=by rfl)
  (hdb:(x==("__debug__":Str))=false:=by decide)(he:starEach (e::es) X.env=(false,eval e X.env)::starEach es X.env:=by rfl)(hpl:(backTo pos (starEach es X.env)).any (·.1)=false:=by rfl):PD X ⟨ex,Z0.w⟩ (.Call (.Name x p) (e::es) [] pos) (zlW ex sd t):=zvG G (hr.mono hk) zfu hg ha hdb he hpl
abbrev zlC:Stmt:=top 60
abbrev zgr:List Str:=["_law_cell_here"]
theorem ztG:zay ["_law_cell_here"] zgr (zam zlC):=fsc
abbrev zdQ:Stmt:=top 65
abbrev zgq:List Str:=["_law_size","_law_cells"]
theorem zdg:zay ["_law_size","_law_cells","_law_ones","_law_back","_law_k","_law_cell_here","_law_one","_law_other","_law_share","_law_row"] zgq (zam zdQ):=fsc
abbrev zlm:Stmt:=top 68
abbrev zic:List Str:=["_law_rows","_law_cell_here","_law_size"]
theorem zqo:zay ["_law_rows","_law_cell_here","_law_size","_law_kind"] zic (zam zlm):=fsc
abbrev zg1:Stmt:=top 41
abbrev zhY:List Str:=["rows"]
theorem zsW:zay ["rows"] zhY (zam zg1):=fsc
abbrev zga:Stmt:=top 42
abbrev zfr:List Str:=["each","places"]
theorem zx6:zay ["each","places"] zfr (zam zga):=fsc
abbrev zlP:Stmt:=top 14
abbrev ziL:List Str:=["a","b"]
theorem zxr:zay ["a","b"] ziL (zam zlP):=fsc
abbrev zln:Stmt:=top 16
abbrev zej:List Str:=["top","bottom"]
theorem zs7:zay ["top","bottom"] zej (zam zln):=fsc
abbrev zjC:Stmt:=top 17
abbrev zhp:List Str:=["low","high","grid"]
theorem zxX:zay ["low","high","grid"] zhp (zam zjC):=fsc
abbrev zj1:Stmt:=zaO (top 27) 2
abbrev ziy:List Str:=["self","spans","box","grid"]
theorem zqB:zay ["self","spans","box","grid","number"] ziy (zam zj1):=fsc
abbrev zkk:Stmt:=zaO (top 28) 2
abbrev zgK:List Str:=["self","spans","box","grid"]
theorem zww:zay ["self","spans","box","grid"] zgK (zam zkk):=fsc
abbrev zmB:Stmt:=top 18
abbrev zdE:List Str:=["a","b"]
theorem zu6:zay ["a","b"] zdE (zam zmB):=fsc
abbrev zjI:Stmt:=zaO (top 30) 1
abbrev zgj:List Str:=["self","spans","box","grid"]
theorem zsD:zay ["self","spans","box","grid"] zgj (zam zjI):=fsc
abbrev zi4:Stmt:=top 19
abbrev zdX:List Str:=["a","b"]
theorem zrA:zay ["a","b"] zdX (zam zi4):=fsc
abbrev zkZ:Stmt:=zaO (top 31) 1
abbrev zgN:List Str:=["self","spans","box","grid"]
theorem zsw:zay ["self","spans","box","grid"] zgN (zam zkZ):=fsc
abbrev zmw:Stmt:=top 20
abbrev zdU:List Str:=["a","b","grid"]
theorem zpN:zay ["a","b","grid","products"] zdU (zam zmw):=fsc
abbrev zkc:Stmt:=zaO (top 32) 1
abbrev zit:List Str:=["self","spans","box","grid"]
theorem zx2:zay ["self","spans","box","grid"] zit (zam zkc):=fsc
abbrev ziU:Stmt:=top 13
abbrev zha:List Str:=["number","many"]
theorem zmh:zay ["number","many","worth","step"] zha (zam ziU):=fsc
abbrev zgT:Stmt:=top 21
abbrev zfy:List Str:=["a","many","grid"]
theorem zjw:zay ["a","many","grid","places","powers","bottom"] zfy (zam zgT):=fsc
abbrev zjj:Stmt:=zaO (top 33) 2
abbrev zhv:List Str:=["self","spans","box","grid"]
theorem zuN:zay ["self","spans","box","grid"] zhv (zam zjj):=fsc
abbrev zmC:Stmt:=zaO (top 33) 0
abbrev zhi:List Str:=["self","one","many"]
theorem zsP:zay ["self","one","many"] zhi (zam zmC):=fsc
abbrev zk3:Stmt:=zaO (top 27) 0
abbrev zhd:List Str:=["self","top","bottom"]
theorem zw4:zay ["self","top","bottom"] zhd (zam zk3):=fsc
abbrev zlU:Stmt:=zaO (top 28) 0
abbrev zhK:List Str:=["self","place"]
theorem zs2:zay ["self","place"] zhK (zam zlU):=fsc
abbrev zld:Stmt:=zaO (top 29) 0
abbrev zgW:List Str:=["self","one","other"]
theorem zwf:zay ["self","one","other"] zgW (zam zld):=fsc
abbrev zjB:Stmt:=zaO (top 29) 0
abbrev zhZ:List Str:=["self","one","other"]
theorem ztu:zay ["self","one","other"] zhZ (zam zjB):=fsc
abbrev zmf:Stmt:=zaO (top 29) 0
abbrev ziJ:List Str:=["self","one","other"]
theorem zyC:zay ["self","one","other"] ziJ (zam zmf):=fsc
abbrev zks:Stmt:=top 34
abbrev zfE:List Str:=["node"]
theorem ztK:zay ["node"] zfE (zam zks):=fsc
abbrev zmy:Stmt:=top 36
abbrev zei:List Str:=["nodes","box","grid"]
theorem zn9:zay ["nodes","box","grid","found","node"] zei (zam zmy):=fsc
abbrev zl6:Stmt:=zaO (top 27) 4
abbrev zgm:List Str:=["self","spans","slants","unknowns","grid"]
theorem zuY:zay ["self","spans","slants","unknowns","grid"] zgm (zam zl6):=fsc
abbrev zio:Stmt:=zaO (top 28) 4
abbrev zh8:List Str:=["self","spans","slants","unknowns","grid"]
theorem zx3:zay ["self","spans","slants","unknowns","grid"] zh8 (zam zio):=fsc
abbrev zkD:Stmt:=zaO (top 30) 4
abbrev zg3:List Str:=["self","x","y","a","b","grid"]
theorem zwe:zay ["self","x","y","a","b","grid"] zg3 (zam zkD):=fsc
abbrev zgv:Stmt:=zaO (top 29) 2
abbrev zgi:List Str:=["self","spans","slants","unknowns","grid"]
theorem zm0:zay ["self","spans","slants","unknowns","grid","x","y"] zgi (zam zgv):=fsc
abbrev zku:Stmt:=zaO (top 31) 4
abbrev zgS:List Str:=["self","x","y","a","b","grid"]
theorem zxL:zay ["self","x","y","a","b","grid"] zgS (zam zku):=fsc
abbrev zgH:Stmt:=zaO (top 29) 2
abbrev ziu:List Str:=["self","spans","slants","unknowns","grid"]
theorem znD:zay ["self","spans","slants","unknowns","grid","x","y"] ziu (zam zgH):=fsc
abbrev zmH:Stmt:=zaO (top 32) 4
abbrev zh1:List Str:=["self","x","y","a","b","grid"]
theorem zrH:zay ["self","x","y","a","b","grid"] zh1 (zam zmH):=fsc
abbrev zhq:Stmt:=zaO (top 29) 2
abbrev zgP:List Str:=["self","spans","slants","unknowns","grid"]
theorem zm6:zay ["self","spans","slants","unknowns","grid","x","y"] zgP (zam zhq):=fsc
abbrev zjg:Stmt:=top 22
abbrev zid:List Str:=["a","many"]
theorem zyq:zay ["a","many"] zid (zam zjg):=fsc
abbrev zgu:Stmt:=zaO (top 33) 4
abbrev zgZ:List Str:=["self","spans","slants","unknowns","grid"]
theorem zmQ:zay ["self","spans","slants","unknowns","grid","lower","steep"] zgZ (zam zgu):=fsc
abbrev zmc:Stmt:=top 39
abbrev zhl:List Str:=["nodes","box","grid"]
theorem zk9:zay ["nodes","box","grid","spans","found","node"] zhl (zam zmc):=fsc
abbrev zk1:Stmt:=top 50
abbrev ziw:List Str:=["nodes","places","box","grid"]
theorem zx7:zay ["nodes","places","box","grid"] ziw (zam zk1):=fsc
abbrev zkr:Stmt:=top 2
abbrev zeb:List Str:=["number","place"]
theorem zwz:zay ["number","place"] zeb (zam zkr):=fsc
abbrev ziF:Stmt:=top 3
abbrev zdT:List Str:=["matrix","row","column"]
theorem zrc:zay ["matrix","row","column","rest"] zdT (zam ziF):=fsc
abbrev zeD:Stmt:=top 4
abbrev zbT:List Str:=["matrix","row","column"]
theorem zjV:zay ["matrix","row","column"] zbT (zam zeD):=fsc
abbrev zcq:Stmt:=top 5
abbrev zbN:List Str:=["matrix"]
theorem ziA:zay ["matrix"] zbN (zam zcq):=fsc
abbrev zmI:Stmt:=top 6
abbrev zh7:List Str:=["matrix","whole","row","column","grid"]
theorem zvA:zay ["matrix","whole","row","column","grid"] zh7 (zam zmI):=fsc
abbrev zg8:Stmt:=top 7
abbrev zig:List Str:=["matrix","whole","row","grid"]
theorem zw2:zay ["matrix","whole","row","grid"] zig (zam zg8):=fsc
abbrev ziE:Stmt:=top 8
abbrev zgM:List Str:=["matrix","grid"]
theorem zqM:zay ["matrix","grid","whole"] zgM (zam ziE):=fsc
abbrev zj3:Stmt:=top 24
abbrev zho:List Str:=["a"]
theorem zyN:zay ["a"] zho (zam zj3):=fsc
abbrev zgU:Stmt:=top 43
abbrev zfM:List Str:=["spans"]
theorem zsY:zay ["spans"] zfM (zam zgU):=fsc
abbrev zih:Stmt:=top 44
abbrev zeX:List Str:=["box"]
theorem zx4:zay ["box"] zeX (zam zih):=fsc
abbrev zkO:Stmt:=top 45
abbrev zeU:List Str:=["ones","others","grid"]
theorem zmJ:zay ["ones","others","grid","total","one","other"] zeU (zam zkO):=fsc
abbrev zhW:Stmt:=top 46
abbrev zh9:List Str:=["k","column","turns","slants","grid"]
theorem znJ:zay ["k","column","turns","slants","grid","whole","column_slants"] zh9 (zam zhW):=fsc
abbrev zeG:Stmt:=top 47
abbrev zix:List Str:=["k","box","grid","entries","thin","slants"]
theorem zfI:zay ["k","box","grid","entries","thin","slants","turns","centres","moved","lacks","ways"] zix (zam zeG):=fsc
abbrev zgl:Stmt:=top 48
abbrev zh6:List Str:=["box","grid","turn","thin","slants"]
theorem zuD:zay ["box","grid","turn","thin","slants"] zh6 (zam zgl):=fsc
abbrev zlQ:Stmt:=top 49
abbrev zhF:List Str:=["nodes","places","box","grid"]
theorem zyv:zay ["nodes","places","box","grid"] zhF (zam zlQ):=fsc
abbrev zi7:Stmt:=top 23
abbrev zgY:List Str:=["a","b"]
theorem zuc:zay ["a","b"] zgY (zam zi7):=fsc
abbrev zgB:Stmt:=top 52
abbrev zgQ:List Str:=["near","box"]
theorem ztv:zay ["near","box"] zgQ (zam zgB):=fsc
abbrev zlF:Stmt:=top 37
abbrev zhG:List Str:=["word","span"]
theorem zxU:zay ["word","span"] zhG (zam zlF):=fsc
abbrev zg5:Stmt:=top 51
abbrev zhm:List Str:=["rows","spans"]
theorem zxc:zay ["rows","spans"] zhm (zam zg5):=fsc
abbrev zgk:Stmt:=top 53
abbrev zis:List Str:=["nodes","rows","box","grid"]
theorem zge:zay ["nodes","rows","box","grid","places","slants","turn","near"] zis (zam zgk):=fsc
abbrev zli:Stmt:=top 56
abbrev zfH:List Str:=["_law_found"]
theorem zwL:zay ["_law_found"] zfH (zam zli):=fsc
abbrev zmK:Stmt:=top 70
abbrev zg2:List Str:=["_law_found","_law_due"]
theorem zoQ:zay ["_law_found","_law_due","_law_row","_law_entry"] zg2 (zam zmK):=fsc
abbrev zmp:Stmt:=top 55
abbrev ziq:List Str:=["_law_script","_law_k"]
theorem zsQ:zay ["_law_script","_law_k"] ziq (zam zmp):=fsc
abbrev zjo:Stmt:=top 66
abbrev ziD:List Str:=["_law_cell_here"]
theorem zuC:zay ["_law_cell_here"] ziD (zam zjo):=fsc
abbrev zl3:Stmt:=top 61
abbrev zey:List Str:=["_law_nodes","_law_node"]
theorem zwJ:zay ["_law_nodes","_law_node"] zey (zam zl3):=fsc
abbrev zmb:Stmt:=top 62
abbrev zht:List Str:=["_law_nodes","_law_parts"]
theorem zlj:zay ["_law_nodes","_law_parts","_law_total","_law_part"] zht (zam zmb):=fsc
abbrev ziR:Stmt:=top 63
abbrev zhk:List Str:=["_law_nodes","_law_entries","_law_turned_here"]
theorem zk7:zay ["_law_nodes","_law_entries","_law_turned_here","_law_parts","_law_k","_law_number"] zhk (zam ziR):=fsc
abbrev zlI:Stmt:=top 59
abbrev zim:List Str:=["_law_top","_law_bottom"]
theorem zlh:zay ["_law_top","_law_bottom","_law_a","_law_b"] zim (zam zlI):=fsc
abbrev zlX:Stmt:=top 67
abbrev zgR:List Str:=["_law_place_here","_law_below","_law_above"]
theorem zet:zay ["_law_place_here","_law_below","_law_above","_law_low","_law_high"] zgR (zam zlX):=fsc
abbrev zkY:Stmt:=top 69
abbrev zhh:List Str:=["_law_rows","_law_cell_here","_law_size","_law_box"]
theorem zrf:zay ["_law_rows","_law_cell_here","_law_size","_law_box","_law_kind"] zhh (zam zkY):=fsc
abbrev zjD:Stmt:=top 64
abbrev ziM:List Str:=["_law_near","_law_box"]
theorem zrx:zay ["_law_near","_law_box","_law_k"] ziM (zam zjD):=fsc
abbrev zlk:Stmt:=top 57
abbrev zh2:List Str:=["_law_found"]
theorem zuj:zay ["_law_found"] zh2 (zam zlk):=fsc
abbrev zkC:Stmt:=top 58
abbrev zhO:List Str:=["_law_found","_law_size"]
theorem zqH:zay ["_law_found","_law_size","_law_span_here"] zhO (zam zkC):=fsc
abbrev zcw:Stmt:=top 71
abbrev zji:List Str:=["_law_script"]
theorem zb4:zay ["_law_script","_law_size","_law_grid_here","_law_ones","_law_back","_law_places","_law_box","_law_k","_law_nodes","_law_rows","_law_entries","_law_line","_law_number","_law_at_here","_law_handed","_law_found","_law_near"] zji (zam zcw):=fsc
theorem kfo {K:PySem.W.Frag}{f c:Addr}{m:Value}{n q:Str}{st:Stmt}(l:K.lookup f=some (fo n q st m c)):PySem.W.keepIn K (.ref f)=true:=by
 unfold PySem.W.keepIn
 simp only[l]
theorem ifo {K:PySem.W.Frag}{f c:Addr}{m:Value}{n q:Str}{st:Stmt}(l:K.lookup f=some (fo n q st m c)):PySem.W.isFn K (.ref f)=true:=by
 unfold PySem.W.isFn PySem.W.typeIn
 simp only[l]
 rfl
theorem ln0 {P:List Value→Prop}(h:P []):∀us:List Value,us.length=0→P us
 | [],_=>h
theorem ln1 {P:List Value→Prop}(h:∀a,P [a]):∀us:List Value,us.length=1→P us
 | [a],_=>h a
theorem ln2 {P:List Value→Prop}(h:∀a b,P [a,b]):∀us:List Value,us.length=2→P us
 | [a,b],_=>h a b
theorem ln3 {P:List Value→Prop}(h:∀a b c,P [a,b,c]):∀us:List Value,us.length=3→P us
 | [a,b,c],_=>h a b c
theorem ln4 {P:List Value→Prop}(h:∀a b c d,P [a,b,c,d]):∀us:List Value,us.length=4→P us
 | [a,b,c,d],_=>h a b c d
theorem ln5 {P:List Value→Prop}(h:∀a b c d e,P [a,b,c,d,e]):∀us:List Value,us.length=5→P us
 | [a,b,c,d,e],_=>h a b c d e
theorem ln6 {P:List Value→Prop}(h:∀a b c d e f,P [a,b,c,d,e,f]):∀us:List Value,us.length=6→P us
 | [a,b,c,d,e,f],_=>h a b c d e f
abbrev Bn (n q:Str)(st:Stmt)(ps:List Str):Prop:=∀(kV doc pm:Value) (an:Option Addr) (cdv ct:Value) (us:List Value),us.length=ps.length→bindArgs (PySem.W.fnOf n q (zeh st) (zdv st) (zam st) .none kV doc pm an cdv ct) ⟨us,[]⟩=pure (ps.zip us)
def dfo {K:PySem.W.Frag}{mg:Str→Option Value}{h:Heap}(X:K.In h)(G:h.Ns mainGlobals mg){n:Str}{st:Stmt}{f c:Addr}{m:Value}{ps:List Str}(a:PySem.W.nsIn K mainGlobals n=some (some (.ref f)))(l:K.lookup f=some (fo n n st m c))(e:PySem.W.codeIn K (.ref c) n=true)(b:Bn n n st ps):Df K mg n st ps:=⟨_,_,zj5 (st:=st) l e (kfo l),PySem.W.mg_of X G a,(zj5 (st:=st) l e (kfo l)).binds b⟩
def dmo {K:PySem.W.Frag}{C:Addr}{n q:Str}{st:Stmt}{f c:Addr}{m:Value}{ps:List Str}(a:PySem.W.findIn K (.ref C) n=some (some (.ref f)))(l:K.lookup f=some (fo n q st m c))(e:PySem.W.codeIn K (.ref c) q=true)(b:Bn n q st ps):Dm K C n q st ps:=⟨_,_,zj5 (st:=st) l e (kfo l),⟨a,ifo l,kfo l⟩,(zj5 (st:=st) l e (kfo l)).binds b⟩
abbrev nsA (K:PySem.W.Frag)(n:Str)(f:Addr):Prop:=PySem.W.nsIn K mainGlobals n=some (some (.ref f))
abbrev fdA (K:PySem.W.Frag)(C:Addr)(n:Str)(f:Addr):Prop:=PySem.W.findIn K (.ref C) n=some (some (.ref f))
abbrev lkA (K:PySem.W.Frag)(f:Addr)(n q:Str)(st:Stmt)(m:Value)(c:Addr):Prop:=K.lookup f=some (fo n q st m c)
abbrev cdA (K:PySem.W.Frag)(c:Addr)(q:Str):Prop:=PySem.W.codeIn K (.ref c) q=true
theorem za2 {C:Addr}{f:Str}{to:TDE}{dl:Ev}{S S1:Sto}{Q:DK}{n:Nat}{fs:List (Str×D)}{v:D}(hto:∀K:DK,K (.ref n) S1→to dl S K)(h:S1[n]?=some (.ins C fs))(hf:fs.lookup f=some v)(hq:Q v S1):zkl C f to dl S Q:=by
 unfold zkl
 refine hto _ ?_
 simp only[zc9,h,if_pos,hf]
 exact hq
theorem zc2 {C:Addr}{f:Str}{to te:TDE}{dl:Ev}{S S1 S2:Sto}{E:zcX}{n:Nat}{fs:List (Str×D)}{v:D}(hte:∀K:DK,K v S1→te dl S K)(hto:∀K:DK,K (.ref n) S2→to dl S1 K)(h:S2[n]?=some (.ins C fs))(hl:fs.length<1000)(hq:E.nx dl (S2.set n (.ins C (ze9 f v fs)))):zl7 C f to te E dl S:=by
 unfold zl7
 refine hte _ (hto _ ?_)
 simp only[zc9,h,if_pos]
 exact⟨hl,hq⟩
theorem zm9 {C:Addr}{m:Str}{ex:Ev→Addr→Sto→Prop}{sd:Sd}{to:TDE}{t:TDA}{dl:Ev}{S S1:Sto}{Q:DK}{n:Nat}{fs:List (Str×D)}(hto:∀K:DK,K (.ref n) S1→to dl S K)(h:S1[n]?=some (.ins C fs))(hf:fs.lookup m=none)(hq:t dl S1 λds S2=>sd (.ref n::ds) S2 Q (ex dl)):zlO C m ex sd to t dl S Q:=by
 unfold zlO
 refine hto _ ?_
 simp only[zc9,h,if_pos]
 exact⟨hf,hq⟩
theorem znR {te:TDE}{dl:Ev}{S:Sto}{Q:DK}{n:Nat}{xs:List D}(ht:∀K:DK,K (.ref n) S→te dl S K)(h:S[n]?=some (.lst xs))(hq:Q (.bl true) S):ziX "list" te dl S Q:=by
 unfold ziX
 refine ht _ ?_
 simp only[h]
 exact hq
theorem zoO {to ti te:TDE}{dl:Ev}{S:Sto}{E:zcX}{n j:Nat}{k:Int}{xs:List D}{v:D}(hte:∀K:DK,K v S→te dl S K)(hto:∀K:DK,K (.ref n) S→to dl S K)(hti:∀K:DK,K (.int k) S→ti dl S K)(h:S[n]?=some (.lst xs))(hj:ixN xs.length k=some j)(hq:E.nx dl (S.set n (.lst (xs.set j v)))):zfR to ti te E dl S:=by
 unfold zfR
 refine hte _ (hto _ (hti _ ?_))
 simp only[h,hj]
 exact hq
theorem zb1 {n:Nat}{S:Sto}{Q:DK}{xs:List D}(h:S[n]?=some (.lst xs))(hq:Q (.int (xs.length:Nat)) S):irr zfk [.ref n] S Q:=by
 rw[zev]
 unfold zfk
 simp only[zaN h rfl]
 exact hq
theorem za9 {S:Sto}{n a:Nat}{o u:Ob}(h:S[n]?=some o)(hn:a≠n):(S.set a u)[n]?=some o:=by rw[VaB hn]; exact h
theorem zb2 {S:Sto}{n:Nat}{o u:Ob}(h:S[n]?=some o):(S.set n u)[n]?=some u:=by
 have hk:=(Vab.mp h).1
 simp[hk]
theorem zaB {S:Sto}{n:Nat}{o:Ob}{T:Sto}(h:S[n]?=some o):(S++T)[n]?=some o:=by
 have hk:=(Vab.mp h).1
 rw[Vao hk]
 exact h
theorem zc4 (T R:Sto)(u:Ob):(T++u::R)[T.length]?=some u:=by simp
theorem zc1 (T R:Sto)(u v:Ob):(T++u::R).set T.length v=T++v::R:=by simp
def zpb (S T:Sto):Prop:=∀(x:Nat) (o:Ob),S[x]?=some o→T[x]?=some o
theorem zpb.app (S T:Sto):zpb S (S++T):=λ_ _ h=>zaB h
theorem zbo {S:Sto}{n:Nat}{o:Ob}(h:S[n]?=some o):n<S.length:=(Vab.mp h).1
theorem zun {xs:List Int}{lo hi:Option Int}{k:Nat}{x:D}(h:(zbk (xs.map D.int) lo hi)[k]?=some x):∃c:Int,x=.int c:=by
 have m:=Val h
 unfold L3.zbk at m
 obtain⟨c,_,rfl⟩:=Vai.mp (Va4 (Vbb m))
 exact⟨c,rfl⟩
theorem zdi {i n:Nat}{tb:TDS}{E:zcX}{dl:Ev}{S:Sto}{o:Ob}(W:Nat→Ev→Sto→Prop)(h0:W 0 dl S)(hk:∀k dl' S',W k dl' S'→S'[n]?=some o)
  (ht:∀(k:Nat) (x:D) (dl':Ev) (S':Sto) (nx ct:Ev→Sto→Prop),(zak o)[k]?=some x→W k dl' S'→(∀dl2 S2,W (k+1) dl2 S2→nx dl2 S2)→tb { nx:=nx,rt:=E.rt,bk:=E.nx,ct:=ct } (dl'.set i (some x)) S')(he:∀dl' S',W (zak o).length dl' S'→E.nx dl' S')(hL:zbZ o=some o:=by rfl):
  (lAt S n).isSome=true∧∃W:Nat→Nat→Ev→Sto→Prop,(∃m,W 0 m dl S)∧∀k m dl S,W k m dl S→match lAt S n with
  | some o=>match (zak o)[k]? with
   | some x=>tb { nx:=λdl' S'=>∃m',m'<m∧W (k+1) m' dl' S',rt:=E.rt,bk:=E.nx,ct:=λdl' S'=>∃m',m'<m∧W (k+1) m' dl' S' } (dl.set i (some x)) S
   | none=>E.nx dl S
  | none=>False:=by
 refine⟨by rw[zaN (hk _ _ _ h0) hL]; rfl,λk m dl' S'=>m+k=(zak o).length∧W k dl' S',⟨(zak o).length,by omega,h0⟩,?_⟩
 rintro k m dl' S' ⟨hm,w⟩
 rw[zaN (hk _ _ _ w) hL]
 show (match (zak o)[k]? with
   | some x=>tb { nx:=λdl' S''=>∃m',m'<m∧(m'+(k+1)=(zak o).length∧W (k+1) dl' S''),rt:=E.rt,bk:=E.nx,ct:=λdl' S''=>∃m',m'<m∧(m'+(k+1)=(zak o).length∧W (k+1) dl' S'') } (dl'.set i (some x)) S'
   | none=>E.nx dl' S')
 split
 ·rename_i x hx
  have hk:k<(zak o).length:=(Vab.mp hx).1
  exact ht k x dl' S' _ _ hx w λdl2 S2 w2=>⟨m-1,by omega,by omega,w2⟩
 ·rename_i hx
  have hk:k=(zak o).length:=by
   have:=VaQ.mp hx
   omega
  exact he dl' S' (hk ▸ w)
inductive Nd where
 | number (t b:Int) | unknown (k:Int) | plus (i j:Int) | minus (i j:Int) | times (i j:Int) | power (i n:Int)
def Nd.d:Nd→D
 | .number t b=>.tup [.str "number",.int t,.int b]
 | .unknown k=>.tup [.str "unknown",.int k]
 | .plus i j=>.tup [.str "plus",.int i,.int j]
 | .minus i j=>.tup [.str "minus",.int i,.int j]
 | .times i j=>.tup [.str "times",.int i,.int j]
 | .power i n=>.tup [.str "power",.int i,.int n]
def Nd.ob (cN cU cP cM cT cW:Addr):Nd→Ob
 | .number t b=>.ins cN [("top",.int t),("bottom",.int b)]
 | .unknown k=>.ins cU [("place",.int k)]
 | .plus i j=>.ins cP [("one",.int i),("other",.int j)]
 | .minus i j=>.ins cM [("one",.int i),("other",.int j)]
 | .times i j=>.ins cT [("one",.int i),("other",.int j)]
 | .power i n=>.ins cW [("one",.int i),("many",.int n)]
def inR (m i:Int):Prop:=0≤i∧i<m
def Nd.ok (m q:Int):Nd→Prop
 | .number t b=>(1≤b∧b≤10^9)∧Int.gcd t b=1∧t.natAbs≤10^9
 | .unknown k=>inR q k
 | .plus i j=>inR m i∧inR m j
 | .minus i j=>inR m i∧inR m j
 | .times i j=>inR m i∧inR m j
 | .power i n=>inR m i∧2≤n∧n≤6
def frD (p:Int×Int):D:=.tup [.int p.1,.int p.2]
abbrev gt (vs:List (Int×Int))(i:Int):Int×Int:=vs.getD i.toNat (0,1)
theorem zoF {vs:List (Int×Int)}{i:Int}(h:inR vs.length i):gt vs i∈vs:=by
 obtain⟨h0,h1⟩:=h
 have hk:i.toNat<vs.length:=by omega
 have e:gt vs i=vs[i.toNat]:=by simp[gt,hk]
 rw[e]
 exact VaH hk
theorem zbi {vs:List (Int×Int)}{i:Int}(h:inR vs.length i):atI (vs.map frD) i=some (frD (gt vs i)):=by
 obtain⟨h0,h1⟩:=h
 have hk:i.toNat<vs.length:=by omega
 have z:=zcV (xs:=vs.map frD) (j:=i.toNat) (v:=frD (gt vs i)) (by rw[Vae,Vaa hk]; simp[gt,hk])
 rw[show ((i.toNat:Nat):Int)=i by omega] at z
 exact z
theorem fr_eq (p q:Int×Int):eqN 1 (frD p) (frD q)=some (decide (p.1=q.1)&&(decide (p.2=q.2)&&true)):=by simp[frD,eqN,L3.eqT,eqL,eqF]
theorem znT:∀vs:List (Int×Int),eqL (eqN 1) (vs.map frD) (vs.map frD)=some true
 | []=>rfl
 | u::us=>by
  show (match eqN 1 (frD u) (frD u),eqL (eqN 1) (us.map frD) (us.map frD) with | some b,some c=>some (b&&c) | _,_=>none)=_
  rw[fr_eq,znT us]
  simp
theorem zru {xs:List D}{d e:D}{i:Nat}{P:Nat→D→Prop}(h:(xs++[d])[i]?=some e)(hp:∀i d,xs[i]?=some d→P i d)(hd:P xs.length d):P i e:=by
 by_cases hi:i<xs.length
 ·rw[Vao hi] at h
  exact hp i e h
 ·have hk:=(Vab.mp h).1
  simp only[Var,Vay,Vbc] at hk
  have e1:i=xs.length:=by omega
  subst e1
  simp at h
  subst h
  exact hd
theorem zwM {caps:List Nat}{ta:TDA}{te:TDE}{dl:Ev}{S S1:Sto}{Q:DK}{j:Int}(P:Nat→D→Prop)(hta:∀K:List D→Sto→Prop,K [.int j] S1→ta dl S K)(hj:0≤j∧j≤1000)
  (ht:∀k:Nat,k<j.toNat→∀(S2:Sto) (K:DK),Pre S1 S2→(∀d,P k d→K d S2)→te (some (.int k)::zbt caps dl) S2 K)(hq:∀xs:List D,xs.length=j.toNat→(∀k d,xs[k]?=some d→P k d)→Q (.ref S1.length) (S1++[.lst xs])):zc5 caps ta zb8 te dl S Q:=by
 unfold zc5
 refine hta _ ⟨⟨by omega,by omega⟩,λk S2=>(∃xs:List D,S2=S1++[.lst xs]∧xs.length=k∧∀i d,xs[i]?=some d→P i d)∧k≤j.toNat,⟨⟨[],rfl,rfl,λi d h=>by simp at h⟩,by omega⟩,?_⟩
 rintro k S2 ⟨⟨xs,rfl,hx,hp⟩,hk⟩
 split
 ·rename_i hk'
  unfold zdo zb8
  simp only[if_true]
  refine ht k hk' _ _ Pre.refl.push λd hd=>?_
  rw[zax]
  refine⟨by omega,⟨xs++[d],zkw _ _ _,by simp[hx],λi e he=>zru he hp (hx ▸ hd)⟩,by omega⟩
 ·have e:k=j.toNat:=by omega
  subst e
  exact hq xs hx hp
theorem zqQ {caps:List Nat}{tl te:TDE}{dl:Ev}{S S1:Sto}{Q:DK}{n:Nat}{o:Ob}(P:Nat→D→Prop)(htl:∀K:DK,K (.ref n) S1→tl dl S K)(h1:S1[n]?=some o)(hl:(zak o).length≤1000)
  (ht:∀(k:Nat) (x:D),(zak o)[k]?=some x→∀(S2:Sto) (K:DK),Pre S1 S2→(∀d,P k d→K d S2)→te (some x::zbt caps dl) S2 K)(hq:∀xs:List D,xs.length=(zak o).length→(∀k d,xs[k]?=some d→P k d)→Q (.ref S1.length) (S1++[.lst xs]))(hL:zbZ o=some o:=by rfl):zct caps tl zb8 te dl S Q:=by
 unfold zct
 refine htl _ ⟨by rw[zaN h1 hL]; rfl,λk m S2=>(∃xs:List D,S2=S1++[.lst xs]∧xs.length=k∧∀i d,xs[i]?=some d→P i d)∧m+k=(zak o).length,⟨(zak o).length,⟨[],rfl,rfl,λi d h=>by simp at h⟩,by omega⟩,?_⟩
 rintro k m S2 ⟨⟨xs,rfl,hx,hp⟩,hm⟩
 rw[zaN (zcQ h1) hL]
 dsimp only
 split
 ·rename_i x hk
  have hk':k<(zak o).length:=(Vab.mp hk).1
  unfold zdo zb8
  simp only[if_true]
  refine ht k x hk _ _ Pre.refl.push λd hd=>?_
  rw[zax]
  refine⟨by omega,m-1,by omega,⟨xs++[d],zkw _ _ _,by simp[hx],λi e he=>zru he hp (hx ▸ hd)⟩,by omega⟩
 ·rename_i hk
  have hk':=VaQ.mp hk
  exact hq xs (by omega) hp
structure zfp (a b c d mn mx:Int):Prop where
 lo:mn=a*c∨mn=a*d∨mn=b*c∨mn=b*d
 l1:mn≤a*c
 l2:mn≤a*d
 l3:mn≤b*c
 l4:mn≤b*d
 hi:mx=a*c∨mx=a*d∨mx=b*c∨mx=b*d
 h1:a*c≤mx
 h2:a*d≤mx
 h3:b*c≤mx
 h4:b*d≤mx
theorem zfp.of {a b c d mn mx:Int}(m1:mn∈[a*c,a*d,b*c,b*d])(m2:∀y∈[a*c,a*d,b*c,b*d],mn≤y)(x1:mx∈[a*c,a*d,b*c,b*d])(x2:∀y∈[a*c,a*d,b*c,b*d],y≤mx):zfp a b c d mn mx:=by
 simp only[Vaw,List.not_mem_nil,or_false] at m1 x1
 exact⟨m1,m2 _ (by simp),m2 _ (by simp),m2 _ (by simp),m2 _ (by simp),x1,x2 _ (by simp),x2 _ (by simp),x2 _ (by simp),x2 _ (by simp)⟩
structure zd4 (a b:Int)(n:Nat)(m M:Int):Prop where
 lo:m=a^n∨m=b^n∨(a<0∧0<b∧m=0)
 l1:m≤a^n
 l2:m≤b^n
 l3:a<0→0<b→m≤0
 hi:M=a^n∨M=b^n
 h1:a^n≤M
 h2:b^n≤M
theorem zpow {n:Nat}(h:1≤n):(0:Int)^n=0:=by
 cases n with
 | zero=>omega
 | succ k=>rw[Va5,Int.mul_zero]
theorem zd4.of {a b g mn mx:Int}{n:Nat}(hg:1≤g){l:List Int}(hl:l=[a^n*g,b^n*g]∧¬ (a<0∧0<b)∨l=[a^n*g,b^n*g,0^n*g]∧a<0∧0<b)(hn:1≤n)(m1:mn∈l)(m2:∀y∈l,mn≤y)(x1:mx∈l)(x2:∀y∈l,y≤mx):
  ∃m M,zd4 a b n m M∧mn=m*g∧mx=M*g:=by
 have can:∀ {x y:Int},x*g≤y*g→x≤y:=λ{x y} h=>Int.le_of_mul_le_mul_right h (by omega)
 rcases hl with ⟨rfl,hz⟩ | ⟨rfl,hz1,hz2⟩
 ·simp only[Vaw,List.not_mem_nil,or_false] at m1 x1
  have a1:=m2 (a^n*g) (by simp)
  have a2:=m2 (b^n*g) (by simp)
  have b1:=x2 (a^n*g) (by simp)
  have b2:=x2 (b^n*g) (by simp)
  obtain⟨m,hm,em⟩:∃m,(m=a^n∨m=b^n)∧mn=m*g:=by
   rcases m1 with e | e
   ·exact⟨_,.inl rfl,e⟩
   ·exact⟨_,.inr rfl,e⟩
  obtain⟨M,hM,eM⟩:∃m,(m=a^n∨m=b^n)∧mx=m*g:=by
   rcases x1 with e | e
   ·exact⟨_,.inl rfl,e⟩
   ·exact⟨_,.inr rfl,e⟩
  subst em eM
  exact⟨m,M,⟨hm.elim .inl λe=>.inr (.inl e),can a1,can a2,λc1 c2=>absurd ⟨c1,c2⟩ hz,hM,can b1,can b2⟩,rfl,rfl⟩
 ·rw[zpow hn,Vbd] at m1 m2 x1 x2
  simp only[Vaw,List.not_mem_nil,or_false] at m1 x1
  have a1:=m2 (a^n*g) (by simp)
  have a2:=m2 (b^n*g) (by simp)
  have a3:=m2 0 (by simp)
  have b1:=x2 (a^n*g) (by simp)
  have b2:=x2 (b^n*g) (by simp)
  have b3:=x2 0 (by simp)
  obtain⟨m,hm,em⟩:∃m,(m=a^n∨m=b^n∨m=0)∧mn=m*g:=by
   rcases m1 with e | e | e
   ·exact⟨_,.inl rfl,e⟩
   ·exact⟨_,.inr (.inl rfl),e⟩
   ·exact⟨0,.inr (.inr rfl),by rw[e,Vbd]⟩
  have bp:(0:Int)≤b^n:=Int.pow_nonneg (by omega)
  have bg:=Int.mul_nonneg bp (show 0≤g by omega)
  obtain⟨M,hM,eM⟩:∃m,(m=a^n∨m=b^n)∧mx=m*g:=by
   rcases x1 with e | e | e
   ·exact⟨_,.inl rfl,e⟩
   ·exact⟨_,.inr rfl,e⟩
   ·exact⟨_,.inr rfl,by omega⟩
  subst em eM
  refine⟨m,M,⟨?_,can a1,can a2,λ_ _=>can (by rw[Vbd]; exact a3),hM,can b1,can b2⟩,rfl,rfl⟩
  rcases hm with e | e | e
  ·exact .inl e
  ·exact .inr (.inl e)
  ·exact .inr (.inr ⟨hz1,hz2,e⟩)
theorem zfD {m g:Int}{n:Nat}(hg:1≤g)(hn:1≤n):m*g/g^n=m/g^(n-1):=by
 obtain⟨k,rfl⟩:∃k,n=k+1:=⟨n-1,by omega⟩
 rw[Va5,Nat.add_sub_cancel,Int.mul_ediv_mul_of_pos_left _ _ (by omega)]
def mn4 (a b c d:Int):Int:=min (min (a*c) (a*d)) (min (b*c) (b*d))
def mx4 (a b c d:Int):Int:=max (max (a*c) (a*d)) (max (b*c) (b*d))
theorem zfp.eq {a b c d mn mx:Int}(h:zfp a b c d mn mx):mn=mn4 a b c d∧mx=mx4 a b c d:=by
 obtain⟨h0,h1,h2,h3,h4,h5,h6,h7,h8,h9⟩:=h
 unfold mn4 mx4
 omega
def zbY (a b:Int)(n:Nat):Int:=if n%2=0∧a≤0∧0≤b then 0 else min (a^n) (b^n)
def zdh (a b:Int)(n:Nat):Int:=max (a^n) (b^n)
theorem zmk {n:Nat}(h:n%2=0)(x:Int):0≤x^n:=by
 obtain⟨k,rfl⟩:∃k,n=k+k:=⟨n/2,by omega⟩
 rw[Int.pow_add]
 by_cases c:0≤x^k
 ·exact Int.mul_nonneg c c
 ·have:=Int.mul_nonneg (show 0≤-(x^k) by omega) (show 0≤-(x^k) by omega)
  rw[Int.neg_mul_neg] at this
  exact this
theorem zx9 {n:Nat}(h:n%2=1){x:Int}(hx:x<0):x^n<0:=by
 obtain⟨k,rfl⟩:∃k,n=k+1:=⟨n-1,by omega⟩
 have z:=zmk (n:=k) (by omega) x
 have nz:∀k:Nat,x^k≠0:=λk=>by
  induction k with
  | zero=>rw[Int.pow_zero]; decide
  | succ k ih=>rw[Va5]; exact Int.mul_ne_zero ih (by omega)
 have nz:=nz k
 have:=Int.mul_pos (show 0<x^k by omega) (show 0 < -x by omega)
 rw[Int.mul_neg] at this
 rw[Va5]
 omega
theorem zd4.eq {a b m M:Int}{n:Nat}(h:zd4 a b n m M)(hn:1≤n):m=zbY a b n∧M=zdh a b n:=by
 obtain⟨h0,h1,h2,h3,h4,h5,h6⟩:=h
 refine⟨?_,by unfold zdh; omega⟩
 unfold zbY
 split
 ·rename_i c
  obtain⟨c1,c2,c3⟩:=c
  have e1:=zmk c1 a
  have e2:=zmk c1 b
  by_cases z:a<0∧0<b
  ·have:=h3 z.1 z.2
   omega
  ·have z':a=0∨b=0:=by omega
   rcases z' with rfl | rfl
   ·rw[zpow hn] at h1
    omega
   ·rw[zpow hn] at h2
    omega
 ·rename_i c
  have hz:a<0→0<b→m≠0:=λa1 b1 e=>by
   by_cases p:n%2=0
   ·exact c ⟨p,by omega,by omega⟩
   ·have:=zx9 (n:=n) (by omega) a1
    omega
  omega
def Nd.fw (vs bs:List (Int×Int))(g:Int):Nd→Int×Int
 | .number t b=>(t*g/b,-(-(t*g)/b))
 | .unknown k=>gt bs k
 | .plus i j=>((gt vs i).1+(gt vs j).1,(gt vs i).2+(gt vs j).2)
 | .minus i j=>((gt vs i).1-(gt vs j).2,(gt vs i).2-(gt vs j).1)
 | .times i j=>(mn4 (gt vs i).1 (gt vs i).2 (gt vs j).1 (gt vs j).2/g,-(-mx4 (gt vs i).1 (gt vs i).2 (gt vs j).1 (gt vs j).2/g))
 | .power i n=>(zbY (gt vs i).1 (gt vs i).2 n.toNat/g^(n.toNat-1),-(-zdh (gt vs i).1 (gt vs i).2 n.toNat/g^(n.toNat-1)))
def Spn (B:Nat)(vs:List (Int×Int)):Prop:=∀p∈vs,p.1≤p.2∧Sz B p.1∧Sz B p.2
theorem Spn.at {B:Nat}{vs:List (Int×Int)}(h:Spn B vs){i:Int}(hi:inR vs.length i):(gt vs i).1≤(gt vs i).2∧Sz B (gt vs i).1∧Sz B (gt vs i).2:=h _ (zoF hi)
theorem Spn.mono {B C:Nat}{vs:List (Int×Int)}(h:Spn B vs)(hc:B≤C):Spn C vs:=λp hp=>⟨(h p hp).1,(h p hp).2.1.mono hc,(h p hp).2.2.mono hc⟩
theorem zfx {m M g:Int}(hg:1≤g)(h:m≤M):m/g≤-(-M/g):=by
 have h1:=Int.ediv_mul_le m (show g≠0 by omega)
 have h2:=Int.ediv_mul_le (-M) (show g≠0 by omega)
 have:m/g*g≤-(-M/g)*g:=by rw[Va3]; omega
 exact Int.le_of_mul_le_mul_right this (by omega)
theorem zoA (a b:Int)(n:Nat):zbY a b n≤zdh a b n:=by
 unfold zbY zdh
 split
 ·rename_i c
  have:=zmk c.1 a
  omega
 ·omega
theorem zo9 (a b c d:Int):mn4 a b c d≤mx4 a b c d:=by unfold mn4 mx4; omega
theorem Nd.fw_le {vs bs:List (Int×Int)}{g:Int}{B:Nat}(h1:Spn B vs)(h2:Spn B bs)(hg:1≤g):∀v:Nd,v.ok vs.length bs.length→(v.fw vs bs g).1≤(v.fw vs bs g).2
 | .number t b,ok=>zfx ok.1.1 (VaJ _)
 | .unknown k,ok=>(h2.at ok).1
 | .plus i j,ok=>by
  have a:=(h1.at ok.1).1
  have b:=(h1.at ok.2).1
  show (gt vs i).1+(gt vs j).1≤(gt vs i).2+(gt vs j).2
  omega
 | .minus i j,ok=>by
  have a:=(h1.at ok.1).1
  have b:=(h1.at ok.2).1
  show (gt vs i).1-(gt vs j).2≤(gt vs i).2-(gt vs j).1
  omega
 | .times i j,ok=>zfx hg (zo9 _ _ _ _)
 | .power i n,ok=>zfx (VaS (by omega)) (zoA _ _ _)
theorem zq9 {a b:TDS}{E:zcX}{dl:Ev}{S:Sto}(W:Ev→Sto→Prop)(ha:∀nx:Ev→Sto→Prop,(∀dl' S',W dl' S'→nx dl' S')→a { nx:=nx,rt:=E.rt,bk:=E.bk,ct:=E.ct } dl S)(hb:∀dl' S',W dl' S'→b E dl' S'):zcW a b E dl S:=ha _ hb
theorem zx5 {S:Sto}{Q:DK}{xs:List D}(hq:Q (.int (xs.length:Nat)) S):irr zfk [.tup xs] S Q:=by
 rw[zev]
 exact hq
theorem zqY {a b c:TDS}{E:zcX}{dl:Ev}{S:Sto}(W:Ev→Sto→Prop)(ha:∀nx:Ev→Sto→Prop,(∀dl' S',W dl' S'→nx dl' S')→zcW a b { nx:=nx,rt:=E.rt,bk:=E.bk,ct:=E.ct } dl S)(hb:∀dl' S',W dl' S'→c E dl' S'):zcW a (zcW b c) E dl S:=ha _ hb
theorem zeB {n:Nat}{m g:Int}(h:Sz n m)(hg:1≤g):Sz n (-(-m/g)):=(h.neg.div hg).neg
theorem zdK {n:Nat}{a b:Int}(ha:Sz n a)(hb:Sz n b):Sz n (min a b):=by unfold Sz at *; omega
theorem zc8 {n:Nat}{a b:Int}(ha:Sz n a)(hb:Sz n b):Sz n (max a b):=by unfold Sz at *; omega
theorem Spn.set {B:Nat}{vs:List (Int×Int)}(h:Spn B vs){k:Nat}{u:Int}(hu:Sz B u):Spn B (vs.set k (u,u)):=λp hp=>by
 rcases List.mem_or_eq_of_mem_set hp with e | e
 ·exact h p e
 ·subst e; exact⟨VaJ _,hu,hu⟩
def Nd.wt (ws:List Nat):Nd→Nat
 | .number _ _=>1
 | .unknown _=>1
 | .plus i j=>ws.getD i.toNat 0+ws.getD j.toNat 0
 | .minus i j=>ws.getD i.toNat 0+ws.getD j.toNat 0
 | .times i j=>ws.getD i.toNat 0+ws.getD j.toNat 0
 | .power i n=>n.toNat*ws.getD i.toNat 0
structure zaJ (q:Int)(ns:List Nd)(ws:List Nat):Prop where
 len:ws.length=ns.length
 ok:∀(k:Nat) (v:Nd),ns[k]?=some v→v.ok k q∧ws.getD k 0=v.wt ws∧1≤v.wt ws∧v.wt ws≤16
theorem zaJ.nil (q:Int):zaJ q [] []:=⟨rfl,λk v h=>by simp at h⟩
theorem zaJ.w1 {q:Int}{ns:List Nd}{ws:List Nat}(h:zaJ q ns ws){i:Int}(hi:inR ns.length i):1≤ws.getD i.toNat 0∧ws.getD i.toNat 0≤16:=by
 obtain⟨h0,h1⟩:=hi
 have hk:i.toNat<ns.length:=(by omega)
 obtain⟨_,e,a,b⟩:=h.ok i.toNat _ (Vaa hk)
 omega
theorem zaJ.w2 {q:Int}{ns:List Nd}{ws:List Nat}(h:zaJ q ns ws):∀v:Nd,v.ok ns.length q→1≤v.wt ws∧v.wt ws≤96
 | .number _ _,_=>⟨Vad 1,show 1≤96 by decide⟩
 | .unknown _,_=>⟨Vad 1,show 1≤96 by decide⟩
 | .plus i j,ok=>by have a:=h.w1 ok.1; have b:=h.w1 ok.2; simp only[Nd.wt]; omega
 | .minus i j,ok=>by have a:=h.w1 ok.1; have b:=h.w1 ok.2; simp only[Nd.wt]; omega
 | .times i j,ok=>by have a:=h.w1 ok.1; have b:=h.w1 ok.2; simp only[Nd.wt]; omega
 | .power i n,ok=>by
  have a:=h.w1 ok.1
  have n2:=ok.2.1
  have n6:=ok.2.2
  have m1:=Nat.mul_le_mul (show 1≤n.toNat by omega) a.1
  have m2:=Nat.mul_le_mul (show n.toNat≤6 by omega) a.2
  simp only[Nd.wt]
  omega
theorem zpP {ws:List Nat}{w:Nat}{k:Nat}(h:k<ws.length):(ws++[w]).getD k 0=ws.getD k 0:=by
 rw[Vaf,Vaf,Vao h]
theorem zqD {ws:List Nat}{w:Nat}{q:Int}{k:Nat}(hk:k≤ws.length):∀v:Nd,v.ok k q→v.wt (ws++[w])=v.wt ws:=by
 have e:∀i:Int,inR k i→(ws++[w]).getD i.toNat 0=ws.getD i.toNat 0:=λi hi=>zpP (by have a:=hi.1; have b:=hi.2; omega)
 intro v ok
 cases v with
 | number _ _=>rfl
 | unknown _=>rfl
 | plus i j=>show _+_=_+_; rw[e i ok.1,e j ok.2]
 | minus i j=>show _+_=_+_; rw[e i ok.1,e j ok.2]
 | times i j=>show _+_=_+_; rw[e i ok.1,e j ok.2]
 | power i n=>show _*_=_*_; rw[e i ok.1]
theorem zaJ.snoc {q:Int}{ns:List Nd}{ws:List Nat}(h:zaJ q ns ws){v:Nd}(ok:v.ok ns.length q)(h16:v.wt ws≤16):zaJ q (ns++[v]) (ws++[v.wt ws]):=by
 refine⟨by simp[h.len],λk u hu=>?_⟩
 by_cases hk:k<ns.length
 ·rw[Vao hk] at hu
  obtain⟨a,b,c,d⟩:=h.ok k u hu
  have e:=zqD (w:=v.wt ws) (q:=q) (k:=k) (by rw[h.len]; omega) u a
  rw[e,zpP (by rw[h.len]; exact hk)]
  exact⟨a,b,c,d⟩
 ·have hl:=(Vab.mp hu).1
  simp only[Var,Vay,Vbc] at hl
  have ek:k=ns.length:=by omega
  subst ek
  simp at hu
  subst hu
  have e:=zqD (w:=v.wt ws) (q:=q) (k:=ns.length) (by rw[h.len]; omega) v ok
  rw[e]
  refine⟨ok,?_,(h.w2 v ok).1,h16⟩
  rw[← h.len]
  simp
theorem zaJ.take {q:Int}{ns:List Nd}{ws:List Nat}(h:zaJ q ns ws)(n:Nat):zaJ q (ns.take n) (ws.take n):=by
 have e:∀k:Nat,k<n→(ws.take n).getD k 0=ws.getD k 0:=λk hk=>by
  rw[Vaf,Vaf,List.getElem?_take_of_lt hk]
 refine⟨by simp[h.len],λk u hu=>?_⟩
 have hl:=(Vab.mp hu).1
 rw[Vau] at hl
 have hk:k<n:=by omega
 rw[List.getElem?_take_of_lt hk] at hu
 obtain⟨a,b,c,d⟩:=h.ok k u hu
 have e2:u.wt (ws.take n)=u.wt ws:=by
  have f:∀i:Int,inR k i→(ws.take n).getD i.toNat 0=ws.getD i.toNat 0:=λi hi=>e _ (by have:=hi.1; have:=hi.2; omega)
  cases u with
  | number _ _=>rfl
  | unknown _=>rfl
  | plus i j=>show _+_=_+_; rw[f i a.1,f j a.2]
  | minus i j=>show _+_=_+_; rw[f i a.1,f j a.2]
  | times i j=>show _+_=_+_; rw[f i a.1,f j a.2]
  | power i m=>show _*_=_*_; rw[f i a.1]
 rw[e2,e k hk]
 exact⟨a,b,c,d⟩
def zan (bs:List (Int×Int))(g:Int)(ns:List Nd):List (Int×Int):=ns.foldl (λacc v=>acc++[v.fw acc bs g]) []
theorem zlG (bs:List (Int×Int))(g:Int)(ns:List Nd)(v:Nd):zan bs g (ns++[v])=zan bs g ns++[v.fw (zan bs g ns) bs g]:=by
 unfold zan
 rw[List.foldl_append]
 rfl
theorem zca {α:Type}{xs:List α}{k:Nat}{x:α}(h:xs[k]?=some x):xs.take (k+1)=xs.take k++[x]:=by rw[Vba,h]; rfl
theorem zdp (bs:List (Int×Int))(g:Int)(ns:List Nd):(zan bs g ns).length=ns.length:=by
 have z:∀k,k≤ns.length→(zan bs g (ns.take k)).length=k:=λk=>by
  induction k with
  | zero=>intro _; rfl
  | succ k ih=>
   intro hk
   rw[zca (Vaa (show k<ns.length by omega)),zlG]
   simp[ih (by omega)]
 have:=z ns.length (Vad _)
 rwa [VaW] at this
def SzW (ws:List Nat)(vs:List (Int×Int)):Prop:=∀(k:Nat) (p:Int×Int),vs[k]?=some p→p.1≤p.2∧Sz (60*ws.getD k 0-1) p.1∧Sz (60*ws.getD k 0-1) p.2
theorem SzW.at {ws:List Nat}{vs:List (Int×Int)}(h:SzW ws vs){i:Int}(hi:inR vs.length i):(gt vs i).1≤(gt vs i).2∧Sz (60*ws.getD i.toNat 0-1) (gt vs i).1∧Sz (60*ws.getD i.toNat 0-1) (gt vs i).2:=by
 obtain⟨h0,h1⟩:=hi
 have hk:i.toNat<vs.length:=by omega
 have e:gt vs i=vs[i.toNat]:=by simp[gt,hk]
 rw[e]
 exact h _ _ (Vaa hk)
theorem fw_w {ws:List Nat}{vs bs:List (Int×Int)}{g:Int}(hs:SzW ws vs)(hb:Spn 51 bs)(hg:1≤g∧g≤1000000)(hw:∀i:Int,inR vs.length i→1≤ws.getD i.toNat 0):∀v:Nd,v.ok vs.length bs.length→Sz (60*v.wt ws-1) (v.fw vs bs g).1∧Sz (60*v.wt ws-1) (v.fw vs bs g).2
 | .number t b,ok=>by
  have z:Sz 52 (t*g):=(Sz.of (n:=31) (10^9) ok.2.2).mul (Sz.of (n:=21) (10^6) (show g.natAbs≤_ by omega))
  exact⟨(z.div ok.1.1).mono (show 52≤60*1-1 by decide),(zeB z ok.1.1).mono (show 52≤60*1-1 by decide)⟩
 | .unknown k,ok=>⟨(hb.at ok).2.1.mono (show 51≤60*1-1 by decide),(hb.at ok).2.2.mono (show 51≤60*1-1 by decide)⟩
 | .plus i j,ok=>by
  have a:=hs.at ok.1
  have b:=hs.at ok.2
  have p:=hw i ok.1
  have q:=hw j ok.2
  exact⟨(a.2.1.add b.2.1).mono (by simp only[Nd.wt]; omega),(a.2.2.add b.2.2).mono (by simp only[Nd.wt]; omega)⟩
 | .minus i j,ok=>by
  have a:=hs.at ok.1
  have b:=hs.at ok.2
  have p:=hw i ok.1
  have q:=hw j ok.2
  exact⟨(a.2.1.sub b.2.2).mono (by simp only[Nd.wt]; omega),(a.2.2.sub b.2.1).mono (by simp only[Nd.wt]; omega)⟩
 | .times i j,ok=>by
  have a:=hs.at ok.1
  have b:=hs.at ok.2
  have p:=hw i ok.1
  have q:=hw j ok.2
  have le:∀ {x y:Int},Sz (60*ws.getD i.toNat 0-1) x→Sz (60*ws.getD j.toNat 0-1) y→Sz (60*Nd.wt ws (.times i j)-1) (x*y):=λh1 h2=>(h1.mul h2).mono (by simp only[Nd.wt]; omega)
  have l:=zdK (zdK (le a.2.1 b.2.1) (le a.2.1 b.2.2)) (zdK (le a.2.2 b.2.1) (le a.2.2 b.2.2))
  have u:=zc8 (zc8 (le a.2.1 b.2.1) (le a.2.1 b.2.2)) (zc8 (le a.2.2 b.2.1) (le a.2.2 b.2.2))
  exact⟨l.div hg.1,zeB u hg.1⟩
 | .power i n,ok=>by
  have a:=hs.at ok.1
  have p:=hw i ok.1
  have n2:=ok.2.1
  have gp:(1:Int)≤g^(n.toNat-1):=VaS (by omega)
  have hn:(60*ws.getD i.toNat 0-1)*n.toNat+1≤60*Nd.wt ws (.power i n)-1:=by
   simp only[Nd.wt]
   rw[Nat.sub_mul,Nat.one_mul]
   have e:60*ws.getD i.toNat 0*n.toNat=60*(n.toNat*ws.getD i.toNat 0):=by rw[Nat.mul_assoc,Nat.mul_comm (ws.getD i.toNat 0)]
   have m1:=Nat.mul_le_mul (Vad n.toNat) p
   omega
  have p1:Sz (60*Nd.wt ws (.power i n)-1) ((gt vs i).1^n.toNat):=(a.2.1.pow _).mono hn
  have p2:Sz (60*Nd.wt ws (.power i n)-1) ((gt vs i).2^n.toNat):=(a.2.2.pow _).mono hn
  have l:Sz (60*Nd.wt ws (.power i n)-1) (zbY (gt vs i).1 (gt vs i).2 n.toNat):=by
   unfold zbY
   split
   ·exact(Sz.of (n:=1) 0 (by decide)).mono (by have:=Nat.mul_le_mul (show 1≤n.toNat by omega) p; simp only[Nd.wt]; omega)
   ·exact zdK p1 p2
  exact⟨l.div gp,zeB (zc8 p1 p2) gp⟩
theorem Spn.of_w {ws:List Nat}{vs:List (Int×Int)}(h:SzW ws vs)(hw:∀k:Nat,k<vs.length→ws.getD k 0≤16):Spn 1000 vs:=λp hp=>by
 obtain⟨k,hk,e⟩:=VaK.mp hp
 obtain⟨a,b,c⟩:=h k p (by rw[Vaa hk,e])
 have:=hw k hk
 exact⟨a,b.mono (by omega),c.mono (by omega)⟩
theorem zp0 {q:Int}{ns:List Nd}{ws:List Nat}{bs:List (Int×Int)}{g:Int}(h:zaJ q ns ws)(hq:q=bs.length)(hb:Spn 51 bs)(hg:1≤g∧g≤1000000):∀k,k≤ns.length→SzW ws (zan bs g (ns.take k)):=λk=>by
 induction k with
 | zero=>intro _ i p hp; simp[zan] at hp
 | succ k ih=>
  intro hk
  have hv:=Vaa (show k<ns.length by omega)
  have s:=ih (by omega)
  have ln:(zan bs g (ns.take k)).length=k:=by rw[zdp,Vau]; omega
  obtain⟨ok,e,_,_⟩:=h.ok k _ hv
  rw[zca hv,zlG]
  have okv:(ns[k]).ok (zan bs g (ns.take k)).length bs.length:=by rw[ln,← hq]; exact ok
  have w1:∀i:Int,inR (zan bs g (ns.take k)).length i→1≤ws.getD i.toNat 0:=λi hi=>(h.w1 (i:=i) (by rw[ln] at hi; exact⟨hi.1,by have:=hi.2; omega⟩)).1
  have z:=fw_w s hb hg w1 ns[k] okv
  have l:((ns[k]).fw (zan bs g (ns.take k)) bs g).1≤((ns[k]).fw (zan bs g (ns.take k)) bs g).2:=by
   refine Nd.fw_le (B:=6000) ?_ (hb.mono (by decide)) hg.1 _ okv
   intro p hp
   obtain⟨i,hi,ei⟩:=VaK.mp hp
   obtain⟨a,b,c⟩:=s i p (by rw[Vaa hi,ei])
   have:=(h.w1 (i:=i) ⟨by omega,by rw[ln] at hi; omega⟩).2
   rw[Vah] at this
   exact⟨a,b.mono (by omega),c.mono (by omega)⟩
  intro i p hp
  by_cases hi:i<k
  ·rw[Vao (by rw[ln]; exact hi)] at hp
   exact s i p hp
  ·have hl:=(Vab.mp hp).1
   simp only[Var,Vay,Vbc,ln] at hl
   have ei:i=k:=by omega
   subst ei
   rw[Vaz (by rw[ln]; exact Vad _),ln,VaX] at hp
   simp at hp
   subst hp
   rw[e]
   exact⟨l,z⟩
theorem zqT {q:Int}{ns:List Nd}{ws:List Nat}{bs:List (Int×Int)}{g:Int}(h:zaJ q ns ws)(hq:q=bs.length)(hb:Spn 51 bs)(hg:1≤g∧g≤1000000)(k:Nat)(hk:k≤ns.length):Spn 1000 (zan bs g (ns.take k)):=
 Spn.of_w (zp0 h hq hb hg k hk) λi hi=>by
  rw[zdp,Vau] at hi
  have:=(h.w1 (i:=i) ⟨by omega,by omega⟩).2
  rwa [Vah] at this
theorem zcU {S T:Sto}{n:Nat}{o:Ob}(h:Pre S T)(hn:S.length≤n):Pre S (T.set n o):=λk u e=>by
 have hk:=(Vab.mp e).1
 rw[VaB (by omega)]
 exact h k u e
theorem zcm {S T:Sto}(h:Pre S T)(U:Sto):Pre S (T++U):=λk u e=>zaB (h k u e)
theorem znX {to te:TDE}{dl:Ev}{S S1 S2:Sto}{Q:DK}{n:Nat}{xs:List D}{y:D}(hto:∀K:DK,K (.ref n) S1→to dl S K)(h:S1[n]?=some (.lst xs))(hte:∀K:DK,K y S2→te dl S1 K)(h2:S2[n]?=some (.lst xs))(hl:xs.length<1000)(hq:Q .non (S2.set n (.lst (xs++[y])))):zed to te dl S Q:=by
 unfold zed
 refine hto _ ?_
 simp only[h]
 refine hte _ ?_
 simp only[h2,if_pos hl]
 exact hq
theorem zoJ (u v:Nd):∃b,eqN 1 u.d v.d=some b:=by cases u <;> cases v <;> exact⟨_,rfl⟩
theorem zqK (u:Nd):eqN 1 u.d u.d=some true:=by cases u <;> simp[Nd.d,eqN,L3.eqT,eqL,eqF]
theorem zom (v:Nd):∀ns:List Nd,∃b,zb7 (eqN 1) (ns.map Nd.d) v.d=some b
 | []=>⟨false,rfl⟩
 | u::us=>by
  obtain⟨b,e⟩:=zoJ u v
  obtain⟨c,e2⟩:=zom v us
  refine⟨b||c,?_⟩
  show (match eqN 1 u.d v.d,zb7 (eqN 1) (us.map Nd.d) v.d with | some b,some c=>some (b||c) | _,_=>none)=_
  rw[e,e2]
theorem zq8:∀ns:List Nd,eqL (eqN 1) (ns.map Nd.d) (ns.map Nd.d)=some true
 | []=>rfl
 | u::us=>by
  show (match eqN 1 u.d u.d,eqL (eqN 1) (us.map Nd.d) (us.map Nd.d) with | some b,some c=>some (b&&c) | _,_=>none)=_
  rw[zqK,zq8 us]
  rfl
def wtD (w:Nat):D:=.int (w:Int)
theorem zsJ (q:Nat):zaJ q ((List.range q).map λ(k:Nat)=>Nd.unknown (k:Int)) ((List.range q).map λ_=>1):=by
 refine⟨by simp,λk v hv=>?_⟩
 have hl:=(Vab.mp hv).1
 simp only[Vac,List.length_range] at hl
 rw[Vae,VaE hl] at hv
 cases hv
 refine⟨⟨by omega,by omega⟩,?_,Vad _,show 1≤16 by decide⟩
 simp[Nd.wt,hl]
theorem zrG {u v:Nd}(h:eqN 1 u.d v.d=some true):u=v:=by
 cases u <;> cases v <;> simp[Nd.d,eqN,L3.eqT,eqL,eqF] at h
 all_goals first | (obtain⟨rfl,rfl⟩:=h; rfl) | (subst h; rfl) | exact absurd h.1 (by decide)
theorem znY (v:Nd):∀ns:List Nd,∃o:Option Nat,zdu (eqN 1) (ns.map Nd.d) v.d=some o∧zb7 (eqN 1) (ns.map Nd.d) v.d=some o.isSome∧∀j,o=some j→ns[j]?=some v
 | []=>⟨none,rfl,rfl,λj h=>by cases h⟩
 | u::us=>by
  obtain⟨b,e⟩:=zoJ u v
  obtain⟨o,h1,h2,h3⟩:=znY v us
  have f1:zdu (eqN 1) ((u::us).map Nd.d) v.d=(match eqN 1 u.d v.d,zdu (eqN 1) (us.map Nd.d) v.d with | some true,some _=>some (some 0) | some false,some o=>some (o.map (·+1)) | _,_=>none):=rfl
  have f2:zb7 (eqN 1) ((u::us).map Nd.d) v.d=(match eqN 1 u.d v.d,zb7 (eqN 1) (us.map Nd.d) v.d with | some b,some c=>some (b||c) | _,_=>none):=rfl
  rw[f1,f2,e,h1,h2]
  cases b with
  | true=>exact⟨some 0,rfl,rfl,λj hj=>by
    cases hj
    rw[zrG e]
    rfl⟩
  | false=>exact⟨o.map (·+1),rfl,by cases o <;> rfl,λj hj=>by
    cases o with
    | none=>cases hj
    | some i=>
     cases hj
     exact h3 i rfl⟩
theorem zqv {v:Nd}{ns:List Nd}{n j:Nat}{to:TDE}{t:TDA}{dl:Ev}{S:Sto}{Q:DK}(hto:∀K:DK,K (.ref n) S→to dl S K)(ht:∀K:List D→Sto→Prop,K [v.d] S→t dl S K)(h:S[n]?=some (.lst (ns.map Nd.d)))(e:zdu (eqN 1) (ns.map Nd.d) v.d=some (some j))(hq:Q (.int (j:Int)) S):zlZ 1 to t dl S Q:=by
 unfold zlZ
 refine hto _ ⟨by rw[zaN h rfl]; rfl,ht _ ?_⟩
 unfold zlN
 simp only[zaN h rfl,zak,e]
 exact hq
theorem zgh {caps:List Nat}{ta:TDA}{te:TDE}{dl:Ev}{S S1:Sto}{Q:DK}{n n':Nat}{xs ys:List D}(g:D→D→D)(hta:∀K:List D→Sto→Prop,K [.ref n,.ref n'] S1→ta dl S K)(h1:S1[n]?=some (.lst xs))(h2:S1[n']?=some (.lst ys))(hl:xs.length≤1000)
  (ht:∀(k:Nat) (x y:D),xs[k]?=some x→ys[k]?=some y→∀(S2:Sto) (K:DK),Pre S1 S2→K (g x y) S2→te (some x::some y::zbt caps dl) S2 K)(hq:Q (.ref S1.length) (S1++[.lst (List.zipWith g xs ys)])):zfj caps ta te dl S Q:=by
 unfold zfj
 refine hta _ ⟨⟨by rw[zaN h1 rfl]; rfl,by rw[zaN h2 rfl]; rfl⟩,λk m S2=>S2=S1++[.lst (List.zipWith g (xs.take k) (ys.take k))]∧m+k=min xs.length ys.length,⟨min xs.length ys.length,by simp,by omega⟩,?_⟩
 rintro k m S2 ⟨rfl,hm⟩
 rw[zaN (zcQ h1) rfl,zaN (zcQ h2) rfl]
 dsimp only[zak]
 split
 ·rename_i x y hx hy
  have hk:k<xs.length:=(Vab.mp hx).1
  have hk':k<ys.length:=(Vab.mp hy).1
  unfold zl5
  refine ht k x y hx hy _ _ Pre.refl.push ?_
  rw[zax]
  refine⟨by simp; omega,m-1,by omega,?_,by omega⟩
  have e:xs.take (k+1)=xs.take k++[x]:=by rw[Vba,hx]; rfl
  have e':ys.take (k+1)=ys.take k++[y]:=by rw[Vba,hy]; rfl
  rw[e,e',List.zipWith_append (by rw[Vau,Vau]; omega),zkw]
  rfl
 ·rename_i no
  have hk:min xs.length ys.length≤k:=by
   by_cases l:k<min xs.length ys.length
   ·exact absurd (Vaa (l:=ys) (i:=k) (by omega)) (no _ _ (Vaa (l:=xs) (i:=k) (by omega)))
   ·omega
  refine⟨by omega,?_⟩
  have e:List.zipWith g (xs.take k) (ys.take k)=List.zipWith g xs ys:=by
   rw[← List.take_zipWith,VaD (by rw[List.length_zipWith]; exact hk)]
  rw[e]
  exact hq
theorem zt4 {vs us bs:List (Int×Int)}{g:Int}{k:Nat}{q:Int}(h:∀i:Int,inR k i→gt vs i=gt us i):∀v:Nd,v.ok k q→v.fw vs bs g=v.fw us bs g
 | .number _ _,_=>rfl
 | .unknown _,_=>rfl
 | .plus i j,ok=>by simp only[Nd.fw,h i ok.1,h j ok.2]
 | .minus i j,ok=>by simp only[Nd.fw,h i ok.1,h j ok.2]
 | .times i j,ok=>by simp only[Nd.fw,h i ok.1,h j ok.2]
 | .power i n,ok=>by simp only[Nd.fw,h i ok.1]
theorem zqN {vs:List (Int×Int)}{k:Nat}{i:Int}(h:inR k i):gt (vs.take k) i=gt vs i:=by
 have:=h.1
 have:=h.2
 unfold gt
 rw[Vaf,Vaf,List.getElem?_take_of_lt (by omega)]
theorem zyj {vs us:List (Int×Int)}{k:Nat}{i:Int}(h:inR k i)(hk:k≤vs.length):gt (vs++us) i=gt vs i:=by
 have:=h.1
 have:=h.2
 unfold gt
 rw[Vaf,Vaf,Vao (by omega)]
theorem zfT {vs:List (Int×Int)}{k:Nat}{p:Int×Int}(h:vs[k]?=some p):gt vs (k:Int)=p:=by
 unfold gt
 rw[Vaf,Vah,h]
 rfl
theorem Sz.pow' {n:Nat}{i:Int}(h:Sz n i){k:Nat}(hk:1≤k):Sz (n*k) (i^k):=by
 unfold Sz at *
 rw[Int.natAbs_pow,Nat.pow_mul]
 exact Nat.pow_lt_pow_left h (by omega)
theorem SzW.spn {ws:List Nat}{vs:List (Int×Int)}(h:SzW ws vs)(hw:∀k:Nat,k<vs.length→ws.getD k 0≤16):Spn 1000 vs:=Spn.of_w h hw
theorem SzW.snoc {ws:List Nat}{vs:List (Int×Int)}{p:Int×Int}(h:SzW ws vs)(h1:p.1≤p.2)(h2:Sz (60*ws.getD vs.length 0-1) p.1)(h3:Sz (60*ws.getD vs.length 0-1) p.2):SzW ws (vs++[p]):=λk q hq=>by
 by_cases hk:k<vs.length
 ·rw[Vao hk] at hq
  exact h k q hq
 ·have hl:=(Vab.mp hq).1
  simp only[Var,Vay,Vbc] at hl
  have ek:k=vs.length:=by omega
  subst ek
  simp at hq
  subst hq
  exact⟨h1,h2,h3⟩
theorem zm2 {caps:List Nat}{tl te:TDE}{dl:Ev}{S S1:Sto}{Q:DK}{n:Nat}{o:Ob}(W:Nat→List D→Sto→Prop)(htl:∀K:DK,K (.ref n) S1→tl dl S K)(h1:S1[n]?=some o)(hw:∀k ys S2,W k ys S2→S2[n]?=some o∧S2[S1.length]?=some (.lst ys)∧ys.length=k)(hl:(zak o).length≤1000)(h0:W 0 [] (S1++[.lst []]))
  (ht:∀(k:Nat) (x:D) (ys:List D) (S2:Sto) (K:DK),(zak o)[k]?=some x→W k ys S2→(∀y S3,S3[S1.length]?=some (.lst ys)→W (k+1) (ys++[y]) (S3.set S1.length (.lst (ys++[y])))→K y S3)→te (some x::zbt caps dl) S2 K)
  (hq:∀ys S2,W (zak o).length ys S2→Q (.ref S1.length) S2)(hL:zbZ o=some o:=by rfl):zct caps tl zb8 te dl S Q:=by
 unfold zct
 refine htl _ ⟨by rw[zaN h1 hL]; rfl,λk m S2=>(∃ys,W k ys S2)∧m+k=(zak o).length,⟨(zak o).length,⟨_,h0⟩,by omega⟩,?_⟩
 rintro k m S2 ⟨⟨ys,w⟩,hm⟩
 obtain⟨w1,w2,w3⟩:=hw _ _ _ w
 rw[zaN w1 hL]
 dsimp only
 split
 ·rename_i x hx
  have hk:k<(zak o).length:=(Vab.mp hx).1
  unfold zdo zb8
  simp only[if_true]
  refine ht k x ys S2 _ hx w λy S3 e3 w4=>?_
  rw[e3]
  exact⟨by omega,m-1,by omega,⟨_,w4⟩,by omega⟩
 ·rename_i hx
  have hk:k=(zak o).length:=by
   have:=VaQ.mp hx
   omega
  exact hq ys S2 (hk ▸ w)
theorem zxQ {caps:List Nat}{ta:TDA}{te:TDE}{dl:Ev}{S S1:Sto}{Q:DK}{j:Int}(W:Nat→List D→Sto→Prop)(hta:∀K:List D→Sto→Prop,K [.int j] S1→ta dl S K)(hj:0≤j∧j≤1000)(hw:∀k ys S2,W k ys S2→S2[S1.length]?=some (.lst ys)∧ys.length=k)(h0:W 0 [] (S1++[.lst []]))
  (ht:∀(k:Nat) (ys:List D) (S2:Sto) (K:DK),k<j.toNat→W k ys S2→(∀y S3,S3[S1.length]?=some (.lst ys)→W (k+1) (ys++[y]) (S3.set S1.length (.lst (ys++[y])))→K y S3)→te (some (.int (k:Int))::zbt caps dl) S2 K)
  (hq:∀ys S2,W j.toNat ys S2→Q (.ref S1.length) S2):zc5 caps ta zb8 te dl S Q:=by
 unfold zc5
 refine hta _ ⟨⟨by omega,by omega⟩,λk S2=>k≤j.toNat∧∃ys,W k ys S2,⟨Vat _,_,h0⟩,?_⟩
 rintro k S2 ⟨hk,ys,w⟩
 obtain⟨w2,w3⟩:=hw _ _ _ w
 split
 ·rename_i c
  unfold zdo zb8
  simp only[if_true]
  refine ht k ys S2 _ c w λy S3 e3 w4=>?_
  rw[e3]
  exact⟨by omega,by omega,_,w4⟩
 ·rename_i c
  have hk:k=j.toNat:=by omega
  exact hq ys S2 (hk ▸ w)
theorem zqf {S T:Sto}{n:Nat}{o:Ob}(h:Pre S T)(hn:S.length≤n):Pre S (T.set n o):=λk u e=>by
 have l:=(Vab.mp e).1
 rw[VaB (by omega)]
 exact h k u e
theorem zuF {X:Cx}{Z:Zx}{j:Nat}(hr:zaK j X.A):OpR X (compareOp .NotEq) (upO X.K Z (zbV zlD)):=by rw[zcu]; exact zvE hr
theorem zr5 {n m:Nat}{S:Sto}{Q:DK}{ds es:List D}(h1:S[n]?=some (.lst ds))(h2:S[m]?=some (.lst es))(hl:ds.length=es.length)(hk:∀(k:Nat) (d e:D),ds[k]?=some d→es[k]?=some e→∃a b xs ys,d=.ref a∧e=.ref b∧S[a]?=some (.lst xs)∧S[b]?=some (.lst ys)∧eqL (eqN 1) xs ys=some true)(hq:Q (.bl false) S):zbV zlD (.ref n) (.ref m) S Q:=by
 rw[zcu]
 exact⟨⟨ds,es,h1,h2,hl,hk⟩,hq⟩
theorem zcF {S T:Sto}(h:Pre S T):S.length≤T.length:=by
 rcases Nat.eq_zero_or_pos S.length with e | e
 ·omega
 ·have z:=h (S.length-1) _ (Vaa (show S.length-1<S.length by omega))
  have:=(Vab.mp z).1
  omega
theorem zg7 {to te:TDE}{dl:Ev}{S:Sto}{Q:DK}{n:Nat}{xs:List D}(hto:∀K:DK,K (.ref n) S→to dl S K)(h:S[n]?=some (.lst xs))(hte:∀K:DK,(∀(y:D) (S2:Sto),S2[n]?=some (.lst xs)→Q .non (S2.set n (.lst (xs++[y])))→K y S2)→te dl S K)(hl:xs.length<1000):zed to te dl S Q:=by
 unfold zed
 refine hto _ ?_
 simp only[h]
 refine hte _ λy S2 h2 q=>?_
 simp only[h2,if_pos hl]
 exact q
def zaV (S:Sto)(lo:Nat)(ds:List D)(R:List (List (Int×Int))):Prop:=ds.length=R.length∧∀(k:Nat) (d:D) (r:List (Int×Int)),ds[k]?=some d→R[k]?=some r→∃a,d=.ref a∧lo≤a∧S[a]?=some (.lst (r.map frD))
theorem zaV.nil {S:Sto}{lo:Nat}:zaV S lo [] []:=⟨rfl,λk d r h=>by simp at h⟩
theorem zaV.pre {S T:Sto}{lo:Nat}{ds:List D}{R:List (List (Int×Int))}(h:zaV S lo ds R)(p:Pre S T):zaV T lo ds R:=⟨h.1,λk d r hd hr=>by
 obtain⟨a,e,l,s⟩:=h.2 k d r hd hr
 exact⟨a,e,l,p _ _ s⟩⟩
theorem zaV.low {S:Sto}{lo lo':Nat}{ds:List D}{R:List (List (Int×Int))}(h:zaV S lo ds R)(l:lo'≤lo):zaV S lo' ds R:=⟨h.1,λk d r hd hr=>by
 obtain⟨a,e,l,s⟩:=h.2 k d r hd hr
 exact⟨a,e,by omega,s⟩⟩
theorem zaV.keep {S T:Sto}{lo:Nat}{ds:List D}{R:List (List (Int×Int))}(h:zaV S lo ds R)(p:∀(x:Nat) (o:Ob),lo≤x→S[x]?=some o→T[x]?=some o):zaV T lo ds R:=⟨h.1,λk d r hd hr=>by
 obtain⟨a,e,l,s⟩:=h.2 k d r hd hr
 exact⟨a,e,l,p _ _ l s⟩⟩
theorem zaV.at {S:Sto}{lo:Nat}{ds:List D}{R:List (List (Int×Int))}(h:zaV S lo ds R){i:Int}(hi:inR R.length i):∃a,atI ds i=some (.ref a)∧lo≤a∧S[a]?=some (.lst ((R.getD i.toNat []).map frD)):=by
 obtain⟨h0,h1⟩:=hi
 have hk:i.toNat<R.length:=by omega
 have hk':i.toNat<ds.length:=by rw[h.1]; exact hk
 obtain⟨a,e,l,s⟩:=h.2 i.toNat _ _ (Vaa hk') (Vaa hk)
 refine⟨a,?_,l,?_⟩
 ·have z:=zcV (xs:=ds) (j:=i.toNat) (v:=.ref a) (by rw[Vaa hk',e])
  rw[show ((i.toNat:Nat):Int)=i by omega] at z
  exact z
 ·rw[s]
  simp[hk]
theorem zaV.snoc {S:Sto}{lo:Nat}{ds:List D}{R:List (List (Int×Int))}{a:Nat}{r:List (Int×Int)}(h:zaV S lo ds R)(hl:lo≤a)(hs:S[a]?=some (.lst (r.map frD))):zaV S lo (ds++[.ref a]) (R++[r]):=⟨by rw[Var,Var,h.1]; rfl,λk d r' hd hr=>by
 by_cases hk:k<ds.length
 ·rw[Vao hk] at hd
  rw[Vao (by rw[← h.1]; exact hk)] at hr
  exact h.2 k d r' hd hr
 ·have l:=(Vab.mp hd).1
  simp only[Var,Vay,Vbc] at l
  have ek:k=ds.length:=by omega
  subst ek
  rw[Vaz (Vad _),VaX] at hd
  rw[h.1,Vaz (Vad _),VaX] at hr
  cases hd
  cases hr
  exact⟨a,rfl,hl,hs⟩⟩
abbrev gs (sl:List (List (Int×Int)))(i:Int)(l:Nat):Int×Int:=(sl.getD i.toNat []).getD l (0,0)
def zaL (p q:Int×Int)(g:Int):Int×Int:=(mn4 p.1 p.2 q.1 q.2/g,-(-mx4 p.1 p.2 q.1 q.2/g))
def zbW (p:Int×Int)(n g:Int):Int×Int:=(zbY p.1 p.2 (n-1).toNat/g^((n-1).toNat-1)*n,-(-zdh p.1 p.2 (n-1).toNat/g^((n-1).toNat-1))*n)
def Nd.sl (vs:List (Int×Int))(sl:List (List (Int×Int)))(g:Int)(l:Nat):Nd→Int×Int
 | .number _ _=>(0,0)
 | .unknown k=>if (l:Int)=k then (g,g) else (0,0)
 | .plus i j=>((gs sl i l).1+(gs sl j l).1,(gs sl i l).2+(gs sl j l).2)
 | .minus i j=>((gs sl i l).1-(gs sl j l).2,(gs sl i l).2-(gs sl j l).1)
 | .times i j=>((zaL (gt vs i) (gs sl j l) g).1+(zaL (gt vs j) (gs sl i l) g).1,(zaL (gt vs i) (gs sl j l) g).2+(zaL (gt vs j) (gs sl i l) g).2)
 | .power i n=>zaL (zbW (gt vs i) n g) (gs sl i l) g
def zaZ (vs:List (Int×Int))(sl:List (List (Int×Int)))(g:Int)(q:Nat)(v:Nd):List (Int×Int):=(List.range q).map λl=>v.sl vs sl g l
theorem zq2 {vs:List (Int×Int)}{sl:List (List (Int×Int))}{g:Int}{q:Nat}{v:Nd}:(zaZ vs sl g q v).length=q:=by simp[zaZ]
theorem ztQ {α:Type}(f:Int×Int→α)(r:List (Int×Int)){q:Nat}(h:r.length=q):r.map f=(List.range q).map λl=>f (r.getD l (0,0)):=by
 subst h
 refine VaY λk=>?_
 by_cases hk:k<r.length
 ·rw[Vae,Vae,VaE hk,Vaa hk]
  simp[hk]
 ·rw[VaC (by simpa using hk),VaC (by simpa using hk)]
theorem znI {α:Type}(f:Int×Int→Int×Int→α)(r s:List (Int×Int)){q:Nat}(h:r.length=q)(h':s.length=q):List.zipWith f r s=(List.range q).map λl=>f (r.getD l (0,0)) (s.getD l (0,0)):=by
 subst h
 refine VaY λk=>?_
 by_cases hk:k<r.length
 ·rw[List.getElem?_zipWith,Vae,VaE hk,Vaa hk,Vaa (show k<s.length by omega)]
  simp[hk,show k<s.length by omega]
 ·rw[VaC (by rw[List.length_zipWith]; omega),VaC (by simpa using hk)]
theorem zvI (x:D)(q:Nat):(List.replicate q [x]).flatten=(List.range q).map λ_=>x:=by
 refine VaY λk=>?_
 have l:(List.replicate q [x]).flatten=List.replicate q x:=by
  induction q with
  | zero=>rfl
  | succ q ih=>rw[Va8,Vbf,ih]; rfl
 rw[l]
 by_cases hk:k<q
 ·rw[Vae,VaE hk,List.getElem?_replicate,if_pos hk]
  rfl
 ·rw[VaC (by simpa using hk),VaC (by simpa using hk)]
theorem znQ (p q:Int×Int){g:Int}(hg:1≤g):(zaL p q g).1≤(zaL p q g).2:=zfx hg (zo9 _ _ _ _)
theorem ztr (p:Int×Int){n g:Int}(hn:0≤n)(hg:1≤g):(zbW p n g).1≤(zbW p n g).2:=Int.mul_le_mul_of_nonneg_right (zfx (VaS (by omega)) (zoA _ _ _)) hn
def zaz (vs:List (Int×Int))(g:Int)(q:Nat)(ns:List Nd):List (List (Int×Int)):=ns.foldl (λacc v=>acc++[zaZ vs acc g q v]) []
theorem zgO (vs:List (Int×Int))(g:Int)(q:Nat)(ns:List Nd)(v:Nd):zaz vs g q (ns++[v])=zaz vs g q ns++[zaZ vs (zaz vs g q ns) g q v]:=by
 unfold zaz
 rw[List.foldl_append]
 rfl
theorem zef (vs:List (Int×Int))(g:Int)(q:Nat)(ns:List Nd):(zaz vs g q ns).length=ns.length:=by
 have z:∀k,k≤ns.length→(zaz vs g q (ns.take k)).length=k:=λk=>by
  induction k with
  | zero=>intro _; rfl
  | succ k ih=>
   intro hk
   rw[zca (Vaa (show k<ns.length by omega)),zgO]
   simp[ih (by omega)]
 have:=z ns.length (Vad _)
 rwa [VaW] at this
def SlW (q:Nat)(ws:List Nat)(sl:List (List (Int×Int))):Prop:=∀(k:Nat) (r:List (Int×Int)),sl[k]?=some r→r.length=q∧∀p∈r,p.1≤p.2∧Sz (64*ws.getD k 0-1) p.1∧Sz (64*ws.getD k 0-1) p.2
theorem SlW.at {q:Nat}{ws:List Nat}{sl:List (List (Int×Int))}(h:SlW q ws sl){i:Int}(hi:inR sl.length i):(sl.getD i.toNat []).length=q∧∀l,l<q→(gs sl i l).1≤(gs sl i l).2∧Sz (64*ws.getD i.toNat 0-1) (gs sl i l).1∧Sz (64*ws.getD i.toNat 0-1) (gs sl i l).2:=by
 obtain⟨h0,h1⟩:=hi
 have hk:i.toNat<sl.length:=by omega
 obtain⟨a,b⟩:=h i.toNat _ (Vaa hk)
 have e:sl.getD i.toNat []=sl[i.toNat]:=by simp[hk]
 refine⟨by rw[e]; exact a,λl hl=>?_⟩
 have e2:gs sl i l=sl[i.toNat][l]'(by rw[a]; exact hl):=by
  unfold gs
  rw[e]
  simp[show l<sl[i.toNat].length by rw[a]; exact hl]
 rw[e2]
 exact b _ (VaH _)
theorem SlW.snoc {q:Nat}{ws:List Nat}{sl:List (List (Int×Int))}{r:List (Int×Int)}(h:SlW q ws sl)(hr:r.length=q)(hp:∀p∈r,p.1≤p.2∧Sz (64*ws.getD sl.length 0-1) p.1∧Sz (64*ws.getD sl.length 0-1) p.2):SlW q ws (sl++[r]):=λk u hu=>by
 by_cases hk:k<sl.length
 ·rw[Vao hk] at hu
  exact h k u hu
 ·have l:=(Vab.mp hu).1
  simp only[Var,Vay,Vbc] at l
  have ek:k=sl.length:=by omega
  subst ek
  rw[Vaz (Vad _),VaX] at hu
  cases hu
  exact⟨hr,hp⟩
theorem zjy {m n:Nat}{p q:Int×Int}{g:Int}(hg:1≤g)(h1:Sz m p.1)(h2:Sz m p.2)(h3:Sz n q.1)(h4:Sz n q.2):Sz (m+n) (zaL p q g).1∧Sz (m+n) (zaL p q g).2:=
 ⟨(zdK (zdK (h1.mul h3) (h1.mul h4)) (zdK (h2.mul h3) (h2.mul h4))).div hg,zeB (zc8 (zc8 (h1.mul h3) (h1.mul h4)) (zc8 (h2.mul h3) (h2.mul h4))) hg⟩
theorem zwF:∀n:Nat,2≤n→n≤6→n≤2^(n-1):=λn h1 h2=>by
 have:n=2∨n=3∨n=4∨n=5∨n=6:=by omega
 rcases this with rfl | rfl | rfl | rfl | rfl <;> decide
theorem zjF {m e:Nat}{x n:Int}(h:Sz m x)(hn:n.natAbs≤2^e)(hp:1≤n.natAbs):Sz (m+e) (x*n):=by
 unfold Sz at *
 rw[Nat.pow_add,Vbg]
 exact Nat.mul_lt_mul_of_lt_of_le h hn (VaM (by decide))
theorem zwj {m:Nat}{p:Int×Int}{n g:Int}(hg:1≤g)(n2:2≤n)(n6:n≤6)(h1:Sz m p.1)(h2:Sz m p.2):Sz (m*(n.toNat-1)+(n.toNat-1)) (zbW p n g).1∧Sz (m*(n.toNat-1)+(n.toNat-1)) (zbW p n g).2:=by
 have en:(n-1).toNat=n.toNat-1:=by omega
 have gp:(1:Int)≤g^((n-1).toNat-1):=VaS (by omega)
 have p1:Sz (m*(n.toNat-1)) (p.1^(n-1).toNat):=by rw[en]; exact Sz.pow' h1 (by omega)
 have p2:Sz (m*(n.toNat-1)) (p.2^(n-1).toNat):=by rw[en]; exact Sz.pow' h2 (by omega)
 have lo:Sz (m*(n.toNat-1)) (zbY p.1 p.2 (n-1).toNat):=by
  unfold zbY
  split
  ·show (0:Int).natAbs<_
   exact VaM (by decide)
  ·exact zdK p1 p2
 have nb:n.natAbs≤2^(n.toNat-1):=by
  have:=zwF n.toNat (by omega) (by omega)
  omega
 exact⟨zjF (lo.div gp) nb (by omega),zjF (zeB (zc8 p1 p2) gp) nb (by omega)⟩
theorem sl_ok {q:Nat}{ws:List Nat}{vs:List (Int×Int)}{sl:List (List (Int×Int))}{g:Int}(hs:SzW ws vs)(hl:SlW q ws sl)(hg:1≤g∧g≤1000000)(hv:sl.length≤vs.length)(hw:∀i:Int,inR vs.length i→1≤ws.getD i.toNat 0){l:Nat}(hq:l<q):∀v:Nd,v.ok sl.length q→1≤v.wt ws→(v.sl vs sl g l).1≤(v.sl vs sl g l).2∧Sz (64*v.wt ws-2) (v.sl vs sl g l).1∧Sz (64*v.wt ws-2) (v.sl vs sl g l).2
 | .number t b,ok,h1=>⟨VaJ _,by show Sz _ 0; exact VaM (by decide),by show Sz _ 0; exact VaM (by decide)⟩
 | .unknown k,ok,h1=>by
  have sg:Sz (64*Nd.wt ws (.unknown k)-2) g:=(Sz.of (n:=21) (10^6) (show g.natAbs≤_ by omega)).mono (by show 21≤64*1-2; decide)
  show (if (l:Int)=k then (g,g) else (0,0)).1≤(if (l:Int)=k then (g,g) else (0,0)).2∧Sz _ (if (l:Int)=k then (g,g) else (0,0)).1∧Sz _ (if (l:Int)=k then (g,g) else (0,0)).2
  split
  ·exact⟨VaJ _,sg,sg⟩
  ·exact⟨VaJ _,VaM (by decide),VaM (by decide)⟩
 | .plus i j,ok,h1=>by
  have a:=(hl.at ok.1).2 l hq
  have b:=(hl.at ok.2).2 l hq
  have p:=hw i ⟨ok.1.1,by have:=ok.1.2; omega⟩
  have q:=hw j ⟨ok.2.1,by have:=ok.2.2; omega⟩
  refine⟨?_,(a.2.1.add b.2.1).mono (by simp only[Nd.wt]; omega),(a.2.2.add b.2.2).mono (by simp only[Nd.wt]; omega)⟩
  show (gs sl i l).1+(gs sl j l).1≤(gs sl i l).2+(gs sl j l).2
  omega
 | .minus i j,ok,h1=>by
  have a:=(hl.at ok.1).2 l hq
  have b:=(hl.at ok.2).2 l hq
  have p:=hw i ⟨ok.1.1,by have:=ok.1.2; omega⟩
  have q:=hw j ⟨ok.2.1,by have:=ok.2.2; omega⟩
  refine⟨?_,(a.2.1.sub b.2.2).mono (by simp only[Nd.wt]; omega),(a.2.2.sub b.2.1).mono (by simp only[Nd.wt]; omega)⟩
  show (gs sl i l).1-(gs sl j l).2≤(gs sl i l).2-(gs sl j l).1
  omega
 | .times i j,ok,h1=>by
  have oi:inR vs.length i:=⟨ok.1.1,by have:=ok.1.2; omega⟩
  have oj:inR vs.length j:=⟨ok.2.1,by have:=ok.2.2; omega⟩
  have a:=(hl.at ok.1).2 l hq
  have b:=(hl.at ok.2).2 l hq
  have c:=hs.at oi
  have d:=hs.at oj
  have p:=hw i oi
  have q:=hw j oj
  have z1:=zjy hg.1 c.2.1 c.2.2 b.2.1 b.2.2
  have z2:=zjy hg.1 d.2.1 d.2.2 a.2.1 a.2.2
  refine⟨?_,(z1.1.add z2.1).mono (by simp only[Nd.wt]; omega),(z1.2.add z2.2).mono (by simp only[Nd.wt]; omega)⟩
  have m1:=znQ (gt vs i) (gs sl j l) hg.1
  have m2:=znQ (gt vs j) (gs sl i l) hg.1
  show (zaL (gt vs i) (gs sl j l) g).1+(zaL (gt vs j) (gs sl i l) g).1≤(zaL (gt vs i) (gs sl j l) g).2+(zaL (gt vs j) (gs sl i l) g).2
  omega
 | .power i n,ok,h1=>by
  have oi:inR vs.length i:=⟨ok.1.1,by have:=ok.1.2; omega⟩
  have a:=(hl.at ok.1).2 l hq
  have c:=hs.at oi
  have p:=hw i oi
  have n2:=ok.2.1
  have f:=zwj hg.1 ok.2.1 ok.2.2 c.2.1 c.2.2
  have z:=zjy hg.1 f.1 f.2 a.2.1 a.2.2
  have hn:(60*ws.getD i.toNat 0-1)*(n.toNat-1)+(n.toNat-1)+(64*ws.getD i.toNat 0-1)≤64*Nd.wt ws (.power i n)-2:=by
   simp only[Nd.wt]
   generalize ws.getD i.toNat 0=w at p
   obtain⟨k,hk⟩:∃k,n.toNat=k+2:=⟨n.toNat-2,by omega⟩
   rw[hk,show k+2-1=k+1 by omega,Nat.sub_mul,Nat.one_mul]
   have e1:60*w*(k+1)=60*(k*w)+60*w:=by rw[Nat.mul_add,Nat.mul_one,Nat.mul_assoc,Nat.mul_comm w k]
   have e2:(k+2)*w=k*w+2*w:=Nat.add_mul ..
   have e3:k+1≤60*w*(k+1):=Nat.le_mul_of_pos_left _ (by omega)
   rw[e2]
   omega
  exact⟨znQ _ _ hg.1,z.1.mono hn,z.2.mono hn⟩
theorem zpu {q:Nat}{ns:List Nd}{ws:List Nat}{vs:List (Int×Int)}{g:Int}(h:zaJ q ns ws)(hs:SzW ws vs)(hv:vs.length=ns.length)(hg:1≤g∧g≤1000000):∀k,k≤ns.length→SlW q ws (zaz vs g q (ns.take k)):=λk=>by
 induction k with
 | zero=>intro _ i p hp; simp[zaz] at hp
 | succ k ih=>
  intro hk
  have hv':=Vaa (show k<ns.length by omega)
  have s:=ih (by omega)
  have ln:(zaz vs g q (ns.take k)).length=k:=by rw[zef,Vau]; omega
  obtain⟨ok,e,p1,_⟩:=h.ok k _ hv'
  rw[zca hv',zgO]
  refine s.snoc zq2 λp hp=>?_
  obtain⟨l,hl,rfl⟩:=Vai.mp hp
  have z:=sl_ok hs s hg (by omega) (λi hi=>(h.w1 (by rw[← hv]; exact hi)).1) (VaR.mp hl) ns[k] (by rw[ln]; exact ok) p1
  rw[ln,e]
  exact⟨z.1,z.2.1.mono (by omega),z.2.2.mono (by omega)⟩
theorem zq4 {q:Int}{ns:List Nd}{ws:List Nat}{bs:List (Int×Int)}{g:Int}(h:zaJ q ns ws)(hq:q=bs.length)(hb:Spn 51 bs)(hg:1≤g∧g≤1000000):SzW ws (zan bs g ns):=by
 have z:=zp0 h hq hb hg ns.length (Vad _)
 rwa [VaW] at z
theorem SlW.spn {q:Nat}{ws:List Nat}{sl:List (List (Int×Int))}(h:SlW q ws sl)(hw:∀k:Nat,k<sl.length→ws.getD k 0≤16):∀i:Int,inR sl.length i→(sl.getD i.toNat []).length=q∧∀l,l<q→(gs sl i l).1≤(gs sl i l).2∧Sz 1100 (gs sl i l).1∧Sz 1100 (gs sl i l).2:=λi hi=>by
 obtain⟨a,b⟩:=h.at hi
 refine⟨a,λl hl=>?_⟩
 obtain⟨c,d,e⟩:=b l hl
 have:=hw i.toNat (by have:=hi.1; have:=hi.2; omega)
 exact⟨c,d.mono (by omega),e.mono (by omega)⟩
theorem zh3 {caps:List Nat}{ta:TDA}{te:TDE}{dl:Ev}{S S1:Sto}{Q:DK}{n:Nat}{xs:List D}(g:Nat→D→D)(hta:∀K:List D→Sto→Prop,K [.ref n] S1→ta dl S K)(h1:S1[n]?=some (.lst xs))(hl:xs.length≤1000)
  (ht:∀(k:Nat) (x:D),xs[k]?=some x→∀(S2:Sto) (K:DK),Pre S1 S2→K (g k x) S2→te (some (.int (k:Int))::some x::zbt caps dl) S2 K)(hq:Q (.ref S1.length) (S1++[.lst (xs.mapIdx g)])):zir caps ta te dl S Q:=by
 unfold zir
 refine hta _ ⟨by rw[zaN h1 rfl]; rfl,λk m S2=>S2=S1++[.lst ((xs.take k).mapIdx g)]∧m+k=xs.length,⟨xs.length,by simp,by omega⟩,?_⟩
 rintro k m S2 ⟨rfl,hm⟩
 rw[zaN (zcQ h1) rfl]
 dsimp only[zak]
 split
 ·rename_i x hx
  have hk:k<xs.length:=(Vab.mp hx).1
  unfold zl5
  refine ht k x hx _ _ Pre.refl.push ?_
  rw[zax]
  refine⟨by simp; omega,m-1,by omega,?_,by omega⟩
  have e:xs.take (k+1)=xs.take k++[x]:=by rw[Vba,hx]; rfl
  rw[e,List.mapIdx_append,List.set_append_right _ _ (Vad _)]
  have l:(xs.take k).length=k:=by rw[Vau]; omega
  simp[l]
 ·rename_i hx
  have hk:xs.length≤k:=VaQ.mp hx
  refine⟨by omega,?_⟩
  rw[VaD hk]
  exact hq
def mid (p:Int×Int):Int:=(p.1+p.2)/2
def zbe (p:Int×Int):Int×Int:=(mid p,mid p)
def zij (p q:Int×Int):Int×Int:=(p.1+q.1,p.2+q.2)
def zdS (p q:Int×Int):Int×Int:=(p.1-q.2,p.2-q.1)
def sumP (g:Int)(us vs:List (Int×Int)):Int×Int:=(List.zip us vs).foldl (λt z=>zij t (zaL z.1 z.2 g)) (0,0)
def rwD (r:Bool×Nat):D:=.tup [.str (if r.1 then "zero" else "least"),.int (r.2:Int)]
def eqs (rows:List (Bool×Nat)):List Nat:=rows.filterMap λr=>if r.1 then some r.2 else none
theorem zrt {caps:List Nat}{tl te:TDE}{tc:TDT}{dl:Ev}{S S1:Sto}{Q:DK}{n:Nat}{o:Ob}(f:D→Option D)(htl:∀K:DK,K (.ref n) S1→tl dl S K)(h1:S1[n]?=some o)(hl:(zak o).length≤1000)
  (hc:∀x∈zak o,∀(S2:Sto) (K:Bool→Sto→Prop),Pre S1 S2→K (f x).isSome S2→tc (some x::zbt caps dl) S2 K)(ht:∀x∈zak o,∀y,f x=some y→∀(S2:Sto) (K:DK),Pre S1 S2→K y S2→te (some x::zbt caps dl) S2 K)(hq:Q (.ref S1.length) (S1++[.lst ((zak o).filterMap f)]))(hL:zbZ o=some o:=by rfl):zct caps tl tc te dl S Q:=by
 unfold zct
 refine htl _ ⟨by rw[zaN h1 hL]; rfl,λk m S2=>S2=S1++[.lst (((zak o).take k).filterMap f)]∧m+k=(zak o).length,⟨(zak o).length,by simp,by omega⟩,?_⟩
 rintro k m S2 ⟨rfl,hm⟩
 rw[zaN (zcQ h1) hL]
 dsimp only
 split
 ·rename_i x hx
  have hk:k<(zak o).length:=(Vab.mp hx).1
  have e:(zak o).take (k+1)=(zak o).take k++[x]:=by rw[Vba,hx]; rfl
  unfold zdo
  refine hc x (Val hx) _ _ Pre.refl.push ?_
  cases ef:f x with
  | none=>
   refine zbj ?_
   refine⟨m-1,by omega,?_,by omega⟩
   rw[e,List.filterMap_append]
   simp[ef]
  | some y=>
   refine zbL ?_
   refine ht x (Val hx) y ef _ _ Pre.refl.push ?_
   rw[zax]
   have ll:=List.length_filterMap_le f ((zak o).take k)
   refine⟨by rw[Vau] at ll; omega,m-1,by omega,?_,by omega⟩
   rw[e,List.filterMap_append,zkw]
   simp[ef]
 ·rename_i hx
  have hk:(zak o).length≤k:=VaQ.mp hx
  rw[VaD hk]
  exact hq
def zcb (g:Int)(k c:Nat)(ts:List (Int×Int))(R:List (List (Int×Int))):Int×Int:=zdS (if k=c then (g,g) else (0,0)) (sumP g ts (R.map λr=>r.getD c (0,0)))
def zdI (g:Int)(box:List (Int×Int))(thin:List (Int×Int))(R:List (List (Int×Int)))(k:Nat)(es:List Int):Int×Int:=
 zij (zdS (zbe (gt box k)) (sumP g (es.map λe=>(e,e)) thin)) (sumP g ((List.range box.length).map λc=>zcb g k c (es.map λe=>(e,e)) R) (box.map λp=>zdS p (zbe p)))
theorem zi2 (g:Int)(us vs:List (Int×Int))(k:Nat){u v:Int×Int}(hu:us[k]?=some u)(hv:vs[k]?=some v):sumP g (us.take (k+1)) (vs.take (k+1))=zij (sumP g (us.take k) (vs.take k)) (zaL u v g):=by
 unfold sumP
 have l1:=(Vab.mp hu).1
 have l2:=(Vab.mp hv).1
 rw[zca hu,zca hv,List.zip_append (by rw[Vau,Vau]; omega),List.foldl_append]
 rfl
theorem zn7 (g:Int)(us vs:List (Int×Int)):sumP g (us.take (min us.length vs.length)) (vs.take (min us.length vs.length))=sumP g us vs:=by
 unfold sumP
 congr 1
 show List.zipWith Prod.mk _ _=List.zipWith Prod.mk _ _
 rw[← List.take_zipWith,VaD (by rw[List.length_zipWith]; exact Vad _)]
def Bd (B:Nat)(vs:List (Int×Int)):Prop:=∀p∈vs,Sz B p.1∧Sz B p.2
theorem zp1 {g:Int}(hg:1≤g){us vs:List (Int×Int)}{A B:Nat}(h1:Bd A us)(h2:Bd B vs):∀k:Nat,k≤us.length→k≤vs.length→Sz (A+B+k+1) (sumP g (us.take k) (vs.take k)).1∧Sz (A+B+k+1) (sumP g (us.take k) (vs.take k)).2
 | 0,_,_=>⟨VaM (by decide),VaM (by decide)⟩
 | k+1,l1,l2=>by
  have hu:=Vaa (show k<us.length by omega)
  have hv:=Vaa (show k<vs.length by omega)
  rw[zi2 g us vs k hu hv]
  have ih:=zp1 hg h1 h2 k (by omega) (by omega)
  have a:=h1 _ (Val hu)
  have b:=h2 _ (Val hv)
  have m:=zjy hg a.1 a.2 b.1 b.2
  exact⟨(ih.1.add m.1).mono (by omega),(ih.2.add m.2).mono (by omega)⟩
theorem zyd {g:Int}(hg:1≤g){us vs:List (Int×Int)}{A B:Nat}(h1:Bd A us)(h2:Bd B vs)(l:us.length≤60):Sz (A+B+61) (sumP g us vs).1∧Sz (A+B+61) (sumP g us vs).2:=by
 rw[← zn7]
 have z:=zp1 hg h1 h2 (min us.length vs.length) (by omega) (by omega)
 exact⟨z.1.mono (by omega),z.2.mono (by omega)⟩
theorem zwP {is:List Nat}{ta:TDA}{tb:TDS}{E:zcX}{dl:Ev}{S:Sto}{n n':Nat}{xs ys:List D}(W:Nat→Ev→Prop)(hta:∀K:List D→Sto→Prop,K [.ref n,.ref n'] S→ta dl S K)(h1:S[n]?=some (.lst xs))(h2:S[n']?=some (.lst ys))(h0:W 0 dl)
  (hb:∀(k:Nat) (x y:D) (dl':Ev) (nx ct:Ev→Sto→Prop),xs[k]?=some x→ys[k]?=some y→W k dl'→(∀dl2,W (k+1) dl2→nx dl2 S)→tb { nx:=nx,rt:=E.rt,bk:=E.nx,ct:=ct } (zfo is [x,y] dl') S)(he:∀dl',W (min xs.length ys.length) dl'→E.nx dl' S):ziQ is ta tb E dl S:=by
 unfold ziQ
 refine hta _ ⟨⟨by rw[zaN h1 rfl]; rfl,by rw[zaN h2 rfl]; rfl⟩,λk m dl' S'=>S'=S∧W k dl'∧k+m=min xs.length ys.length,⟨min xs.length ys.length,rfl,h0,by simp⟩,?_⟩
 rintro k m dl' S' ⟨rfl,w,hk⟩
 simp only[zaN h1 rfl,zaN h2 rfl,zak]
 split
 ·rename_i x y e1 e2
  have l1:=(Vab.mp e1).1
  have l2:=(Vab.mp e2).1
  exact hb k x y dl' _ _ e1 e2 w (λdl2 w2=>⟨m-1,by omega,rfl,w2,by omega⟩)
 ·rename_i no
  have ek:k=min xs.length ys.length:=by
   by_cases l:k<min xs.length ys.length
   ·exact absurd (Vaa (l:=ys) (i:=k) (by omega)) (no _ _ (Vaa (l:=xs) (i:=k) (by omega)))
   ·omega
  exact⟨ek,he _ (ek ▸ w)⟩
theorem zqJ {B:Nat}{p:Int×Int}(h1:Sz B p.1)(h2:Sz B p.2):Sz (B+1) (mid p):=(h1.add h2).div (by decide) |>.mono (by omega)
theorem zo7 {B C:Nat}{p q:Int×Int}(hp:Sz B p.1∧Sz B p.2)(hq:Sz C q.1∧Sz C q.2):Sz (max B C+1) (zdS p q).1∧Sz (max B C+1) (zdS p q).2:=⟨hp.1.sub hq.2,hp.2.sub hq.1⟩
def zdr (S:Sto)(ds:List D)(M:List (List Int)):Prop:=ds.length=M.length∧∀(k:Nat) (d:D) (r:List Int),ds[k]?=some d→M[k]?=some r→∃a,d=.ref a∧S[a]?=some (.lst (r.map D.int))
theorem zdr.pre {S T:Sto}{ds:List D}{M:List (List Int)}(h:zdr S ds M)(p:Pre S T):zdr T ds M:=⟨h.1,λk d r hd hr=>by
 obtain⟨a,e,s⟩:=h.2 k d r hd hr
 exact⟨a,e,p _ _ s⟩⟩
theorem zw1 {p:Int×Int}(h:p.1≤p.2):p.1≤mid p∧mid p≤p.2:=by unfold mid; omega
theorem zpW {B:Nat}{bs:List (Int×Int)}(h:Spn B bs):Spn B (bs.map zbe):=λp hp=>by
 obtain⟨x,hx,rfl⟩:=Vai.mp hp
 obtain⟨a,b,c⟩:=h x hx
 have z:=zw1 a
 have s:Sz B (mid x):=by
  unfold Sz at *
  omega
 exact⟨VaJ _,s,s⟩
theorem zvS {vs:List (Int×Int)}{p:Int×Int}{k:Nat}(h:vs.length=k):gt (vs++[p]) (k:Int)=p:=by
 subst h
 simp[gt]
def Gd (B:Nat)(vs:List (Int×Int)):Prop:=∀p∈vs,1≤p.2∧Int.gcd p.1 p.2=1∧Sz B p.1∧Sz B p.2
theorem Gd.at {B:Nat}{vs:List (Int×Int)}(h:Gd B vs){i:Int}(hi:inR vs.length i):1≤(gt vs i).2∧Int.gcd (gt vs i).1 (gt vs i).2=1∧Sz B (gt vs i).1∧Sz B (gt vs i).2:=h _ (zoF hi)
theorem Gd.mono {B C:Nat}{vs:List (Int×Int)}(h:Gd B vs)(hc:B≤C):Gd C vs:=λp hp=>⟨(h p hp).1,(h p hp).2.1,(h p hp).2.2.1.mono hc,(h p hp).2.2.2.mono hc⟩
def Pz (B:Nat)(vs:List (Int×Int)):Prop:=∀p∈vs,1≤p.2∧Sz B p.1∧Sz B p.2
theorem Pz.at {B:Nat}{vs:List (Int×Int)}(h:Pz B vs){i:Int}(hi:inR vs.length i):1≤(gt vs i).2∧Sz B (gt vs i).1∧Sz B (gt vs i).2:=h _ (zoF hi)
def Nd.due (vs ps:List (Int×Int)):Nd→Int×Int
 | .number t b=>(t,b)
 | .unknown k=>gt ps k
 | .plus i j=>((gt vs i).1*(gt vs j).2+(gt vs j).1*(gt vs i).2,(gt vs i).2*(gt vs j).2)
 | .minus i j=>((gt vs i).1*(gt vs j).2-(gt vs j).1*(gt vs i).2,(gt vs i).2*(gt vs j).2)
 | .times i j=>((gt vs i).1*(gt vs j).1,(gt vs i).2*(gt vs j).2)
 | .power i n=>((gt vs i).1^n.toNat,(gt vs i).2^n.toNat)
def PzW (ws:List Nat)(vs:List (Int×Int)):Prop:=∀(k:Nat) (p:Int×Int),vs[k]?=some p→1≤p.2∧Sz (112*ws.getD k 0-2) p.1∧Sz (112*ws.getD k 0-2) p.2
theorem PzW.at {ws:List Nat}{vs:List (Int×Int)}(h:PzW ws vs){i:Int}(hi:inR vs.length i):1≤(gt vs i).2∧Sz (112*ws.getD i.toNat 0-2) (gt vs i).1∧Sz (112*ws.getD i.toNat 0-2) (gt vs i).2:=by
 obtain⟨h0,h1⟩:=hi
 have hk:i.toNat<vs.length:=by omega
 have e:gt vs i=vs[i.toNat]:=by simp[gt,hk]
 rw[e]
 exact h _ _ (Vaa hk)
def zbm (ps:List (Int×Int))(ns:List Nd):List (Int×Int):=ns.foldl (λacc v=>acc++[v.due acc ps]) []
theorem zos (ps:List (Int×Int))(ns:List Nd)(v:Nd):zbm ps (ns++[v])=zbm ps ns++[v.due (zbm ps ns) ps]:=by
 unfold zbm
 rw[List.foldl_append]
 rfl
theorem zqP (ps:List (Int×Int))(ns:List Nd):(zbm ps ns).length=ns.length:=by
 have z:∀k,k≤ns.length→(zbm ps (ns.take k)).length=k:=λk=>by
  induction k with
  | zero=>intro _; rfl
  | succ k ih=>
   intro hk
   rw[zca (Vaa (show k<ns.length by omega)),zos]
   simp[ih (by omega)]
 have y:=z ns.length (Vad _)
 rwa [VaW] at y
theorem Pz.of_w {ws:List Nat}{vs:List (Int×Int)}(h:PzW ws vs)(hw:∀k:Nat,k<vs.length→ws.getD k 0≤16):Pz 1800 vs:=λp hp=>by
 obtain⟨k,hk,e⟩:=VaK.mp hp
 obtain⟨a,b,c⟩:=h k p (by rw[Vaa hk,e])
 have:=hw k hk
 exact⟨a,b.mono (by omega),c.mono (by omega)⟩
def hs:Nat→Int→Int→Int
 | 0,_,_=>0
 | k+1,x,y=>x*hs k x y+y^k
def zad:Nat→(Nat→Int)→Int
 | 0,_=>0
 | k+1,f=>zad k f+f k
def In (p:Int×Int)(x:Rat):Prop:=(p.1:Rat)≤x∧x≤(p.2:Rat)
theorem zqW {a b g:Rat}(hg:0<g)(h:g*a≤g*b):a≤b:=by
 by_cases c:a≤b
 ·exact c
 ·have d:b<a:=Rat.not_le.mp c
  have z:=Rat.mul_pos hg (show 0<a-b by grind)
  grind
theorem zmj {a b:Int}(h:a≤b):(a:Rat)≤(b:Rat):=Rat.intCast_le_intCast.mpr h
theorem In.add {p q:Int×Int}{x y:Rat}(h1:In p x)(h2:In q y):In (zij p q) (x+y):=by
 obtain⟨a,b⟩:=h1
 obtain⟨c,d⟩:=h2
 refine⟨?_,?_⟩
 ·show ((p.1+q.1:Int):Rat)≤_
  rw[Rat.intCast_add]; grind
 ·show _≤((p.2+q.2:Int):Rat)
  rw[Rat.intCast_add]; grind
theorem In.take {p q:Int×Int}{x y:Rat}(h1:In p x)(h2:In q y):In (zdS p q) (x-y):=by
 obtain⟨a,b⟩:=h1
 obtain⟨c,d⟩:=h2
 refine⟨?_,?_⟩
 ·show ((p.1-q.2:Int):Rat)≤_
  rw[Rat.intCast_sub]; grind
 ·show _≤((p.2-q.1:Int):Rat)
  rw[Rat.intCast_sub]; grind
theorem zuA {A B C D x y:Rat}(h1:A≤x)(h2:x≤B)(h3:C≤y)(h4:y≤D):(A*C≤x*y∨A*D≤x*y∨B*C≤x*y∨B*D≤x*y)∧(x*y≤A*C∨x*y≤A*D∨x*y≤B*C∨x*y≤B*D):=by
 have m:∀ {u v:Rat},0≤u→0≤v→0≤u*v:=λa b=>Rat.mul_nonneg a b
 rcases Rat.le_total (a:=0) (b:=y) with hy | hy
 ·have a1:=m (show 0≤x-A by grind) hy
  have a2:=m (show 0≤B-x by grind) hy
  refine⟨?_,?_⟩
  ·rcases Rat.le_total (a:=0) (b:=A) with hA | hA
   ·have:=m hA (show 0≤y-C by grind)
    exact .inl (by grind)
   ·have:=m (show 0≤-A by grind) (show 0≤D-y by grind)
    exact .inr (.inl (by grind))
  ·rcases Rat.le_total (a:=0) (b:=B) with hB | hB
   ·have:=m hB (show 0≤D-y by grind)
    exact .inr (.inr (.inr (by grind)))
   ·have:=m (show 0≤-B by grind) (show 0≤y-C by grind)
    exact .inr (.inr (.inl (by grind)))
 ·have a1:=m (show 0≤x-A by grind) (show 0≤-y by grind)
  have a2:=m (show 0≤B-x by grind) (show 0≤-y by grind)
  refine⟨?_,?_⟩
  ·rcases Rat.le_total (a:=0) (b:=B) with hB | hB
   ·have:=m hB (show 0≤y-C by grind)
    exact .inr (.inr (.inl (by grind)))
   ·have:=m (show 0≤-B by grind) (show 0≤D-y by grind)
    exact .inr (.inr (.inr (by grind)))
  ·rcases Rat.le_total (a:=0) (b:=A) with hA | hA
   ·have:=m hA (show 0≤D-y by grind)
    exact .inr (.inl (by grind))
   ·have:=m (show 0≤-A by grind) (show 0≤y-C by grind)
    exact .inl (by grind)
theorem In.mul {p q:Int×Int}{x y:Rat}{g:Int}(hg:1≤g)(h1:In p x)(h2:In q y):In (zaL p q g) (x*y/(g:Rat)):=by
 have gp:(0:Rat)<(g:Rat):=Rat.intCast_pos.mpr (by omega)
 have ge:(g:Rat)*(x*y/(g:Rat))=x*y:=by grind
 have c:=zuA h1.1 h1.2 h2.1 h2.2
 have lo:((mn4 p.1 p.2 q.1 q.2:Int):Rat)≤x*y:=by
  have t:∀u:Int,mn4 p.1 p.2 q.1 q.2≤u→((mn4 p.1 p.2 q.1 q.2:Int):Rat)≤(u:Rat):=λu h=>zmj h
  have e1:=t (p.1*q.1) (by unfold mn4; omega)
  have e2:=t (p.1*q.2) (by unfold mn4; omega)
  have e3:=t (p.2*q.1) (by unfold mn4; omega)
  have e4:=t (p.2*q.2) (by unfold mn4; omega)
  rw[Rat.intCast_mul] at e1 e2 e3 e4
  rcases c.1 with z | z | z | z <;> grind
 have hi:x*y≤((mx4 p.1 p.2 q.1 q.2:Int):Rat):=by
  have t:∀u:Int,u≤mx4 p.1 p.2 q.1 q.2→(u:Rat)≤((mx4 p.1 p.2 q.1 q.2:Int):Rat):=λu h=>zmj h
  have e1:=t (p.1*q.1) (by unfold mx4; omega)
  have e2:=t (p.1*q.2) (by unfold mx4; omega)
  have e3:=t (p.2*q.1) (by unfold mx4; omega)
  have e4:=t (p.2*q.2) (by unfold mx4; omega)
  rw[Rat.intCast_mul] at e1 e2 e3 e4
  rcases c.2 with z | z | z | z <;> grind
 refine⟨zqW gp ?_,zqW gp ?_⟩
 ·have z:=zmj (znm (mn4 p.1 p.2 q.1 q.2) (show 0<g by omega)).1
  rw[Rat.intCast_mul] at z
  rw[ge]
  show (g:Rat)*((mn4 p.1 p.2 q.1 q.2/g:Int):Rat)≤_
  grind
 ·have z:=zmj (zu2 (mx4 p.1 p.2 q.1 q.2) (show 0<g by omega)).1
  rw[Rat.intCast_mul] at z
  rw[ge]
  show _≤(g:Rat)*((-(-mx4 p.1 p.2 q.1 q.2/g):Int):Rat)
  grind
def rsum:Nat→(Nat→Rat)→Rat
 | 0,_=>0
 | k+1,f=>rsum k f+f k
theorem In.sum {g:Int}(hg:1≤g){us vs:List (Int×Int)}{a b:Nat→Rat}(h1:∀(j:Nat) (p:Int×Int),us[j]?=some p→In p (a j))(h2:∀(j:Nat) (p:Int×Int),vs[j]?=some p→In p (b j)):∀k:Nat,k≤us.length→k≤vs.length→In (sumP g (us.take k) (vs.take k)) (rsum k λj=>a j*b j/(g:Rat))
 | 0,_,_=>⟨Rat.le_refl,Rat.le_refl⟩
 | k+1,l1,l2=>by
  have hu:=Vaa (show k<us.length by omega)
  have hv:=Vaa (show k<vs.length by omega)
  rw[zi2 g us vs k hu hv]
  exact(In.sum hg h1 h2 k (by omega) (by omega)).add ((h1 k _ hu).mul hg (h2 k _ hv))
theorem In.sumP {g:Int}(hg:1≤g){us vs:List (Int×Int)}{a b:Nat→Rat}{n:Nat}(l1:us.length=n)(l2:vs.length=n)(h1:∀(j:Nat) (p:Int×Int),us[j]?=some p→In p (a j))(h2:∀(j:Nat) (p:Int×Int),vs[j]?=some p→In p (b j)):In (sumP g us vs) (rsum n λj=>a j*b j/(g:Rat)):=by
 have z:=In.sum hg h1 h2 n (by omega) (by omega)
 rw[VaD (by omega),VaD (by omega)] at z
 exact z
theorem zvj (xs:List D)(a b:Nat):(zbk xs (some (a:Int)) (some (b:Int))).length≤b-a:=by
 unfold L3.zbk
 rw[Vau,Va1,HT.sIx_nat,HT.sIx_nat]
 omega
theorem zxZ (r:Bool×Nat):eqN 1 (rwD r) (rwD r)=some true:=by
 obtain⟨b,n⟩:=r
 cases b <;> simp[rwD,eqN,L3.eqT,eqL,eqF]
theorem zq7:∀rows:List (Bool×Nat),eqL (eqN 1) (rows.map rwD) (rows.map rwD)=some true
 | []=>rfl
 | r::rs=>by
  show (match eqN 1 (rwD r) (rwD r),eqL (eqN 1) (rs.map rwD) (rs.map rwD) with | some b,some c=>some (b&&c) | _,_=>none)=_
  rw[zxZ,zq7 rs]
  rfl
theorem zui {ns:List Nd}{ws:List Nat}{bs:List (Int×Int)}{g:Int}{is:List Nat}(net:zaJ bs.length ns ws)(sb:Spn 51 bs)(hg:1≤g∧g≤1000000)(hi:∀i∈is,i<ns.length):Bd 2000 (is.map λ(i:Nat)=>gt (zan (bs.map zbe) g ns) i):=λp hp=>by
 obtain⟨i,him,rfl⟩:=Vai.mp hp
 have net2:zaJ ((bs.map zbe).length:Nat) ns ws:=by rw[Vac]; exact net
 have sp:=zqT net2 rfl (zpW sb) hg ns.length (Vad _)
 rw[VaW] at sp
 have z:=sp.at (i:=(i:Int)) ⟨by omega,by rw[zdp]; have:=hi i him; omega⟩
 exact⟨z.2.1.mono (by decide),z.2.2.mono (by decide)⟩
theorem zpa {ns:List Nd}{ws:List Nat}{bs:List (Int×Int)}{g:Int}{is:List Nat}(net:zaJ bs.length ns ws)(sb:Spn 51 bs)(hg:1≤g∧g≤1000000)(hi:∀i∈is,i<ns.length):∀r∈(is.map λ(i:Nat)=>(zaz (zan bs g ns) g bs.length ns).getD i []),r.length=bs.length∧Bd 1023 r:=λr hr=>by
 have szw:=zq4 net rfl sb hg
 have slw:SlW bs.length ws (zaz (zan bs g ns) g bs.length ns):=by
  have z:=zpu net szw (zdp _ _ _) hg ns.length (Vad _)
  rwa [VaW] at z
 obtain⟨i,him,rfl⟩:=Vai.mp hr
 have hin:=hi i him
 have hl:i<(zaz (zan bs g ns) g bs.length ns).length:=by rw[zef]; exact hin
 have e:(zaz (zan bs g ns) g bs.length ns).getD i []=(zaz (zan bs g ns) g bs.length ns)[i]:=by simp[hl]
 obtain⟨z1,z2⟩:=slw i _ (Vaa hl)
 rw[e]
 have w:=(net.w1 (i:=(i:Int)) ⟨by omega,by omega⟩).2
 rw[Vah] at w
 exact⟨z1,λp hp=>⟨(z2 p hp).2.1.mono (by omega),(z2 p hp).2.2.mono (by omega)⟩⟩
theorem zor {ns:List Nd}{ws:List Nat}{bs:List (Int×Int)}{g:Int}{is:List Nat}(net:zaJ bs.length ns ws)(sb:Spn 51 bs)(hg:1≤g∧g≤1000000)(hi:∀i∈is,i<ns.length):∀r∈(is.map λ(i:Nat)=>(zaz (zan bs g ns) g bs.length ns).getD i []),r.length=bs.length∧Bd 2000 r:=λr hr=>by
 obtain⟨z1,z2⟩:=zpa net sb hg hi r hr
 exact⟨z1,λp hp=>⟨(z2 p hp).1.mono (by decide),(z2 p hp).2.mono (by decide)⟩⟩
theorem zoL {G:Int→Prop}:∀xs:List D,(∀(k:Nat) (d:D),xs[k]?=some d→∃t,d=.int t∧G t)→∃ts:List Int,xs=ts.map D.int∧∀t∈ts,G t
 | [],_=>⟨[],rfl,λp h=>by cases h⟩
 | x::xs,h=>by
  obtain⟨p,rfl,hp⟩:=h 0 x rfl
  obtain⟨vs,rfl,hv⟩:=zoL xs λk d hd=>h (k+1) d hd
  exact⟨p::vs,rfl,λq hq=>by
   rcases Vaw.mp hq with e | e
   ·subst e; exact hp
   ·exact hv q e⟩
theorem zvR {v:Nd}{ns:List Nd}{n:Nat}{S:Sto}{Q:DK}{o:Option Nat}(h:S[n]?=some (.lst (ns.map Nd.d)))(e:zb7 (eqN 1) (ns.map Nd.d) v.d=some o.isSome)(hq:Q (.bl (!o.isSome)) S):zbV (wIn 1 true) v.d (.ref n) S Q:=by
 rw[zcu]
 unfold wIn
 simp only[zaN h rfl,zak,e]
 exact hq
theorem any_some {v:Nd}:∀ {ns:List Nd} {k:Nat},ns[k]?=some v→zb7 (eqN 1) (ns.map Nd.d) v.d≠some (none:Option Nat).isSome
 | [],k,h=>by simp at h
 | u::us,0,h=>by
  have e:u=v:=by simpa using h
  subst e
  show (match eqN 1 u.d u.d,zb7 (eqN 1) (us.map Nd.d) u.d with | some b,some c=>some (b||c) | _,_=>none)≠_
  obtain⟨c,hc⟩:=zom u us
  rw[zqK,hc]
  simp
 | u::us,k+1,h=>by
  have ih:=any_some (ns:=us) (k:=k) (by simpa using h)
  show (match eqN 1 u.d v.d,zb7 (eqN 1) (us.map Nd.d) v.d with | some b,some c=>some (b||c) | _,_=>none)≠_
  obtain⟨b,hb⟩:=zoJ u v
  obtain⟨c,hc⟩:=zom v us
  rw[hc] at ih
  rw[hb,hc]
  cases c
  ·exact absurd rfl ih
  ·simp
theorem zo0 {vs us ps:List (Int×Int)}{k:Nat}{q:Int}(h:∀i:Int,inR k i→gt vs i=gt us i):∀v:Nd,v.ok k q→v.due vs ps=v.due us ps
 | .number _ _,_=>rfl
 | .unknown _,_=>rfl
 | .plus i j,ok=>by simp only[Nd.due,h i ok.1,h j ok.2]
 | .minus i j,ok=>by simp only[Nd.due,h i ok.1,h j ok.2]
 | .times i j,ok=>by simp only[Nd.due,h i ok.1,h j ok.2]
 | .power i n,ok=>by simp only[Nd.due,h i ok.1]
theorem zqd (P:List (Int×Int))(ns:List Nd):∀ms:List Nd,∃r,zbm P (ns++ms)=zbm P ns++r
 | []=>⟨[],by rw[Va0,Va0]⟩
 | v::ms=>by
  obtain⟨r,e⟩:=zqd P (ns++[v]) ms
  rw[Va9] at e
  refine⟨v.due (zbm P ns) P::r,?_⟩
  rw[show ns++v::ms=ns++([v]++ms) from rfl,e,zos,Va9]
  rfl
theorem zoy {P:List (Int×Int)}{ns ms:List Nd}{i:Int}(h:inR ns.length i):gt (zbm P (ns++ms)) i=gt (zbm P ns) i:=by
 obtain⟨r,e⟩:=zqd P ns ms
 rw[e]
 exact zyj (k:=ns.length) h (by rw[zqP]; exact Vad _)
theorem zvO {P:List (Int×Int)}{ns:List Nd}{ws:List Nat}{q:Int}{j:Nat}{v:Nd}(net:zaJ q ns ws)(h:ns[j]?=some v):gt (zbm P ns) (j:Int)=v.due (zbm P ns) P:=by
 have hj:=(Vab.mp h).1
 have e:ns=ns.take (j+1)++ns.drop (j+1):=(List.take_append_drop _ _).symm
 have e2:ns=ns.take j++ns.drop j:=(List.take_append_drop _ _).symm
 have l:(ns.take (j+1)).length=j+1:=by rw[Vau]; omega
 have lj:(ns.take j).length=j:=by rw[Vau]; omega
 have g1:gt (zbm P ns) (j:Int)=gt (zbm P (ns.take (j+1))) (j:Int):=by
  have z:=zoy (P:=P) (ns:=ns.take (j+1)) (ms:=ns.drop (j+1)) (i:=(j:Int)) ⟨by omega,by rw[l]; omega⟩
  rw[← e] at z
  exact z
 rw[g1,zca h,zos,zvS (by rw[zqP,lj])]
 refine zo0 (k:=j) (q:=q) (λi hi=>?_) v (net.ok j v h).1
 have z:=zoy (P:=P) (ns:=ns.take j) (ms:=ns.drop j) (i:=i) (by rw[lj]; exact hi)
 rw[← e2] at z
 exact z.symm
theorem zti {ws us:List Nat}{i:Nat}(h:i<ws.length):(ws++us).getD i 0=ws.getD i 0:=by rw[Vaf,Vaf,Vao h]
def Nd.hv:Nd→Nat
 | .minus _ _=>2
 | _=>1
theorem zkI:∀rs:List Nat,eqs (rs.map λi=>((true,i):Bool×Nat))=rs
 | []=>rfl
 | r::rs=>(congrArg (r::·) (zkI rs):r::eqs (rs.map λi=>((true,i):Bool×Nat))=r::rs)
theorem zym (rs:List Nat)(i w:Nat):eqs ((rs.map λi=>((true,i):Bool×Nat)).take i++(false,w)::(rs.map λi=>((true,i):Bool×Nat)).drop i)=rs:=by
 have e:∀a b:List (Bool×Nat),eqs (a++(false,w)::b)=eqs (a++b):=λa b=>by
  unfold eqs
  rw[List.filterMap_append,List.filterMap_append]
  rfl
 rw[e,List.take_append_drop,zkI]
theorem zyu (xs:List D):zbk xs (some 1) none=xs.drop 1:=by
 unfold L3.zbk
 have e:HT.sIx xs.length 0 (some 1)=min 1 xs.length:=by
  have z:=HT.sIx_nat xs.length 0 1
  exact z
 rw[HT.sIx_none]
 rw[e]
 by_cases c:1≤xs.length
 ·rw[Nat.min_eq_left c]
  exact VaD (by rw[Va1]; exact Vad _)
 ·have z:xs=[]:=List.eq_nil_of_length_eq_zero (by omega)
  subst z
  rfl
def zaA (M:List (List Int))(r c:Nat):List (List Int):=(M.take r++M.drop (r+1)).map λe=>e.take c++e.drop (c+1)
def sgn (i:Int)(k:Nat):Int:=if k%2=1 then -i else i
def zas:Nat→List (List Int)→Int
 | 0,_=>1
 | n+1,M=>((List.range (M.headD []).length).map λc=>(M.headD []).getD c 0*sgn (zas n (zaA M 0 c)) c).sum
def Sq (n:Nat)(M:List (List Int)):Prop:=M.length=n∧∀r∈M,r.length=n
theorem zdR {n:Nat}{M:List (List Int)}(h:Sq (n+1) M){r c:Nat}(hr:r≤n)(hc:c≤n):Sq n (zaA M r c):=by
 obtain⟨h1,h2⟩:=h
 refine⟨by simp[zaA]; omega,λq hq=>?_⟩
 simp only[zaA,Vai,VaO] at hq
 obtain⟨e,he,rfl⟩:=hq
 have hm:e∈M:=he.elim Vbb Va4
 have:=h2 e hm
 simp; omega
inductive Rows (S:Sto)(b:Nat):List D→List (List Int)→Prop
 | nil:Rows S b [] []
 | cons {a:Nat} {r:List Int} {ds:List D} {M:List (List Int)}:b≤a→S[a]?=some (.lst (r.map D.int))→Rows S b ds M→Rows S b (.ref a::ds) (r::M)
theorem Rows.keep {S T:Sto}{b:Nat}{ds:List D}{M:List (List Int)}(h:Rows S b ds M)(k:∀a o,b≤a→S[a]?=some o→T[a]?=some o):Rows T b ds M:=by
 induction h with
 | nil=>exact .nil
 | cons h1 h2 _ ih=>exact .cons h1 (k _ _ h1 h2) ih
theorem Rows.pre {S T:Sto}{b:Nat}{ds:List D}{M:List (List Int)}(h:Rows S b ds M)(p:Pre S T):Rows T b ds M:=h.keep λa o _ e=>p a o e
theorem Rows.low {S:Sto}{b c:Nat}{ds:List D}{M:List (List Int)}(h:Rows S b ds M)(k:c≤b):Rows S c ds M:=by
 induction h with
 | nil=>exact .nil
 | cons h1 h2 _ ih=>exact .cons (VaA k h1) h2 ih
theorem Rows.len {S:Sto}{b:Nat}{ds:List D}{M:List (List Int)}(h:Rows S b ds M):ds.length=M.length:=by
 induction h with
 | nil=>rfl
 | cons _ _ _ ih=>simp[ih]
theorem Rows.get {S:Sto}{b:Nat}{ds:List D}{M:List (List Int)}(h:Rows S b ds M):∀ {k:Nat} {d:D},ds[k]?=some d→∃a r,d=.ref a∧b≤a∧M[k]?=some r∧S[a]?=some (.lst (r.map D.int)):=by
 induction h with
 | nil=>intro k d e; simp at e
 | cons h1 h2 _ ih=>
  intro k d e
  cases k with
  | zero=>simp at e; exact⟨_,_,e.symm,h1,rfl,h2⟩
  | succ k=>exact ih (by simpa using e)
theorem Rows.get' {S:Sto}{b:Nat}{ds:List D}{M:List (List Int)}(h:Rows S b ds M){k:Nat}{r:List Int}(e:M[k]?=some r):∃a,ds[k]?=some (.ref a)∧b≤a∧S[a]?=some (.lst (r.map D.int)):=by
 have hk:k<ds.length:=by rw[h.len]; exact(Vab.mp e).1
 obtain⟨a,r',e1,e2,e3,e4⟩:=h.get (Vaa hk)
 rw[e3] at e; cases e
 exact⟨a,by rw[Vaa hk,e1],e2,e4⟩
theorem Rows.app {S:Sto}{b:Nat}{ds es:List D}{M M':List (List Int)}(h:Rows S b ds M)(g:Rows S b es M'):Rows S b (ds++es) (M++M'):=by
 induction h with
 | nil=>exact g
 | cons h1 h2 _ ih=>exact .cons h1 h2 ih
theorem Rows.snoc {S:Sto}{b a:Nat}{r:List Int}{ds:List D}{M:List (List Int)}(h:Rows S b ds M)(h1:b≤a)(h2:S[a]?=some (.lst (r.map D.int))):Rows S b (ds++[.ref a]) (M++[r]):=h.app (.cons h1 h2 .nil)
theorem Rows.drop {S:Sto}{b:Nat}{ds:List D}{M:List (List Int)}(h:Rows S b ds M):∀k:Nat,Rows S b (ds.drop k) (M.drop k):=by
 induction h with
 | nil=>intro k; simpa using Rows.nil
 | cons h1 h2 t ih=>
  intro k
  cases k with
  | zero=>exact .cons h1 h2 t
  | succ k=>simpa using ih k
theorem Rows.take {S:Sto}{b:Nat}{ds:List D}{M:List (List Int)}(h:Rows S b ds M):∀k:Nat,Rows S b (ds.take k) (M.take k):=by
 induction h with
 | nil=>intro k; simpa using Rows.nil
 | cons h1 h2 t ih=>
  intro k
  cases k with
  | zero=>simpa using Rows.nil
  | succ k=>simpa using Rows.cons h1 h2 (ih k)
def zbn (S:Sto)(n:Nat)(M:List (List Int)):Prop:=∃ds,S[n]?=some (.lst ds)∧Rows S 0 ds M
theorem zbn.pre {S T:Sto}{n:Nat}{M:List (List Int)}(h:zbn S n M)(p:Pre S T):zbn T n M:=by
 obtain⟨ds,h1,h2⟩:=h
 exact⟨ds,p _ _ h1,h2.pre p⟩
def Big (M:List (List Int)):Prop:=∀r∈M,∀x∈r,Sz 1030 x
theorem Big.minor {M:List (List Int)}(h:Big M)(r c:Nat):Big (zaA M r c):=λq hq x hx=>by
 simp only[zaA,Vai,VaO] at hq
 obtain⟨e,he,rfl⟩:=hq
 have hm:e∈M:=he.elim Vbb Va4
 rcases VaO.mp hx with z | z
 ·exact h e hm x (Vbb z)
 ·exact h e hm x (Va4 z)
theorem zrn {B:Nat}:∀ {l:List Int},(∀x∈l,x.natAbs≤B)→l.sum.natAbs≤l.length*B
 | [],_=>by simp
 | x::l,h=>by
  have h1:=h x (by simp)
  have h2:=zrn (l:=l) λy hy=>h y (by simp[hy])
  rw[List.sum_cons,Vay,Nat.succ_mul]
  omega
theorem ztD {k:Nat}{l:List Int}(h:∀x∈l,Sz k x)(hl:l.length≤4):Sz (k+2) l.sum:=by
 have hp:0<2^k:=Nat.two_pow_pos k
 have h1:=zrn (B:=2^k-1) (l:=l) λx hx=>by have:=h x hx; unfold Sz at this; omega
 have h2:l.length*(2^k-1)≤4*(2^k-1):=Nat.mul_le_mul_right _ hl
 unfold Sz
 rw[Nat.pow_add]
 omega
theorem zkf {k n:Nat}{i:Int}(h:Sz k i):Sz k (sgn i n):=by
 unfold sgn
 split
 ·exact h.neg
 ·exact h
theorem znx:∀ {n:Nat} {M:List (List Int)},Sq n M→Big M→n≤4→Sz (n*1034+1) (zas n M)
 | 0,_,_,_,_=>by unfold Sz zas; decide
 | n+1,M,h,b,hn=>by
  unfold zas
  obtain⟨r,M',rfl⟩:∃r M',M=r::M':=by
   match M,h.1 with
   | r::M',_=>exact⟨r,M',rfl⟩
  have hr:r.length=n+1:=h.2 r (by simp)
  have q:Sz ((n*1034+1031)+2) (((List.range ((r::M').headD []).length).map λc=>((r::M').headD []).getD c 0*sgn (zas n (zaA (r::M') 0 c)) c).sum):=by
   refine ztD (λx hx=>?_) (by simp[hr]; omega)
   obtain⟨c,hc,rfl⟩:=Vai.mp hx
   have hc':c<n+1:=by simpa [hr] using hc
   have e1:Sz 1030 ((r::M').headD [] |>.getD c 0):=by
    show Sz 1030 (r.getD c 0)
    rw[Vaf,Vaa (by omega)]
    exact b r (by simp) _ (VaH ..)
   have e2:=zkf (n:=c) (znx (zdR h (Vat n) (show c≤n by omega)) (b.minor 0 c) (by omega))
   exact(e1.mul e2).mono (by omega)
  exact q.mono (by omega)
theorem znb {n:Nat}{M:List (List Int)}(h:Sq n M)(b:Big M)(hn:n≤4):Sz 4140 (zas n M):=(znx h b hn).mono (by omega)
theorem zvy {caps:List Nat}{tl te:TDE}{dl:Ev}{S T0:Sto}{Q:DK}{n:Nat}{ds:List D}{R:List (List Int)}(g:List Int→List Int)(htl:∀K:DK,K (.ref n) T0→tl dl S K)(hn:T0[n]?=some (.lst ds))(rows:Rows T0 0 ds R)(hl:ds.length≤1000)
  (ht:∀(a:Nat) (r:List Int) (S2:Sto) (K:DK),r∈R→S2[a]?=some (.lst (r.map D.int))→(∀(S3:Sto) (b:Nat),Pre S2 S3→S2.length≤b→S3[b]?=some (.lst ((g r).map D.int))→K (.ref b) S3)→te (some (.ref a)::zbt caps dl) S2 K)
  (hq:∀(S2:Sto) (ys:List D),Pre T0 S2→S2[T0.length]?=some (.lst ys)→Rows S2 0 ys (R.map g)→Q (.ref T0.length) S2):zct caps tl zb8 te dl S Q:=by
 refine zm2 (S1:=T0) (n:=n) (o:=.lst ds) (λk ys S2=>Pre T0 S2∧S2[T0.length]?=some (.lst ys)∧ys.length=k∧Rows S2 (T0.length+1) ys ((R.take k).map g)) htl hn (λk ys S2 w=>⟨w.1 _ _ hn,w.2.1,w.2.2.1⟩) hl
  ⟨Pre.refl.push,zax _ _,rfl,by simpa using Rows.nil⟩ (λk x ys S2 K hx w hK=>?_) (λys S2 w=>?_)
 ·obtain⟨w1,w2,w3,w4⟩:=w
  obtain⟨a,r,rfl,_,hr,ha⟩:=rows.get hx
  refine ht a r S2 K (Val hr) (w1 _ _ ha) λS3 b p3 hb e3=>?_
  have hlt:=zbo w2
  refine hK _ S3 (p3 _ _ w2) ⟨zqf (w1.trans p3) (Vad _),zb2 (p3 _ _ w2),by simp[w3],?_⟩
  have e:(R.take (k+1)).map g=(R.take k).map g++[g r]:=by rw[Vba,hr]; simp
  rw[e]
  refine Rows.snoc (w4.keep λa o l q=>?_) (by omega) ?_
  ·rw[VaB (by omega)]; exact p3 _ _ q
  ·rw[VaB (by omega)]; exact e3
 ·obtain⟨w1,w2,w3,w4⟩:=w
  have e:R.take (zak (.lst ds)).length=R:=VaD (by show R.length≤ds.length; rw[rows.len]; exact Vad _)
  rw[e] at w4
  exact hq S2 ys w1 w2 (w4.low (Vat _))
theorem zuQ {caps:List Nat}{ta:TDA}{te:TDE}{dl:Ev}{S T0:Sto}{Q:DK}{j:Nat}(g:Nat→List Int)(hta:∀K:List D→Sto→Prop,K [.int (j:Int)] T0→ta dl S K)(hj:j≤1000)
  (ht:∀(k:Nat) (S2:Sto) (K:DK),k<j→Pre T0 S2→(∀(S3:Sto) (b:Nat),Pre S2 S3→S2.length≤b→S3[b]?=some (.lst ((g k).map D.int))→K (.ref b) S3)→te (some (.int (k:Int))::zbt caps dl) S2 K)
  (hq:∀(S2:Sto) (ys:List D),Pre T0 S2→S2[T0.length]?=some (.lst ys)→Rows S2 0 ys ((List.range j).map g)→Q (.ref T0.length) S2):zc5 caps ta zb8 te dl S Q:=by
 refine zxQ (S1:=T0) (j:=(j:Int)) (λk ys S2=>Pre T0 S2∧S2[T0.length]?=some (.lst ys)∧ys.length=k∧Rows S2 (T0.length+1) ys ((List.range k).map g)) hta (by omega) (λk ys S2 w=>⟨w.2.1,w.2.2.1⟩)
  ⟨Pre.refl.push,zax _ _,rfl,by simpa using Rows.nil⟩ (λk ys S2 K hk w hK=>?_) (λys S2 w=>?_)
 ·obtain⟨w1,w2,w3,w4⟩:=w
  refine ht k S2 K (by omega) w1 λS3 b p3 hb e3=>?_
  have hlt:=zbo w2
  refine hK _ S3 (p3 _ _ w2) ⟨zqf (w1.trans p3) (Vad _),zb2 (p3 _ _ w2),by simp[w3],?_⟩
  rw[Vaj,Vav]
  refine Rows.snoc (w4.keep λa o l q=>?_) (by omega) ?_
  ·rw[VaB (by omega)]; exact p3 _ _ q
  ·rw[VaB (by omega)]; exact e3
 ·obtain⟨w1,w2,w3,w4⟩:=w
  exact hq S2 ys w1 w2 (w4.low (Vat _))
theorem zgf {n:Nat}{S:Sto}{o:Ob}{ns:List Int}{Q:DK}(h:S[n]?=some o)(hb:zcc (zak o)=some ns)(hq:Q (.int ns.sum) S):irr zkM [.ref n] S Q:=by
 rw[zev]
 unfold zkM
 simp only[zaN h (zp4 hb),hb]
 exact hq
theorem zpG (l:List Int):zcc (l.map D.int)=some l:=by
 induction l with
 | nil=>rfl
 | cons x l ih=>simp only[Vas,zcc,ih,Option.map_some]
def zeW (M:List (List Int))(n:Nat)(w g:Int)(i j:Nat):Int:=(sgn (zas n (zaA M j i)) (j+i)*g*g).fdiv w
def zd7 (M:List (List Int))(n:Nat)(w g:Int)(i:Nat):List Int:=(List.range (n+1)).map (zeW M n w g i)
def zbO (M:List (List Int))(n:Nat)(w g:Int):List (List Int):=(List.range (n+1)).map (zd7 M n w g)
inductive zbF (S:Sto)(b:Nat):List D→List (List Int×Int)→Prop
 | nil:zbF S b [] []
 | cons {a:Nat} {o:List Int×Int} {ds:List D} {os:List (List Int×Int)}:b≤a→S[a]?=some (.lst (o.1.map D.int))→zbF S b ds os→zbF S b (.tup [.ref a,.int o.2]::ds) (o::os)
def znk (S:Sto)(n:Nat)(os:List (List Int×Int)):Prop:=∃ds,S[n]?=some (.lst ds)∧zbF S 0 ds os
theorem zbF.keep {S T:Sto}{b:Nat}{ds:List D}{os:List (List Int×Int)}(h:zbF S b ds os)(k:∀a o,b≤a→S[a]?=some o→T[a]?=some o):zbF T b ds os:=by
 induction h with
 | nil=>exact .nil
 | cons h1 h2 _ ih=>exact .cons h1 (k _ _ h1 h2) ih
theorem zbF.low {S:Sto}{b c:Nat}{ds:List D}{os:List (List Int×Int)}(h:zbF S b ds os)(k:c≤b):zbF S c ds os:=by
 induction h with
 | nil=>exact .nil
 | cons h1 h2 _ ih=>exact .cons (VaA k h1) h2 ih
theorem zbF.len {S:Sto}{b:Nat}{ds:List D}{os:List (List Int×Int)}(h:zbF S b ds os):ds.length=os.length:=by
 induction h with
 | nil=>rfl
 | cons _ _ _ ih=>simp[ih]
theorem zbF.get {S:Sto}{b:Nat}{ds:List D}{os:List (List Int×Int)}(h:zbF S b ds os):∀ {k:Nat} {d:D},ds[k]?=some d→∃a o,d=.tup [.ref a,.int o.2]∧b≤a∧os[k]?=some o∧S[a]?=some (.lst (o.1.map D.int)):=by
 induction h with
 | nil=>intro k d e; simp at e
 | cons h1 h2 _ ih=>
  intro k d e
  cases k with
  | zero=>simp at e; exact⟨_,_,e.symm,h1,rfl,h2⟩
  | succ k=>exact ih (by simpa using e)
theorem zbF.snoc {S:Sto}{b a:Nat}{o:List Int×Int}{ds:List D}{os:List (List Int×Int)}(h:zbF S b ds os)(h1:b≤a)(h2:S[a]?=some (.lst (o.1.map D.int))):zbF S b (ds++[.tup [.ref a,.int o.2]]) (os++[o]):=by
 induction h with
 | nil=>exact .cons h1 h2 .nil
 | cons g1 g2 _ ih=>exact .cons g1 g2 ih
theorem Rows.put {S:Sto}{b a:Nat}{r:List Int}{ds:List D}{M:List (List Int)}(h:Rows S b ds M)(h1:b≤a)(h2:S[a]?=some (.lst (r.map D.int))):∀j:Nat,Rows S b (ds.set j (.ref a)) (M.set j r):=by
 induction h with
 | nil=>intro j; exact .nil
 | cons g1 g2 t ih=>
  intro j
  cases j with
  | zero=>exact .cons h1 h2 t
  | succ j=>exact .cons g1 g2 (ih j)
theorem zhb {n k:Nat}(h:k<n):ixN n (k:Int)=some k:=by
 unfold ixN
 rw[if_pos (by omega),if_pos (by omega)]
 rfl
theorem znk.pre {S T:Sto}{n:Nat}{os:List (List Int×Int)}(h:znk S n os)(p:Pre S T):znk T n os:=by
 obtain⟨ds,h1,h2⟩:=h
 exact⟨ds,p _ _ h1,h2.keep λa o _ e=>p a o e⟩
def Fit (n:Nat)(o:List Int×Int):Prop:=o.1.length=n∧(∀x∈o.1,0≤x∧x<n)∧(o.2=1∨o.2=-1)
instance (n:Nat) (o:List Int×Int):Decidable (Fit n o):=by unfold Fit; infer_instance
theorem zqL {xs:List D}{i:Nat}:zbk xs none (some (i:Int))=xs.take i:=by
 unfold L3.zbk
 rw[HT.sIx_none,HT.sIx_nat,List.drop_zero,Nat.sub_zero]
 rw[List.take_eq_take_iff]
 omega
theorem zpK {xs:List D}{i:Nat}:zbk xs (some (i:Int)) none=xs.drop i:=by
 unfold L3.zbk
 rw[HT.sIx_none,HT.sIx_nat]
 rcases Nat.le_total i xs.length with h | h
 ·rw[Nat.min_eq_left h]
  exact VaD (by rw[Va1]; exact Vad _)
 ·rw[Nat.min_eq_right h,List.drop_of_length_le (Vad _),List.drop_of_length_le h]
  simp
theorem zkL {r0:List Int}{k:Nat}{x:D}(hx:(r0.map D.int)[k]?=some x):x=.int (r0.getD k 0):=by
 have hk:k<r0.length:=by
  have:=(Vab.mp hx).1
  rwa [Vac] at this
 rw[Vae,Vaa hk] at hx
 rw[Vaf,Vaa hk]
 exact(Option.some.inj hx).symm
theorem zlS {r0:List Int}{M':List (List Int)}{n k:Nat}(sq:Sq (n+1) (r0::M'))(big:Big (r0::M'))(hn:n≤3)(hk:k<n+1):IntMulOk (r0.getD k 0) (sgn (zas n (zaA (r0::M') 0 k)) (0+k)):=by
 have lr:r0.length=n+1:=sq.2 r0 (by simp)
 have e1:Sz 1030 (r0.getD k 0):=by
  rw[Vaf,Vaa (by omega)]
  exact big r0 (by simp) _ (VaH ..)
 exact zaR e1 (zkf (znb (zdR sq (Vat _) (by omega)) (big.minor 0 k) (by omega)))
theorem zmE (n:Nat)(r0:List Int)(M':List (List Int)):zcc ((r0.map D.int).mapIdx λk d=>D.int (r0.getD k 0*sgn (zas n (zaA (r0::M') 0 k)) k))=some ((List.range r0.length).map λk=>r0.getD k 0*sgn (zas n (zaA (r0::M') 0 k)) k):=by
 have e:(r0.map D.int).mapIdx (λk d=>D.int (r0.getD k 0*sgn (zas n (zaA (r0::M') 0 k)) k))=((List.range r0.length).map λk=>r0.getD k 0*sgn (zas n (zaA (r0::M') 0 k)) k).map D.int:=by
  refine List.ext_getElem (by simp) λk h1 h2=>?_
  simp
 rw[e,zpG]
theorem zlo {m a:Nat}{S:Sto}{ds:List D}{K:List D→Sto→Prop}(hm:S[m]?=some (.lst ds))(hd:ds[0]?=some (.ref a))(hK:K [.ref a] S):wIx (.ref m) (.int 0) S (λx S1=>K [x] S1):=by
 have z:=zaG (n:=m) (S:=S) (o:=.lst ds) (i:=0) (d:=.ref a) (Q:=λx S1=>K [x] S1) hm (zcV (j:=0) hd) hK
 rw[zcu] at z
 exact z
theorem Rows.toI {S:Sto}{b:Nat}{ds:List D}{M:List (List Int)}(h:Rows S b ds M):zdr S ds M:=⟨h.len,λk d r hd hr=>by
 obtain⟨a,r',e,_,e3,e4⟩:=h.get hd
 rw[e3] at hr
 cases hr
 exact⟨a,e,e4⟩⟩
theorem zxW {rows:List (Bool×Nat)}{i:Nat}(h:i∈eqs rows):(true,i)∈rows:=by
 obtain⟨⟨b,n⟩,hr,e⟩:=List.mem_filterMap.mp h
 cases b
 ·cases e
 ·cases e
  exact hr
def zdl (rows:List (Bool×Nat))(vs:List (Int×Int)):Bool:=rows.all λr=>r.1||decide (0≤(gt vs (r.2:Int)).1)
theorem znV (vs:List (Int×Int)):∀rows:List (Bool×Nat),zco (((rows.map rwD)).filterMap (λd=>match d with | .tup [.str w,.int at']=>if w="least" then some (.bl (decide (0≤(gt vs at').1))) else none | _=>none))=some (rows.filterMap λr=>if r.1 then none else some (decide (0≤(gt vs (r.2:Int)).1)))
 | []=>rfl
 | (false,n)::rs=>by
  show (zco ((rs.map rwD).filterMap _)).map _=_
  rw[znV vs rs]
  rfl
 | (true,n)::rs=>znV vs rs
theorem zm3 (vs:List (Int×Int)):∀rows:List (Bool×Nat),((rows.filterMap λr=>if r.1 then none else some (decide (0≤(gt vs (r.2:Int)).1))).all id)=zdl rows vs
 | []=>rfl
 | (false,n)::rs=>by
  show (decide _&&(rs.filterMap _).all id)=_
  rw[zm3 vs rs]
  rfl
 | (true,n)::rs=>zm3 vs rs
def zfB (p q:Int×Int):Bool:=decide (q.1<p.1)&&decide (p.2<q.2)
def zbR (us vs:List (Int×Int)):Bool:=(List.zipWith zfB us vs).all id
theorem zqe {us vs:List (Int×Int)}:zbR us vs=true↔∀(k:Nat) (p q:Int×Int),us[k]?=some p→vs[k]?=some q→q.1<p.1∧p.2<q.2:=by
 unfold zbR
 rw[Vbh]
 refine⟨λh k p q hp hq=>?_,λh b hb=>?_⟩
 ·have z:=h (zfB p q) (Val (i:=k) (by rw[List.getElem?_zipWith,hp,hq]))
  simpa [zfB] using z
 ·obtain⟨k,hk⟩:=Vbi.mp hb
  rw[List.getElem?_zipWith] at hk
  cases e1:us[k]? with
  | none=>rw[e1] at hk; cases hk
  | some p=>
   cases e2:vs[k]? with
   | none=>rw[e1,e2] at hk; cases hk
   | some q=>
    rw[e1,e2] at hk
    obtain⟨a,b⟩:=h k p q e1 e2
    have z:=Option.some.inj hk
    subst z
    simp[zfB,a,b]
theorem zu0 (us vs:List (Int×Int)):zco (List.zipWith (λx y=>match x,y with | .tup [.int a,.int b],.tup [.int c,.int d]=>.bl (decide (c<a)&&decide (b<d)) | _,_=>.non) (us.map frD) (vs.map frD))=some (List.zipWith zfB us vs):=by
 induction us generalizing vs with
 | nil=>rfl
 | cons u us ih=>
  cases vs with
  | nil=>rfl
  | cons v vs=>
   show (zco (List.zipWith _ (us.map frD) (vs.map frD))).map _=_
   rw[ih]
   rfl
def zeI (g:Int)(bs:List (Int×Int))(ns:List Nd)(rows:List (Bool×Nat)):List (Int×Int):=(eqs rows).map λ(i:Nat)=>gt (zan (bs.map zbe) g ns) i
def zcn (g:Int)(bs:List (Int×Int))(ns:List Nd)(rows:List (Bool×Nat)):List (List (Int×Int)):=(eqs rows).map λ(i:Nat)=>(zaz (zan bs g ns) g bs.length ns).getD i []
def zbc (g:Int)(bs:List (Int×Int))(ns:List Nd)(rows:List (Bool×Nat)):List (List Int):=(zcn g bs ns rows).map λr=>r.map mid
def zd5 (g:Int)(bs:List (Int×Int))(ns:List Nd)(rows:List (Bool×Nat))(M:List (List Int)):List (Int×Int):=M.mapIdx λk es=>zdI g bs (zeI g bs ns rows) (zcn g bs ns rows) k es
def alS (g:Int)(bs:List (Int×Int))(ns:List Nd)(rows:List (Bool×Nat)):Option (List (List Int)×List (Int×Int)):=
 if (eqs rows).length=bs.length∧zdl rows (zan bs g ns)=true then
  if zas bs.length (zbc g bs ns rows)=0 then none
  else if zbR (zd5 g bs ns rows (zbO (zbc g bs ns rows) (bs.length-1) (zas bs.length (zbc g bs ns rows)) g)) bs=true then some (zbO (zbc g bs ns rows) (bs.length-1) (zas bs.length (zbc g bs ns rows)) g,zd5 g bs ns rows (zbO (zbc g bs ns rows) (bs.length-1) (zas bs.length (zbc g bs ns rows)) g))
  else none
 else none
theorem zvJ (M:List (List Int))(n:Nat)(w g:Int):(zbO M n w g).length=n+1:=by simp[zbO]
theorem zt9 {M:List (List Int)}{n:Nat}{w g:Int}:∀r∈zbO M n w g,r.length=n+1:=λr hr=>by
 unfold zbO at hr
 obtain⟨i,_,rfl⟩:=Vai.mp hr
 simp[zd7]
theorem zs4 (t w:Int)(hw:w≠0):(t.fdiv w).natAbs≤t.natAbs+1:=by
 rcases Int.lt_or_lt_of_ne hw with h | h
 ·have e:t.fdiv w=(-t).fdiv (-w):=by rw[Int.neg_fdiv_neg]
  rw[e,Int.fdiv_eq_ediv_of_nonneg _ (by omega)]
  have:=Int.natAbs_ediv_le_natAbs (-t) (-w)
  omega
 ·rw[Int.fdiv_eq_ediv_of_nonneg _ (by omega)]
  have:=Int.natAbs_ediv_le_natAbs t w
  omega
theorem zsm {M:List (List Int)}{n:Nat}{w g:Int}(sq:Sq (n+1) M)(big:Big M)(hn:n≤3)(hw:w≠0)(hg:1≤g∧g≤1000000):∀r∈zbO M n w g,∀x∈r,Sz 4000 x:=λr hr x hx=>by
 unfold zbO at hr
 obtain⟨i,hi,rfl⟩:=Vai.mp hr
 unfold zd7 at hx
 obtain⟨j,hj,rfl⟩:=Vai.mp hx
 have hi9:=VaR.mp hi
 have hj9:=VaR.mp hj
 unfold zeW
 have e2:=zkf (n:=j+i) (znx (zdR sq (show j≤n by omega) (show i≤n by omega)) (big.minor j i) (by omega))
 have eg:Sz 20 g:=Sz.of 1000000 (by omega)
 have e3:=(e2.mul eg).mul eg
 have e4:Sz 3999 (sgn (zas n (zaA M j i)) (j+i)*g*g):=e3.mono (by omega)
 have:=zs4 (sgn (zas n (zaA M j i)) (j+i)*g*g) w hw
 unfold Sz at *
 have e5:2^4000=2*2^3999:=by rw[Nat.pow_succ]; omega
 have e6:1<2^3999:=Nat.one_lt_two_pow (by decide)
 omega
structure Gr (q a c:Nat)(S:Sto)(ns:List Nd)(ws:List Nat)(T:Sto)(ns':List Nd)(ws':List Nat):Prop where
 net:zaJ q ns' ws'
 pn:∃ms,ns'=ns++ms∧ms.length≤c
 pw:∃us,ws'=ws++us
 nd:T[a]?=some (.lst (ns'.map Nd.d))
 len:S.length≤T.length
 kp:∀(x:Nat) (o:Ob),x≠a→S[x]?=some o→T[x]?=some o
theorem Gr.refl {q a:Nat}{S:Sto}{ns:List Nd}{ws:List Nat}(net:zaJ q ns ws)(h:S[a]?=some (.lst (ns.map Nd.d))):Gr q a 0 S ns ws S ns ws:=⟨net,⟨[],by simp,by simp⟩,⟨[],by simp⟩,h,Vad _,λ_ _ _ e=>e⟩
theorem Gr.trans {q a c d:Nat}{S T U:Sto}{ns ns' ns2:List Nd}{ws ws' ws2:List Nat}(h:Gr q a c S ns ws T ns' ws')(k:Gr q a d T ns' ws' U ns2 ws2):Gr q a (c+d) S ns ws U ns2 ws2:=by
 obtain⟨n1,⟨ms,rfl,l1⟩,⟨us,rfl⟩,a1,e1,k1⟩:=h
 obtain⟨n2,⟨ms2,rfl,l2⟩,⟨us2,rfl⟩,a2,e2,k2⟩:=k
 exact⟨n2,⟨ms++ms2,by rw[Va9],by rw[Var]; omega⟩,⟨us++us2,by rw[Va9]⟩,a2,by omega,λx o hx e=>k2 x o hx (k1 x o hx e)⟩
theorem Gr.mono {q a c d:Nat}{S T:Sto}{ns ns':List Nd}{ws ws':List Nat}(h:Gr q a c S ns ws T ns' ws')(l:c≤d):Gr q a d S ns ws T ns' ws':=by
 obtain⟨n1,⟨ms,e,l1⟩,u,a1,e1,k1⟩:=h
 exact⟨n1,⟨ms,e,by omega⟩,u,a1,e1,k1⟩
theorem Gr.ln {q a c:Nat}{S T:Sto}{ns ns':List Nd}{ws ws':List Nat}(h:Gr q a c S ns ws T ns' ws'):ns.length≤ns'.length∧ns'.length≤ns.length+c:=by
 obtain⟨n1,⟨ms,rfl,l1⟩,_⟩:=h
 rw[Var]
 omega
theorem Gr.wt {q a c:Nat}{S T:Sto}{ns ns':List Nd}{ws ws':List Nat}(h:Gr q a c S ns ws T ns' ws')(net:zaJ q ns ws){i:Nat}(hi:i<ns.length):ws'.getD i 0=ws.getD i 0:=by
 obtain⟨us,rfl⟩:=h.pw
 exact zti (by rw[net.len]; exact hi)
theorem Gr.due {q a c:Nat}{S T:Sto}{ns ns':List Nd}{ws ws':List Nat}(h:Gr q a c S ns ws T ns' ws')(P:List (Int×Int)){i:Nat}(hi:i<ns.length):gt (zbm P ns') (i:Int)=gt (zbm P ns) (i:Int):=by
 obtain⟨ms,rfl,_⟩:=h.pn
 exact zoy ⟨by omega,by omega⟩
theorem Gr.get {q a c:Nat}{S T:Sto}{ns ns':List Nd}{ws ws':List Nat}(h:Gr q a c S ns ws T ns' ws'){i:Nat}{v:Nd}(hi:ns[i]?=some v):ns'[i]?=some v:=by
 obtain⟨ms,rfl,_⟩:=h.pn
 rw[Vao (Vab.mp hi).1]
 exact hi
theorem Gr.put {q a c n:Nat}{S T:Sto}{ns ns':List Nd}{ws ws':List Nat}{o:Ob}(h:Gr q a c S ns ws T ns' ws')(ha:n≠a)(hn:S.length≤n):Gr q a c S ns ws (T.set n o) ns' ws':=by
 obtain⟨n1,pn,pw,a1,e1,k1⟩:=h
 refine⟨n1,pn,pw,za9 a1 ha,by rw[Va7]; exact e1,λx u hx e=>za9 (k1 x u hx e) ?_⟩
 have:=zbo e
 omega
theorem Gr.push {q a:Nat}{S:Sto}{ns:List Nd}{ws:List Nat}(net:zaJ q ns ws)(h:S[a]?=some (.lst (ns.map Nd.d)))(U:Sto):Gr q a 0 S ns ws (S++U) ns ws:=⟨net,⟨[],by simp,by simp⟩,⟨[],by simp⟩,zaB h,by simp,λ_ _ _ e=>zaB e⟩
structure Zr (P:List (Int×Int))(ns:List Nd)(ws:List Nat)(w i:Nat):Prop where
 lt:i<ns.length
 wt:ws.getD i 0≤w
 due:(gt (zbm P ns) (i:Int)).1=0
theorem Zr.up {P:List (Int×Int)}{q a c w i:Nat}{S T:Sto}{ns ns':List Nd}{ws ws':List Nat}(z:Zr P ns ws w i)(h:Gr q a c S ns ws T ns' ws')(net:zaJ q ns ws):Zr P ns' ws' w i:=⟨by have:=h.ln; have:=z.lt; omega,by rw[h.wt net z.lt]; exact z.wt,by rw[h.due P z.lt]; exact z.due⟩
theorem zrQ {q a c:Nat}{S T:Sto}{ns ns':List Nd}{ws ws':List Nat}(h:Gr q a c S ns ws T ns' ws')(net:zaJ q ns ws){v:Nd}(ok:v.ok ns.length q):v.wt ws'=v.wt ws:=by
 have z:∀i:Int,inR (ns.length:Nat) i→ws'.getD i.toNat 0=ws.getD i.toNat 0:=λi hi=>by
  have h0:=hi.1
  have h1:=hi.2
  exact h.wt net (by omega)
 cases v with
 | number _ _=>rfl
 | unknown _=>rfl
 | plus i j=>show ws'.getD i.toNat 0+ws'.getD j.toNat 0=ws.getD i.toNat 0+ws.getD j.toNat 0; rw[z i ok.1,z j ok.2]
 | minus i j=>show ws'.getD i.toNat 0+ws'.getD j.toNat 0=ws.getD i.toNat 0+ws.getD j.toNat 0; rw[z i ok.1,z j ok.2]
 | times i j=>show ws'.getD i.toNat 0+ws'.getD j.toNat 0=ws.getD i.toNat 0+ws.getD j.toNat 0; rw[z i ok.1,z j ok.2]
 | power i n=>show n.toNat*ws'.getD i.toNat 0=n.toNat*ws.getD i.toNat 0; rw[z i ok.1]
theorem zxJ {q a c j:Nat}{S T:Sto}{ns ns':List Nd}{ws ws':List Nat}(h:Gr q a c S ns ws T ns' ws'){v:Nd}(ok:v.ok ns.length q)(hj:ns'[j]?=some v)(P:List (Int×Int)):gt (zbm P ns') (j:Int)=v.due (zbm P ns) P:=by
 rw[zvO (P:=P) h.net hj]
 refine zo0 (k:=ns.length) (q:=q) (λi hi=>?_) v ok
 have h0:=hi.1
 have h1:=hi.2
 have z:=h.due P (i:=i.toNat) (by omega)
 rw[show ((i.toNat:Nat):Int)=i by omega] at z
 exact z
section
variable {s:Shared}{E:Value→Shared→Prop}{A:Around}{M:Model}
end
theorem zqI {env:Env}:∀ {names:List (Str×NameKind)} {x:Str},names.lookup x=some .cell→
  (names.map λ(n,k)=>if (k==NameKind.free&&env.scope.kind==.function&&env.kindOf n==some .cell) then (n,NameKind.cell) else (n,k)).lookup x=some .cell
 | [],_,h=>by simp at h
 | (n,k)::r,x,h=>by
  have ih:=@zqI env r x
  rw[Vas]
  cases hx:x==n with
  | true=>
   rw[Van,hx] at h
   have hk:k=.cell:=Option.some.inj h
   subst hk
   simp[Van,hx]
  | false=>
   rw[Van,hx] at h
   dsimp only
   split
   ·simp only[Van,hx]; exact ih h
   ·simp only[Van,hx]; exact ih h
structure CompScC (sc around:Scope)(x:Str)(caps:List Str):Prop where
 kind:sc.kind=.function
 one:sc.names.filter (λy=>y.2==NameKind.cell)=[(x,NameKind.cell)]
 own:∀y∈sc.names,y.2=.local→sc.names.lookup y.1=some .local
 loc:sc.names.lookup x=some .cell
 cap:∀y∈caps,sc.names.lookup y=some .free
 out:∀y∈sc.names,y.2=.free→around.names.lookup y.1=some .cell
section
variable {X:Cx}{pins:List (Addr×Obj)}{σ:L2.St}{H:Hp}{s:Shared}
end
section
variable {X:Cx}{elt iter:Expr}{x:Str}{px pos:Pos}{ifs:List Expr}{sc:Scope}{N:List Str}{caps:List Nat}{wi:TI}{tc:TT}{te:TE}
end
section
variable {X:Cx}{Z:Zx}{elt iter:Expr}{x:Str}{px pos:Pos}{ifs:List Expr}{sc ar:Scope}{N:List Str}{caps:List Nat}
theorem zrw {env:Env}:∀ {names:List (Str×NameKind)} {x:Str},names.lookup x=some .free→env.scope.kind=.function→env.kindOf x=some .cell→
  (names.map λ(n,k)=>if (k==NameKind.free&&env.scope.kind==.function&&env.kindOf n==some .cell) then (n,NameKind.cell) else (n,k)).lookup x=some .cell
 | [],_,h,_,_=>by simp at h
 | (n,k)::r,x,h,h2,h3=>by
  have ih:=@zrw env r x
  rw[Vas]
  cases hx:x==n with
  | true=>
   rw[Van,hx] at h
   have hk:k=.free:=Option.some.inj h
   have en:x=n:=by simpa using hx
   subst hk en
   simp[Van,h2,h3]
  | false=>
   rw[Van,hx] at h
   dsimp only
   split
   ·simp only[Van,hx]; exact ih h h2 h3
   ·simp only[Van,hx]; exact ih h h2 h3
theorem cscN {sc sc1 ar0:Scope}{env1:Env}{x:Str}{caps:List Str}(h:env1.scope=ar0)(a:sc.kind=.function:=by rfl)(b:∀y∈sc.names,y.2≠.cell:=by decide +kernel)(c:∀y∈sc.names,y.2=.local→sc.names.lookup y.1=some .local:=by decide +kernel)(d:sc.names.lookup x=some .local:=by rfl)(e:∀y∈caps,sc.names.lookup y=some .free:=by decide +kernel)
  (f:∀y∈sc.names,y.2=.free→sc1.names.lookup y.1=some .cell∨(sc1.names.lookup y.1=some .free∧ar0.kind=.function∧ar0.names.lookup y.1=some .cell):=by decide +kernel):zdj sc (relabel sc1 env1) x caps:=⟨a,b,c,d,e,λy hy hf=>by
 subst h
 rcases f y hy hf with z | ⟨z1,z2,z3⟩
 ·exact zqI z
 ·exact zrw z1 z2 z3⟩
end
section
variable {X:Cx}{Z:Zx}{pos:Pos}
def Alk (S:Sto):Nat→D→D→Prop
 | 0,d,e=>eqF d e=some true
 | n+1,d,e=>Alk S n d e∨(∃xs ys,d=.tup xs∧e=.tup ys∧xs.length=ys.length∧∀(k:Nat) (x y:D),xs[k]?=some x→ys[k]?=some y→Alk S n x y)∨
  ∃a b xs ys,d=.ref a∧e=.ref b∧S[a]?=some (.lst xs)∧S[b]?=some (.lst ys)∧xs.length=ys.length∧∀(k:Nat) (x y:D),xs[k]?=some x→ys[k]?=some y→Alk S n x y
theorem zqx (n:Nat):(List.range n).all (λ_=>true)=true:=by simp
theorem zrh {n:Nat}{A:Around}{pins:List (Addr×Obj)}{σ:L3.St}{H:Hp}{s:Shared}{r:List Addr}{S:Sto}(I:Inv X pins σ H s)(rel:Rel X.K Z r S H){a b:Nat}{xs ys:List D}{p p':Addr}(hp:r[a]?=some p)(hp':r[b]?=some p')(s1:S[a]?=some (.lst xs))(s2:S[b]?=some (.lst ys))(l:xs.length=ys.length)(hu:A.units<cLine)
  (f:∀ {d e:D} {v1 v2:V} {u1 u2:Value},Alk S n d e→Rp r H d v1→Rp r H e v2→zau v1 u1→zau v2 u2→SeqAt.EqAt A.in1 s u1 u2 true)(al:∀(k:Nat) (x y:D),xs[k]?=some x→ys[k]?=some y→Alk S n x y):SeqAt.RcAt A s (.ref p) (.ref p') true:=by
 obtain⟨z,hz,ob⟩:=rel.at s1
 rw[hp] at hz; cases hz
 obtain⟨z,hz,ob'⟩:=rel.at s2
 rw[hp'] at hz; cases hz
 obtain⟨vs,sq,pr⟩:=ob.list rfl
 obtain⟨ws,sq',pr'⟩:=ob'.list rfl
 obtain⟨is,ri,pl,_⟩:=I.list sq
 obtain⟨js,rj,pl',_⟩:=I.list sq'
 have g1:=zpR (P:=λS=>Alk S n) (S:=S) f pr pr' ri rj al
 have hs:is.toArray.size=js.toArray.size:=by
  have a1:=ri.length
  have a2:=rj.length
  have a3:=pr.1
  have a4:=pr'.1
  simp only[Vak]
  show is.length=js.length
  have a3:xs.length=vs.length:=a3
  have a4:ys.length=ws.length:=a4
  omega
 have q:=SeqAt.RcAt.lists (A:=A) (e:=λ_=>true) pl.isList pl'.isList hs hu g1
 rw[zqx] at q
 exact q
theorem zkv:∀(n:Nat) {A:Around} {pins:List (Addr×Obj)} {σ:L3.St} {H:Hp} {s:Shared} {r:List Addr} {S:Sto} {d e:D} {v1 v2:V} {u1 u2:Value},Inv X pins σ H s→Rel X.K Z r S H→Alk S n d e→Rp r H d v1→Rp r H e v2→zau v1 u1→zau v2 u2→A.units+n<cLine→SeqAt.EqAt A s u1 u2 true
 | 0,A,pins,σ,H,s,r,S,d,e,v1,v2,u1,u2,I,rel,h,pd,pe,ru1,ru2,hu=>zje 0 X pins σ H s r A d e v1 v2 u1 u2 true I hu pd pe ru1 ru2 h
 | n+1,A,pins,σ,H,s,r,S,d,e,v1,v2,u1,u2,I,rel,h,pd,pe,ru1,ru2,hu=>by
  rcases h with h | ⟨xs,ys,rfl,rfl,l,al⟩ | ⟨a,b,xs,ys,rfl,rfl,s1,s2,l,al⟩
  ·exact zkv n I rel h pd pe ru1 ru2 (by omega)
  ·cases pd with
   | @tup _ vs a h1 l1 f1=>
    cases pe with
    | @tup _ ws b h2 l2 f2=>
     cases ru1
     cases ru2
     by_cases hne:a=b
     ·subst hne
      exact SeqAt.EqAt.same _
     ·obtain⟨is,ri,pl,_⟩:=I.tuple (SqT.of h1)
      obtain⟨js,rj,pl',_⟩:=I.tuple (SqT.of h2)
      have g1:=zpR (P:=λS=>Alk S n) (S:=S) (A:=A.in1) (λh p q r1 r2=>zkv n I rel h p q r1 r2 (by show A.units+1+n<_; omega)) ⟨l1,f1⟩ ⟨l2,f2⟩ ri rj al
      have q:=SeqAt.RcAt.tuples (A:=A) (e:=λ_=>true) pl pl' (by omega) g1
      have hs:(is.toArray.size==js.toArray.size)=true:=by
       have a1:=ri.length
       have a2:=rj.length
       simp only[Vak,beq_iff_eq]
       show is.length=js.length
       omega
      rw[zqx,hs] at q
      exact SeqAt.EqAt.of_refs hne q
  ·cases pd with
   | @ref _ p hp=>
    cases pe with
    | @ref _ p' hp'=>
     cases ru1
     cases ru2
     by_cases hne:p=p'
     ·subst hne
      exact SeqAt.EqAt.same _
     ·exact SeqAt.EqAt.of_refs hne (zrh I rel hp hp' s1 s2 l (by omega) (λh p q r1 r2=>zkv n I rel h p q r1 r2 (by show A.units+1+n<_; omega)) al)
def wEqK:W2:=λx y S Q=>match x,y with
 | .ref a,.ref b=>(∃xs ys,S[a]?=some (.lst xs)∧S[b]?=some (.lst ys)∧xs.length=ys.length∧∀(k:Nat) (x y:D),xs[k]?=some x→ys[k]?=some y→Alk S 5 x y)∧Q (.bl true) S
 | _,_=>False
theorem zxe {j:Nat}(hr:zaK j X.A):OpR X (compareOp .Eq) (upO X.K Z wEqK):=by
 have hu:=hr.un
 intro pins s σ H x y v u Qv I rx ry h
 obtain⟨r,S,dx,dy,Q,rel,px,py,q,ret⟩:=h
 cases px with
 | @ref n a hn=>
  cases py with
  | @ref m a' hm=>
   cases rx
   cases ry
   obtain⟨⟨xs,ys,s1,s2,l,al⟩,q⟩:=(show (∃xs ys,_)∧_ from q)
   exact zrh I rel hn hm s1 s2 l (by omega) (λh p q r1 r2=>zkv 5 I rel h p q r1 r2 (by show X.A.units+1+5<_; omega)) al X.prog X.w X.xe _ ⟨.bl true,H,I,rfl,ret _ _ _ _ _ Ext.refl rel (.bl true) q⟩
  | _=>exact(show False from q).elim
 | _=>exact(show False from q).elim
end
theorem alk0 {S:Sto}{d e:D}(h:eqF d e=some true):∀n,Alk S n d e
 | 0=>h
 | n+1=>.inl (alk0 h n)
theorem zxP (i:Int):eqF (.int i) (.int i)=some true:=by simp[eqF]
theorem zyw {S:Sto}{n a b:Nat}{α:Type}{f:α→D}{xs:List α}(hf:∀x,Alk S n (f x) (f x))(h1:S[a]?=some (.lst (xs.map f)))(h2:S[b]?=some (.lst (xs.map f))):Alk S (n+1) (.ref a) (.ref b):=.inr (.inr ⟨a,b,_,_,rfl,rfl,h1,h2,rfl,λk x y hx hy=>by
 rw[hx] at hy
 cases hy
 rw[Vae] at hx
 obtain⟨z,_,rfl⟩:=Vam.mp hx
 exact hf z⟩)
def mtx (n:Nat)(a:Nat→Nat→Int):List (List Int):=(List.range n).map λi=>(List.range n).map (a i)
def zaF (M:List (List Int))(n r c:Nat):Int:=sgn (zas n (zaA M r c)) (r+c)
theorem lap1 (a:Nat→Nat→Int):zad 1 (λc=>a 0 c*zaF (mtx 1 a) 0 0 c)=zas 1 (mtx 1 a):=by
 simp[mtx,zaF,zad,zas,zaA,sgn,Vaj]
theorem lap2 (a:Nat→Nat→Int):∀r s:Nat,r<2→s<2→zad 2 (λc=>a r c*zaF (mtx 2 a) 1 s c)=if r=s then zas 2 (mtx 2 a) else 0
 | 0,0,_,_=>by
  simp[mtx,zaF,zad,zas,zaA,sgn,Vaj]
  try grind
 | 0,1,_,_=>by
  simp[mtx,zaF,zad,zas,zaA,sgn,Vaj]
  try grind
 | 1,0,_,_=>by
  simp[mtx,zaF,zad,zas,zaA,sgn,Vaj]
  try grind
 | 1,1,_,_=>by
  simp[mtx,zaF,zad,zas,zaA,sgn,Vaj]
  try grind
theorem lap3 (a:Nat→Nat→Int):∀r s:Nat,r<3→s<3→zad 3 (λc=>a r c*zaF (mtx 3 a) 2 s c)=if r=s then zas 3 (mtx 3 a) else 0
 | 0,0,_,_=>by
  simp[mtx,zaF,zad,zas,zaA,sgn,Vaj]
  try grind
 | 0,1,_,_=>by
  simp[mtx,zaF,zad,zas,zaA,sgn,Vaj]
  try grind
 | 0,2,_,_=>by
  simp[mtx,zaF,zad,zas,zaA,sgn,Vaj]
  try grind
 | 1,0,_,_=>by
  simp[mtx,zaF,zad,zas,zaA,sgn,Vaj]
  try grind
 | 1,1,_,_=>by
  simp[mtx,zaF,zad,zas,zaA,sgn,Vaj]
  try grind
 | 1,2,_,_=>by
  simp[mtx,zaF,zad,zas,zaA,sgn,Vaj]
  try grind
 | 2,0,_,_=>by
  simp[mtx,zaF,zad,zas,zaA,sgn,Vaj]
  try grind
 | 2,1,_,_=>by
  simp[mtx,zaF,zad,zas,zaA,sgn,Vaj]
  try grind
 | 2,2,_,_=>by
  simp[mtx,zaF,zad,zas,zaA,sgn,Vaj]
  try grind
theorem lap4 (a:Nat→Nat→Int):∀r s:Nat,r<4→s<4→zad 4 (λc=>a r c*zaF (mtx 4 a) 3 s c)=if r=s then zas 4 (mtx 4 a) else 0
 | 0,0,_,_=>by
  simp[mtx,zaF,zad,zas,zaA,sgn,Vaj]
  try grind
 | 0,1,_,_=>by
  simp[mtx,zaF,zad,zas,zaA,sgn,Vaj]
  try grind
 | 0,2,_,_=>by
  simp[mtx,zaF,zad,zas,zaA,sgn,Vaj]
  try grind
 | 0,3,_,_=>by
  simp[mtx,zaF,zad,zas,zaA,sgn,Vaj]
  try grind
 | 1,0,_,_=>by
  simp[mtx,zaF,zad,zas,zaA,sgn,Vaj]
  try grind
 | 1,1,_,_=>by
  simp[mtx,zaF,zad,zas,zaA,sgn,Vaj]
  try grind
 | 1,2,_,_=>by
  simp[mtx,zaF,zad,zas,zaA,sgn,Vaj]
  try grind
 | 1,3,_,_=>by
  simp[mtx,zaF,zad,zas,zaA,sgn,Vaj]
  try grind
 | 2,0,_,_=>by
  simp[mtx,zaF,zad,zas,zaA,sgn,Vaj]
  try grind
 | 2,1,_,_=>by
  simp[mtx,zaF,zad,zas,zaA,sgn,Vaj]
  try grind
 | 2,2,_,_=>by
  simp[mtx,zaF,zad,zas,zaA,sgn,Vaj]
  try grind
 | 2,3,_,_=>by
  simp[mtx,zaF,zad,zas,zaA,sgn,Vaj]
  try grind
 | 3,0,_,_=>by
  simp[mtx,zaF,zad,zas,zaA,sgn,Vaj]
  try grind
 | 3,1,_,_=>by
  simp[mtx,zaF,zad,zas,zaA,sgn,Vaj]
  try grind
 | 3,2,_,_=>by
  simp[mtx,zaF,zad,zas,zaA,sgn,Vaj]
  try grind
 | 3,3,_,_=>by
  simp[mtx,zaF,zad,zas,zaA,sgn,Vaj]
  try grind
theorem zby {f h:Nat→Int}:∀n,(∀k,k<n→f k=h k)→zad n f=zad n h
 | 0,_=>rfl
 | n+1,e=>by
  show zad n f+f n=zad n h+h n
  rw[zby n λk hk=>e k (by omega),e n (by omega)]
theorem zdd (x:Int)(f:Nat→Int):∀n,zad n (λk=>x*f k)=x*zad n f
 | 0=>by simp[zad]
 | n+1=>by
  show zad n (λk=>x*f k)+x*f n=x*(zad n f+f n)
  rw[zdd x f n,Int.mul_add]
theorem zdZ (f h:Nat→Int):∀n,zad n (λk=>f k+h k)=zad n f+zad n h
 | 0=>by simp[zad]
 | n+1=>by
  show zad n (λk=>f k+h k)+(f n+h n)=(zad n f+f n)+(zad n h+h n)
  rw[zdZ f h n]
  omega
theorem zoh:∀n,zad n (λ_=>0)=0
 | 0=>rfl
 | n+1=>by
  show zad n (λ_=>0)+0=0
  rw[zoh n]
  rfl
theorem znM (f:Nat→Nat→Int)(m:Nat):∀n,zad n (λk=>zad m λj=>f k j)=zad m λj=>zad n λk=>f k j
 | 0=>by
  show 0=zad m λj=>0
  rw[zoh]
 | n+1=>by
  show zad n (λk=>zad m λj=>f k j)+zad m (λj=>f n j)=zad m λj=>zad n (λk=>f k j)+f n j
  rw[znM f m n,← zdZ]
theorem zde (k:Nat)(w:Nat→Int):∀n,zad n (λl=>(if l=k then 1 else 0)*w l)=if k<n then w k else 0
 | 0=>rfl
 | n+1=>by
  show zad n (λl=>(if l=k then 1 else 0)*w l)+(if n=k then 1 else 0)*w n=_
  rw[zde k w n]
  by_cases e:n=k
  ·subst e
   simp
  ·rw[if_neg e,Vbd,Int.add_zero]
   by_cases h:k<n
   ·rw[if_pos h,if_pos (by omega)]
   ·rw[if_neg h,if_neg (by omega)]
theorem lap {n:Nat}(hn:n≤3)(a:Nat→Nat→Int){r s:Nat}(hr:r<n+1)(hs:s<n+1):zad (n+1) (λc=>a r c*zaF (mtx (n+1) a) n s c)=if r=s then zas (n+1) (mtx (n+1) a) else 0:=by
 match n,hn with
 | 0,_=>
  have e1:r=0:=by omega
  have e2:s=0:=by omega
  subst e1 e2
  exact lap1 a
 | 1,_=>exact lap2 a r s hr hs
 | 2,_=>exact lap3 a r s hr hs
 | 3,_=>exact lap4 a r s hr hs
theorem zsu {n s c:Nat}{a a':Nat→Nat→Int}(h:∀i,i≠s→a' i=a i):zaA (mtx n a') s c=zaA (mtx n a) s c:=by
 unfold zaA mtx
 rw[← VaZ,← VaZ,← VaT,← VaT]
 congr 2
 ·refine VaI λi hi=>?_
  have hs:i≠s:=by
   obtain⟨k,hk,rfl⟩:=VaK.mp hi
   rw[Vau,List.length_range] at hk
   rw[List.getElem_take,List.getElem_range]
   omega
  rw[h i hs]
 ·refine VaI λi hi=>?_
  have hs:i≠s:=by
   obtain⟨k,hk,rfl⟩:=VaK.mp hi
   rw[List.getElem_drop,List.getElem_range]
   omega
  rw[h i hs]
theorem zpl {n m s c:Nat}{a a':Nat→Nat→Int}(h:∀i,i≠s→a' i=a i):zaF (mtx n a') m s c=zaF (mtx n a) m s c:=by
 unfold zaF
 rw[zsu h]
theorem zsa {n s:Nat}(hn:n≤3)(hs:s<n+1)(a:Nat→Nat→Int):zas (n+1) (mtx (n+1) λi c=>if i=s then -(a i c) else a i c)=-(zas (n+1) (mtx (n+1) a)):=by
 have h1:=lap hn (λi c=>if i=s then -(a i c) else a i c) hs hs
 have h2:=lap hn a hs hs
 rw[if_pos rfl] at h1 h2
 rw[← h1,← h2]
 have e:zad (n+1) (λc=>-1*(a s c*zaF (mtx (n+1) a) n s c))=-1*zad (n+1) (λc=>a s c*zaF (mtx (n+1) a) n s c):=zdd _ _ _
 rw[show -(zad (n+1) λc=>a s c*zaF (mtx (n+1) a) n s c)=-1*zad (n+1) (λc=>a s c*zaF (mtx (n+1) a) n s c) by omega,← e]
 refine zby _ λc _=>?_
 rw[zpl (a:=a) λi hi=>by funext c; rw[if_neg hi]]
 rw[if_pos rfl]
 grind
theorem zwH {n s j:Nat}(hn:n≤3)(hs:s<n+1)(hj:j<n+1)(hne:j≠s)(t:Int)(a:Nat→Nat→Int):zas (n+1) (mtx (n+1) λi c=>if i=s then a s c+t*a j c else a i c)=zas (n+1) (mtx (n+1) a):=by
 have h1:=lap hn (λi c=>if i=s then a s c+t*a j c else a i c) hs hs
 have h2:=lap hn a hs hs
 have h3:=lap hn a hj hs
 rw[if_pos rfl] at h1 h2
 rw[if_neg hne] at h3
 rw[← h1,← h2]
 have e:=zdZ (λc=>a s c*zaF (mtx (n+1) a) n s c) (λc=>t*(a j c*zaF (mtx (n+1) a) n s c)) (n+1)
 rw[zdd,h3,Int.mul_zero,Int.add_zero] at e
 rw[← e]
 refine zby _ λc _=>?_
 rw[zpl (a:=a) λi hi=>by funext c; rw[if_neg hi]]
 rw[if_pos rfl]
 grind
theorem ztJ {n s k:Nat}(hn:n≤3)(hs:s<n+1)(hk:k<n+1)(a b:Nat→Nat→Int)(inv:∀r c,r<n+1→c<n+1→zad (n+1) (λl=>b r l*a l c)=if r=c then 1 else 0):zaF (mtx (n+1) a) n s k=zas (n+1) (mtx (n+1) a)*b k s:=by
 have e1:zad (n+1) (λc=>(if c=k then 1 else 0)*zaF (mtx (n+1) a) n s c)=zaF (mtx (n+1) a) n s k:=by
  rw[zde,if_pos hk]
 rw[← e1]
 have e2:zad (n+1) (λc=>(if c=k then 1 else 0)*zaF (mtx (n+1) a) n s c)=zad (n+1) (λc=>zad (n+1) λl=>b k l*(a l c*zaF (mtx (n+1) a) n s c)):=by
  refine zby _ λc hc=>?_
  have z:=inv k c hk hc
  have y:(if c=k then (1:Int) else 0)=if k=c then 1 else 0:=by
   by_cases q:c=k
   ·rw[if_pos q,if_pos q.symm]
   ·rw[if_neg q,if_neg λw=>q w.symm]
  rw[y,← z]
  have w:=zdd (zaF (mtx (n+1) a) n s c) (λl=>b k l*a l c) (n+1)
  rw[VaL,← w]
  exact zby _ λl _=>by grind
 rw[e2,znM]
 have e3:zad (n+1) (λl=>zad (n+1) λc=>b k l*(a l c*zaF (mtx (n+1) a) n s c))=zad (n+1) (λl=>(if l=s then 1 else 0)*(b k l*zas (n+1) (mtx (n+1) a))):=by
  refine zby _ λl hl=>?_
  rw[zdd,lap hn a hl hs]
  by_cases q:l=s
  ·rw[if_pos q,if_pos q]; omega
  ·rw[if_neg q,if_neg q]; simp
 rw[e3,zde,if_pos hs]
 exact VaL _ _
theorem zhe (g:Int):∀(n:Nat) (M:List (List Int)),zas n (M.map λr=>r.map (g*·))=g^n*zas n M
 | 0,M=>by simp[zas]
 | n+1,M=>by
  have hm:∀(r c:Nat),zaA (M.map λr=>r.map (g*·)) r c=(zaA M r c).map λr=>r.map (g*·):=λr c=>by
   unfold zaA
   rw[← VaZ,← VaT,← Vav,Vag,Vag]
   refine VaI λe _=>?_
   show (e.map (g*·)).take c++(e.map (g*·)).drop (c+1)=(e.take c++e.drop (c+1)).map (g*·)
   rw[Vav,VaZ,VaT]
  have hh:(M.map λr=>r.map (g*·)).headD []=(M.headD []).map (g*·):=by cases M <;> rfl
  show ((List.range ((M.map λr=>r.map (g*·)).headD []).length).map λc=>((M.map λr=>r.map (g*·)).headD []).getD c 0*sgn (zas n (zaA (M.map λr=>r.map (g*·)) 0 c)) c).sum=g^(n+1)*((List.range (M.headD []).length).map λc=>(M.headD []).getD c 0*sgn (zas n (zaA M 0 c)) c).sum
  rw[hh,Vac]
  have hs:∀(xs:List Nat) (f h:Nat→Int),(∀c,f c=g^(n+1)*h c)→(xs.map f).sum=g^(n+1)*(xs.map h).sum:=λxs f h e=>by
   induction xs with
   | nil=>simp
   | cons x xs ih=>rw[Vas,Vas,List.sum_cons,List.sum_cons,ih,e x,Int.mul_add]
  refine hs _ _ _ λc=>?_
  rw[hm,zhe g n]
  have hd:((M.headD []).map (g*·)).getD c 0=g*(M.headD []).getD c 0:=by
   rw[Vaf,Vaf,Vae]
   cases (M.headD [])[c]? <;> simp
  rw[hd]
  unfold sgn
  split
  ·rw[Va5]; grind
  ·rw[Va5]; grind
theorem zo1 {α β:Type}(f:List β→α→β):∀(ns:List α) (acc:List β),(ns.foldl (λa v=>a++[f a v]) acc).take acc.length=acc
 | [],acc=>VaW
 | v::r,acc=>by
  have ih:=zo1 f r (acc++[f acc v])
  show ((r.foldl (λa v=>a++[f a v]) (acc++[f acc v])).take acc.length)=acc
  have e:((r.foldl (λa v=>a++[f a v]) (acc++[f acc v])).take (acc++[f acc v]).length).take acc.length=acc:=by
   rw[ih]
   simp
  rw[List.take_take] at e
  rw[show min acc.length (acc++[f acc v]).length=acc.length by simp] at e
  exact e
theorem zoa {α β:Type}(f:List β→α→β):∀(ns:List α) (acc:List β) (k:Nat),(ns.foldl (λa v=>a++[f a v]) acc).take (acc.length+k)=(ns.take k).foldl (λa v=>a++[f a v]) acc
 | [],acc,k=>by
  show acc.take (acc.length+k)=([].take k).foldl _ acc
  rw[List.take_nil,VaD (by omega)]
  rfl
 | v::r,acc,0=>zo1 f (v::r) acc
 | v::r,acc,k+1=>by
  have ih:=zoa f r (acc++[f acc v]) k
  rw[Var] at ih
  show ((r.foldl (λa v=>a++[f a v]) (acc++[f acc v])).take (acc.length+(k+1)))=_
  rw[show acc.length+(k+1)=acc.length+[f acc v].length+k by simp; omega,ih]
  rfl
theorem zn6 (vs:List (Int×Int))(g:Int)(q:Nat)(ns:List Nd)(k:Nat):(zaz vs g q ns).take k=zaz vs g q (ns.take k):=by
 have z:=zoa (λacc v=>zaZ vs acc g q v) ns [] k
 simpa [zaz] using z
theorem zoU (bs:List (Int×Int))(g:Int)(ns:List Nd)(k:Nat):(zan bs g ns).take k=zan bs g (ns.take k):=by
 have z:=zoa (λacc (v:Nd)=>v.fw acc bs g) ns [] k
 simpa [zan] using z
theorem zrq {R:List (List (Int×Int))}{k l:Nat}{i:Int}(h:inR k i):gs (R.take k) i l=gs R i l:=by
 have h0:=h.1
 have h1:=h.2
 unfold gs
 congr 1
 rw[Vaf,Vaf,List.getElem?_take,if_pos (by omega)]
theorem zeu {q:Nat}{ns:List Nd}{ws:List Nat}(net:zaJ q ns ws){j:Nat}{v:Nd}(hv:ns[j]?=some v)(bs:List (Int×Int))(g:Int):gt (zan bs g ns) (j:Int)=v.fw (zan bs g ns) bs g:=by
 have ok:=(net.ok j v hv).1
 have hj:=(Vab.mp hv).1
 have e1:gt (zan bs g ns) (j:Int)=gt (zan bs g (ns.take (j+1))) (j:Int):=by
  rw[← zoU]
  exact(zqN ⟨by omega,by omega⟩).symm
 rw[e1,zca hv,zlG]
 have ln:(zan bs g (ns.take j)).length=j:=by rw[zdp,Vau]; omega
 have e2:gt (zan bs g (ns.take j)++[v.fw (zan bs g (ns.take j)) bs g]) (j:Int)=v.fw (zan bs g (ns.take j)) bs g:=zfT (by rw[Vaz (by omega),ln,VaX]; rfl)
 rw[e2]
 exact zt4 (λi hi=>by rw[← zoU]; exact zqN hi) v ok
theorem zxC {vs:List (Int×Int)}{R T:List (List (Int×Int))}{g:Int}{l k:Nat}{q:Int}(h:∀i:Int,inR k i→gs R i l=gs T i l):∀v:Nd,v.ok k q→v.sl vs R g l=v.sl vs T g l
 | .number _ _,_=>rfl
 | .unknown _,_=>rfl
 | .plus i j,ok=>by simp only[Nd.sl,h i ok.1,h j ok.2]
 | .minus i j,ok=>by simp only[Nd.sl,h i ok.1,h j ok.2]
 | .times i j,ok=>by simp only[Nd.sl,h i ok.1,h j ok.2]
 | .power i n,ok=>by simp only[Nd.sl,h i ok.1]
theorem zfq {q l:Nat}{ns:List Nd}{ws:List Nat}(net:zaJ q ns ws){j:Nat}{v:Nd}(hv:ns[j]?=some v)(hl:l<q)(vs:List (Int×Int))(g:Int):gs (zaz vs g q ns) (j:Int) l=v.sl vs (zaz vs g q ns) g l:=by
 have ok:=(net.ok j v hv).1
 have hj:=(Vab.mp hv).1
 have e1:gs (zaz vs g q ns) (j:Int) l=gs (zaz vs g q (ns.take (j+1))) (j:Int) l:=by
  rw[← zn6]
  exact(zrq ⟨by omega,by omega⟩).symm
 rw[e1,zca hv,zgO]
 have ln:(zaz vs g q (ns.take j)).length=j:=by rw[zef,Vau]; omega
 have e2:gs (zaz vs g q (ns.take j)++[zaZ vs (zaz vs g q (ns.take j)) g q v]) (j:Int) l=v.sl vs (zaz vs g q (ns.take j)) g l:=by
  have e3:(zaz vs g q (ns.take j)++[zaZ vs (zaz vs g q (ns.take j)) g q v]).getD ((j:Nat):Int).toNat []=zaZ vs (zaz vs g q (ns.take j)) g q v:=by
   rw[Vah,Vaf,Vaz (by omega),ln,VaX]
   rfl
  show ((zaz vs g q (ns.take j)++[zaZ vs (zaz vs g q (ns.take j)) g q v]).getD ((j:Nat):Int).toNat []).getD l (0,0)=_
  rw[e3]
  unfold zaZ
  rw[Vaf,Vae,VaE hl]
  rfl
 rw[e2]
 exact zxC (λi hi=>by rw[← zn6]; exact zrq hi) v ok
structure Con (q:Nat)(g:Int)(ns:List Nd)(i:Nat)(c:Int):Prop where
 fw:∀bs:List (Int×Int),gt (zan bs g ns) (i:Int)=(c,c)
 sl:∀(vs:List (Int×Int)) (l:Nat),l<q→gs (zaz vs g q ns) (i:Int) l=(0,0)
structure Lin (q:Nat)(g:Int)(ns:List Nd)(i:Nat)(f:Nat→Int)(y:Int):Prop where
 fw:∀ms:List Int,ms.length=q→gt (zan (ms.map λm=>(m,m)) g ns) (i:Int)=(zad q (λk=>f k*ms.getD k 0)+y,zad q (λk=>f k*ms.getD k 0)+y)
 sl:∀(bs:List (Int×Int)) (l:Nat),l<q→gs (zaz (zan bs g ns) g q ns) (i:Int) l=(g*f l,g*f l)
theorem zq0 {x g c:Int}(hg:1≤g)(e:x=c*g):x/g=c∧-(-x/g)=c:=by
 subst e
 refine⟨Int.mul_ediv_cancel c (by omega),?_⟩
 rw[← Va3,Int.mul_ediv_cancel (-c) (by omega)]
 omega
theorem znr {c v g:Int}(hg:1≤g){w:Int}(e:c*v=w*g):zaL (c,c) (v,v) g=(w,w):=by
 obtain⟨e1,e2⟩:=zq0 hg e
 have m1:mn4 c c v v=c*v:=by unfold mn4; omega
 have m2:mx4 c c v v=c*v:=by unfold mx4; omega
 show (mn4 c c v v/g,-(-mx4 c c v v/g))=_
 rw[m1,m2,e1,e2]
theorem zka {p:Int×Int}{g:Int}(hg:1≤g):zaL p (0,0) g=(0,0):=by
 have m1:mn4 p.1 p.2 0 0=0:=by unfold mn4; simp
 have m2:mx4 p.1 p.2 0 0=0:=by unfold mx4; simp
 show (mn4 p.1 p.2 0 0/g,-(-mx4 p.1 p.2 0 0/g))=_
 rw[m1,m2]
 simp
theorem zv3 {q:Nat}{ns:List Nd}{ws:List Nat}{g t b c:Int}(net:zaJ q ns ws){i:Nat}(hv:ns[i]?=some (.number t b))(hb:1≤b)(e:t*g=c*b):Con q g ns i c:=by
 obtain⟨e1,e2⟩:=zq0 hb e
 refine⟨λbs=>?_,λvs l hl=>?_⟩
 ·rw[zeu net hv]
  show (t*g/b,-(-(t*g)/b))=_
  rw[e1,e2]
 ·rw[zfq net hv hl]
  rfl
def zcS (q:Nat)(g:Int)(ns:List Nd)(i:Nat)(c:Int):Prop:=∀(ms:List Nd) (ws:List Nat),zaJ q (ns++ms) ws→Con q g (ns++ms) i c
def zba (q:Nat)(g:Int)(ns:List Nd)(i:Nat)(f:Nat→Int)(y:Int):Prop:=∀(ms:List Nd) (ws:List Nat),zaJ q (ns++ms) ws→Lin q g (ns++ms) i f y
theorem zcS.up {q:Nat}{g:Int}{ns:List Nd}{i:Nat}{c:Int}(h:zcS q g ns i c)(ms:List Nd):zcS q g (ns++ms) i c:=λm2 ws net=>by
 rw[Va9] at net ⊢
 exact h _ ws net
theorem zba.up {q:Nat}{g:Int}{ns:List Nd}{i:Nat}{f:Nat→Int}{y:Int}(h:zba q g ns i f y)(ms:List Nd):zba q g (ns++ms) i f y:=λm2 ws net=>by
 rw[Va9] at net ⊢
 exact h _ ws net
theorem zcS.gr {q a n i:Nat}{g c:Int}{S T:Sto}{ns ns':List Nd}{ws ws':List Nat}(h:zcS q g ns i c)(gr:Gr q a n S ns ws T ns' ws'):zcS q g ns' i c:=by
 obtain⟨ms,rfl,_⟩:=gr.pn
 exact h.up ms
theorem zba.gr {q a n i:Nat}{g y:Int}{f:Nat→Int}{S T:Sto}{ns ns':List Nd}{ws ws':List Nat}(h:zba q g ns i f y)(gr:Gr q a n S ns ws T ns' ws'):zba q g ns' i f y:=by
 obtain⟨ms,rfl,_⟩:=gr.pn
 exact h.up ms
theorem zba.here {q:Nat}{g:Int}{ns:List Nd}{ws:List Nat}{i:Nat}{f:Nat→Int}{y:Int}(h:zba q g ns i f y)(net:zaJ q ns ws):Lin q g ns i f y:=by
 have z:=h [] ws (by rw[Va0]; exact net)
 rw[Va0] at z
 exact z
theorem zba.congr {q:Nat}{g:Int}{ns:List Nd}{i:Nat}{f h:Nat→Int}{y:Int}(z:zba q g ns i f y)(e:∀l,l<q→f l=h l):zba q g ns i h y:=λms ws net=>by
 obtain⟨z1,z2⟩:=z ms ws net
 refine⟨λxs hl=>?_,λbs l hl=>?_⟩
 ·rw[z1 xs hl,zby q (f:=λk=>f k*xs.getD k 0) (h:=λk=>h k*xs.getD k 0) λk hk=>by rw[e k hk]]
 ·rw[z2 bs l hl,e l hl]
theorem zfC {ns ms:List Nd}{j:Nat}{v:Nd}(hv:ns[j]?=some v):(ns++ms)[j]?=some v:=by
 rw[Vao (Vab.mp hv).1]
 exact hv
theorem zqw {q:Nat}{ns:List Nd}{g t b c:Int}{i:Nat}(hv:ns[i]?=some (.number t b))(hb:1≤b)(e:t*g=c*b):zcS q g ns i c:=λms ws net=>zv3 net (zfC hv) hb e
theorem gt_ms {ms:List Int}{q k:Nat}(hl:ms.length=q)(hk:k<q):gt (ms.map λm=>(m,m)) (k:Int)=(ms.getD k 0,ms.getD k 0):=by
 show (ms.map λm=>(m,m)).getD ((k:Nat):Int).toNat (0,1)=_
 rw[Vah,Vaf,Vae,Vaf,Vaa (by omega)]
 rfl
theorem zyE (k:Nat)(e:Int)(w:Nat→Int){q:Nat}(hk:k<q):zad q (λl=>(if l=k then e else 0)*w l)=e*w k:=by
 have z:zad q (λl=>(if l=k then e else 0)*w l)=zad q (λl=>(if l=k then 1 else 0)*(e*w l)):=zby _ λl _=>by
  by_cases h:l=k
  ·rw[if_pos h,if_pos h,Int.one_mul]
  ·rw[if_neg h,if_neg h,Vbd,Vbd]
 rw[z,zde,if_pos hk]
theorem zwn {q l k:Nat}{ns:List Nd}{ws:List Nat}(net:zaJ q ns ws)(hk:ns[k]?=some (.unknown (k:Int)))(hl:l<q)(vs:List (Int×Int))(g:Int):gs (zaz vs g q ns) (k:Int) l=if l=k then (g,g) else (0,0):=by
 rw[zfq net hk hl]
 show (if (l:Int)=(k:Int) then (g,g) else (0,0))=_
 by_cases h:l=k
 ·rw[if_pos h,if_pos (by omega)]
 ·rw[if_neg h,if_neg (by omega)]
theorem zpV (p q:Int×Int)(g:Int):zaL p q g=zaL q p g:=by
 unfold zaL
 have e1:mn4 p.1 p.2 q.1 q.2=mn4 q.1 q.2 p.1 p.2:=by
  unfold mn4
  rw[VaL p.1 q.1,VaL p.1 q.2,VaL p.2 q.1,VaL p.2 q.2]
  omega
 have e2:mx4 p.1 p.2 q.1 q.2=mx4 q.1 q.2 p.1 p.2:=by
  unfold mx4
  rw[VaL p.1 q.1,VaL p.1 q.2,VaL p.2 q.1,VaL p.2 q.2]
  omega
 rw[e1,e2]
theorem zvH {q j c k:Nat}{g e:Int}{ns:List Nd}(hg:1≤g)(hv:ns[j]?=some (.times (c:Int) (k:Int))∨ns[j]?=some (.times (k:Int) (c:Int)))(hk:ns[k]?=some (.unknown (k:Int)))(kq:k<q)(hc:zcS q g ns c (e*g)):zba q g ns j (λl=>if l=k then e else 0) 0:=λxs ws net=>by
 have C:=hc xs ws net
 have K:=zfC (ms:=xs) hk
 have hv2:(ns++xs)[j]?=some (.times (c:Int) (k:Int))∨(ns++xs)[j]?=some (.times (k:Int) (c:Int)):=hv.imp zfC zfC
 refine⟨λms hl=>?_,λbs l hl=>?_⟩
 ·have e1:gt (zan (ms.map λm=>(m,m)) g (ns++xs)) (k:Int)=(ms.getD k 0,ms.getD k 0):=by
   rw[zeu net K]
   exact gt_ms hl kq
  have e2:=C.fw (ms.map λm=>(m,m))
  have e3:zaL (e*g,e*g) (ms.getD k 0,ms.getD k 0) g=(e*ms.getD k 0,e*ms.getD k 0):=znr hg (by grind)
  rw[zyE k e _ kq,Int.add_zero]
  rcases hv2 with h | h
  ·rw[zeu net h]
   show zaL (gt (zan (ms.map λm=>(m,m)) g (ns++xs)) (c:Int)) (gt (zan (ms.map λm=>(m,m)) g (ns++xs)) (k:Int)) g=_
   rw[e1,e2,e3]
  ·rw[zeu net h]
   show zaL (gt (zan (ms.map λm=>(m,m)) g (ns++xs)) (k:Int)) (gt (zan (ms.map λm=>(m,m)) g (ns++xs)) (c:Int)) g=_
   rw[e1,e2,zpV,e3]
 ·have s1:=zwn net K hl (zan bs g (ns++xs)) g
  have s2:=C.sl (zan bs g (ns++xs)) l hl
  have e2:=C.fw bs
  have e3:zaL (e*g,e*g) (if l=k then (g,g) else (0,0)) g=(g*(if l=k then e else 0),g*(if l=k then e else 0)):=by
   by_cases h:l=k
   ·rw[if_pos h,if_pos h]
    exact znr hg (by grind)
   ·rw[if_neg h,if_neg h,zka hg,Int.mul_zero]
  rcases hv2 with h | h
  ·rw[zfq net h hl]
   show ((zaL (gt (zan bs g (ns++xs)) (c:Int)) (gs (zaz (zan bs g (ns++xs)) g q (ns++xs)) (k:Int) l) g).1+(zaL (gt (zan bs g (ns++xs)) (k:Int)) (gs (zaz (zan bs g (ns++xs)) g q (ns++xs)) (c:Int) l) g).1,(zaL (gt (zan bs g (ns++xs)) (c:Int)) (gs (zaz (zan bs g (ns++xs)) g q (ns++xs)) (k:Int) l) g).2+(zaL (gt (zan bs g (ns++xs)) (k:Int)) (gs (zaz (zan bs g (ns++xs)) g q (ns++xs)) (c:Int) l) g).2)=_
   rw[s1,s2,e2,zka hg,e3]
   simp
  ·rw[zfq net h hl]
   show ((zaL (gt (zan bs g (ns++xs)) (k:Int)) (gs (zaz (zan bs g (ns++xs)) g q (ns++xs)) (c:Int) l) g).1+(zaL (gt (zan bs g (ns++xs)) (c:Int)) (gs (zaz (zan bs g (ns++xs)) g q (ns++xs)) (k:Int) l) g).1,(zaL (gt (zan bs g (ns++xs)) (k:Int)) (gs (zaz (zan bs g (ns++xs)) g q (ns++xs)) (c:Int) l) g).2+(zaL (gt (zan bs g (ns++xs)) (c:Int)) (gs (zaz (zan bs g (ns++xs)) g q (ns++xs)) (k:Int) l) g).2)=_
   rw[s1,s2,e2,zka hg,e3]
   simp
theorem zyi {q j a b:Nat}{g y z:Int}{f h:Nat→Int}{ns:List Nd}(hv:ns[j]?=some (.plus (a:Int) (b:Int)))(ha:zba q g ns a f y)(hb:zba q g ns b h z):zba q g ns j (λl=>f l+h l) (y+z):=λxs ws net=>by
 have A:=ha xs ws net
 have B:=hb xs ws net
 have V:=zfC (ms:=xs) hv
 refine⟨λms hl=>?_,λbs l hl=>?_⟩
 ·rw[zeu net V]
  show ((gt (zan (ms.map λm=>(m,m)) g (ns++xs)) (a:Int)).1+(gt (zan (ms.map λm=>(m,m)) g (ns++xs)) (b:Int)).1,(gt (zan (ms.map λm=>(m,m)) g (ns++xs)) (a:Int)).2+(gt (zan (ms.map λm=>(m,m)) g (ns++xs)) (b:Int)).2)=_
  rw[A.fw ms hl,B.fw ms hl]
  have e:zad q (λk=>(f k+h k)*ms.getD k 0)=zad q (λk=>f k*ms.getD k 0)+zad q (λk=>h k*ms.getD k 0):=by
   rw[← zdZ]
   exact zby _ λk _=>Int.add_mul _ _ _
  dsimp only
  rw[e]
  refine Prod.ext ?_ ?_ <;> (dsimp only; omega)
 ·rw[zfq net V hl]
  show ((gs (zaz (zan bs g (ns++xs)) g q (ns++xs)) (a:Int) l).1+(gs (zaz (zan bs g (ns++xs)) g q (ns++xs)) (b:Int) l).1,(gs (zaz (zan bs g (ns++xs)) g q (ns++xs)) (a:Int) l).2+(gs (zaz (zan bs g (ns++xs)) g q (ns++xs)) (b:Int) l).2)=_
  rw[A.sl bs l hl,B.sl bs l hl]
  dsimp only
  rw[Int.mul_add]
theorem zta {q j a b:Nat}{g y c:Int}{f:Nat→Int}{ns:List Nd}(hv:ns[j]?=some (.minus (a:Int) (b:Int)))(ha:zba q g ns a f y)(hb:zcS q g ns b c):zba q g ns j f (y-c):=λxs ws net=>by
 have A:=ha xs ws net
 have B:=hb xs ws net
 have V:=zfC (ms:=xs) hv
 refine⟨λms hl=>?_,λbs l hl=>?_⟩
 ·rw[zeu net V]
  show ((gt (zan (ms.map λm=>(m,m)) g (ns++xs)) (a:Int)).1-(gt (zan (ms.map λm=>(m,m)) g (ns++xs)) (b:Int)).2,(gt (zan (ms.map λm=>(m,m)) g (ns++xs)) (a:Int)).2-(gt (zan (ms.map λm=>(m,m)) g (ns++xs)) (b:Int)).1)=_
  rw[A.fw ms hl,B.fw]
  refine Prod.ext ?_ ?_ <;> (dsimp only; omega)
 ·rw[zfq net V hl]
  show ((gs (zaz (zan bs g (ns++xs)) g q (ns++xs)) (a:Int) l).1-(gs (zaz (zan bs g (ns++xs)) g q (ns++xs)) (b:Int) l).2,(gs (zaz (zan bs g (ns++xs)) g q (ns++xs)) (a:Int) l).2-(gs (zaz (zan bs g (ns++xs)) g q (ns++xs)) (b:Int) l).1)=_
  rw[A.sl bs l hl,B.sl _ l hl]
  simp
theorem zp9 {q:Nat}{ns:List Nd}{j:Nat}(hj:j<ns.length)(vs:List (Int×Int))(g:Int):((zaz vs g q ns).getD j []).length=q:=by
 have hv:=Vaa hj
 have e1:(zaz vs g q ns).getD j []=(zaz vs g q (ns.take (j+1))).getD j []:=by
  rw[← zn6,Vaf,Vaf,List.getElem?_take,if_pos (by omega)]
 rw[e1,zca hv,zgO]
 have ln:(zaz vs g q (ns.take j)).length=j:=by rw[zef,Vau]; omega
 rw[Vaf,Vaz (by omega),ln,VaX]
 exact zq2
theorem zhH {α:Type}{xs:List α}{q:Nat}{f:Nat→α}(hl:xs.length=q)(h:∀k,k<q→xs[k]?=some (f k)):xs=(List.range q).map f:=by
 refine VaY λk=>?_
 by_cases hk:k<q
 ·rw[h k hk,Vae,VaE hk]
  rfl
 ·rw[VaC (by omega),VaC (by simpa using hk)]
def Sys (q:Nat)(g:Int)(ns:List Nd)(is:List Nat)(a:Nat→Nat→Int)(y:Nat→Int):Prop:=is.length=q∧∀(r i:Nat),is[r]?=some i→i<ns.length∧Lin q g ns i (a r) (y r)
theorem zo6 {g:Int}{bs:List (Int×Int)}{ns:List Nd}{rows:List (Bool×Nat)}{a:Nat→Nat→Int}{y:Nat→Int}(h:Sys bs.length g ns (eqs rows) a y):zcn g bs ns rows=(List.range bs.length).map λr=>(List.range bs.length).map λl=>(g*a r l,g*a r l):=by
 unfold zcn
 refine zhH (by rw[Vac]; exact h.1) λr hr=>?_
 obtain⟨i,hi⟩:∃i,(eqs rows)[r]?=some i:=⟨_,Vaa (show r<(eqs rows).length by rw[h.1]; exact hr)⟩
 obtain⟨h1,h2⟩:=h.2 r i hi
 rw[Vae,hi]
 show some ((zaz (zan bs g ns) g bs.length ns).getD i [])=_
 congr 1
 refine zhH (zp9 h1 _ _) λl hl=>?_
 have z:=h2.sl bs l hl
 have ll:l<((zaz (zan bs g ns) g bs.length ns).getD i []).length:=by rw[zp9 h1]; exact hl
 rw[Vaa ll]
 congr 1
 have z2:((zaz (zan bs g ns) g bs.length ns).getD i []).getD l (0,0)=(g*a r l,g*a r l):=by
  rw[← z]
  show _=((zaz (zan bs g ns) g bs.length ns).getD ((i:Nat):Int).toNat []).getD l (0,0)
  rw[Vah]
 rw[Vaf,Vaa ll] at z2
 exact z2
theorem ztN (x:Int):mid (x,x)=x:=by
 show (x+x)/2=x
 omega
theorem zp8 {g:Int}{bs:List (Int×Int)}{ns:List Nd}{rows:List (Bool×Nat)}{a:Nat→Nat→Int}{y:Nat→Int}(h:Sys bs.length g ns (eqs rows) a y):zbc g bs ns rows=(mtx bs.length a).map λr=>r.map (g*·):=by
 unfold zbc
 rw[zo6 h]
 unfold mtx
 rw[Vag,Vag]
 refine VaI λr _=>?_
 show ((List.range bs.length).map λl=>(g*a r l,g*a r l)).map mid=((List.range bs.length).map (a r)).map (g*·)
 rw[Vag,Vag]
 refine VaI λl _=>?_
 exact ztN _
theorem zva {g:Int}{bs:List (Int×Int)}{ns:List Nd}{rows:List (Bool×Nat)}{a:Nat→Nat→Int}{y:Nat→Int}(h:Sys bs.length g ns (eqs rows) a y):zeI g bs ns rows=(List.range bs.length).map λr=>(zad bs.length (λk=>a r k*(bs.map mid).getD k 0)+y r,zad bs.length (λk=>a r k*(bs.map mid).getD k 0)+y r):=by
 unfold zeI
 refine zhH (by rw[Vac]; exact h.1) λr hr=>?_
 obtain⟨i,hi⟩:∃i,(eqs rows)[r]?=some i:=⟨_,Vaa (show r<(eqs rows).length by rw[h.1]; exact hr)⟩
 obtain⟨h1,h2⟩:=h.2 r i hi
 rw[Vae,hi]
 have z:=h2.fw (bs.map mid) (by simp)
 rw[Vag] at z
 exact congrArg some z
theorem ztW (g:Int)(M:List (List Int))(r c:Nat):zaA (M.map λr=>r.map (g*·)) r c=(zaA M r c).map λr=>r.map (g*·):=by
 unfold zaA
 rw[← VaZ,← VaT,← Vav,Vag,Vag]
 refine VaI λe _=>?_
 show (e.map (g*·)).take c++(e.map (g*·)).drop (c+1)=(e.take c++e.drop (c+1)).map (g*·)
 rw[Vav,VaZ,VaT]
theorem zwT (x y:Int)(k:Nat):sgn (x*y) k=x*sgn y k:=by
 unfold sgn
 split
 ·rw[Int.mul_neg]
 ·rfl
theorem zvQ {n:Nat}{g:Int}(hn:n≤3)(hg:1≤g){a b:Nat→Nat→Int}(inv:∀r c,r<n+1→c<n+1→zad (n+1) (λl=>b r l*a l c)=if r=c then 1 else 0)(hd:zas (n+1) (mtx (n+1) a)≠0):zbO ((mtx (n+1) a).map λr=>r.map (g*·)) n (zas (n+1) ((mtx (n+1) a).map λr=>r.map (g*·))) g=(List.range (n+1)).map λi=>(List.range (n+1)).map λj=>g*b i j:=by
 unfold zbO
 refine VaI λi hi=>?_
 unfold zd7
 refine VaI λj hj=>?_
 unfold zeW
 rw[ztW,zhe,zhe,zwT]
 have z:=ztJ hn (VaR.mp hj) (VaR.mp hi) a b inv
 unfold zaF at z
 rw[z]
 generalize zas (n+1) (mtx (n+1) a)=d at hd
 have hp:g^(n+1)≠0:=by
  have:0<g^(n+1):=VaS (by omega)
  omega
 have e:g^n*(d*b i j)*g*g=(g^(n+1)*d)*(g*b i j):=by
  rw[Va5]
  grind
 rw[e]
 exact Int.mul_fdiv_cancel_left _ (Int.mul_ne_zero hp hd)
theorem zok {g:Int}(hg:1≤g)(x y w:Nat→Int)(e:∀j,x j*y j=w j*g):∀q:Nat,sumP g ((List.range q).map λj=>(x j,x j)) ((List.range q).map λj=>(y j,y j))=(zad q w,zad q w)
 | 0=>rfl
 | q+1=>by
  have ih:=zok hg x y w e q
  unfold sumP at ih ⊢
  rw[Vaj,Vav,Vav,List.zip_append (by simp),List.foldl_append,ih]
  show zij (zad q w,zad q w) (zaL (x q,x q) (y q,y q) g)=_
  rw[znr hg (e q)]
  rfl
theorem zwZ {g:Int}(hg:1≤g):∀(us vs:List (Int×Int)),(∀u∈us,u=(0,0))→sumP g us vs=(0,0):=λus vs h=>by
 rw[← zn7]
 have main:∀k:Nat,k≤us.length→k≤vs.length→sumP g (us.take k) (vs.take k)=(0,0):=λk=>by
  induction k with
  | zero=>exact λ_ _=>rfl
  | succ k ih=>
   intro l1 l2
   have hu:=Vaa (show k<us.length by omega)
   have hv:=Vaa (show k<vs.length by omega)
   rw[zi2 g us vs k hu hv,ih (by omega) (by omega),h _ (VaH ..),zpV,zka hg]
   rfl
 exact main _ (by omega) (by omega)
theorem zsl {n k:Nat}{g:Int}(hg:1≤g){a b:Nat→Nat→Int}{p:Nat→Int}{bs:List (Int×Int)}(hb:bs.length=n+1)(hk:k<n+1)(inv:∀r c,r<n+1→c<n+1→zad (n+1) (λl=>b r l*a l c)=if r=c then 1 else 0):zdI g bs ((List.range (n+1)).map λr=>(zad (n+1) (λk=>a r k*(bs.map mid).getD k 0) + -(zad (n+1) λk=>a r k*p k),zad (n+1) (λk=>a r k*(bs.map mid).getD k 0) + -(zad (n+1) λk=>a r k*p k))) ((List.range (n+1)).map λr=>(List.range (n+1)).map λl=>(g*a r l,g*a r l)) k ((List.range (n+1)).map λj=>g*b k j)=(p k,p k):=by
 have em:zbe (gt bs (k:Int))=((bs.map mid).getD k 0,(bs.map mid).getD k 0):=by
  have hv:=Vaa (show k<bs.length by omega)
  rw[zfT hv,Vaf,Vae,hv]
  rfl
 have ee:((List.range (n+1)).map λj=>g*b k j).map (λe=>(e,e))=(List.range (n+1)).map λj=>(g*b k j,g*b k j):=by
  rw[Vag]
  rfl
 have lk:∀u∈(List.range bs.length).map (λc=>zcb g k c ((List.range (n+1)).map λj=>(g*b k j,g*b k j)) ((List.range (n+1)).map λr=>(List.range (n+1)).map λl=>(g*a r l,g*a r l))),u=(0,0):=λu hu=>by
  obtain⟨c,hc,rfl⟩:=Vai.mp hu
  have hc':=VaR.mp hc
  rw[hb] at hc'
  unfold zcb
  have er:((List.range (n+1)).map λr=>(List.range (n+1)).map λl=>(g*a r l,g*a r l)).map (λr=>r.getD c (0,0))=(List.range (n+1)).map λj=>(g*a j c,g*a j c):=by
   rw[Vag]
   refine VaI λr _=>?_
   show ((List.range (n+1)).map λl=>(g*a r l,g*a r l)).getD c (0,0)=_
   rw[Vaf,Vae,VaE hc']
   rfl
  rw[er,zok hg (λj=>g*b k j) (λj=>g*a j c) (λj=>g*(b k j*a j c)) (λj=>by grind),zdd,inv k c hk hc']
  by_cases h:k=c
  ·rw[if_pos h,if_pos h,Int.mul_one]
   show (g-g,g-g)=_
   simp
  ·rw[if_neg h,if_neg h,Int.mul_zero]
   rfl
 unfold zdI
 rw[ee,zwZ hg _ _ lk,em]
 rw[zok hg (λj=>g*b k j) (λr=>zad (n+1) (λk=>a r k*(bs.map mid).getD k 0) + -(zad (n+1) λk=>a r k*p k)) (λr=>b k r*(zad (n+1) (λk=>a r k*(bs.map mid).getD k 0) + -(zad (n+1) λk=>a r k*p k))) (λj=>by grind)]
 have key:∀w:Nat→Int,zad (n+1) (λr=>b k r*zad (n+1) (λl=>a r l*w l))=w k:=λw=>by
  have e1:zad (n+1) (λr=>b k r*zad (n+1) (λl=>a r l*w l))=zad (n+1) (λr=>zad (n+1) λl=>b k r*(a r l*w l)):=zby _ λr _=>by rw[zdd]
  rw[e1,znM]
  have e2:zad (n+1) (λl=>zad (n+1) λr=>b k r*(a r l*w l))=zad (n+1) (λl=>(if l=k then 1 else 0)*w l):=zby _ λl hl=>by
   have z:=inv k l hk hl
   have e3:zad (n+1) (λr=>b k r*(a r l*w l))=w l*zad (n+1) (λr=>b k r*a r l):=by
    rw[← zdd]
    exact zby _ λr _=>by grind
   rw[e3,z]
   by_cases h:l=k
   ·rw[if_pos h,if_pos h.symm]; omega
   ·rw[if_neg h,if_neg λq=>h q.symm]; omega
  rw[e2,zde,if_pos hk]
 have e4:zad (n+1) (λr=>b k r*(zad (n+1) (λk=>a r k*(bs.map mid).getD k 0) + -(zad (n+1) λk=>a r k*p k)))=(bs.map mid).getD k 0-p k:=by
  rw[← key (λl=>(bs.map mid).getD l 0),← key p]
  have e5:zad (n+1) (λr=>b k r*(zad (n+1) (λk=>a r k*(bs.map mid).getD k 0) + -(zad (n+1) λk=>a r k*p k)))=zad (n+1) (λr=>b k r*zad (n+1) (λk=>a r k*(bs.map mid).getD k 0) + -1*(b k r*zad (n+1) λk=>a r k*p k)):=zby _ λr _=>by grind
  rw[e5,zdZ,zdd]
  omega
 rw[e4]
 show ((bs.map mid).getD k 0-((bs.map mid).getD k 0-p k)+0,(bs.map mid).getD k 0-((bs.map mid).getD k 0-p k)+0)=_
 refine Prod.ext ?_ ?_ <;> (dsimp only; omega)
theorem zpH {n:Nat}{g:Int}(hn:n≤3)(hg:1≤g){a b:Nat→Nat→Int}{p:Nat→Int}{bs:List (Int×Int)}{ns:List Nd}{rows:List (Bool×Nat)}(hb:bs.length=n+1)(h:Sys bs.length g ns (eqs rows) a (λr=>-(zad (n+1) λk=>a r k*p k)))(inv:∀r c,r<n+1→c<n+1→zad (n+1) (λl=>b r l*a l c)=if r=c then 1 else 0)(hd:zas (n+1) (mtx (n+1) a)≠0):alS g bs ns rows=if zdl rows (zan bs g ns)=true∧zbR ((List.range (n+1)).map λk=>(p k,p k)) bs=true then some ((List.range (n+1)).map λi=>(List.range (n+1)).map λj=>g*b i j,(List.range (n+1)).map λk=>(p k,p k)) else none:=by
 have hs:=zo6 h
 have ht:=zva h
 have hm:=zp8 h
 rw[hb] at hs ht hm
 have hi:=zvQ hn hg inv hd
 have dz:zas (n+1) ((mtx (n+1) a).map λr=>r.map (g*·))≠0:=by
  rw[zhe]
  have:0<g^(n+1):=VaS (by omega)
  exact Int.mul_ne_zero (by omega) hd
 have nr:zd5 g bs ns rows ((List.range (n+1)).map λi=>(List.range (n+1)).map λj=>g*b i j)=(List.range (n+1)).map λk=>(p k,p k):=by
  unfold zd5
  refine zhH (by simp) λk hk=>?_
  rw[List.getElem?_mapIdx,Vae,VaE hk]
  show some (zdI g bs (zeI g bs ns rows) (zcn g bs ns rows) k ((List.range (n+1)).map λj=>g*b k j))=_
  rw[hs,ht,zsl hg hb hk inv]
 unfold alS
 rw[hb,hm,show n+1-1=n by omega,hi,nr]
 have hl:(eqs rows).length=n+1:=by rw[h.1,hb]
 cases zdl rows (zan bs g ns)
 ·rw[if_neg (by simp),if_neg (by simp)]
 ·rw[if_pos ⟨hl,rfl⟩,if_neg dz]
  cases zbR ((List.range (n+1)).map λk=>(p k,p k)) bs
  ·rw[if_neg (by simp),if_neg (by simp)]
  ·rw[if_pos rfl,if_pos ⟨rfl,rfl⟩]
theorem zv5 {n s:Nat}{g:Int}(hn:n≤3){a:Nat→Nat→Int}{y:Nat→Int}{bs:List (Int×Int)}{ns:List Nd}{rows:List (Bool×Nat)}(hb:bs.length=n+1)(h:Sys bs.length g ns (eqs rows) a y)(s1:0<s)(s2:s<n+1)(e:a s=a 0):alS g bs ns rows=none:=by
 have hm:=zp8 h
 rw[hb] at hm
 have z:=lap hn a (r:=0) (s:=s) (by omega) s2
 have w:=lap hn a (r:=s) (s:=s) s2 s2
 rw[if_neg (by omega)] at z
 rw[if_pos rfl,e,z] at w
 unfold alS
 rw[hb,hm,zhe,← w]
 simp
theorem zrZ {g:Int}{bs:List (Int×Int)}{ns:List Nd}{rows:List (Bool×Nat)}(h:(eqs rows).length≠bs.length):alS g bs ns rows=none:=by
 unfold alS
 rw[if_neg (λz=>h z.1)]
def zbX:Nat→Int
 | 0=>1
 | 1=>1
 | n+2=>2*zbX (n+1)+zbX n
theorem zfK:∀n:Nat,1≤zbX n∧zbX n≤zbX (n+1)
 | 0=>by decide
 | n+1=>by
  have h:=zfK n
  refine⟨by omega,?_⟩
  show zbX (n+1)≤2*zbX (n+1)+zbX n
  omega
def zbA (q:Nat)(f:Nat→Int):Int:=zad q λl=>((f l).natAbs:Int)
theorem zoT {f h:Nat→Int}:∀n,(∀k,k<n→f k≤h k)→zad n f≤zad n h
 | 0,_=>VaJ _
 | n+1,e=>by
  have a:=zoT n λk hk=>e k (by omega)
  have b:=e n (by omega)
  show zad n f+f n≤zad n h+h n
  omega
theorem zts (q:Nat)(f:Nat→Int):0≤zbA q f:=by
 have z:=zoT (f:=λ_=>0) (h:=λl=>((f l).natAbs:Int)) q λk _=>by omega
 rw[zoh] at z
 exact z
theorem zk2 (f:Nat→Int):∀ {q k:Nat},k<q→((f k).natAbs:Int)≤zbA q f
 | 0,_,h=>absurd h (by omega)
 | q+1,k,h=>by
  show _≤zad q (λl=>((f l).natAbs:Int))+((f q).natAbs:Int)
  have n:=zts q f
  unfold zbA at n
  by_cases e:k=q
  ·subst e; omega
  ·have:=zk2 f (q:=q) (k:=k) (by omega)
   unfold zbA at this
   omega
theorem zyx (q:Nat)(f:Nat→Int):zbA q (λl=>-(f l))=zbA q f:=zby _ λl _=>by rw[Int.natAbs_neg]
theorem zs5 (q:Nat)(f h:Nat→Int)(t:Int)(ht:t.natAbs≤2):zbA q (λl=>f l+t*h l)≤zbA q f+2*zbA q h:=by
 unfold zbA
 rw[← zdd,← zdZ]
 refine zoT _ λk _=>?_
 have a:=Int.natAbs_add_le (f k) (t*h k)
 rw[Vbg] at a
 have b:=Nat.mul_le_mul_right (h k).natAbs ht
 show ((f k+t*h k).natAbs:Int)≤((f k).natAbs:Int)+2*((h k).natAbs:Int)
 omega
theorem zvn (f p:Nat→Int){B:Nat}{q:Nat}(hp:∀k,k<q→(p k).natAbs≤B):((zad q λk=>f k*p k).natAbs:Int)≤B*zbA q f:=by
 induction q with
 | zero=>show ((0:Int).natAbs:Int)≤B*0; simp
 | succ q ih=>
  have a:=ih λk hk=>hp k (by omega)
  show ((zad q (λk=>f k*p k)+f q*p q).natAbs:Int)≤B*(zbA q f+((f q).natAbs:Int))
  have b:=Int.natAbs_add_le (zad q λk=>f k*p k) (f q*p q)
  rw[Vbg] at b
  have c:=Nat.mul_le_mul_left (f q).natAbs (hp q (by omega))
  have e:(((f q).natAbs*B:Nat):Int)=B*((f q).natAbs:Int):=by rw[Int.natCast_mul]; exact VaL _ _
  rw[Int.mul_add]
  omega
structure Trn (q k:Nat)(a b:Nat→Nat→Int):Prop where
 inv:∀r c,r<q→c<q→zad q (λl=>b r l*a l c)=if r=c then 1 else 0
 det:zas q (mtx q a)≠0
 sb:∀r c,(b r c).natAbs≤3^k
 sa:∃s,∀r,r<q→zbA q (a r)≤zbX (k+1)∧(r≠s→zbA q (a r)≤zbX k)
def idA (r c:Nat):Int:=if r=c then 1 else 0
theorem zxs:∀n,n≤3→zas (n+1) (mtx (n+1) idA)≠0
 | 0,_=>by decide
 | 1,_=>by decide
 | 2,_=>by decide
 | 3,_=>by decide
theorem zrC {n:Nat}(hn:n≤3):Trn (n+1) 0 idA idA:=by
 have hr:∀r,r<n+1→zbA (n+1) (idA r)=1:=λr hr=>by
  have z:=zde r (λ_=>1) (n+1)
  rw[if_pos hr] at z
  rw[← z]
  refine zby _ λl _=>?_
  unfold idA
  by_cases h:r=l
  ·rw[if_pos h,if_pos h.symm]; rfl
  ·rw[if_neg h,if_neg λe=>h e.symm]; rfl
 refine⟨λr c h1 h2=>?_,zxs n hn,λr c=>?_,0,λr h=>?_⟩
 ·have z:=zde r (λl=>idA l c) (n+1)
  rw[if_pos h1] at z
  rw[show (if r=c then (1:Int) else 0)=idA r c from rfl,← z]
  refine zby _ λl _=>?_
  have e:idA r l=if l=r then 1 else 0:=by
   unfold idA
   by_cases h:r=l
   ·rw[if_pos h,if_pos h.symm]
   ·rw[if_neg h,if_neg λe=>h e.symm]
  rw[e]
 ·unfold idA
  split <;> decide
 ·rw[hr r h]
  exact⟨by decide,λ_=>by decide⟩
def zcv (s:Nat)(a:Nat→Nat→Int):Nat→Nat→Int:=λi c=>if i=s then -(a i c) else a i c
def zds (s:Nat)(b:Nat→Nat→Int):Nat→Nat→Int:=λr c=>if c=s then -(b r c) else b r c
def zb3 (s j:Nat)(t:Int)(a:Nat→Nat→Int):Nat→Nat→Int:=λi c=>if i=s then a s c+t*a j c else a i c
def zdn (s j:Nat)(t:Int)(b:Nat→Nat→Int):Nat→Nat→Int:=λr c=>if c=j then b r j-t*b r s else b r c
theorem Trn.neg {n k s:Nat}{a b:Nat→Nat→Int}(hn:n≤3)(hs:s<n+1)(h:Trn (n+1) k a b):Trn (n+1) (k+1) (zcv s a) (zds s b):=by
 obtain⟨h1,h2,h3,s0,h4⟩:=h
 have p1:=zfK k
 have p2:=zfK (k+1)
 refine⟨λr c hr hc=>?_,?_,λr c=>?_,s0,λr hr=>?_⟩
 ·rw[← h1 r c hr hc]
  refine zby _ λl _=>?_
  unfold zcv zds
  by_cases e:l=s
  ·rw[if_pos e,if_pos e,Int.neg_mul_neg]
  ·rw[if_neg e,if_neg e]
 ·have z:=zsa hn hs a
  rw[show (λi c=>if i=s then -(a i c) else a i c)=zcv s a from rfl] at z
  omega
 ·have z:=h3 r c
  rw[Nat.pow_succ]
  unfold zds
  split <;> omega
 ·have e:zbA (n+1) (zcv s a r)=zbA (n+1) (a r):=by
   unfold zcv
   by_cases q:r=s
   ·simp only[if_pos q]; exact zyx _ _
   ·simp only[if_neg q]
  rw[e]
  have z:=h4 r hr
  exact⟨by omega,λ_=>by omega⟩
theorem Trn.add {n k s j:Nat}{t:Int}{a b:Nat→Nat→Int}(hn:n≤3)(hs:s<n+1)(hj:j<n+1)(hne:j≠s)(ht:t.natAbs≤2)(h:Trn (n+1) k a b):Trn (n+1) (k+1) (zb3 s j t a) (zdn s j t b):=by
 obtain⟨h1,h2,h3,s0,h4⟩:=h
 have p1:=zfK k
 have p2:=zfK (k+1)
 have p3:zbX (k+1+1)=2*zbX (k+1)+zbX k:=rfl
 refine⟨λr c hr hc=>?_,?_,λr c=>?_,s,λr hr=>?_⟩
 ·rw[← h1 r c hr hc]
  have e1:zad (n+1) (λl=>zdn s j t b r l*zb3 s j t a l c)=zad (n+1) (λl=>b r l*a l c+((if l=s then 1 else 0)*(t*(b r s*a j c))+(if l=j then 1 else 0) * -(t*(b r s*a j c)))):=zby _ λl _=>by
   unfold zb3 zdn
   by_cases e:l=s
   ·subst e
    rw[if_neg (λz=>hne z.symm),if_pos rfl,if_pos rfl,if_neg (λz=>hne z.symm)]
    grind
   ·by_cases e2:l=j
    ·subst e2
     rw[if_pos rfl,if_neg e,if_neg e,if_pos rfl]
     grind
    ·rw[if_neg e2,if_neg e,if_neg e,if_neg e2]
     grind
  have d1:=zde s (λ_=>t*(b r s*a j c)) (n+1)
  have d2:=zde j (λ_=>-(t*(b r s*a j c))) (n+1)
  rw[if_pos hs] at d1
  rw[if_pos hj] at d2
  rw[e1,zdZ,zdZ,d1,d2]
  omega
 ·have z:=zwH hn hs hj hne t a
  rw[show (λi c=>if i=s then a s c+t*a j c else a i c)=zb3 s j t a from rfl] at z
  rw[z]
  exact h2
 ·have z1:=h3 r c
  rw[Nat.pow_succ]
  unfold zdn
  split
  ·have z2:=h3 r j
   have z3:=h3 r s
   have y:=Vbg t (b r s)
   have x:=Nat.mul_le_mul ht z3
   omega
  ·omega
 ·unfold zb3
  by_cases e:r=s
  ·simp only[if_pos e]
   have z:=zs5 (n+1) (a s) (a j) t ht
   have zs:=h4 s hs
   have zj:=h4 j hj
   refine⟨?_,λq=>absurd e q⟩
   by_cases q:s=s0
   ·have w:=zj.2 (by omega)
    have w2:=zs.1
    omega
   ·have w:=zs.2 q
    have w2:=zj.1
    omega
  ·have e9:(λc=>if r=s then a s c+t*a j c else a r c)=a r:=by simp only[if_neg e]
   rw[e9]
   have z:=h4 r hr
   exact⟨Int.le_trans z.1 p2.2,λ_=>z.1⟩
theorem Trn.row {q k r:Nat}{a b:Nat→Nat→Int}(h:Trn q k a b)(hk:k≤6)(hr:r<q):zbA q (a r)≤239:=by
 obtain⟨s,h4⟩:=h.sa
 have z:=(h4 r hr).1
 have m:∀i j:Nat,zbX i≤zbX (i+j):=λi j=>by
  induction j with
  | zero=>exact VaJ _
  | succ j ih=>have:=(zfK (i+j)).2; rw[← Nat.add_assoc]; omega
 have y:=m (k+1) (6-k)
 rw[show k+1+(6-k)=7 by omega] at y
 have x:zbX 7=239:=by decide
 omega
abbrev rwI (q:Nat)(f:Nat→Int):Ob:=.lst (((List.range q).map f).map D.int)
structure Mx (S:Sto)(lo m1 m2 q k:Nat)(as bs:List Nat)(a b:Nat→Nat→Int):Prop where
 la:as.length=k
 lb:bs.length=k
 h1:S[m1]?=some (.lst (as.map D.ref))
 h2:S[m2]?=some (.lst (bs.map D.ref))
 ra:∀r x,as[r]?=some x→lo≤x∧S[x]?=some (rwI q (a r))
 rb:∀r x,bs[r]?=some x→lo≤x∧S[x]?=some (rwI q (b r))
 nd:bs.Nodup
 dj:∀x∈as,x ∉ bs
theorem Mx.start (S:Sto)(q:Nat)(a b:Nat→Nat→Int):Mx (S++[.lst []]++[.lst []]) (S.length+2) S.length (S++[Ob.lst []]).length q 0 [] [] a b:=⟨rfl,rfl,zaB (zax _ _),zax _ _,λr x h=>by simp at h,λr x h=>by simp at h,List.nodup_nil,λx h=>by simp at h⟩
theorem zmX {α:Type}{xs:List α}{y x:α}{r:Nat}(h:(xs++[y])[r]?=some x):xs[r]?=some x∨r=xs.length∧x=y:=by
 by_cases c:r<xs.length
 ·rw[Vao c] at h
  exact .inl h
 ·have hl:=(Vab.mp h).1
  rw[Var] at hl
  have e:r=xs.length:=by have:[y].length=1:=rfl; omega
  subst e
  rw[Vaz (Vad _),VaX] at h
  exact .inr ⟨rfl,(Option.some.inj h).symm⟩
theorem Mx.lt {S:Sto}{lo m1 m2 q k:Nat}{as bs:List Nat}{a b:Nat→Nat→Int}(h:Mx S lo m1 m2 q k as bs a b):(∀x∈as,lo≤x∧x<S.length)∧(∀x∈bs,lo≤x∧x<S.length):=by
 refine⟨λx hx=>?_,λx hx=>?_⟩
 ·obtain⟨r,hr⟩:=Vbi.mp hx
  exact⟨(h.ra r x hr).1,zbo (h.ra r x hr).2⟩
 ·obtain⟨r,hr⟩:=Vbi.mp hx
  exact⟨(h.rb r x hr).1,zbo (h.rb r x hr).2⟩
theorem Mx.snoc {S:Sto}{lo m1 m2 q k:Nat}{as bs:List Nat}{a b:Nat→Nat→Int}(h:Mx S lo m1 m2 q k as bs a b)(l1:m1<m2)(l2:m2<lo)(l3:lo≤S.length):
  Mx ((((S++[rwI q (a k)]).set m1 (.lst (as.map D.ref++[.ref S.length])))++[rwI q (b k)]).set m2 (.lst (bs.map D.ref++[.ref ((S++[rwI q (a k)]).set m1 (.lst (as.map D.ref++[.ref S.length]))).length]))) lo m1 m2 q (k+1) (as++[S.length]) (bs++[S.length+1]) a b:=by
 have e:((S++[rwI q (a k)]).set m1 (.lst (as.map D.ref++[.ref S.length]))).length=S.length+1:=by simp
 have at1:((S++[rwI q (a k)]).set m1 (.lst (as.map D.ref++[.ref S.length])))[m1]?=some (.lst (as.map D.ref++[.ref S.length])):=zb2 (zaB h.h1)
 have at2:(((S++[rwI q (a k)]).set m1 (.lst (as.map D.ref++[.ref S.length])))++[rwI q (b k)])[m2]?=some (.lst (bs.map D.ref)):=zaB (za9 (zaB h.h2) (by omega))
 have up:∀(x:Nat) (o:Ob),lo≤x→S[x]?=some o→((((S++[rwI q (a k)]).set m1 (.lst (as.map D.ref++[.ref S.length])))++[rwI q (b k)]).set m2 (.lst (bs.map D.ref++[.ref ((S++[rwI q (a k)]).set m1 (.lst (as.map D.ref++[.ref S.length]))).length])))[x]?=some o:=λx o hx ho=>za9 (zaB (za9 (zaB ho) (by omega))) (by omega)
 obtain⟨z1,z2⟩:=h.lt
 refine⟨by rw[Var,h.la]; rfl,by rw[Var,h.lb]; rfl,?_,?_,λr x hx=>?_,λr x hx=>?_,?_,λx hx=>?_⟩
 ·rw[Vav]
  exact za9 (zaB at1) (by omega)
 ·rw[Vav]
  have z:=zb2 (u:=.lst (bs.map D.ref++[.ref ((S++[rwI q (a k)]).set m1 (.lst (as.map D.ref++[.ref S.length]))).length])) at2
  rw[e] at z ⊢
  exact z
 ·rcases zmX hx with w | ⟨w1,w2⟩
  ·obtain⟨y1,y2⟩:=h.ra r x w
   exact⟨y1,up x _ y1 y2⟩
  ·rw[w2,w1,h.la]
   exact⟨l3,za9 (zaB (za9 (zax _ _) (by omega))) (by omega)⟩
 ·rcases zmX hx with w | ⟨w1,w2⟩
  ·obtain⟨y1,y2⟩:=h.rb r x w
   exact⟨y1,up x _ y1 y2⟩
  ·rw[w2,w1,h.lb]
   refine⟨by omega,za9 ?_ (by omega)⟩
   have z:=zax ((S++[rwI q (a k)]).set m1 (.lst (as.map D.ref++[.ref S.length]))) (rwI q (b k))
   rw[e] at z
   exact z
 ·rw[List.nodup_append]
  refine⟨h.nd,by simp,λx hx y hy=>?_⟩
  have:=(z2 x hx).2
  have:=List.mem_singleton.mp hy
  omega
 ·intro hb
  rcases VaO.mp hx with w | w
  ·have w1:=z1 x w
   rcases VaO.mp hb with v | v
   ·exact h.dj x w v
   ·have:=List.mem_singleton.mp v
    omega
  ·have w1:=List.mem_singleton.mp w
   rcases VaO.mp hb with v | v
   ·have:=z2 x v
    omega
   ·have:=List.mem_singleton.mp v
    omega
theorem zoM {α:Type}{xs:List α}{y x:α}{r s:Nat}(hs:s<xs.length)(h:(xs.set s y)[r]?=some x):(r≠s∧xs[r]?=some x)∨(r=s∧x=y):=by
 by_cases e:s=r
 ·subst e
  rw[VaV hs] at h
  exact .inr ⟨rfl,(Option.some.inj h).symm⟩
 ·rw[VaB e] at h
  exact .inl ⟨λz=>e z.symm,h⟩
theorem Mx.setA {S:Sto}{lo m1 m2 q k s:Nat}{as bs:List Nat}{a b:Nat→Nat→Int}(h:Mx S lo m1 m2 q k as bs a b)(l1:m1<m2)(l2:m2<lo)(l3:lo≤S.length)(hs:s<k)(a':Nat→Nat→Int)(ha:∀r,r≠s→a' r=a r):
  Mx ((S++[rwI q (a' s)]).set m1 (.lst ((as.map D.ref).set s (.ref S.length)))) lo m1 m2 q k (as.set s S.length) bs a' b:=by
 have ls:s<as.length:=by rw[h.la]; exact hs
 obtain⟨z1,z2⟩:=h.lt
 refine⟨by rw[Va7]; exact h.la,h.lb,?_,za9 (zaB h.h2) (by omega),λr x hx=>?_,λr x hx=>?_,h.nd,λx hx hb=>?_⟩
 ·rw[List.map_set]
  exact zb2 (zaB h.h1)
 ·rcases zoM ls hx with ⟨w1,w2⟩ | ⟨w1,w2⟩
  ·obtain⟨y1,y2⟩:=h.ra r x w2
   rw[ha r w1]
   exact⟨y1,za9 (zaB y2) (by omega)⟩
  ·rw[w2,w1]
   exact⟨l3,za9 (zax _ _) (by omega)⟩
 ·obtain⟨y1,y2⟩:=h.rb r x hx
  exact⟨y1,za9 (zaB y2) (by omega)⟩
 ·obtain⟨r,hr⟩:=Vbi.mp hx
  rcases zoM ls hr with ⟨w1,w2⟩ | ⟨w1,w2⟩
  ·exact h.dj x (Val w2) hb
  ·have:=(z2 x hb).2
   omega
theorem zt0 {xs:List Nat}(h:xs.Nodup){i j x:Nat}(hi:xs[i]?=some x)(hj:xs[j]?=some x):i=j:=by
 obtain⟨li,ei⟩:=Vab.mp hi
 obtain⟨lj,ej⟩:=Vab.mp hj
 have z:=List.pairwise_iff_getElem.mp h
 by_cases c:i<j
 ·exact absurd (ei.trans ej.symm) (z i j li lj c)
 ·by_cases d:j<i
  ·exact absurd (ej.trans ei.symm) (z j i lj li d)
  ·omega
theorem Mx.setB {S:Sto}{lo m1 m2 q k s y:Nat}{as bs:List Nat}{a b:Nat→Nat→Int}(h:Mx S lo m1 m2 q k as bs a b)(l1:m1<m2)(l2:m2<lo)(hs:bs[s]?=some y)(b':Nat→Nat→Int)(hb:∀r,r≠s→b' r=b r):Mx (S.set y (rwI q (b' s))) lo m1 m2 q k as bs a b':=by
 have hy:=h.rb s y hs
 refine⟨h.la,h.lb,za9 h.h1 (by omega),za9 h.h2 (by omega),λr x hx=>?_,λr x hx=>?_,h.nd,h.dj⟩
 ·obtain⟨y1,y2⟩:=h.ra r x hx
  refine⟨y1,za9 y2 λe=>?_⟩
  subst e
  exact h.dj y (Val hx) (Val hs)
 ·obtain⟨y1,y2⟩:=h.rb r x hx
  by_cases e:r=s
  ·subst e
   rw[hs] at hx
   cases hx
   exact⟨y1,zb2 y2⟩
  ·rw[hb r e]
   refine⟨y1,za9 y2 λw=>?_⟩
   subst w
   exact e (zt0 h.nd hx hs)
def zdG (S:Sto)(m q:Nat)(f:Nat→Nat→Int):Prop:=∃as:List Nat,as.length=q∧S[m]?=some (.lst (as.map D.ref))∧∀r x,as[r]?=some x→S[x]?=some (rwI q (f r))
theorem zdG.pre {S T:Sto}{m q:Nat}{f:Nat→Nat→Int}(h:zdG S m q f)(p:Pre S T):zdG T m q f:=by
 obtain⟨as,h1,h2,h3⟩:=h
 exact⟨as,h1,p _ _ h2,λr x hx=>p _ _ (h3 r x hx)⟩
theorem Mx.matA {S:Sto}{lo m1 m2 q:Nat}{as bs:List Nat}{a b:Nat→Nat→Int}(h:Mx S lo m1 m2 q q as bs a b):zdG S m1 q a:=⟨as,h.la,h.h1,λr x hx=>(h.ra r x hx).2⟩
theorem Mx.matB {S:Sto}{lo m1 m2 q:Nat}{as bs:List Nat}{a b:Nat→Nat→Int}(h:Mx S lo m1 m2 q q as bs a b):zdG S m2 q b:=⟨bs,h.lb,h.h2,λr x hx=>(h.rb r x hx).2⟩
theorem zfZ {q k:Nat}{f:Nat→Int}(hk:k<q):atI (((List.range q).map f).map D.int) (k:Int)=some (.int (f k)):=zcV (j:=k) (by rw[Vae,Vae,VaE hk]; rfl)
theorem zop {as:List Nat}{k x:Nat}(h:as[k]?=some x):atI (as.map D.ref) (k:Int)=some (.ref x):=zcV (j:=k) (by rw[Vae,h]; rfl)
def Chg (c:Int)(q:Nat)(rs:List Nat)(rows:List (Bool×Nat)):Prop:=rows.length≤5∧(∀r∈rows,r.2∈rs∨r.2<q)∧
  (((c%8=0∨c%8=1)∧(eqs rows).length≠q)∨
   (c%8=2∧1<q∧∃s,0<s∧s<q∧rows=(rs.set s (rs.getD 0 0)).map λi=>(true,i))∨
   (c%8=3∧∃k:Nat,c/40%(q:Int)=(k:Int)∧k<q∧eqs rows=rs∧∀vs,zdl rows vs=decide (0≤(gt vs (k:Int)).1))∨
   (c%8≠0∧c%8≠1∧c%8≠3∧¬(c%8=2∧1<q)∧rows=rs.map λi=>(true,i)))
abbrev tr' (rs:List Nat):List (Bool×Nat):=rs.map λi=>((true,i):Bool×Nat)
theorem znp:∀rows:List (Bool×Nat),(∀r∈rows,r.1=true)→(eqs rows).length=rows.length
 | [],_=>rfl
 | (b,n)::rs,h=>by
  have e:b=true:=h (b,n) (by simp)
  subst e
  show (n::eqs rs).length=_
  rw[Vay,Vay,znp rs λr hr=>h r (by simp[hr])]
theorem zuz (rs:List Nat)(vs:List (Int×Int)):zdl (tr' rs) vs=true:=by
 unfold zdl
 rw[Vbh]
 intro r hr
 obtain⟨i,_,rfl⟩:=Vai.mp hr
 rfl
theorem zdy {rs:List Nat}{r:Bool×Nat}(h:r∈tr' rs):r.1=true∧r.2∈rs:=by
 obtain⟨i,hi,rfl⟩:=Vai.mp h
 exact⟨rfl,hi⟩
theorem zpv (R:List (Bool×Nat))(i:Nat)(z:Bool×Nat):(R.map rwD).take i++rwD z::(R.map rwD).drop i=(R.take i++z::R.drop i).map rwD:=by
 rw[Vav,Vas,VaZ,VaT]
theorem zm8 {R:List (Bool×Nat)}{i:Nat}{z r:Bool×Nat}(h:r∈R.take i++z::R.drop i):r∈R∨r=z:=by
 rcases VaO.mp h with w | w
 ·exact .inl (Vbb w)
 ·rcases Vaw.mp w with v | v
  ·exact .inr v
  ·exact .inl (Va4 v)
theorem zqs (R:List (Bool×Nat))(i:Nat)(z:Bool×Nat)(h:i≤R.length):(R.take i++z::R.drop i).length=R.length+1:=by
 rw[Var,Vay,Vau,Va1]
 omega
theorem chg0 {c:Int}{q i:Nat}{rs:List Nat}(q1:1≤q)(q4:q≤4)(l:rs.length=q)(h:c%8=0)(hi:i≤q):Chg c q rs ((tr' rs).take i++(true,rs.getD 0 0)::(tr' rs).drop i):=by
 have m0:rs.getD 0 0∈rs:=by
  rw[Vaf,Vaa (by omega)]
  exact VaH ..
 have lr:(tr' rs).length=q:=by rw[Vac]; exact l
 have ln:=zqs (tr' rs) i (true,rs.getD 0 0) (by omega)
 refine⟨by omega,λr hr=>?_,.inl ⟨.inl h,?_⟩⟩
 ·rcases zm8 hr with w | w
  ·exact .inl (zdy w).2
  ·rw[w]; exact .inl m0
 ·rw[znp _ λr hr=>?_]
  ·omega
  ·rcases zm8 hr with w | w
   ·exact(zdy w).1
   ·rw[w]
theorem chg1 {c:Int}{q i:Nat}{rs:List Nat}(q1:1≤q)(q4:q≤4)(l:rs.length=q)(h:c%8=1)(hi:i<q):Chg c q rs ((tr' rs).eraseIdx i):=by
 have lr:(tr' rs).length=q:=by rw[Vac]; exact l
 have ln:((tr' rs).eraseIdx i).length=q-1:=by rw[List.length_eraseIdx,lr,if_pos hi]
 refine⟨by omega,λr hr=>.inl (zdy (List.mem_of_mem_eraseIdx hr)).2,.inl ⟨.inr h,?_⟩⟩
 rw[znp _ λr hr=>(zdy (List.mem_of_mem_eraseIdx hr)).1]
 omega
theorem chg2 {c:Int}{q s:Nat}{rs:List Nat}(q4:q≤4)(l:rs.length=q)(h:c%8=2)(hq:1<q)(s1:0<s)(s2:s<q):Chg c q rs ((tr' rs).set s (true,rs.getD 0 0)):=by
 have m0:rs.getD 0 0∈rs:=by
  rw[Vaf,Vaa (by omega)]
  exact VaH ..
 have e:(tr' rs).set s (true,rs.getD 0 0)=tr' (rs.set s (rs.getD 0 0)):=by
  rw[tr',tr',List.map_set]
 rw[e]
 refine⟨by rw[Vac,Va7]; omega,λr hr=>?_,.inr (.inl ⟨h,hq,s,s1,s2,rfl⟩)⟩
 rcases List.mem_or_eq_of_mem_set (zdy hr).2 with w | w
 ·exact .inl w
 ·rw[w]; exact .inl m0
theorem chg3 {c:Int}{q i k:Nat}{rs:List Nat}(q4:q≤4)(l:rs.length=q)(h:c%8=3)(hi:i≤q)(hk:c/40%(q:Int)=(k:Int))(kq:k<q):Chg c q rs ((tr' rs).take i++(false,k)::(tr' rs).drop i):=by
 have lr:(tr' rs).length=q:=by rw[Vac]; exact l
 have ln:=zqs (tr' rs) i (false,k) (by omega)
 refine⟨by omega,λr hr=>?_,.inr (.inr (.inl ⟨h,k,hk,kq,zym rs i k,λvs=>?_⟩))⟩
 ·rcases zm8 hr with w | w
  ·exact .inl (zdy w).2
  ·rw[w]; exact .inr kq
 ·have t1:((tr' rs).take i).all (λr=>r.1||decide (0≤(gt vs (r.2:Int)).1))=true:=by
   rw[Vbh]
   exact λr hr=>by rw[(zdy (Vbb hr)).1]; rfl
  have t2:((tr' rs).drop i).all (λr=>r.1||decide (0≤(gt vs (r.2:Int)).1))=true:=by
   rw[Vbh]
   exact λr hr=>by rw[(zdy (Va4 hr)).1]; rfl
  unfold zdl
  rw[List.all_append,List.all_cons,t1,t2]
  simp
theorem chg4 {c:Int}{q:Nat}{rs:List Nat}(q4:q≤4)(l:rs.length=q)(h0:c%8≠0)(h1:c%8≠1)(h3:c%8≠3)(h2:¬(c%8=2∧1<q)):Chg c q rs (tr' rs):=⟨by rw[Vac]; omega,λr hr=>.inl (zdy hr).2,.inr (.inr (.inr ⟨h0,h1,h3,h2,rfl⟩))⟩
theorem ztf {S:Sto}{n:Nat}{o:Ob}(h:S[n]?=some o):S.set n o=S:=by
 refine VaY λk=>?_
 by_cases e:n=k
 ·subst e
  rw[h]
  exact zb2 h
 ·rw[VaB e]
def zdD (c:Int)(q:Nat)(bs:List (Int×Int)):Prop:=¬(c%8=0∨c%8=1∨(c%8=2∧1<q))∧(c%8≠3∨0≤(gt bs (c/40%(q:Int))).1)
theorem zt5 {n:Nat}{g c:Int}{a b:Nat→Nat→Int}{p:Nat→Int}{bs:List (Int×Int)}{ns:List Nd}{ws rs:List Nat}{rows:List (Bool×Nat)}(hn:n≤3)(hg:1≤g)(hb:bs.length=n+1)(lr:rs.length=n+1)(net:zaJ bs.length ns ws)(zr:∀i j,rs[i]?=some j→j<ns.length∧Lin (n+1) g ns j (a i) (-(zad (n+1) λk=>a i k*p k)))(unk:∀k:Nat,k<n+1→ns[k]?=some (.unknown (k:Int)))(inv:∀r c,r<n+1→c<n+1→zad (n+1) (λl=>b r l*a l c)=if r=c then 1 else 0)(hd:zas (n+1) (mtx (n+1) a)≠0)(ch:Chg c (n+1) rs rows):(zdD c (n+1) bs∧zbR ((List.range (n+1)).map λk=>(p k,p k)) bs=true→alS g bs ns rows=some ((List.range (n+1)).map λi=>(List.range (n+1)).map λj=>g*b i j,(List.range (n+1)).map λk=>(p k,p k)))∧(¬(zdD c (n+1) bs∧zbR ((List.range (n+1)).map λk=>(p k,p k)) bs=true)→alS g bs ns rows=none):=by
 have sys:eqs rows=rs→Sys bs.length g ns (eqs rows) a (λr=>-(zad (n+1) λk=>a r k*p k)):=λe=>by
  rw[e,hb]
  exact⟨lr,zr⟩
 obtain⟨_,_,z | ⟨z1,z2,s,s1,s2,rfl⟩ | ⟨z1,k,hk,kq,e,hL⟩ | ⟨z0,z1,z3,z2,rfl⟩⟩:=ch
 ·refine⟨λw=>absurd ?_ w.1.1,λ_=>zrZ (by rw[hb]; exact z.2)⟩
  rcases z.1 with q | q
  ·exact .inl q
  ·exact .inr (.inl q)
 ·refine⟨λw=>absurd (.inr (.inr ⟨z1,z2⟩)) w.1.1,λ_=>?_⟩
  have e:=zkI (rs.set s (rs.getD 0 0))
  have h0:rs[0]?=some (rs.getD 0 0):=by
   rw[Vaf,Vaa (by omega)]
   rfl
  refine zv5 (a:=λi=>if i=s then a 0 else a i) (y:=λi=>if i=s then -(zad (n+1) λk=>a 0 k*p k) else -(zad (n+1) λk=>a i k*p k)) (s:=s) hn hb ?_ s1 s2 (by show (if s=s then a 0 else a s)=if 0=s then a 0 else a 0; rw[if_pos rfl,ite_self])
  rw[e,hb]
  refine⟨by rw[Va7]; exact lr,λr i hi=>?_⟩
  rcases zoM (by omega) hi with ⟨w1,w2⟩ | ⟨w1,w2⟩
  ·simp only[if_neg w1]
   exact zr r i w2
  ·simp only[if_pos w1]
   rw[w2]
   exact zr 0 _ h0
 ·have z:=zpH hn hg hb (sys e) inv hd
  have ek:gt (zan bs g ns) (k:Int)=gt bs (k:Int):=by
   rw[zeu net (unk k kq)]
   rfl
  rw[hL,ek] at z
  have eS:zdD c (n+1) bs↔0≤(gt bs (k:Int)).1:=by
   unfold zdD
   rw[hk]
   constructor
   ·exact λw=>w.2.elim (λq=>absurd z1 q) id
   ·exact λw=>⟨by omega,.inr w⟩
  rw[z]
  refine⟨λw=>if_pos ⟨decide_eq_true (eS.mp w.1),w.2⟩,λw=>if_neg λq=>w ⟨eS.mpr (of_decide_eq_true q.1),q.2⟩⟩
 ·have z:=zpH hn hg hb (sys (zkI rs)) inv hd
  have eS:zdD c (n+1) bs:=⟨by omega,.inl z3⟩
  rw[zuz] at z
  rw[z]
  refine⟨λw=>if_pos ⟨rfl,w.2⟩,λw=>if_neg λq=>w ⟨eS,q.2⟩⟩
theorem zlz {a b c d:TDS}{E:zcX}{dl:Ev}{S:Sto}(W:Ev→Sto→Prop)(ha:∀nx:Ev→Sto→Prop,(∀dl' S',W dl' S'→nx dl' S')→zcW a (zcW b c) { nx:=nx,rt:=E.rt,bk:=E.bk,ct:=E.ct } dl S)(hb:∀dl' S',W dl' S'→d E dl' S'):zcW a (zcW b (zcW c d)) E dl S:=ha _ hb
theorem zqS {to ti te:TDE}{dl:Ev}{S S1:Sto}{E:zcX}{n j:Nat}{k:Int}{xs:List D}{v:D}(hte:∀K:DK,K v S1→te dl S K)(hto:∀K:DK,K (.ref n) S1→to dl S1 K)(hti:∀K:DK,K (.int k) S1→ti dl S1 K)(h:S1[n]?=some (.lst xs))(hj:ixN xs.length k=some j)(hq:E.nx dl (S1.set n (.lst (xs.set j v)))):zfR to ti te E dl S:=by
 unfold zfR
 refine hte _ (hto _ (hti _ ?_))
 simp only[h,hj]
 exact hq
theorem zpS {q s:Nat}{f:Nat→Int}{v:Int}(hs:s<q):(((List.range q).map f).map D.int).set s (.int v)=((List.range q).map λc=>if c=s then v else f c).map D.int:=by
 rw[Vag,Vag]
 refine VaY λk=>?_
 by_cases e:s=k
 ·subst e
  rw[VaV (by simpa using hs),Vae,VaE hs]
  show _=some (D.int (if s=s then v else f s))
  rw[if_pos rfl]
 ·rw[VaB e,Vae,Vae]
  by_cases c:k<q
  ·rw[VaE c]
   show _=some (D.int (if k=s then v else f k))
   rw[if_neg λz=>e z.symm]
   rfl
  ·rw[VaC (by simpa using c)]
   rfl
theorem zqG (f:Nat→Int):∀q:Nat,((List.range q).map f).sum=zad q f
 | 0=>rfl
 | q+1=>by
  rw[Vaj,Vav,List.sum_append,zqG f q]
  show zad q f+(f q+0)=zad q f+f q
  omega
theorem Mx.congr {S:Sto}{lo m1 m2 q k:Nat}{as bs:List Nat}{a b b':Nat→Nat→Int}(h:Mx S lo m1 m2 q k as bs a b)(e:∀r,r<k→b' r=b r):Mx S lo m1 m2 q k as bs a b':=⟨h.la,h.lb,h.h1,h.h2,h.ra,λr x hx=>by
 rw[e r (by have:=(Vab.mp hx).1; have:=h.lb; omega)]
 exact h.rb r x hx,h.nd,h.dj⟩
structure zbG (K:PySem.W.Frag)(mg:Str→Option Value) where
 C:Addr
 m:mg "Number"=some (.ref C)
 cl:Cls K C
 n_bottom:zbz K C "bottom"
 n_top:zbz K C "top"
 makes:PySem.W.makesIn K C=true
 kp:PySem.W.keepIn K (.ref C)=true
structure zbQ (K:PySem.W.Frag)(mg:Str→Option Value) where
 C:Addr
 m:mg "Unknown"=some (.ref C)
 cl:Cls K C
 n_place:zbz K C "place"
 makes:PySem.W.makesIn K C=true
 kp:PySem.W.keepIn K (.ref C)=true
structure zbC (K:PySem.W.Frag)(mg:Str→Option Value) where
 C:Addr
 m:mg "Plus"=some (.ref C)
 cl:Cls K C
 n_other:zbz K C "other"
 n_one:zbz K C "one"
 makes:PySem.W.makesIn K C=true
 kp:PySem.W.keepIn K (.ref C)=true
structure zbB (K:PySem.W.Frag)(mg:Str→Option Value) where
 C:Addr
 m:mg "Minus"=some (.ref C)
 cl:Cls K C
 n_other:zbz K C "other"
 n_one:zbz K C "one"
 makes:PySem.W.makesIn K C=true
 kp:PySem.W.keepIn K (.ref C)=true
structure zbD (K:PySem.W.Frag)(mg:Str→Option Value) where
 C:Addr
 m:mg "Times"=some (.ref C)
 cl:Cls K C
 n_other:zbz K C "other"
 n_one:zbz K C "one"
 makes:PySem.W.makesIn K C=true
 kp:PySem.W.keepIn K (.ref C)=true
structure zbJ (K:PySem.W.Frag)(mg:Str→Option Value) where
 C:Addr
 m:mg "Power"=some (.ref C)
 cl:Cls K C
 n_many:zbz K C "many"
 n_one:zbz K C "one"
 makes:PySem.W.makesIn K C=true
 kp:PySem.W.keepIn K (.ref C)=true
def zhJ:Sd:=λds S Q ex=>match ds with
 | [.int _]=>∀g:Int,1≤g→g≤1000000→Q (.int g) S
 | _=>False
theorem zxz:Ln (zhJ) 1:=λds S Q ex h=>by unfold zhJ at h; split at h <;> first | rfl | exact h.elim
def zgs:Sd:=λds S Q ex=>match ds with
 | [.int qi,.ref c]=>∃(n:Nat) (cs:List Int),qi=((n+1:Nat):Int)∧n≤3∧S[c]?=some (.lst (cs.map D.int))∧cs.length≤6∧∀(T:Sto) (m1 m2 k:Nat) (a b:Nat→Nat→Int),Pre S T→S.length≤m1→m1<m2→zdG T m1 (n+1) a→zdG T m2 (n+1) b→Trn (n+1) k a b→k≤6→Q (.tup [.ref m1,.ref m2]) T
 | _=>False
theorem zsC:Ln (zgs) 2:=λds S Q ex h=>by unfold zgs at h; split at h <;> first | rfl | exact h.elim
def zhw:Sd:=λds S Q ex=>match ds with
 | [.ref r,.int c,.int qi]=>∃(q:Nat) (rs:List Nat),qi=(q:Nat)∧(1≤q∧q≤4)∧rs.length=q∧S[r]?=some (.lst ((tr' rs).map rwD))∧∀rows,Chg c q rs rows→Q .non (S.set r (.lst (rows.map rwD)))
 | _=>False
theorem zum:Ln (zhw) 3:=λds S Q ex h=>by unfold zhw at h; split at h <;> first | rfl | exact h.elim
def zhR:Sd:=λds S Q ex=>match ds with
 | [.ref r]=>∃rows:List (Bool×Nat),S[r]?=some (.lst (rows.map rwD))∧rows.length≤900∧Q (.ref S.length) (S++[.lst ((eqs rows).map wtD)])
 | _=>False
theorem zse:Ln (zhR) 1:=λds S Q ex h=>by unfold zhR at h; split at h <;> first | rfl | exact h.elim
def zeL:Sd:=λds S Q ex=>match ds with
 | [.ref e,.ref p]=>∃(xs:List D) (is:List Nat),S[e]?=some (.lst xs)∧S[p]?=some (.lst (is.map wtD))∧is.length≤900∧(∀i∈is,i<xs.length)∧Q (.ref S.length) (S++[.lst (is.map λi=>xs.getD i .non)])
 | _=>False
theorem zxv:Ln (zeL) 2:=λds S Q ex h=>by unfold zeL at h; split at h <;> first | rfl | exact h.elim
def zgo:Sd:=λds S Q ex=>match ds with
 | [.tup [.int a,.int b],.tup [.int c,.int d]]=>(IntMulOk a d∧IntMulOk c b)∧Q (.bl (decide (a*d<c*b))) S
 | _=>False
theorem zyP:Ln (zgo) 2:=λds S Q ex h=>by unfold zgo at h; split at h <;> first | rfl | exact h.elim
def zeo:Sd:=λds S Q ex=>match ds with
 | [.int t,.int b]=>CFd 0 b∧Q (.int (-(-t/b))) S
 | _=>False
theorem ztY:Ln (zeo) 2:=λds S Q ex h=>by unfold zeo at h; split at h <;> first | rfl | exact h.elim
def zhs:Sd:=λds S Q ex=>match ds with
 | [.tup [.int a,.int b],.tup [.int c,.int d],.int g]=>((IntMulOk c b∧IntMulOk a d)∧¬ c*b<a*d∧IntMulOk a g∧IntMulOk c g∧CFd 0 b∧CFd 0 d)∧Q (.tup [.int (a*g/b),.int (-(-(c*g)/d))]) S
 | _=>False
theorem zyI:Ln (zhs) 3:=λds S Q ex h=>by unfold zhs at h; split at h <;> first | rfl | exact h.elim
def ze1 (cNumber:Addr)(cUnknown:Addr)(cPlus:Addr)(cMinus:Addr)(cTimes:Addr)(cPower:Addr):Sd:=λds S Q ex=>match ds with
 | [.ref n,.ref w,.ref p,.int g]=>∃(x y:Int) (vs bs:List (Int×Int)),S[n]?=some (Nd.ob cNumber cUnknown cPlus cMinus cTimes cPower (Nd.number x y))∧S[w]?=some (.lst (vs.map frD))∧S[p]?=some (.lst (bs.map frD))∧Nd.ok vs.length bs.length (Nd.number x y)∧Spn 1400 vs∧(1≤g∧g≤1000000)∧Q (frD (Nd.fw vs bs g (Nd.number x y))) S
 | _=>False
theorem ztc (cNumber:Addr)(cUnknown:Addr)(cPlus:Addr)(cMinus:Addr)(cTimes:Addr)(cPower:Addr):Ln (ze1 cNumber cUnknown cPlus cMinus cTimes cPower) 4:=λds S Q ex h=>by unfold ze1 at h; split at h <;> first | rfl | exact h.elim
def zfY (cNumber:Addr)(cUnknown:Addr)(cPlus:Addr)(cMinus:Addr)(cTimes:Addr)(cPower:Addr):Sd:=λds S Q ex=>match ds with
 | [.ref n,.ref w,.ref p,.int g]=>∃(k:Int) (vs bs:List (Int×Int)),S[n]?=some (Nd.ob cNumber cUnknown cPlus cMinus cTimes cPower (Nd.unknown k))∧S[w]?=some (.lst (vs.map frD))∧S[p]?=some (.lst (bs.map frD))∧Nd.ok vs.length bs.length (Nd.unknown k)∧Spn 1400 vs∧(1≤g∧g≤1000000)∧Q (frD (Nd.fw vs bs g (Nd.unknown k))) S
 | _=>False
theorem zxN (cNumber:Addr)(cUnknown:Addr)(cPlus:Addr)(cMinus:Addr)(cTimes:Addr)(cPower:Addr):Ln (zfY cNumber cUnknown cPlus cMinus cTimes cPower) 4:=λds S Q ex h=>by unfold zfY at h; split at h <;> first | rfl | exact h.elim
def zdH:Sd:=λds S Q ex=>match ds with
 | [.tup [.int a,.int b],.tup [.int c,.int d]]=>Q (.tup [.int (a+c),.int (b+d)]) S
 | _=>False
theorem zwc:Ln (zdH) 2:=λds S Q ex h=>by unfold zdH at h; split at h <;> first | rfl | exact h.elim
def zfQ (cNumber:Addr)(cUnknown:Addr)(cPlus:Addr)(cMinus:Addr)(cTimes:Addr)(cPower:Addr):Sd:=λds S Q ex=>match ds with
 | [.ref n,.ref w,.ref p,.int g]=>∃(i j:Int) (vs bs:List (Int×Int)),S[n]?=some (Nd.ob cNumber cUnknown cPlus cMinus cTimes cPower (Nd.plus i j))∧S[w]?=some (.lst (vs.map frD))∧S[p]?=some (.lst (bs.map frD))∧Nd.ok vs.length bs.length (Nd.plus i j)∧Spn 1400 vs∧(1≤g∧g≤1000000)∧Q (frD (Nd.fw vs bs g (Nd.plus i j))) S
 | _=>False
theorem zwm (cNumber:Addr)(cUnknown:Addr)(cPlus:Addr)(cMinus:Addr)(cTimes:Addr)(cPower:Addr):Ln (zfQ cNumber cUnknown cPlus cMinus cTimes cPower) 4:=λds S Q ex h=>by unfold zfQ at h; split at h <;> first | rfl | exact h.elim
def zdV:Sd:=λds S Q ex=>match ds with
 | [.tup [.int a,.int b],.tup [.int c,.int d]]=>Q (.tup [.int (a-d),.int (b-c)]) S
 | _=>False
theorem zxh:Ln (zdV) 2:=λds S Q ex h=>by unfold zdV at h; split at h <;> first | rfl | exact h.elim
def ze8 (cNumber:Addr)(cUnknown:Addr)(cPlus:Addr)(cMinus:Addr)(cTimes:Addr)(cPower:Addr):Sd:=λds S Q ex=>match ds with
 | [.ref n,.ref w,.ref p,.int g]=>∃(i j:Int) (vs bs:List (Int×Int)),S[n]?=some (Nd.ob cNumber cUnknown cPlus cMinus cTimes cPower (Nd.minus i j))∧S[w]?=some (.lst (vs.map frD))∧S[p]?=some (.lst (bs.map frD))∧Nd.ok vs.length bs.length (Nd.minus i j)∧Spn 1400 vs∧(1≤g∧g≤1000000)∧Q (frD (Nd.fw vs bs g (Nd.minus i j))) S
 | _=>False
theorem zsE (cNumber:Addr)(cUnknown:Addr)(cPlus:Addr)(cMinus:Addr)(cTimes:Addr)(cPower:Addr):Ln (ze8 cNumber cUnknown cPlus cMinus cTimes cPower) 4:=λds S Q ex h=>by unfold ze8 at h; split at h <;> first | rfl | exact h.elim
def zd8:Sd:=λds S Q ex=>match ds with
 | [.tup [.int a,.int b],.tup [.int c,.int d],.int g]=>((IntMulOk a c∧IntMulOk a d∧IntMulOk b c∧IntMulOk b d)∧CFd 0 g)∧∀mn mx:Int,zfp a b c d mn mx→Q (.tup [.int (mn/g),.int (-(-mx/g))]) S
 | _=>False
theorem ztV:Ln (zd8) 3:=λds S Q ex h=>by unfold zd8 at h; split at h <;> first | rfl | exact h.elim
def zfe (cNumber:Addr)(cUnknown:Addr)(cPlus:Addr)(cMinus:Addr)(cTimes:Addr)(cPower:Addr):Sd:=λds S Q ex=>match ds with
 | [.ref n,.ref w,.ref p,.int g]=>∃(i j:Int) (vs bs:List (Int×Int)),S[n]?=some (Nd.ob cNumber cUnknown cPlus cMinus cTimes cPower (Nd.times i j))∧S[w]?=some (.lst (vs.map frD))∧S[p]?=some (.lst (bs.map frD))∧Nd.ok vs.length bs.length (Nd.times i j)∧Spn 1400 vs∧(1≤g∧g≤1000000)∧Q (frD (Nd.fw vs bs g (Nd.times i j))) S
 | _=>False
theorem zv6 (cNumber:Addr)(cUnknown:Addr)(cPlus:Addr)(cMinus:Addr)(cTimes:Addr)(cPower:Addr):Ln (zfe cNumber cUnknown cPlus cMinus cTimes cPower) 4:=λds S Q ex h=>by unfold zfe at h; split at h <;> first | rfl | exact h.elim
def zhx:Sd:=λds S Q ex=>match ds with
 | [.int x,.int n]=>(0≤n∧n≤6∧Sz 2000 x)∧Q (.int (x^n.toNat)) S
 | _=>False
theorem zx1:Ln (zhx) 2:=λds S Q ex h=>by unfold zhx at h; split at h <;> first | rfl | exact h.elim
def zf1:Sd:=λds S Q ex=>match ds with
 | [.tup [.int a,.int b],.int n,.int g]=>(1≤n∧n≤6∧Sz 1400 a∧Sz 1400 b∧1≤g∧Sz 1400 g)∧∀m M:Int,zd4 a b n.toNat m M→Q (.tup [.int (m/g^(n.toNat-1)),.int (-(-M/g^(n.toNat-1)))]) S
 | _=>False
theorem zsK:Ln (zf1) 3:=λds S Q ex h=>by unfold zf1 at h; split at h <;> first | rfl | exact h.elim
def zfA (cNumber:Addr)(cUnknown:Addr)(cPlus:Addr)(cMinus:Addr)(cTimes:Addr)(cPower:Addr):Sd:=λds S Q ex=>match ds with
 | [.ref n,.ref w,.ref p,.int g]=>∃(i m:Int) (vs bs:List (Int×Int)),S[n]?=some (Nd.ob cNumber cUnknown cPlus cMinus cTimes cPower (Nd.power i m))∧S[w]?=some (.lst (vs.map frD))∧S[p]?=some (.lst (bs.map frD))∧Nd.ok vs.length bs.length (Nd.power i m)∧Spn 1400 vs∧(1≤g∧g≤1000000)∧Q (frD (Nd.fw vs bs g (Nd.power i m))) S
 | _=>False
theorem zrB (cNumber:Addr)(cUnknown:Addr)(cPlus:Addr)(cMinus:Addr)(cTimes:Addr)(cPower:Addr):Ln (zfA cNumber cUnknown cPlus cMinus cTimes cPower) 4:=λds S Q ex h=>by unfold zfA at h; split at h <;> first | rfl | exact h.elim
def zhN (cPower:Addr):Sd:=λds S Q ex=>match ds with
 | [.ref n,x,y]=>∃T:Sto,S=T++[.ins cPower []]∧n=T.length∧Q .non (T++[.ins cPower [("one",x),("many",y)]])
 | _=>False
theorem zyO (cPower:Addr):Ln (zhN cPower) 3:=λds S Q ex h=>by unfold zhN at h; split at h <;> first | rfl | exact h.elim
def zhI (cNumber:Addr):Sd:=λds S Q ex=>match ds with
 | [.ref n,x,y]=>∃T:Sto,S=T++[.ins cNumber []]∧n=T.length∧Q .non (T++[.ins cNumber [("top",x),("bottom",y)]])
 | _=>False
theorem zs0 (cNumber:Addr):Ln (zhI cNumber) 3:=λds S Q ex h=>by unfold zhI at h; split at h <;> first | rfl | exact h.elim
def zgC (cUnknown:Addr):Sd:=λds S Q ex=>match ds with
 | [.ref n,x]=>∃T:Sto,S=T++[.ins cUnknown []]∧n=T.length∧Q .non (T++[.ins cUnknown [("place",x)]])
 | _=>False
theorem zwp (cUnknown:Addr):Ln (zgC cUnknown) 2:=λds S Q ex h=>by unfold zgC at h; split at h <;> first | rfl | exact h.elim
def zg4 (cPlus:Addr):Sd:=λds S Q ex=>match ds with
 | [.ref n,x,y]=>∃T:Sto,S=T++[.ins cPlus []]∧n=T.length∧Q .non (T++[.ins cPlus [("one",x),("other",y)]])
 | _=>False
theorem zxl (cPlus:Addr):Ln (zg4 cPlus) 3:=λds S Q ex h=>by unfold zg4 at h; split at h <;> first | rfl | exact h.elim
def zhX (cMinus:Addr):Sd:=λds S Q ex=>match ds with
 | [.ref n,x,y]=>∃T:Sto,S=T++[.ins cMinus []]∧n=T.length∧Q .non (T++[.ins cMinus [("one",x),("other",y)]])
 | _=>False
theorem zsc (cMinus:Addr):Ln (zhX cMinus) 3:=λds S Q ex h=>by unfold zhX at h; split at h <;> first | rfl | exact h.elim
def zhC (cTimes:Addr):Sd:=λds S Q ex=>match ds with
 | [.ref n,x,y]=>∃T:Sto,S=T++[.ins cTimes []]∧n=T.length∧Q .non (T++[.ins cTimes [("one",x),("other",y)]])
 | _=>False
theorem zte (cTimes:Addr):Ln (zhC cTimes) 3:=λds S Q ex h=>by unfold zhC at h; split at h <;> first | rfl | exact h.elim
def zfw (cNumber:Addr)(cUnknown:Addr)(cPlus:Addr)(cMinus:Addr)(cTimes:Addr)(cPower:Addr):Sd:=λds S Q ex=>match ds with
 | [d]=>∃v:Nd,d=v.d∧Q (.ref S.length) (S++[v.ob cNumber cUnknown cPlus cMinus cTimes cPower])
 | _=>False
theorem zya (cNumber:Addr)(cUnknown:Addr)(cPlus:Addr)(cMinus:Addr)(cTimes:Addr)(cPower:Addr):Ln (zfw cNumber cUnknown cPlus cMinus cTimes cPower) 1:=λds S Q ex h=>by unfold zfw at h; split at h <;> first | rfl | exact h.elim
def zeq:Sd:=λds S Q ex=>match ds with
 | [.ref a,.ref b,.int g]=>∃(ns:List Nd) (ws:List Nat) (bs:List (Int×Int)),S[a]?=some (.lst (ns.map Nd.d))∧S[b]?=some (.lst (bs.map frD))∧zaJ bs.length ns ws∧Spn 51 bs∧(1≤g∧g≤1000000)∧ns.length≤70∧∀(T:Sto) (m:Nat),Pre S T→S.length≤m→T[m]?=some (.lst ((zan bs g ns).map frD))→Q (.ref m) T
 | _=>False
theorem zt2:Ln (zeq) 3:=λds S Q ex h=>by unfold zeq at h; split at h <;> first | rfl | exact h.elim
def zft (cNumber:Addr)(cUnknown:Addr)(cPlus:Addr)(cMinus:Addr)(cTimes:Addr)(cPower:Addr):Sd:=λds S Q ex=>match ds with
 | [.ref n,.ref w,.ref s,.int qi,.int g]=>∃(x y:Int) (q:Nat) (vs:List (Int×Int)) (sl:List (List (Int×Int))) (ds:List D),S[n]?=some (Nd.ob cNumber cUnknown cPlus cMinus cTimes cPower (Nd.number x y))∧S[w]?=some (.lst (vs.map frD))∧S[s]?=some (.lst ds)∧zaV S 0 ds sl∧(∀i:Int,inR sl.length i→(sl.getD i.toNat []).length=q∧∀l,l<q→(gs sl i l).1≤(gs sl i l).2∧Sz 1100 (gs sl i l).1∧Sz 1100 (gs sl i l).2)∧(qi=(q:Nat)∧q≤900)∧Nd.ok sl.length q (Nd.number x y)∧sl.length≤vs.length∧Spn 1000 vs∧(1≤g∧g≤1000000)∧∀(T:Sto) (mm:Nat),Pre S T→S.length≤mm→T[mm]?=some (.lst ((zaZ vs sl g q (Nd.number x y)).map frD))→Q (.ref mm) T
 | _=>False
theorem zvm (cNumber:Addr)(cUnknown:Addr)(cPlus:Addr)(cMinus:Addr)(cTimes:Addr)(cPower:Addr):Ln (zft cNumber cUnknown cPlus cMinus cTimes cPower) 5:=λds S Q ex h=>by unfold zft at h; split at h <;> first | rfl | exact h.elim
def ze2 (cNumber:Addr)(cUnknown:Addr)(cPlus:Addr)(cMinus:Addr)(cTimes:Addr)(cPower:Addr):Sd:=λds S Q ex=>match ds with
 | [.ref n,.ref w,.ref s,.int qi,.int g]=>∃(k:Int) (q:Nat) (vs:List (Int×Int)) (sl:List (List (Int×Int))) (ds:List D),S[n]?=some (Nd.ob cNumber cUnknown cPlus cMinus cTimes cPower (Nd.unknown k))∧S[w]?=some (.lst (vs.map frD))∧S[s]?=some (.lst ds)∧zaV S 0 ds sl∧(∀i:Int,inR sl.length i→(sl.getD i.toNat []).length=q∧∀l,l<q→(gs sl i l).1≤(gs sl i l).2∧Sz 1100 (gs sl i l).1∧Sz 1100 (gs sl i l).2)∧(qi=(q:Nat)∧q≤900)∧Nd.ok sl.length q (Nd.unknown k)∧sl.length≤vs.length∧Spn 1000 vs∧(1≤g∧g≤1000000)∧∀(T:Sto) (mm:Nat),Pre S T→S.length≤mm→T[mm]?=some (.lst ((zaZ vs sl g q (Nd.unknown k)).map frD))→Q (.ref mm) T
 | _=>False
theorem zwi (cNumber:Addr)(cUnknown:Addr)(cPlus:Addr)(cMinus:Addr)(cTimes:Addr)(cPower:Addr):Ln (ze2 cNumber cUnknown cPlus cMinus cTimes cPower) 5:=λds S Q ex h=>by unfold ze2 at h; split at h <;> first | rfl | exact h.elim
def zgI (cPlus:Addr):Sd:=λds S Q ex=>match ds with
 | [.ref _,_,_,.tup [.int a,.int b],.tup [.int c,.int d],.int _]=>Q (.tup [.int (a+c),.int (b+d)]) S
 | _=>False
theorem zux (cPlus:Addr):Ln (zgI cPlus) 6:=λds S Q ex h=>by unfold zgI at h; split at h <;> first | rfl | exact h.elim
def zfP (cNumber:Addr)(cUnknown:Addr)(cPlus:Addr)(cMinus:Addr)(cTimes:Addr)(cPower:Addr):Sd:=λds S Q ex=>match ds with
 | [.ref n,.ref w,.ref s,.int qi,.int g]=>∃(i j:Int) (q:Nat) (vs:List (Int×Int)) (sl:List (List (Int×Int))) (ds:List D),S[n]?=some (Nd.ob cNumber cUnknown cPlus cMinus cTimes cPower (Nd.plus i j))∧S[w]?=some (.lst (vs.map frD))∧S[s]?=some (.lst ds)∧zaV S 0 ds sl∧(∀i:Int,inR sl.length i→(sl.getD i.toNat []).length=q∧∀l,l<q→(gs sl i l).1≤(gs sl i l).2∧Sz 1100 (gs sl i l).1∧Sz 1100 (gs sl i l).2)∧(qi=(q:Nat)∧q≤900)∧Nd.ok sl.length q (Nd.plus i j)∧sl.length≤vs.length∧Spn 1000 vs∧(1≤g∧g≤1000000)∧∀(T:Sto) (mm:Nat),Pre S T→S.length≤mm→T[mm]?=some (.lst ((zaZ vs sl g q (Nd.plus i j)).map frD))→Q (.ref mm) T
 | _=>False
theorem zv2 (cNumber:Addr)(cUnknown:Addr)(cPlus:Addr)(cMinus:Addr)(cTimes:Addr)(cPower:Addr):Ln (zfP cNumber cUnknown cPlus cMinus cTimes cPower) 5:=λds S Q ex h=>by unfold zfP at h; split at h <;> first | rfl | exact h.elim
def zhV (cMinus:Addr):Sd:=λds S Q ex=>match ds with
 | [.ref _,_,_,.tup [.int a,.int b],.tup [.int c,.int d],.int _]=>Q (.tup [.int (a-d),.int (b-c)]) S
 | _=>False
theorem ztb (cMinus:Addr):Ln (zhV cMinus) 6:=λds S Q ex h=>by unfold zhV at h; split at h <;> first | rfl | exact h.elim
def zeH (cNumber:Addr)(cUnknown:Addr)(cPlus:Addr)(cMinus:Addr)(cTimes:Addr)(cPower:Addr):Sd:=λds S Q ex=>match ds with
 | [.ref n,.ref w,.ref s,.int qi,.int g]=>∃(i j:Int) (q:Nat) (vs:List (Int×Int)) (sl:List (List (Int×Int))) (ds:List D),S[n]?=some (Nd.ob cNumber cUnknown cPlus cMinus cTimes cPower (Nd.minus i j))∧S[w]?=some (.lst (vs.map frD))∧S[s]?=some (.lst ds)∧zaV S 0 ds sl∧(∀i:Int,inR sl.length i→(sl.getD i.toNat []).length=q∧∀l,l<q→(gs sl i l).1≤(gs sl i l).2∧Sz 1100 (gs sl i l).1∧Sz 1100 (gs sl i l).2)∧(qi=(q:Nat)∧q≤900)∧Nd.ok sl.length q (Nd.minus i j)∧sl.length≤vs.length∧Spn 1000 vs∧(1≤g∧g≤1000000)∧∀(T:Sto) (mm:Nat),Pre S T→S.length≤mm→T[mm]?=some (.lst ((zaZ vs sl g q (Nd.minus i j)).map frD))→Q (.ref mm) T
 | _=>False
theorem zuU (cNumber:Addr)(cUnknown:Addr)(cPlus:Addr)(cMinus:Addr)(cTimes:Addr)(cPower:Addr):Ln (zeH cNumber cUnknown cPlus cMinus cTimes cPower) 5:=λds S Q ex h=>by unfold zeH at h; split at h <;> first | rfl | exact h.elim
def zia (cTimes:Addr):Sd:=λds S Q ex=>match ds with
 | [.ref _,.tup [.int x1,.int x2],.tup [.int y1,.int y2],.tup [.int a,.int b],.tup [.int c,.int d],.int g]=>(Sz 1400 x1∧Sz 1400 x2∧Sz 1400 y1∧Sz 1400 y2∧Sz 1400 a∧Sz 1400 b∧Sz 1400 c∧Sz 1400 d∧1≤g∧g≤1000000)∧Q (.tup [.int ((zaL (x1,x2) (c,d) g).1+(zaL (y1,y2) (a,b) g).1),.int ((zaL (x1,x2) (c,d) g).2+(zaL (y1,y2) (a,b) g).2)]) S
 | _=>False
theorem zyr (cTimes:Addr):Ln (zia cTimes) 6:=λds S Q ex h=>by unfold zia at h; split at h <;> first | rfl | exact h.elim
def zf5 (cNumber:Addr)(cUnknown:Addr)(cPlus:Addr)(cMinus:Addr)(cTimes:Addr)(cPower:Addr):Sd:=λds S Q ex=>match ds with
 | [.ref n,.ref w,.ref s,.int qi,.int g]=>∃(i j:Int) (q:Nat) (vs:List (Int×Int)) (sl:List (List (Int×Int))) (ds:List D),S[n]?=some (Nd.ob cNumber cUnknown cPlus cMinus cTimes cPower (Nd.times i j))∧S[w]?=some (.lst (vs.map frD))∧S[s]?=some (.lst ds)∧zaV S 0 ds sl∧(∀i:Int,inR sl.length i→(sl.getD i.toNat []).length=q∧∀l,l<q→(gs sl i l).1≤(gs sl i l).2∧Sz 1100 (gs sl i l).1∧Sz 1100 (gs sl i l).2)∧(qi=(q:Nat)∧q≤900)∧Nd.ok sl.length q (Nd.times i j)∧sl.length≤vs.length∧Spn 1000 vs∧(1≤g∧g≤1000000)∧∀(T:Sto) (mm:Nat),Pre S T→S.length≤mm→T[mm]?=some (.lst ((zaZ vs sl g q (Nd.times i j)).map frD))→Q (.ref mm) T
 | _=>False
theorem zr8 (cNumber:Addr)(cUnknown:Addr)(cPlus:Addr)(cMinus:Addr)(cTimes:Addr)(cPower:Addr):Ln (zf5 cNumber cUnknown cPlus cMinus cTimes cPower) 5:=λds S Q ex h=>by unfold zf5 at h; split at h <;> first | rfl | exact h.elim
def zgn:Sd:=λds S Q ex=>match ds with
 | [.tup [.int a,.int b],.int m]=>(IntMulOk a m∧IntMulOk b m)∧Q (.tup [.int (if b*m<a*m then b*m else a*m),.int (if b*m > a*m then b*m else a*m)]) S
 | _=>False
theorem zuG:Ln (zgn) 2:=λds S Q ex h=>by unfold zgn at h; split at h <;> first | rfl | exact h.elim
def zfO (cNumber:Addr)(cUnknown:Addr)(cPlus:Addr)(cMinus:Addr)(cTimes:Addr)(cPower:Addr):Sd:=λds S Q ex=>match ds with
 | [.ref n,.ref w,.ref s,.int qi,.int g]=>∃(i m:Int) (q:Nat) (vs:List (Int×Int)) (sl:List (List (Int×Int))) (ds:List D),S[n]?=some (Nd.ob cNumber cUnknown cPlus cMinus cTimes cPower (Nd.power i m))∧S[w]?=some (.lst (vs.map frD))∧S[s]?=some (.lst ds)∧zaV S 0 ds sl∧(∀i:Int,inR sl.length i→(sl.getD i.toNat []).length=q∧∀l,l<q→(gs sl i l).1≤(gs sl i l).2∧Sz 1100 (gs sl i l).1∧Sz 1100 (gs sl i l).2)∧(qi=(q:Nat)∧q≤900)∧Nd.ok sl.length q (Nd.power i m)∧sl.length≤vs.length∧Spn 1000 vs∧(1≤g∧g≤1000000)∧∀(T:Sto) (mm:Nat),Pre S T→S.length≤mm→T[mm]?=some (.lst ((zaZ vs sl g q (Nd.power i m)).map frD))→Q (.ref mm) T
 | _=>False
theorem zvF (cNumber:Addr)(cUnknown:Addr)(cPlus:Addr)(cMinus:Addr)(cTimes:Addr)(cPower:Addr):Ln (zfO cNumber cUnknown cPlus cMinus cTimes cPower) 5:=λds S Q ex h=>by unfold zfO at h; split at h <;> first | rfl | exact h.elim
def zhn:Sd:=λds S Q ex=>match ds with
 | [.ref a,.ref b,.int g]=>∃(ns:List Nd) (ws:List Nat) (bs:List (Int×Int)),S[a]?=some (.lst (ns.map Nd.d))∧S[b]?=some (.lst (bs.map frD))∧zaJ bs.length ns ws∧Spn 51 bs∧bs.length≤900∧(1≤g∧g≤1000000)∧ns.length≤70∧∀(T:Sto) (m:Nat) (ds:List D),Pre S T→S.length≤m→T[m]?=some (.lst ds)→zaV T (m+1) ds (zaz (zan bs g ns) g bs.length ns)→Q (.ref m) T
 | _=>False
theorem zr0:Ln (zhn) 3:=λds S Q ex h=>by unfold zhn at h; split at h <;> first | rfl | exact h.elim
def zgD:Sd:=λds S Q ex=>match ds with
 | [.ref a,.ref p,.ref b,.int g]=>∃(ns:List Nd) (ws:List Nat) (bs:List (Int×Int)) (is:List Nat),S[a]?=some (.lst (ns.map Nd.d))∧S[b]?=some (.lst (bs.map frD))∧zaJ bs.length ns ws∧Spn 51 bs∧(1≤g∧g≤1000000)∧ns.length≤70∧bs.length≤900∧S[p]?=some (.lst (is.map wtD))∧is.length≤900∧(∀i∈is,i<ns.length)∧∀(T:Sto) (m:Nat) (ds:List D),Pre S T→S.length≤m→T[m]?=some (.lst ds)→zaV T 0 ds (is.map λ(i:Nat)=>(zaz (zan bs g ns) g bs.length ns).getD i [])→Q (.ref m) T
 | _=>False
theorem zty:Ln (zgD) 4:=λds S Q ex h=>by unfold zgD at h; split at h <;> first | rfl | exact h.elim
def zdL:Sd:=λds S Q ex=>match ds with
 | [.int i,.int k]=>∃n:Nat,k=n∧Q (.int (sgn i n)) S
 | _=>False
theorem zyL:Ln (zdL) 2:=λds S Q ex h=>by unfold zdL at h; split at h <;> first | rfl | exact h.elim
def zd3:Sd:=λds S Q ex=>match ds with
 | [.ref m,.int r,.int c]=>∃(M:List (List Int)) (i j n:Nat),r=i∧c=j∧zbn S m M∧Sq (n+1) M∧n≤3∧i≤n∧j≤n∧∀(T:Sto) (k:Nat),Pre S T→zbn T k (zaA M i j)→Q (.ref k) T
 | _=>False
theorem zsU:Ln (zd3) 3:=λds S Q ex h=>by unfold zd3 at h; split at h <;> first | rfl | exact h.elim
def zff:Sd:=λds S Q ex=>match ds with
 | [.ref m,.int r,.int c]=>∃(M:List (List Int)) (i j n:Nat),n≤0∧r=i∧c=j∧i≤n∧j≤n∧zbn S m M∧Sq (n+1) M∧Big M∧Q (.int (sgn (zas n (zaA M i j)) (i+j))) S
 | _=>False
theorem zyp:Ln (zff) 3:=λds S Q ex h=>by unfold zff at h; split at h <;> first | rfl | exact h.elim
def zfJ:Sd:=λds S Q ex=>match ds with
 | [.ref m,.int r,.int c]=>∃(M:List (List Int)) (i j n:Nat),n≤1∧r=i∧c=j∧i≤n∧j≤n∧zbn S m M∧Sq (n+1) M∧Big M∧Q (.int (sgn (zas n (zaA M i j)) (i+j))) S
 | _=>False
theorem zxg:Ln (zfJ) 3:=λds S Q ex h=>by unfold zfJ at h; split at h <;> first | rfl | exact h.elim
def zfS:Sd:=λds S Q ex=>match ds with
 | [.ref m,.int r,.int c]=>∃(M:List (List Int)) (i j n:Nat),n≤2∧r=i∧c=j∧i≤n∧j≤n∧zbn S m M∧Sq (n+1) M∧Big M∧Q (.int (sgn (zas n (zaA M i j)) (i+j))) S
 | _=>False
theorem zuZ:Ln (zfS) 3:=λds S Q ex h=>by unfold zfS at h; split at h <;> first | rfl | exact h.elim
def zeg:Sd:=λds S Q ex=>match ds with
 | [.ref m,.int r,.int c]=>∃(M:List (List Int)) (i j n:Nat),n≤3∧r=i∧c=j∧i≤n∧j≤n∧zbn S m M∧Sq (n+1) M∧Big M∧Q (.int (sgn (zas n (zaA M i j)) (i+j))) S
 | _=>False
theorem zvZ:Ln (zeg) 3:=λds S Q ex h=>by unfold zeg at h; split at h <;> first | rfl | exact h.elim
def zgA:Sd:=λds S Q ex=>match ds with
 | [.ref m]=>∃(M:List (List Int)) (n:Nat),n≤0∧zbn S m M∧Sq n M∧Big M∧Q (.int (zas n M)) S
 | _=>False
theorem zvl:Ln (zgA) 1:=λds S Q ex h=>by unfold zgA at h; split at h <;> first | rfl | exact h.elim
def zgw:Sd:=λds S Q ex=>match ds with
 | [.ref m]=>∃(M:List (List Int)) (n:Nat),n≤1∧zbn S m M∧Sq n M∧Big M∧Q (.int (zas n M)) S
 | _=>False
theorem zr3:Ln (zgw) 1:=λds S Q ex h=>by unfold zgw at h; split at h <;> first | rfl | exact h.elim
def ziI:Sd:=λds S Q ex=>match ds with
 | [.ref m]=>∃(M:List (List Int)) (n:Nat),n≤2∧zbn S m M∧Sq n M∧Big M∧Q (.int (zas n M)) S
 | _=>False
theorem zxw:Ln (ziI) 1:=λds S Q ex h=>by unfold ziI at h; split at h <;> first | rfl | exact h.elim
def zgt:Sd:=λds S Q ex=>match ds with
 | [.ref m]=>∃(M:List (List Int)) (n:Nat),n≤3∧zbn S m M∧Sq n M∧Big M∧Q (.int (zas n M)) S
 | _=>False
theorem zvW:Ln (zgt) 1:=λds S Q ex h=>by unfold zgt at h; split at h <;> first | rfl | exact h.elim
def zgy:Sd:=λds S Q ex=>match ds with
 | [.ref m]=>∃(M:List (List Int)) (n:Nat),n≤4∧zbn S m M∧Sq n M∧Big M∧Q (.int (zas n M)) S
 | _=>False
theorem ztS:Ln (zgy) 1:=λds S Q ex h=>by unfold zgy at h; split at h <;> first | rfl | exact h.elim
def zib:Sd:=λds S Q ex=>match ds with
 | [.ref m,.int w,.int r,.int c,.int g]=>∃(M:List (List Int)) (i j n:Nat),n≤3∧r=i∧c=j∧i≤n∧j≤n∧zbn S m M∧Sq (n+1) M∧Big M∧(w≠0∧Sz 4140 w)∧(1≤g∧g≤1000000)∧Q (.int (zeW M n w g i j)) S
 | _=>False
theorem zr7:Ln (zib) 5:=λds S Q ex h=>by unfold zib at h; split at h <;> first | rfl | exact h.elim
def zhU:Sd:=λds S Q ex=>match ds with
 | [.ref m,.int w,.int r,.int g]=>∃(M:List (List Int)) (i n:Nat),n≤3∧r=i∧i≤n∧zbn S m M∧Sq (n+1) M∧Big M∧(w≠0∧Sz 4140 w)∧(1≤g∧g≤1000000)∧Q (.ref S.length) (S++[.lst ((zd7 M n w g i).map D.int)])
 | _=>False
theorem zwA:Ln (zhU) 4:=λds S Q ex h=>by unfold zhU at h; split at h <;> first | rfl | exact h.elim
def zgL:Sd:=λds S Q ex=>match ds with
 | [.ref m,.int g]=>∃(M:List (List Int)) (n:Nat),n≤3∧zbn S m M∧Sq (n+1) M∧Big M∧(1≤g∧g≤1000000)∧(zas (n+1) M=0→Q .non S)∧(zas (n+1) M≠0→∀(T:Sto) (k:Nat),Pre S T→zbn T k (zbO M n (zas (n+1) M) g)→Q (.ref k) T)
 | _=>False
theorem zx8:Ln (zgL) 2:=λds S Q ex h=>by unfold zgL at h; split at h <;> first | rfl | exact h.elim
def zhD:Sd:=λds S Q ex=>match ds with
 | [.tup [.int a,.int b]]=>Q (.int ((a+b)/2)) S
 | _=>False
theorem zua:Ln (zhD) 1:=λds S Q ex h=>by unfold zhD at h; split at h <;> first | rfl | exact h.elim
def ze4:Sd:=λds S Q ex=>match ds with
 | [.ref s]=>∃vs:List (Int×Int),S[s]?=some (.lst (vs.map frD))∧vs.length≤900∧Q (.ref S.length) (S++[.lst (vs.map λp=>.int (mid p))])
 | _=>False
theorem zv7:Ln (ze4) 1:=λds S Q ex h=>by unfold ze4 at h; split at h <;> first | rfl | exact h.elim
def zeT:Sd:=λds S Q ex=>match ds with
 | [.ref b]=>∃vs:List (Int×Int),S[b]?=some (.lst (vs.map frD))∧vs.length≤900∧∀(T:Sto) (m:Nat),Pre S T→S.length≤m→T[m]?=some (.lst ((vs.map zbe).map frD))→Q (.ref m) T
 | _=>False
theorem zr9:Ln (zeT) 1:=λds S Q ex h=>by unfold zeT at h; split at h <;> first | rfl | exact h.elim
def zfl:Sd:=λds S Q ex=>match ds with
 | [.ref a,.ref b,.int g]=>∃(us vs:List (Int×Int)),S[a]?=some (.lst (us.map frD))∧S[b]?=some (.lst (vs.map frD))∧us.length≤60∧Bd 20000 us∧Bd 20000 vs∧(1≤g∧g≤1000000)∧Q (frD (sumP g us vs)) S
 | _=>False
theorem zwV:Ln (zfl) 3:=λds S Q ex h=>by unfold zfl at h; split at h <;> first | rfl | exact h.elim
def zgz:Sd:=λds S Q ex=>match ds with
 | [.int k,.int c,.ref t,.ref s,.int g]=>∃(q kn cn:Nat) (ts:List (Int×Int)) (R:List (List (Int×Int))) (ds:List D),k=(kn:Nat)∧c=(cn:Nat)∧S[t]?=some (.lst (ts.map frD))∧S[s]?=some (.lst ds)∧zaV S 0 ds R∧(∀r∈R,r.length=q∧Bd 2000 r)∧cn<q∧ts.length≤60∧R.length≤60∧Bd 20000 ts∧(1≤g∧g≤1000000)∧Q (frD (zcb g kn cn ts R)) S
 | _=>False
theorem ztE:Ln (zgz) 5:=λds S Q ex h=>by unfold zgz at h; split at h <;> first | rfl | exact h.elim
def zhQ:Sd:=λds S Q ex=>match ds with
 | [.int ki,.ref b,.int g,.ref e,.ref t,.ref s]=>∃(k:Nat) (box thin:List (Int×Int)) (es:List Int) (R:List (List (Int×Int))) (ds:List D),ki=(k:Nat)∧k<box.length∧S[e]?=some (.lst (es.map D.int))∧es.length≤4∧(∀x∈es,Sz 4000 x)∧S[b]?=some (.lst (box.map frD))∧S[t]?=some (.lst (thin.map frD))∧S[s]?=some (.lst ds)∧zaV S 0 ds R∧(∀r∈R,r.length=box.length∧Bd 2000 r)∧(1≤box.length∧box.length≤4)∧R.length≤4∧thin.length≤4∧Bd 60 box∧Bd 2000 thin∧(1≤g∧g≤1000000)∧Q (frD (zdI g box thin R k es)) S
 | _=>False
theorem zsp:Ln (zhQ) 6:=λds S Q ex h=>by unfold zhQ at h; split at h <;> first | rfl | exact h.elim
def zhc:Sd:=λds S Q ex=>match ds with
 | [.ref b,.int g,.ref u,.ref t,.ref s]=>∃(box thin:List (Int×Int)) (M:List (List Int)) (ms:List D) (R:List (List (Int×Int))) (ds:List D),S[u]?=some (.lst ms)∧zdr S ms M∧M.length=box.length∧(∀r∈M,r.length≤4∧∀x∈r,Sz 4000 x)∧S[b]?=some (.lst (box.map frD))∧S[t]?=some (.lst (thin.map frD))∧S[s]?=some (.lst ds)∧zaV S 0 ds R∧(∀r∈R,r.length=box.length∧Bd 2000 r)∧(1≤box.length∧box.length≤4)∧R.length≤4∧thin.length≤4∧Bd 60 box∧Bd 2000 thin∧(1≤g∧g≤1000000)∧Q (.ref S.length) (S++[.lst ((M.mapIdx λk es=>zdI g box thin R k es).map frD)])
 | _=>False
theorem zvh:Ln (zhc) 5:=λds S Q ex h=>by unfold zhc at h; split at h <;> first | rfl | exact h.elim
def zie:Sd:=λds S Q ex=>match ds with
 | [.ref a,.ref p,.ref b,.int g]=>∃(ns:List Nd) (ws:List Nat) (bs:List (Int×Int)) (is:List Nat),S[a]?=some (.lst (ns.map Nd.d))∧S[b]?=some (.lst (bs.map frD))∧zaJ bs.length ns ws∧Spn 51 bs∧(1≤g∧g≤1000000)∧ns.length≤70∧bs.length≤900∧S[p]?=some (.lst (is.map wtD))∧is.length≤900∧(∀i∈is,i<ns.length)∧∀(T:Sto) (m:Nat),Pre S T→S.length≤m→T[m]?=some (.lst ((is.map λ(i:Nat)=>gt (zan (bs.map zbe) g ns) i).map frD))→Q (.ref m) T
 | _=>False
theorem zvV:Ln (zie) 4:=λds S Q ex h=>by unfold zie at h; split at h <;> first | rfl | exact h.elim
def ziz:Sd:=λds S Q ex=>match ds with
 | [.tup [.int a,.int b],.tup [.int c,.int d]]=>Q (.bl (decide (c<a)&&decide (b<d))) S
 | _=>False
theorem zxH:Ln (ziz) 2:=λds S Q ex h=>by unfold ziz at h; split at h <;> first | rfl | exact h.elim
def zgG:Sd:=λds S Q ex=>match ds with
 | [.ref m,.ref n]=>∃us vs:List (Int×Int),S[m]?=some (.lst (us.map frD))∧S[n]?=some (.lst (vs.map frD))∧us.length≤1000∧Q (.bl (zbR us vs)) S
 | _=>False
theorem zsy:Ln (zgG) 2:=λds S Q ex h=>by unfold zgG at h; split at h <;> first | rfl | exact h.elim
def zg6:Sd:=λds S Q ex=>match ds with
 | [.str w,.tup [.int a,.int b]]=>(w="zero"∧Q (.bl (decide (a=0)&&decide (b=0))) S)∨(w="least"∧Q (.bl (decide (0≤a))) S)
 | _=>False
theorem ztB:Ln (zg6) 2:=λds S Q ex h=>by unfold zg6 at h; split at h <;> first | rfl | exact h.elim
def zgV:Sd:=λds S Q ex=>match ds with
 | [.ref r,.ref s]=>∃(rows:List (Bool×Nat)) (vs:List (Int×Int)),S[r]?=some (.lst (rows.map rwD))∧S[s]?=some (.lst (vs.map frD))∧rows.length≤900∧(∀r∈rows,r.2<vs.length)∧Q (.bl (zdl rows vs)) S
 | _=>False
theorem zxS:Ln (zgV) 2:=λds S Q ex h=>by unfold zgV at h; split at h <;> first | rfl | exact h.elim
def zhy:Sd:=λds S Q ex=>match ds with
 | [.ref a,.ref r,.ref b,.int g]=>∃(ns:List Nd) (ws:List Nat) (bs:List (Int×Int)) (rows:List (Bool×Nat)),S[a]?=some (.lst (ns.map Nd.d))∧S[b]?=some (.lst (bs.map frD))∧zaJ bs.length ns ws∧Spn 51 bs∧(1≤g∧g≤1000000)∧ns.length≤70∧bs.length≤900∧S[r]?=some (.lst (rows.map rwD))∧rows.length≤900∧(∀r∈rows,r.2<ns.length)∧(1≤bs.length∧bs.length≤4)∧(alS g bs ns rows=none→∀T:Sto,Pre S T→Q .non T)∧(∀(M:List (List Int)) (near:List (Int×Int)),alS g bs ns rows=some (M,near)→∀(T:Sto) (m n:Nat) (ms:List D),Pre S T→T[m]?=some (.lst ms)→zdr T ms M→T[n]?=some (.lst (near.map frD))→S.length≤n→Q (.tup [.ref m,.ref n]) T)
 | _=>False
theorem zw6:Ln (zhy) 4:=λds S Q ex h=>by unfold zhy at h; split at h <;> first | rfl | exact h.elim
def zfN:Sd:=λds S Q ex=>match ds with
 | [.int _]=>Q (.bl true) S
 | _=>False
theorem zsn:Ln (zfN) 1:=λds S Q ex h=>by unfold zfN at h; split at h <;> first | rfl | exact h.elim
def zhr:Sd:=λds S Q ex=>match ds with
 | [.ref m,.ref d]=>∃(ms ds:List D) (M:List (List Int)),S[m]?=some (.lst ms)∧zdr S ms M∧S[d]?=some (.lst ds)∧zdr S ds M∧M.length≤4∧Q (.bl true) S
 | _=>False
theorem zsv:Ln (zhr) 2:=λds S Q ex h=>by unfold zhr at h; split at h <;> first | rfl | exact h.elim
def ziC:Sd:=λds S Q ex=>match ds with
 | [.ref n,.int k]=>∃ns:List Int,S[n]?=some (.frz (ns.map D.int))∧0≤k∧Q (.int (ns.getD k.toNat 0)) S
 | _=>False
theorem zwR:Ln (ziC) 2:=λds S Q ex h=>by unfold ziC at h; split at h <;> first | rfl | exact h.elim
def zf9:Sd:=λds S Q ex=>match ds with
 | [.int _]=>∀p:Int,p.natAbs≤1000000→Q (.int p) S
 | _=>False
theorem zu8:Ln (zf9) 1:=λds S Q ex h=>by unfold zf9 at h; split at h <;> first | rfl | exact h.elim
def zer:Sd:=λds S Q ex=>match ds with
 | [.ref a,d]=>∃(q:Nat) (v:Nd) (ns:List Nd) (ws:List Nat),d=v.d∧S[a]?=some (.lst (ns.map Nd.d))∧ns.length<900∧zaJ q ns ws∧v.ok ns.length q∧v.wt ws≤16∧∀(T:Sto) (j:Nat) (ns':List Nd) (ws':List Nat),Gr q a 1 S ns ws T ns' ws'→j<ns'.length→ns'[j]?=some v→ws'.getD j 0=v.wt ws→(∀P,gt (zbm P ns') (j:Int)=v.due (zbm P ns) P)→Q (.int (j:Int)) T
 | _=>False
theorem zu5:Ln (zer) 2:=λds S Q ex h=>by unfold zer at h; split at h <;> first | rfl | exact h.elim
def zil:Sd:=λds S Q ex=>match ds with
 | [.ref a,.ref p]=>∃(q B:Nat) (ns:List Nd) (ws is:List Nat),S[a]?=some (.lst (ns.map Nd.d))∧S[p]?=some (.lst (is.map wtD))∧a≠p∧zaJ q ns ws∧(1≤is.length∧is.length≤5)∧is.length*B≤16∧ns.length<800∧(∀i∈is,i<ns.length∧ws.getD i 0≤B)∧∀(T:Sto) (j:Nat) (ns':List Nd) (ws':List Nat),Gr q a 5 S ns ws T ns' ws'→j<ns'.length→ws'.getD j 0≤is.length*B→(∀(g:Int) (fs:Nat→Nat→Int),(∀r i,is[r]?=some i→zba q g ns i (fs r) 0)→zba q g ns' j (λl=>zad is.length λr=>fs r l) 0)→Q (.int (j:Int)) T
 | _=>False
theorem zvu:Ln (zil) 2:=λds S Q ex h=>by unfold zil at h; split at h <;> first | rfl | exact h.elim
def ziH:Sd:=λds S Q ex=>match ds with
 | [.ref a,.ref e,.bl _]=>∃(q:Nat) (f:Nat→Int) (ns:List Nd) (ws:List Nat),S[a]?=some (.lst (ns.map Nd.d))∧S[e]?=some (.lst (((List.range q).map f).map D.int))∧a≠e∧zaJ q ns ws∧(1≤q∧q≤4)∧ns.length<700∧(∀k,k<q→(f k).natAbs≤1000)∧(∀k:Nat,k<q→ns[k]?=some (.unknown (k:Int)))∧∀(T:Sto) (j:Nat) (ns':List Nd) (ws':List Nat),Gr q a 13 S ns ws T ns' ws'→j<ns'.length→ws'.getD j 0≤8→(∀g:Int,1≤g→zba q g ns' j f 0)→Q (.int (j:Int)) T
 | _=>False
theorem zxn:Ln (ziH) 3:=λds S Q ex h=>by unfold ziH at h; split at h <;> first | rfl | exact h.elim
def zgX:Sd:=λds S Q ex=>match ds with
 | [.int T,.int B]=>(0<B∧Sz 4000 B)∧∀t b:Int,1≤b→Int.gcd t b=1→t*B=T*b→t.natAbs≤T.natAbs→b≤B→Q (.tup [.int t,.int b]) S
 | _=>False
theorem zyR:Ln (zgX) 2:=λds S Q ex h=>by unfold zgX at h; split at h <;> first | rfl | exact h.elim
def ziv:Sd:=λds S Q ex=>match ds with
 | [.int p,.int _,.int _]=>p.natAbs≤1000000∧∀u v:Int,u≤v→u.natAbs≤2000000→v.natAbs≤2000000→Q (.tup [.int u,.int v]) S
 | _=>False
theorem zsk:Ln (ziv) 3:=λds S Q ex h=>by unfold ziv at h; split at h <;> first | rfl | exact h.elim
def zgx:Sd:=λds S Q ex=>match ds with
 | [.ref _,.int c,.int qi,.ref b]=>∃(q:Nat) (bs:List (Int×Int)),qi=(q:Nat)∧(1≤q∧q≤4)∧bs.length=q∧S[b]?=some (.lst (bs.map frD))∧(zdD c q bs→Q (.bl true) S)∧(¬zdD c q bs→Q (.bl false) S)
 | _=>False
theorem ztx:Ln (zgx) 4:=λds S Q ex h=>by unfold zgx at h; split at h <;> first | rfl | exact h.elim
def ziK:Sd:=λds S Q ex=>match ds with
 | [.ref f,.ref b]=>∃us vs:List (Int×Int),S[f]?=some (.lst (us.map frD))∧S[b]?=some (.lst (vs.map frD))∧us.length=vs.length∧vs.length≤900∧Q (.bl (zbR us vs)) S
 | _=>False
theorem zvC:Ln (ziK) 2:=λds S Q ex h=>by unfold ziK at h; split at h <;> first | rfl | exact h.elim
def zgg:Sd:=λds S Q ex=>match ds with
 | [.tup [.int a,.int b]]=>a≤b∧Q (.bl true) S
 | _=>False
theorem zxI:Ln (zgg) 1:=λds S Q ex h=>by unfold zgg at h; split at h <;> first | rfl | exact h.elim
def zhP:Sd:=λds S Q ex=>match ds with
 | [.ref a,.int m]=>∃vs:List (Int×Int),S[a]?=some (.lst (vs.map frD))∧m=vs.length∧(∀p∈vs,p.1≤p.2)∧Q (.bl true) S
 | _=>False
theorem zxB:Ln (zhP) 2:=λds S Q ex h=>by unfold zhP at h; split at h <;> first | rfl | exact h.elim
section
variable {P:Program}{w:World}{K:PySem.W.Frag}{mg:Str→Option Value}{base:Heap}
def zwD  (zlr:Df K mg "_law_grid" zlC zgr):Fk P w K mg base 1 "_law_grid" zgr zhJ:=
 zlr.mk' (zaw (k:=0) zlr.F ztG (zxz) λcdv A outer s H E hr=>⟨_,(zap (zaM (zaI (zaS hr) (zao zbv (dv 0) zac) zac (zaC _)) (zah (zar (zao zbl zac (zao zbv (zao zbU (dv 0) zac) zac)))) zaP) (zap (zaM (zaI (zaS hr) (zao zbv (dv 0) zac) zac (zaC _)) (zah (zar (zao zbl zac (zao zbv (zao zbU (dv 0) zac) zac)))) zaP) (zah (zar zac)))),λds S Q ex h=>by
  unfold zhJ at h
  split at h
  ·rename_i c
   refine ifD (λe=>?_) (λe=>?_)
   ·exact h _ (by omega) (by omega)
   ·refine ifD (λe=>?_) (λe=>?_)
    ·exact h _ (by omega) (by omega)
    ·exact h _ (by decide) (by decide)
  ·exact h.elim⟩)
def zuo  (zkd:Df K mg "_law_turned" zdQ zgq)(zaQ:mg "range"=none)(zcL:mg "int"=none):Fk P w K mg base 1 "_law_turned" zgq zgs:=
 zkd.mk' (zaw (k:=0) zkd.F zdg (zsC) λcdv A outer s H E hr=>⟨_,(zap (zaE (i:=2) zdg.nd rfl (Or.inr rfl) (zcJ zab)) (zap (zaE (i:=3) zdg.nd rfl (Or.inl rfl) (zcJ zab)) (zap (zgd (i:=4) PassesOwn.never rfl zdg.nd rfl (Or.inr rfl) rfl zaQ (zaa (dv 0) zab) (zap (zce (zdk (dv 2) (zd2 (x:="_law_at_here") (N:=["_law_k"]) (caps:=[4]) (ar:=zam zdQ) rfl rfl csc rfl (by decide) rfl zaQ (zaa (dv 0) zab) (λ_ _ _ _ _ _=>zbh) (λ_ _ _ _ _ _=>(zh0 zqm rfl zcL Boot.«int» (zaa (zci (zaS hr) (dv 0) (dv 1) (zaC _)) zab)))))) (zah (zce (zdk (dv 3) (zd2 (x:="_law_at_here") (N:=["_law_k"]) (caps:=[4]) (ar:=zam zdQ) rfl rfl csc rfl (by decide) rfl zaQ (zaa (dv 0) zab) (λ_ _ _ _ _ _=>zbh) (λ_ _ _ _ _ _=>(zh0 zqm rfl zcL Boot.«int» (zaa (zci (zaS hr) (dv 0) (dv 1) (zaC _)) zab))))))))) (zap (zda (i:=5) PassesOwn.never rfl zdg.nd rfl (Or.inl rfl) (dv 1) (zap (zaE (i:=6) zdg.nd rfl (Or.inr rfl) (zao zdb (dv 5) (dv 0))) (zap (zaE (i:=7) zdg.nd rfl (Or.inr rfl) (zao zdb (zao zbU (dv 5) zac) (dv 0))) (zap (zaE (i:=8) zdg.nd rfl (Or.inr rfl) (zao zcZ (zao zbv (zao zbU (dv 5) zac) zac) zac)) (zah (zaM (zaI (zaS hr) (dv 6) (dv 7) (zaC _)) (zap (zh4 (dv 2) (dv 6) (zcD (x:="_law_entry") (N:=[]) (caps:=[]) (ar:=zam zdQ) rfl rfl csc rfl (by decide) (zaH (dv 2) (dv 6) (λ_ _=>rfl)) (λ_ _ _ _ _ _=>zbh) (λ_ _ _ _ _ _=>(ziG zgF (dv 0))))) (zah (zda (i:=9) PassesOwn.never rfl zdg.nd rfl (Or.inl rfl) (dv 3) (zah (zh4 (dv 9) (dv 6) (ziG zgF (zaH (dv 9) (dv 6) (λ_ _=>rfl)))))))) (zap (zh4 (dv 2) (dv 6) (zd2 (x:="_law_k") (N:=["_law_share","_law_ones","_law_one","_law_other"]) (caps:=[8,2,6,7]) (ar:=zam zdQ) rfl rfl csc rfl (by decide) rfl zaQ (zaa (dv 0) zab) (λ_ _ _ _ _ _=>zbh) (λ_ _ _ _ _ _=>(zao zbl (zaH (zaH (dv 2) (dv 3) (λ_ _=>rfl)) (dv 0) (λ_ _=>rfl)) (zao za3 (dv 1) (zaH (zaH (dv 2) (dv 4) (λ_ _=>rfl)) (dv 0) (λ_ _=>rfl))))))) (zah (zda (i:=9) PassesOwn.never rfl zdg.nd rfl (Or.inl rfl) (dv 3) (zah (zh4 (dv 9) (dv 7) (zao zcZ (zaH (dv 9) (dv 7) (λ_ _=>rfl)) (zao za3 (dv 8) (zaH (dv 9) (dv 6) (λ_ _=>rfl))))))))))))))) (zah (zar (za1 (zaa (dv 2) (zaa (dv 3) zab))))))))),λds S Q ex h=>by
  unfold zgs at h
  split at h
  ·rename_i qi c
   obtain⟨n,cs,rfl,n3,hc,lc,h⟩:=h
   have ls:=zbo hc
   try dsimp only
   refine zlz (λdl' S'=>Pre S S'∧(∃as bs:List Nat,Mx S' (S.length+2) S.length (S.length+1) (n+1) (n+1) as bs idA idA)∧∃u4 u5 u6 u7 u8 u9:Option D,dl'=[some (.int ((n+1:Nat):Int)),some (.ref c),some (.ref S.length),some (.ref (S.length+1)),u4,u5,u6,u7,u8,u9]) (λnx hn=>?_) ?_
   ·have e1:(S++[Ob.lst []]).length=S.length+1:=by simp
    refine⟨⟨by omega,by omega⟩,λk dl' S'=>k≤n+1∧Pre S S'∧S.length+2≤S'.length∧(∃as bs:List Nat,Mx S' (S.length+2) S.length (S.length+1) (n+1) k as bs idA idA)∧∃u4 u5 u6 u7 u8 u9:Option D,dl'=[some (.int ((n+1:Nat):Int)),some (.ref c),some (.ref S.length),some (.ref (S.length+1)),u4,u5,u6,u7,u8,u9],⟨Vat _,Pre.refl.push.push,by simp,⟨[],[],by have z:=Mx.start S (n+1) idA idA; rw[e1] at z; exact z⟩,_,_,_,_,_,_,by rw[e1]; rfl⟩,?_⟩
    rintro k dl' S' ⟨hk,pr,l2,⟨as,bs,mx⟩,u4,u5,u6,u7,u8,u9,rfl⟩
    rw[Vah]
    refine ze3 (λc=>?_) (λc=>?_)
    ·have er:((List.range ((n+1:Nat):Int).toNat).map λ(j:Nat)=>D.int (if decide ((j:Int)=(k:Int))=true then 1 else 0))=((List.range (n+1)).map (idA k)).map D.int:=by
      rw[Vag,Vah]
      refine VaI λj _=>?_
      show D.int _=D.int _
      unfold idA
      congr 1
      by_cases e:k=j
      ·rw[if_pos e,if_pos (by simp[e])]
      ·rw[if_neg e,if_neg (by simp; omega)]
     refine znX (n:=S.length) (S1:=S') (S2:=S'++[rwI (n+1) (idA k)]) (xs:=as.map D.ref) (y:=.ref S'.length) (λK hK=>by exact hK) mx.h1 (λK hK=>?_) (zaB mx.h1) (by rw[Vac,mx.la]; omega) ?_
     ·refine zdY (j:=((n+1:Nat):Int)) (S1:=S') (λ(j:Nat)=>D.int (if decide ((j:Int)=(k:Int))=true then 1 else 0)) (λK hK=>by exact hK) ⟨by omega,by omega⟩ (λj hj S2 K pr hK=>by exact hK) ?_
      rw[er]
      exact hK
     refine znX (n:=S.length+1) (S1:=(S'++[rwI (n+1) (idA k)]).set S.length (.lst (as.map D.ref++[.ref S'.length]))) (S2:=(S'++[rwI (n+1) (idA k)]).set S.length (.lst (as.map D.ref++[.ref S'.length]))++[rwI (n+1) (idA k)]) (xs:=bs.map D.ref) (y:=.ref ((S'++[rwI (n+1) (idA k)]).set S.length (.lst (as.map D.ref++[.ref S'.length]))).length) (λK hK=>by exact hK) (za9 (zaB mx.h2) (by omega)) (λK hK=>?_) (zaB (za9 (zaB mx.h2) (by omega))) (by rw[Vac,mx.lb]; omega) ?_
     ·refine zdY (j:=((n+1:Nat):Int)) (S1:=(S'++[rwI (n+1) (idA k)]).set S.length (.lst (as.map D.ref++[.ref S'.length]))) (λ(j:Nat)=>D.int (if decide ((j:Int)=(k:Int))=true then 1 else 0)) (λK hK=>by exact hK) ⟨by omega,by omega⟩ (λj hj S2 K pr hK=>by exact hK) ?_
      rw[er]
      exact hK
     exact⟨by omega,zcU (zcm (zcU (zcm pr _) (Vad _)) _) (by omega),by simp; omega,⟨_,_,mx.snoc (by omega) (by omega) l2⟩,_,_,_,_,_,_,rfl⟩
    ·have ek:k=n+1:=by omega
     subst ek
     exact hn _ _ ⟨pr,⟨as,bs,mx⟩,_,_,_,_,_,_,rfl⟩
   rintro dl' S' ⟨pr,⟨as,bs,mx⟩,u4,u5,u6,u7,u8,u9,rfl⟩
   refine zdi (n:=c) (o:=.lst (cs.map D.int)) (λk dl' S'=>Pre S S'∧S.length+2≤S'.length∧(∃(as bs:List Nat) (a b:Nat→Nat→Int),Mx S' (S.length+2) S.length (S.length+1) (n+1) (n+1) as bs a b∧Trn (n+1) k a b)∧∃u4 u5 u6 u7 u8 u9:Option D,dl'=[some (.int ((n+1:Nat):Int)),some (.ref c),some (.ref S.length),some (.ref (S.length+1)),u4,u5,u6,u7,u8,u9]) ⟨pr,by have:=zbo mx.h2; omega,⟨as,bs,idA,idA,mx,zrC n3⟩,_,_,_,_,_,_,rfl⟩ (λk dl' S' w=>w.1 _ _ hc) ?_ ?_
   ·rintro k x dl' S' nx ct ex' ⟨pr,l2,⟨as,bs,a,b,mx,tr⟩,u4,u5,u6,u7,u8,u9,rfl⟩ hn
    have hx:(cs.map D.int)[k]?=some x:=ex'
    have k6:k<cs.length:=by have:=(Vab.mp hx).1; rwa [Vac] at this
    rw[Vae] at hx
    obtain⟨v,_,rfl⟩:=Vam.mp hx
    have pos:(0:Int)<((n+1:Nat):Int):=by omega
    have r1:=zdq (a:=v) pos
    have r2:=zdq (a:=v/4) pos
    obtain⟨s,es⟩:∃s:Nat,v%((n+1:Nat):Int)=(s:Int):=⟨(v%((n+1:Nat):Int)).toNat,by omega⟩
    obtain⟨j,ej⟩:∃j:Nat,v/4%((n+1:Nat):Int)=(j:Int):=⟨(v/4%((n+1:Nat):Int)).toNat,by omega⟩
    obtain⟨t,et⟩:∃t:Int,v/16%5-2=t:=⟨_,rfl⟩
    have t2:t.natAbs≤2:=by omega
    have s1:s<n+1:=by omega
    have j1:j<n+1:=by omega
    refine zlz (λdl2 S2=>S'=S2∧dl2=[some (.int ((n+1:Nat):Int)),some (.ref c),some (.ref S.length),some (.ref (S.length+1)),u4,some (.int v),some (.int (s:Int)),some (.int (j:Int)),some (.int t),u9]) (λnx hn=>⟨pos,pos,hn _ _ ⟨rfl,by rw[← es,← ej,← et]; rfl⟩⟩) ?_
    rintro dl2 S2 ⟨rfl,rfl⟩
    obtain⟨xs,hxs⟩:∃xs,as[s]?=some xs:=⟨_,Vaa (show s<as.length by rw[mx.la]; exact s1)⟩
    obtain⟨xj,hxj⟩:∃xj,as[j]?=some xj:=⟨_,Vaa (show j<as.length by rw[mx.la]; exact j1)⟩
    have ys:=(mx.ra s xs hxs).2
    have yj:=(mx.ra j xj hxj).2
    have big:∀r c:Nat,r<n+1→c<n+1→(a r c).natAbs≤239:=λr c hr hc=>by
     have z:=tr.row (by omega) hr
     have y:=zk2 (a r) hc
     omega
    have bigB:∀r c:Nat,(b r c).natAbs≤729:=λr c=>by
     have z:=tr.sb r c
     have y:3^k≤3^6:=Nat.pow_le_pow_right (by decide) (by omega)
     omega
    refine ifD (λe=>?_) (λe=>?_)
    ·have sj:s=j:=by omega
     have lS:=mx.la
     refine zqS (n:=S.length) (S1:=S'++[rwI (n+1) (zcv s a s)]) (j:=s) (k:=(s:Int)) (xs:=as.map D.ref) (v:=.ref S'.length) (λK hK=>?_) (λK hK=>by exact hK) (λK hK=>by exact hK) (zaB mx.h1) (zhb (by rw[Vac]; omega)) ?_
     ·refine zcY (n:=xs) (S1:=S') (o:=rwI (n+1) (a s)) (λd=>match d with | .int i=>.int (-i) | _=>.non) (λK hK=>?_) ys (by show (((List.range (n+1)).map (a s)).map D.int).length≤1000; simp; omega) (λx hx S2 K pr hK=>?_) ?_
      ·exact zaG (o:=.lst (as.map D.ref)) mx.h1 (zop hxs) hK
      ·obtain⟨i,_,rfl⟩:=Vai.mp (show x∈((List.range (n+1)).map (a s)).map D.int from hx)
       exact hK
      ·have en:(zak (rwI (n+1) (a s))).map (λd=>match d with | .int i=>.int (-i) | _=>.non)=((List.range (n+1)).map (zcv s a s)).map D.int:=by
        show (((List.range (n+1)).map (a s)).map D.int).map _=_
        rw[Vag,Vag,Vag]
        refine VaI λl _=>?_
        show D.int (-(a s l))=D.int (if s=s then -(a s l) else a s l)
        rw[if_pos rfl]
       rw[en]
       exact hK
     have mx2:=mx.setA (s:=s) (by omega) (by omega) l2 s1 (zcv s a) (λr hr=>by funext c; exact if_neg hr)
     have pr2:Pre S ((S'++[rwI (n+1) (zcv s a s)]).set S.length (.lst ((as.map D.ref).set s (.ref S'.length)))):=zcU (zcm pr _) (Vad _)
     have l3:S.length+2≤((S'++[rwI (n+1) (zcv s a s)]).set S.length (.lst ((as.map D.ref).set s (.ref S'.length)))).length:=by simp; omega
     generalize (S'++[rwI (n+1) (zcv s a s)]).set S.length (.lst ((as.map D.ref).set s (.ref S'.length)))=T at mx2 pr2 l3 ⊢
     generalize as.set s S'.length=as2 at mx2
     refine zdi (n:=S.length+1) (o:=.lst (bs.map D.ref)) (λr dl' S2=>Pre S S2∧S.length+2≤S2.length∧Mx S2 (S.length+2) S.length (S.length+1) (n+1) (n+1) as2 bs (zcv s a) (λi c=>if i<r then zds s b i c else b i c)∧∃u9:Option D,dl'=[some (.int ((n+1:Nat):Int)),some (.ref c),some (.ref S.length),some (.ref (S.length+1)),u4,some (.int v),some (.int (s:Int)),some (.int (j:Int)),some (.int t),u9]) ⟨pr2,l3,mx2.congr λr _=>by funext c; exact if_neg (by omega),_,rfl⟩ (λk dl' S' w=>w.2.2.1.h2) ?_ ?_
     ·rintro r x dl' S2 nx ct ex' ⟨p3,l4,mx3,u9,rfl⟩ hn2
      have hx:(bs.map D.ref)[r]?=some x:=ex'
      have rn:r<n+1:=by have:=(Vab.mp hx).1; rw[Vac,mx3.lb] at this; exact this
      rw[Vae] at hx
      obtain⟨y,hy,rfl⟩:=Vam.mp hx
      have hr:=(mx3.rb r y hy).2
      have eb:(λc=>if r<r then zds s b r c else b r c)=b r:=by funext c; exact if_neg (by omega)
      rw[eb] at hr
      refine zoO (n:=y) (k:=(s:Int)) (j:=s) (xs:=((List.range (n+1)).map (b r)).map D.int) (v:=.int (-(b r s))) (λK hK=>?_) (λK hK=>by exact hK) (λK hK=>by exact hK) hr (zhb (by simpa using s1)) ?_
      ·exact zaG (o:=rwI (n+1) (b r)) hr (zfZ s1) hK
      rw[zpS s1]
      have mx4:=mx3.setB (by omega) (by omega) hy (λi c=>if i<r+1 then zds s b i c else b i c) (λi hi=>by
       funext c
       by_cases w:i<r
       ·rw[if_pos w,if_pos (by omega)]
       ·rw[if_neg w,if_neg (by omega)])
      have e4:(λc=>if r<r+1 then zds s b r c else b r c)=λc=>if c=s then -(b r s) else b r c:=by
       funext c
       rw[if_pos (by omega)]
       unfold zds
       by_cases w:c=s
       ·rw[if_pos w,if_pos w,w]
       ·rw[if_neg w,if_neg w]
      try dsimp only at mx4
      rw[e4] at mx4
      have ly:=mx3.rb r y hy
      exact hn2 _ _ ⟨zcU p3 (by omega),by rw[Va7]; exact l4,mx4,_,rfl⟩
     ·rintro dl' S2 ⟨p3,l4,mx3,u9,rfl⟩
      have e9:(zak (.lst (bs.map D.ref))).length=n+1:=by show (bs.map D.ref).length=_; rw[Vac,mx3.lb]
      rw[e9] at mx3
      exact hn _ _ ⟨p3,l4,⟨as2,bs,zcv s a,zds s b,mx3.congr λr hr=>by funext c; exact(if_pos hr).symm,tr.neg n3 s1⟩,_,_,_,_,_,_,rfl⟩
    ·have sj:j≠s:=by omega
     have lS:=mx.la
     refine zqS (n:=S.length) (S1:=S'++[rwI (n+1) (zb3 s j t a s)]) (j:=s) (k:=(s:Int)) (xs:=as.map D.ref) (v:=.ref S'.length) (λK hK=>?_) (λK hK=>by exact hK) (λK hK=>by exact hK) (zaB mx.h1) (zhb (by rw[Vac]; omega)) ?_
     ·refine zdY (j:=((n+1:Nat):Int)) (S1:=S') (λl=>.int (zb3 s j t a s l)) (λK hK=>by exact hK) ⟨by omega,by omega⟩ (λl hl S2 K pr hK=>?_) ?_
      ·rw[Vah] at hl
       refine zaG (o:=.lst (as.map D.ref)) (pr _ _ mx.h1) (zop hxs) ?_
       refine zaG (o:=rwI (n+1) (a s)) (pr _ _ ys) (zfZ hl) ?_
       refine zaG (o:=.lst (as.map D.ref)) (pr _ _ mx.h1) (zop hxj) ?_
       refine zaG (o:=rwI (n+1) (a j)) (pr _ _ yj) (zfZ hl) ?_
       refine⟨zaR (m:=10) (n:=10) (Sz.of 2 t2) (Sz.of 239 (big j l j1 hl)),?_⟩
       have ea:zb3 s j t a s l=a s l+t*a j l:=if_pos rfl
       rw[ea] at hK
       exact hK
      ·have en:((List.range ((n+1:Nat):Int).toNat).map λl=>D.int (zb3 s j t a s l))=((List.range (n+1)).map (zb3 s j t a s)).map D.int:=by
        rw[Vah,Vag]
        rfl
       rw[en]
       exact hK
     have mx2:=mx.setA (s:=s) (by omega) (by omega) l2 s1 (zb3 s j t a) (λr hr=>by funext c; exact if_neg hr)
     have pr2:Pre S ((S'++[rwI (n+1) (zb3 s j t a s)]).set S.length (.lst ((as.map D.ref).set s (.ref S'.length)))):=zcU (zcm pr _) (Vad _)
     have l3:S.length+2≤((S'++[rwI (n+1) (zb3 s j t a s)]).set S.length (.lst ((as.map D.ref).set s (.ref S'.length)))).length:=by simp; omega
     generalize (S'++[rwI (n+1) (zb3 s j t a s)]).set S.length (.lst ((as.map D.ref).set s (.ref S'.length)))=T at mx2 pr2 l3 ⊢
     generalize as.set s S'.length=as2 at mx2
     refine zdi (n:=S.length+1) (o:=.lst (bs.map D.ref)) (λr dl' S2=>Pre S S2∧S.length+2≤S2.length∧Mx S2 (S.length+2) S.length (S.length+1) (n+1) (n+1) as2 bs (zb3 s j t a) (λi c=>if i<r then zdn s j t b i c else b i c)∧∃u9:Option D,dl'=[some (.int ((n+1:Nat):Int)),some (.ref c),some (.ref S.length),some (.ref (S.length+1)),u4,some (.int v),some (.int (s:Int)),some (.int (j:Int)),some (.int t),u9]) ⟨pr2,l3,mx2.congr λr _=>by funext c; exact if_neg (by omega),_,rfl⟩ (λk dl' S' w=>w.2.2.1.h2) ?_ ?_
     ·rintro r x dl' S2 nx ct ex' ⟨p3,l4,mx3,u9,rfl⟩ hn2
      have hx:(bs.map D.ref)[r]?=some x:=ex'
      have rn:r<n+1:=by have:=(Vab.mp hx).1; rw[Vac,mx3.lb] at this; exact this
      rw[Vae] at hx
      obtain⟨y,hy,rfl⟩:=Vam.mp hx
      have hr:=(mx3.rb r y hy).2
      have eb:(λc=>if r<r then zdn s j t b r c else b r c)=b r:=by funext c; exact if_neg (by omega)
      rw[eb] at hr
      refine zoO (n:=y) (k:=(j:Int)) (j:=j) (xs:=((List.range (n+1)).map (b r)).map D.int) (v:=.int (b r j-t*b r s)) (λK hK=>?_) (λK hK=>by exact hK) (λK hK=>by exact hK) hr (zhb (by simpa using j1)) ?_
      ·refine zaG (o:=rwI (n+1) (b r)) hr (zfZ j1) ?_
       refine zaG (o:=rwI (n+1) (b r)) hr (zfZ s1) ?_
       exact⟨zaR (m:=10) (n:=10) (Sz.of 2 t2) (Sz.of 729 (bigB r s)),hK⟩
      rw[zpS j1]
      have mx4:=mx3.setB (by omega) (by omega) hy (λi c=>if i<r+1 then zdn s j t b i c else b i c) (λi hi=>by
       funext c
       by_cases w:i<r
       ·rw[if_pos w,if_pos (by omega)]
       ·rw[if_neg w,if_neg (by omega)])
      have e4:(λc=>if r<r+1 then zdn s j t b r c else b r c)=λc=>if c=j then b r j-t*b r s else b r c:=by
       funext c
       rw[if_pos (by omega)]
       unfold zdn
       rfl
      try dsimp only at mx4
      rw[e4] at mx4
      have ly:=mx3.rb r y hy
      exact hn2 _ _ ⟨zcU p3 (by omega),by rw[Va7]; exact l4,mx4,_,rfl⟩
     ·rintro dl' S2 ⟨p3,l4,mx3,u9,rfl⟩
      have e9:(zak (.lst (bs.map D.ref))).length=n+1:=by show (bs.map D.ref).length=_; rw[Vac,mx3.lb]
      rw[e9] at mx3
      exact hn _ _ ⟨p3,l4,⟨as2,bs,zb3 s j t a,zdn s j t b,mx3.congr λr hr=>by funext c; exact(if_pos hr).symm,tr.add n3 s1 j1 (by omega) t2⟩,_,_,_,_,_,_,rfl⟩
   ·rintro dl' S' ⟨pr,l2,⟨as,bs,a,b,mx,tr⟩,u4,u5,u6,u7,u8,u9,rfl⟩
    exact h _ _ _ _ a b pr (Vad _) (by omega) mx.matA mx.matB tr (by show (cs.map D.int).length≤6; rw[Vac]; exact lc)
  ·exact h.elim⟩)
def zry  (zjG:Df K mg "_law_changed" zlm zic):Fk P w K mg base 1 "_law_changed" zic zhw:=
 zjG.mk' (zaw (k:=0) zjG.F zqo (zum) λcdv A outer s H E hr=>⟨_,(zap (zaE (i:=3) zqo.nd rfl (Or.inl rfl) (zao zbv (dv 1) zac)) (zah (zaM (zaI (zaS hr) (dv 3) zac (zaC _)) (zah (zce (zpr (dv 0) (zaa (zao zdb (zao zbU (dv 1) zac) (zao zbl (dv 2) zac)) (zaa (zaH (dv 0) zac (λ_ _=>rfl)) zab))))) (zah (zaM (zaI (zaS hr) (dv 3) zac (zaC _)) (zah (zce (zyg (dv 0) (zaa (zao zdb (zao zbU (dv 1) zac) (dv 2)) zab)))) (zah (zaM (PDW.pt (zrj (zaI (zaS hr) (dv 3) zac (zaC _)) (zpx (zaI zoY (dv 2) zac (zaC _))))) (zah (zh4 (dv 0) (zao zbl (zao zdb (zao zbU (dv 1) zac) (zao zcZ (dv 2) zac)) zac) (zaH (dv 0) zac (λ_ _=>rfl)))) (zah (zaM (zaI (zaS hr) (dv 3) zac (zaC _)) (zah (zce (zpr (dv 0) (zaa (zao zdb (zao zbU (dv 1) zac) (zao zbl (dv 2) zac)) (zaa (za1 (zaa zbP (zaa (zao zdb (zao zbU (dv 1) zac) (dv 2)) zab))) zab))))) zaP))))))))),λds S Q ex h=>by
  unfold zhw at h
  split at h
  ·rename_i r c qi
   obtain⟨q,rs,rfl,⟨q1,q4⟩,l,hr,h⟩:=h
   have lr:((tr' rs).map rwD).length=q:=by rw[Vac,Vac]; exact l
   have at0:atI ((tr' rs).map rwD) 0=some (rwD (true,rs.getD 0 0)):=zcV (j:=0) (by
    rw[Vae,Vae,Vaf,Vaa (by omega)]
    rfl)
   have same:(c%8≠0∧c%8≠1∧c%8≠3∧¬(c%8=2∧1<q))→Q .non S:=λz=>by
    have w:=h _ (chg4 q4 l z.1 z.2.1 z.2.2.1 z.2.2.2)
    rw[ztf hr] at w
    exact w
   refine ifD (λe=>?_) (λe0=>?_)
   ·have np:(0:Int)<(q:Nat)+1:=by omega
    have xr:=zdq (a:=c/8) np
    refine zpk (n:=r) (S1:=S) (S2:=S) (i:=c/8%((q:Nat)+1)) (y:=rwD (true,rs.getD 0 0)) (xs:=(tr' rs).map rwD) (λK hK=>by exact hK) hr (λK hK=>⟨np,?_⟩) hr ⟨xr.1,by omega,by omega⟩ ?_
    ·exact zaG (o:=.lst ((tr' rs).map rwD)) hr at0 hK
    ·rw[zpv]
     exact h _ (chg0 q1 q4 l e (by omega))
   refine ifD (λe=>?_) (λe1=>?_)
   ·have np:(0:Int)<(q:Nat):=by omega
    have xr:=zdq (a:=c/8) np
    refine zu1 (n:=r) (S1:=S) (i:=c/8%((q:Nat):Int)) (xs:=(tr' rs).map rwD) (λK hK=>by exact hK) hr (λK hK=>⟨np,hK⟩) ⟨xr.1,by omega,by omega⟩ λy=>?_
    have e2:((tr' rs).map rwD).eraseIdx (c/8%((q:Nat):Int)).toNat=((tr' rs).eraseIdx (c/8%((q:Nat):Int)).toNat).map rwD:=by rw[List.eraseIdx_eq_take_drop_succ,List.eraseIdx_eq_take_drop_succ,Vav,VaZ,VaT]
    rw[e2]
    exact h _ (chg1 q1 q4 l e (by omega))
   have three:c%8=3→zgc (zbq 0) (zeZ (dOp zjt (dOp zjc (zbq 1) (dC (D.int 8))) (dOp wAdd (zbq 2) (dC (D.int 1)))) (zeZ (dTup (zeZ (dC (D.str (Str.ofString "least"))) (zeZ (dOp zjt (dOp zjc (zbq 1) (dC (D.int 40))) (zbq 2)) zhg))) zhg)) [some (.ref r),some (.int c),some (.int (q:Nat)),some (.int (c%8))] S (λ_ S1=>Q .non S1):=λe=>by
    have np:(0:Int)<(q:Nat)+1:=by omega
    have np2:(0:Int)<(q:Nat):=by omega
    have xr:=zdq (a:=c/8) np
    have kr:=zdq (a:=c/40) np2
    obtain⟨k,hk⟩:∃k:Nat,c/40%((q:Nat):Int)=(k:Int):=⟨(c/40%((q:Nat):Int)).toNat,by omega⟩
    refine zpk (n:=r) (S1:=S) (S2:=S) (i:=c/8%((q:Nat)+1)) (y:=rwD (false,k)) (xs:=(tr' rs).map rwD) (λK hK=>by exact hK) hr (λK hK=>⟨np,np2,?_⟩) hr ⟨xr.1,by omega,by omega⟩ ?_
    ·have e9:rwD (false,k)=.tup [.str "least",.int (c/40%((q:Nat):Int))]:=by rw[hk]; rfl
     rw[e9] at hK
     exact hK
    ·rw[zpv]
     exact h _ (chg3 q4 l e (by omega) hk (by omega))
   refine ifD (λe2=>?_) (λe2=>?_)
   ·refine ifD (λe3=>?_) (λe3=>?_)
    ·have np:(0:Int)<(q:Nat)-1:=by omega
     have xr:=zdq (a:=c/8) np
     obtain⟨s,hs⟩:∃s:Nat,c/8%(((q:Nat):Int)-1)+1=(s:Int):=⟨(c/8%(((q:Nat):Int)-1)+1).toNat,by omega⟩
     refine zoO (n:=r) (k:=(s:Int)) (j:=s) (xs:=(tr' rs).map rwD) (v:=rwD (true,rs.getD 0 0)) (λK hK=>zaG (o:=.lst ((tr' rs).map rwD)) hr at0 hK) (λK hK=>by exact hK) (λK hK=>⟨np,by rw[← hs] at hK; exact hK⟩) hr (zhb (by omega)) ?_
     rw[← List.map_set]
     exact h _ (chg2 q4 l e2 (by omega) (by omega) (by omega))
    ·refine ifD (λe4=>absurd e4 (by omega)) (λe4=>?_)
     exact same ⟨e0,e1,e4,λz=>e3 (by have:=z.2; omega)⟩
   ·refine ifD (λe4=>three e4) (λe4=>?_)
    exact same ⟨e0,e1,e4,λz=>e2 z.1⟩
  ·exact h.elim⟩)
def zuW  (zkh:Df K mg "equation_places" zg1 zhY):Fk P w K mg base 1 "equation_places" zhY zhR:=
 zkh.mk' (zaw (k:=0) zkh.F zsW (zse) λcdv A outer s H E hr=>⟨_,(zah (zar (zcD (x:="row") (N:=[]) (caps:=[]) (ar:=zam zg1) rfl rfl csc rfl (by decide) (dv 0) (λ_ _ _ _ _ _=>zpY (zaI (zaS hr) (zav (dv 0) zac (λ_ _=>rfl)) zbP (zaC _))) (λ_ _ _ _ _ _=>(zav (dv 0) zac (λ_ _=>rfl)))))),λds S Q ex h=>by
  unfold zhR at h
  split at h
  ·rename_i r
   obtain⟨rows,hr,l9,h⟩:=h
   refine zrt (n:=r) (S1:=S) (o:=.lst (rows.map rwD)) (λd=>match d with | .tup [.str w,.int at']=>if w="zero" then some (.int at') else none | _=>none) (λK hK=>by exact hK) hr (by show (rows.map rwD).length≤1000; rw[Vac]; omega) (λx hx S2 K pr hK=>?_) (λx hx y hy S2 K pr hK=>?_) ?_
   ·have hx':x∈rows.map rwD:=hx
    obtain⟨⟨b,n⟩,_,rfl⟩:=Vai.mp hx'
    cases b
    ·exact hK
    ·exact hK
   ·have hx':x∈rows.map rwD:=hx
    obtain⟨⟨b,n⟩,_,rfl⟩:=Vai.mp hx'
    cases b
    ·exact absurd hy (by
      simp[rwD]
      intro z
      exact absurd z (by decide))
    ·cases hy
     exact hK
   ·have e:(zak (.lst (rows.map rwD))).filterMap (λd=>match d with | .tup [.str w,.int at']=>if w="zero" then some (.int at') else none | _=>none)=(eqs rows).map wtD:=by
     show (rows.map rwD).filterMap _=_
     unfold eqs
     rw[List.filterMap_map,List.map_filterMap]
     congr 1
     funext ⟨b,n⟩
     cases b <;> rfl
    rw[e]
    exact h
  ·exact h.elim⟩)
def zxK  (zk5:Df K mg "picked" zga zfr):Fk P w K mg base 1 "picked" zfr zeL:=
 zk5.mk' (zaw (k:=0) zk5.F zx6 (zxv) λcdv A outer s H E hr=>⟨_,(zah (zar (zcD (x:="place") (N:=["each"]) (caps:=[0]) (ar:=zam zga) rfl rfl csc rfl (by decide) (dv 1) (λ_ _ _ _ _ _=>zbh) (λ_ _ _ _ _ _=>(zaH (dv 1) (dv 0) (λ_ _=>rfl)))))),λds S Q ex h=>by
  unfold zeL at h
  split at h
  ·rename_i e p
   obtain⟨xs,is,he,hp,l9,hi,h⟩:=h
   refine zcY (n:=p) (S1:=S) (o:=.lst (is.map wtD)) (λd=>match d with | .int i=>xs.getD i.toNat .non | _=>.non) (λK hK=>by exact hK) hp (by show (is.map wtD).length≤1000; rw[Vac]; omega) (λx hx S2 K pr hK=>?_) ?_
   ·have hx':x∈is.map wtD:=hx
    obtain⟨i,him,rfl⟩:=Vai.mp hx'
    have hl:=hi i him
    refine zaG (o:=.lst xs) (pr _ _ he) (zcV (j:=i) (v:=xs.getD i .non) (by show xs[i]?=_; rw[Vaa hl]; simp[hl])) ?_
    exact hK
   ·have e2:(zak (.lst (is.map wtD))).map (λd=>match d with | .int i=>xs.getD i.toNat .non | _=>.non)=is.map λi=>xs.getD i .non:=by
     show (is.map wtD).map _=_
     rw[Vag]
     rfl
    rw[e2]
    exact h
  ·exact h.elim⟩)
def zvw  (zjm:Df K mg "less" zlP ziL):Fk P w K mg base 1 "less" ziL zgo:=
 zjm.mk' (zaw (k:=0) zjm.F zxr (zyP) λcdv A outer s H E hr=>⟨_,(zah (zar (zci zea (zao za3 (zav (dv 0) zac (λ_ _=>rfl)) (zav (dv 1) zac (λ_ _=>rfl))) (zao za3 (zav (dv 1) zac (λ_ _=>rfl)) (zav (dv 0) zac (λ_ _=>rfl))) (zaC _)))),λds S Q ex h=>by
  unfold zgo at h
  split at h
  ·obtain⟨⟨h1,h2⟩,h⟩:=h
   exact⟨h1,h2,h⟩
  ·exact h.elim⟩)
def zu3  (zjd:Df K mg "rounded_up" zln zej):Fk P w K mg base 1 "rounded_up" zej zeo:=
 zjd.mk' (zaw (k:=0) zjd.F zs7 (ztY) λcdv A outer s H E hr=>⟨_,(zah (zar (ziG zgF (zao zel (ziG zgF (dv 0)) (dv 1))))),λds S Q ex h=>by
  unfold zeo at h
  split at h
  ·exact h
  ·exact h.elim⟩)
def zuu  (zlH:Df K mg "span_of" zjC zhp)(zdw:Fk P w K mg base 1 "rounded_up" zej zeo)(znu:Fk P w K mg base 1 "less" ziL zgo):Fk P w K mg base 2 "span_of" zhp zhs:=
 zlH.mk' (zaw (k:=1) zlH.F zxX (zyI) λcdv A outer s H E hr=>⟨_,(zap (zaM (zcl (zaq znu hr (zaa (dv 1) (zaa (dv 0) zab)))) (zah zuq) zaP) (zah (zar (za1 (zaa (zao zel (zao za3 (zav (dv 0) zac (λ_ _=>rfl)) (dv 2)) (zav (dv 0) zac (λ_ _=>rfl))) (zaa (zaq zdw hr (zaa (zao za3 (zav (dv 1) zac (λ_ _=>rfl)) (dv 2)) (zaa (zav (dv 1) zac (λ_ _=>rfl)) zab))) zab)))))),λds S Q ex h=>by
  unfold zhs at h
  split at h
  ·obtain⟨⟨⟨m1,m2⟩,nl,m3,m4,f1,f2⟩,h⟩:=h
   refine⟨⟨m1,m2⟩,ifF (decide_eq_false nl) ?_⟩
   exact⟨m3,f1,m4,f2,h⟩
  ·exact h.elim⟩)
def zw0  (zaj:zbG K mg)(zal:zbQ K mg)(zae:zbC K mg)(zaf:zbB K mg)(zag:zbD K mg)(zai:zbJ K mg)(zmz:Dm K zaj.C "forth" "Number.forth" zj1 ziy)(znC:Fk P w K mg base 2 "span_of" zhp zhs):Fm P w K mg base 3 zaj.C "forth" ziy (ze1 zaj.C zal.C zae.C zaf.C zag.C zai.C):=
 zmz.mk' (zaw (k:=2) zmz.F zqB (ztc zaj.C zal.C zae.C zaf.C zag.C zai.C) λcdv A outer s H E hr=>⟨_,(zap (zaE (i:=4) zqB.nd rfl (Or.inl rfl) (za1 (zaa (za6 zaj.cl zaj.n_top (dv 0)) (zaa (za6 zaj.cl zaj.n_bottom (dv 0)) zab)))) (zah (zar (zaq znC hr (zaa (dv 4) (zaa (dv 4) (zaa (dv 3) zab))))))),λds S Q ex h=>by
  unfold ze1 at h
  split at h
  ·rename_i n w p g
   obtain⟨x,y,vs,bs,hn,hw,hp,ok,s1,hg,h⟩:=h
   have sg:Sz 21 g:=Sz.of 1000000 (by omega)
   have sx:Sz 31 x:=Sz.of (10^9) ok.2.2
   have sy:Sz 31 y:=Sz.of (10^9) (by have:=ok.1; omega)
   refine za2 (n:=n) (λK hK=>by exact hK) hn rfl ?_
   refine za2 (n:=n) (λK hK=>by exact hK) hn rfl ?_
   exact⟨⟨⟨zaR sx sy,zaR sx sy⟩,by omega,zaR sx sg,zaR sx sg,sy.fd (by have:=ok.1; omega),sy.fd (by have:=ok.1; omega)⟩,h⟩
  ·exact h.elim⟩)
def zvi  (zal:zbQ K mg)(zaj:zbG K mg)(zae:zbC K mg)(zaf:zbB K mg)(zag:zbD K mg)(zai:zbJ K mg)(zjq:Dm K zal.C "forth" "Unknown.forth" zkk zgK):Fm P w K mg base 1 zal.C "forth" zgK (zfY zaj.C zal.C zae.C zaf.C zag.C zai.C):=
 zjq.mk' (zaw (k:=0) zjq.F zww (zxN zaj.C zal.C zae.C zaf.C zag.C zai.C) λcdv A outer s H E hr=>⟨_,(zah (zar (zaH (dv 2) (za6 zal.cl zal.n_place (dv 0)) (λ_ _=>rfl)))),λds S Q ex h=>by
  unfold zfY at h
  split at h
  ·rename_i n w p g
   obtain⟨k,vs,bs,hn,hw,hp,ok,s1,hg,h⟩:=h
   refine za2 (n:=n) (λK hK=>by exact hK) hn rfl ?_
   exact zaG (o:=.lst (bs.map frD)) hp (zbi ok) h
  ·exact h.elim⟩)
def zuL  (zkn:Df K mg "add_spans" zmB zdE):Fk P w K mg base 1 "add_spans" zdE zdH:=
 zkn.mk' (zaw (k:=0) zkn.F zu6 (zwc) λcdv A outer s H E hr=>⟨_,(zah (zar (za1 (zaa (zao zbl (zav (dv 0) zac (λ_ _=>rfl)) (zav (dv 1) zac (λ_ _=>rfl))) (zaa (zao zbl (zav (dv 0) zac (λ_ _=>rfl)) (zav (dv 1) zac (λ_ _=>rfl))) zab))))),λds S Q ex h=>by
  unfold zdH at h
  split at h
  ·exact h
  ·exact h.elim⟩)
def zyH  (zae:zbC K mg)(zaj:zbG K mg)(zal:zbQ K mg)(zaf:zbB K mg)(zag:zbD K mg)(zai:zbJ K mg)(zkg:Dm K zae.C "forth" "Plus.forth" zjI zgj)(zb5:Fk P w K mg base 1 "add_spans" zdE zdH):Fm P w K mg base 2 zae.C "forth" zgj (zfQ zaj.C zal.C zae.C zaf.C zag.C zai.C):=
 zkg.mk' (zaw (k:=1) zkg.F zsD (zwm zaj.C zal.C zae.C zaf.C zag.C zai.C) λcdv A outer s H E hr=>⟨_,(zah (zar (zaq zb5 hr (zaa (zaH (dv 1) (za6 zae.cl zae.n_one (dv 0)) (λ_ _=>rfl)) (zaa (zaH (dv 1) (za6 zae.cl zae.n_other (dv 0)) (λ_ _=>rfl)) zab))))),λds S Q ex h=>by
  unfold zfQ at h
  split at h
  ·rename_i n w p g
   obtain⟨i,j,vs,bs,hn,hw,hp,ok,s1,hg,h⟩:=h
   refine za2 (n:=n) (λK hK=>by exact hK) hn rfl ?_
   refine zaG (o:=.lst (vs.map frD)) hw (zbi ok.1) ?_
   refine za2 (n:=n) (λK hK=>by exact hK) hn rfl ?_
   refine zaG (o:=.lst (vs.map frD)) hw (zbi ok.2) ?_
   exact h
  ·exact h.elim⟩)
def zsF  (zlB:Df K mg "take_spans" zi4 zdX):Fk P w K mg base 1 "take_spans" zdX zdV:=
 zlB.mk' (zaw (k:=0) zlB.F zrA (zxh) λcdv A outer s H E hr=>⟨_,(zah (zar (za1 (zaa (zao zcZ (zav (dv 0) zac (λ_ _=>rfl)) (zav (dv 1) zac (λ_ _=>rfl))) (zaa (zao zcZ (zav (dv 0) zac (λ_ _=>rfl)) (zav (dv 1) zac (λ_ _=>rfl))) zab))))),λds S Q ex h=>by
  unfold zdV at h
  split at h
  ·exact h
  ·exact h.elim⟩)
def zxf  (zaf:zbB K mg)(zaj:zbG K mg)(zal:zbQ K mg)(zae:zbC K mg)(zag:zbD K mg)(zai:zbJ K mg)(zjQ:Dm K zaf.C "forth" "Minus.forth" zkZ zgN)(zcx:Fk P w K mg base 1 "take_spans" zdX zdV):Fm P w K mg base 2 zaf.C "forth" zgN (ze8 zaj.C zal.C zae.C zaf.C zag.C zai.C):=
 zjQ.mk' (zaw (k:=1) zjQ.F zsw (zsE zaj.C zal.C zae.C zaf.C zag.C zai.C) λcdv A outer s H E hr=>⟨_,(zah (zar (zaq zcx hr (zaa (zaH (dv 1) (za6 zaf.cl zaf.n_one (dv 0)) (λ_ _=>rfl)) (zaa (zaH (dv 1) (za6 zaf.cl zaf.n_other (dv 0)) (λ_ _=>rfl)) zab))))),λds S Q ex h=>by
  unfold ze8 at h
  split at h
  ·rename_i n w p g
   obtain⟨i,j,vs,bs,hn,hw,hp,ok,s1,hg,h⟩:=h
   refine za2 (n:=n) (λK hK=>by exact hK) hn rfl ?_
   refine zaG (o:=.lst (vs.map frD)) hw (zbi ok.1) ?_
   refine za2 (n:=n) (λK hK=>by exact hK) hn rfl ?_
   refine zaG (o:=.lst (vs.map frD)) hw (zbi ok.2) ?_
   exact h
  ·exact h.elim⟩)
def zub  (zi8:Df K mg "mul_spans" zmw zdU)(zdw:Fk P w K mg base 1 "rounded_up" zej zeo)(zbE:mg "max"=none)(zck:mg "min"=none):Fk P w K mg base 2 "mul_spans" zdU zd8:=
 zi8.mk' (zb9 (zaw (k:=1) zi8.F zpN (zb6 (ztV)) λcdv A outer s H E hr=>⟨_,(zap (zaE (i:=3) zpN.nd rfl (Or.inl rfl) (zcJ (zaa (zao za3 (zav (dv 0) zac (λ_ _=>rfl)) (zav (dv 1) zac (λ_ _=>rfl))) (zaa (zao za3 (zav (dv 0) zac (λ_ _=>rfl)) (zav (dv 1) zac (λ_ _=>rfl))) (zaa (zao za3 (zav (dv 0) zac (λ_ _=>rfl)) (zav (dv 1) zac (λ_ _=>rfl))) (zaa (zao za3 (zav (dv 0) zac (λ_ _=>rfl)) (zav (dv 1) zac (λ_ _=>rfl))) zab)))))) (zah (zar (za1 (zaa (zao zel (zaT (zaW (zoB rfl)) rfl zck Boot.«min» (zaa (dv 3) zab)) (dv 2)) (zaa (zaq zdw hr (zaa (zaT (zaW (zjn rfl)) rfl zbE Boot.«max» (zaa (dv 3) zab)) (zaa (dv 2) zab))) zab)))))),λds S Q ex h=>by
  obtain⟨Q0,ex0,rfl,rfl,h⟩:=h
  unfold zd8 at h
  split at h
  ·rename_i a b c d g
   obtain⟨⟨⟨m1,m2,m3,m4⟩,hg⟩,h⟩:=h
   refine⟨m1,m2,m3,m4,?_⟩
   apply zd6
   ·exact zax _ _
   ·rfl
   ·simp
   intro mn n1 n2
   refine⟨hg,?_⟩
   apply zd6
   ·exact zax _ _
   ·rfl
   ·simp
   intro mx x1 x2
   refine⟨hg,?_⟩
   exact⟨Pre.refl.push,zfF,h mn mx (zfp.of n1 n2 x1 x2)⟩
  ·exact h.elim⟩))
def zwg  (zag:zbD K mg)(zaj:zbG K mg)(zal:zbQ K mg)(zae:zbC K mg)(zaf:zbB K mg)(zai:zbJ K mg)(zlq:Dm K zag.C "forth" "Times.forth" zkc zit)(zcr:Fk P w K mg base 2 "mul_spans" zdU zd8):Fm P w K mg base 3 zag.C "forth" zit (zfe zaj.C zal.C zae.C zaf.C zag.C zai.C):=
 zlq.mk' (zaw (k:=2) zlq.F zx2 (zv6 zaj.C zal.C zae.C zaf.C zag.C zai.C) λcdv A outer s H E hr=>⟨_,(zah (zar (zaq zcr hr (zaa (zaH (dv 1) (za6 zag.cl zag.n_one (dv 0)) (λ_ _=>rfl)) (zaa (zaH (dv 1) (za6 zag.cl zag.n_other (dv 0)) (λ_ _=>rfl)) (zaa (dv 3) zab)))))),λds S Q ex h=>by
  unfold zfe at h
  split at h
  ·rename_i n w p g
   obtain⟨i,j,vs,bs,hn,hw,hp,ok,s1,hg,h⟩:=h
   refine za2 (n:=n) (λK hK=>by exact hK) hn rfl ?_
   refine zaG (o:=.lst (vs.map frD)) hw (zbi ok.1) ?_
   refine za2 (n:=n) (λK hK=>by exact hK) hn rfl ?_
   refine zaG (o:=.lst (vs.map frD)) hw (zbi ok.2) ?_
   have a:=s1.at ok.1
   have b:=s1.at ok.2
   have sg:Sz 21 g:=Sz.of 1000000 (by omega)
   refine⟨⟨⟨zaR a.2.1 b.2.1,zaR a.2.1 b.2.2,zaR a.2.2 b.2.1,zaR a.2.2 b.2.2⟩,sg.fd (by omega)⟩,λmn mx hc=>?_⟩
   obtain⟨rfl,rfl⟩:=hc.eq
   exact h
  ·exact h.elim⟩)
def zrN  (zmF:Df K mg "raised" ziU zha)(zaQ:mg "range"=none):Fk P w K mg base 1 "raised" zha zhx:=
 zmF.mk' (zaw (k:=0) zmF.F zmh (zx1) λcdv A outer s H E hr=>⟨_,(zap (zaE (i:=2) zmh.nd rfl (Or.inl rfl) zac) (zap (zgd (i:=3) PassesOwn.never rfl zmh.nd rfl (Or.inl rfl) rfl zaQ (zaa (dv 1) zab) (zah (zaE (i:=2) zmh.nd rfl (Or.inl rfl) (zao za3 (dv 2) (dv 0))))) (zah (zar (dv 2))))),λds S Q ex h=>by
  unfold zhx at h
  split at h
  ·rename_i x n
   obtain⟨⟨h0,h6,sx⟩,h⟩:=h
   refine⟨⟨by omega,by omega⟩,λk dl' S'=>S'=S∧k≤n.toNat∧∃(z:Int) (o:Option D),z=x^k∧dl'=[some (.int x),some (.int n),some (.int z),o],⟨rfl,Vat _,1,none,(Int.pow_zero x).symm,rfl⟩,?_⟩
   rintro k dl' S' ⟨rfl,hk,z,o,rfl,rfl⟩
   refine ze3 (λc=>?_) (λc=>?_)
   ·exact⟨zaR (m:=12001) (n:=2000) ((sx.pow k).mono (by omega)) sx,rfl,by omega,_,_,(Va5 x k).symm,rfl⟩
   ·have e:k=n.toNat:=by omega
    subst e
    exact h
  ·exact h.elim⟩)
def zxp  (zme:Df K mg "raise_span" zgT zfy)(zdw:Fk P w K mg base 1 "rounded_up" zej zeo)(zjU:Fk P w K mg base 1 "raised" zha zhx)(zbE:mg "max"=none)(zck:mg "min"=none):Fk P w K mg base 2 "raise_span" zfy zf1:=
 zme.mk' (zb9 (zaw (k:=1) zme.F zjw (zb6 (zsK)) λcdv A outer s H E hr=>⟨_,(zap (zaE (i:=3) zjw.nd rfl (Or.inl rfl) (zcJ (zaa (zav (dv 0) zac (λ_ _=>rfl)) (zaa (zav (dv 0) zac (λ_ _=>rfl)) zab)))) (zap (zaM (zvK zea zea (zav (dv 0) zac (λ_ _=>rfl)) zac (zav (dv 0) zac (λ_ _=>rfl))) (zah (zce (zdk (dv 3) zac))) zaP) (zap (zoi (x:="place") (N:=["grid","many"]) (caps:=[2,1]) (ar:=zam zgT) rfl rfl csc rfl (by decide) (i:=4) zjw.nd rfl rfl (dv 3) (λ_ _ _ _ _ _=>zbh) (λ_ _ _ _ _ _=>(zao za3 (zaq zjU hr (zaa (dv 0) (zaa (dv 2) zab))) (dv 1)))) (zap (zaE (i:=5) zjw.nd rfl (Or.inl rfl) (zaq zjU hr (zaa (dv 2) (zaa (dv 1) zab)))) (zah (zar (za1 (zaa (zao zel (zaT (zaW (zoB rfl)) rfl zck Boot.«min» (zaa (dv 4) zab)) (dv 5)) (zaa (zaq zdw hr (zaa (zaT (zaW (zjn rfl)) rfl zbE Boot.«max» (zaa (dv 4) zab)) (zaa (dv 5) zab))) zab))))))))),λds S Q ex h=>by
  obtain⟨Q0,ex0,rfl,rfl,h⟩:=h
  unfold zf1 at h
  split at h
  ·rename_i a b n g
   obtain⟨⟨n2,n6,za,zb,hg,zg⟩,h⟩:=h
   refine ifD (λc1=>?_) (λc1=>?_)
   ·refine ifD (λc2=>?_) (λc2=>?_)
    ·refine zqp (n:=S.length) (λK hK=>hK) (zax _ _) (λK hK=>hK) (by simp) ?_
     refine zcY (n:=S.length) (o:=.lst [.int a,.int b,.int 0]) (λd=>match d with | .int v=>.int (v^n.toNat*g) | _=>.non) (λK hK=>hK) (by simp) (by simp[zak]) (λx hx S2 K _ hK=>?_) ?_
     ·have hx':x=.int a∨x=.int b∨x=.int 0:=by simpa [zak] using hx
      rcases hx' with rfl | rfl | rfl
      all_goals exact⟨⟨by omega,n6,by first | exact za.mono (by decide) | exact zb.mono (by decide) | exact Sz.of (n:=2000) 0 (by decide)⟩,zaR (m:=12001) (n:=1400) (((Sz.mono (n:=2000) (by first | exact za | exact zb | exact Sz.of (n:=1400) 0 (by decide)) (by decide)).pow _).mono (by omega)) zg,hK⟩
     refine⟨⟨by omega,n6,zg.mono (by decide)⟩,?_⟩
     have gp:(0:Int)<g^n.toNat:=VaS (by omega)
     have zgp:Sz 8401 (g^n.toNat):=(zg.pow _).mono (by omega)
     apply zd6
     ·exact zax _ _
     ·rfl
     ·simp
     intro mn q1 q2
     refine⟨zgp.fd gp,?_⟩
     apply zd6
     ·exact zax _ _
     ·rfl
     ·simp
     intro mx x1 x2
     refine⟨zgp.fd gp,?_⟩
     obtain⟨m,M,hP,rfl,rfl⟩:=zd4.of (n:=n.toNat) hg (.inr ⟨rfl,c1,c2⟩) (by omega) q1 q2 x1 x2
     have r:=h m M hP
     rw[← zfD hg (by omega),← zfD hg (by omega),Va3] at r
     exact⟨(λi o e=>zcQ (by rw[List.set_append_right _ _ (Vad _),Vao (Vab.mp e).1]; exact e)),zfF,r⟩
    ·skip
     refine zcY (n:=S.length) (o:=.lst [.int a,.int b]) (λd=>match d with | .int v=>.int (v^n.toNat*g) | _=>.non) (λK hK=>hK) (zax _ _) (by simp[zak]) (λx hx S2 K _ hK=>?_) ?_
     ·have hx':x=.int a∨x=.int b:=by simpa [zak] using hx
      rcases hx' with rfl | rfl
      all_goals exact⟨⟨by omega,n6,by first | exact za.mono (by decide) | exact zb.mono (by decide) | exact Sz.of (n:=2000) 0 (by decide)⟩,zaR (m:=12001) (n:=1400) (((Sz.mono (n:=2000) (by first | exact za | exact zb | exact Sz.of (n:=1400) 0 (by decide)) (by decide)).pow _).mono (by omega)) zg,hK⟩
     refine⟨⟨by omega,n6,zg.mono (by decide)⟩,?_⟩
     have gp:(0:Int)<g^n.toNat:=VaS (by omega)
     have zgp:Sz 8401 (g^n.toNat):=(zg.pow _).mono (by omega)
     apply zd6
     ·exact zax _ _
     ·rfl
     ·simp
     intro mn q1 q2
     refine⟨zgp.fd gp,?_⟩
     apply zd6
     ·exact zax _ _
     ·rfl
     ·simp
     intro mx x1 x2
     refine⟨zgp.fd gp,?_⟩
     obtain⟨m,M,hP,rfl,rfl⟩:=zd4.of (n:=n.toNat) hg (.inl ⟨rfl,λc=>c2 c.2⟩) (by omega) q1 q2 x1 x2
     have r:=h m M hP
     rw[← zfD hg (by omega),← zfD hg (by omega),Va3] at r
     exact⟨Pre.refl.push.push,zfF,r⟩
   ·skip
    refine zcY (n:=S.length) (o:=.lst [.int a,.int b]) (λd=>match d with | .int v=>.int (v^n.toNat*g) | _=>.non) (λK hK=>hK) (zax _ _) (by simp[zak]) (λx hx S2 K _ hK=>?_) ?_
    ·have hx':x=.int a∨x=.int b:=by simpa [zak] using hx
     rcases hx' with rfl | rfl
     all_goals exact⟨⟨by omega,n6,by first | exact za.mono (by decide) | exact zb.mono (by decide) | exact Sz.of (n:=2000) 0 (by decide)⟩,zaR (m:=12001) (n:=1400) (((Sz.mono (n:=2000) (by first | exact za | exact zb | exact Sz.of (n:=1400) 0 (by decide)) (by decide)).pow _).mono (by omega)) zg,hK⟩
    refine⟨⟨by omega,n6,zg.mono (by decide)⟩,?_⟩
    have gp:(0:Int)<g^n.toNat:=VaS (by omega)
    have zgp:Sz 8401 (g^n.toNat):=(zg.pow _).mono (by omega)
    apply zd6
    ·exact zax _ _
    ·rfl
    ·simp
    intro mn q1 q2
    refine⟨zgp.fd gp,?_⟩
    apply zd6
    ·exact zax _ _
    ·rfl
    ·simp
    intro mx x1 x2
    refine⟨zgp.fd gp,?_⟩
    obtain⟨m,M,hP,rfl,rfl⟩:=zd4.of (n:=n.toNat) hg (.inl ⟨rfl,λc=>c1 c.1⟩) (by omega) q1 q2 x1 x2
    have r:=h m M hP
    rw[← zfD hg (by omega),← zfD hg (by omega),Va3] at r
    exact⟨Pre.refl.push.push,zfF,r⟩
  ·exact h.elim⟩))
def zwS  (zai:zbJ K mg)(zaj:zbG K mg)(zal:zbQ K mg)(zae:zbC K mg)(zaf:zbB K mg)(zag:zbD K mg)(zkj:Dm K zai.C "forth" "Power.forth" zjj zhv)(zfm:Fk P w K mg base 2 "raise_span" zfy zf1):Fm P w K mg base 3 zai.C "forth" zhv (zfA zaj.C zal.C zae.C zaf.C zag.C zai.C):=
 zkj.mk' (zaw (k:=2) zkj.F zuN (zrB zaj.C zal.C zae.C zaf.C zag.C zai.C) λcdv A outer s H E hr=>⟨_,(zah (zar (zaq zfm hr (zaa (zaH (dv 1) (za6 zai.cl zai.n_one (dv 0)) (λ_ _=>rfl)) (zaa (za6 zai.cl zai.n_many (dv 0)) (zaa (dv 3) zab)))))),λds S Q ex h=>by
  unfold zfA at h
  split at h
  ·rename_i n w p g
   obtain⟨i,m,vs,bs,hn,hw,hp,ok,s1,hg,h⟩:=h
   refine za2 (n:=n) (λK hK=>by exact hK) hn rfl ?_
   refine zaG (o:=.lst (vs.map frD)) hw (zbi ok.1) ?_
   refine za2 (n:=n) (λK hK=>by exact hK) hn rfl ?_
   have a:=s1.at ok.1
   have sg:Sz 21 g:=Sz.of 1000000 (by omega)
   refine⟨⟨by have:=ok.2.1; omega,ok.2.2,a.2.1,a.2.2,hg.1,sg.mono (by decide)⟩,λm' M' hP=>?_⟩
   obtain⟨rfl,rfl⟩:=hP.eq (by have:=ok.2.1; omega)
   exact h
  ·exact h.elim⟩)
def ztj  (zai:zbJ K mg)(zjf:Dm K zai.C "__init__" "Power.__init__" zmC zhi):Fm P w K mg base 1 zai.C "__init__" zhi (zhN zai.C):=
 zjf.mk' (zaw (k:=0) zjf.F zsP (zyO zai.C) λcdv A outer s H E hr=>⟨_,(zap (zc0 zai.cl zai.n_one (dv 0) (dv 1)) (zah (zc0 zai.cl zai.n_many (dv 0) (dv 2)))),λds S Q ex h=>by
  unfold zhN at h
  split at h
  ·rename_i n x y
   obtain⟨T,rfl,rfl,h⟩:=h
   refine zc2 (v:=x) (S1:=T++[Ob.ins zai.C []]) (S2:=T++[Ob.ins zai.C []]) (n:=T.length) (fs:=[]) (λK hK=>by exact hK) (λK hK=>by exact hK) (zc4 ..) (by simp) ?_
   rw[zc1]
   refine zc2 (v:=y) (S1:=T++[Ob.ins zai.C [("one",x)]]) (S2:=T++[Ob.ins zai.C [("one",x)]]) (n:=T.length) (fs:=[("one",x)]) (λK hK=>by exact hK) (λK hK=>by exact hK) (zc4 ..) (by simp) ?_
   rw[zc1]
   exact h
  ·exact h.elim⟩)
def ztz  (zaj:zbG K mg)(zj4:Dm K zaj.C "__init__" "Number.__init__" zk3 zhd):Fm P w K mg base 1 zaj.C "__init__" zhd (zhI zaj.C):=
 zj4.mk' (zaw (k:=0) zj4.F zw4 (zs0 zaj.C) λcdv A outer s H E hr=>⟨_,(zap (zc0 zaj.cl zaj.n_top (dv 0) (dv 1)) (zah (zc0 zaj.cl zaj.n_bottom (dv 0) (dv 2)))),λds S Q ex h=>by
  unfold zhI at h
  split at h
  ·rename_i n x y
   obtain⟨T,rfl,rfl,h⟩:=h
   refine zc2 (v:=x) (S1:=T++[Ob.ins zaj.C []]) (S2:=T++[Ob.ins zaj.C []]) (n:=T.length) (fs:=[]) (λK hK=>by exact hK) (λK hK=>by exact hK) (zc4 ..) (by simp) ?_
   rw[zc1]
   refine zc2 (v:=y) (S1:=T++[Ob.ins zaj.C [("top",x)]]) (S2:=T++[Ob.ins zaj.C [("top",x)]]) (n:=T.length) (fs:=[("top",x)]) (λK hK=>by exact hK) (λK hK=>by exact hK) (zc4 ..) (by simp) ?_
   rw[zc1]
   exact h
  ·exact h.elim⟩)
def zuf  (zal:zbQ K mg)(zjN:Dm K zal.C "__init__" "Unknown.__init__" zlU zhK):Fm P w K mg base 1 zal.C "__init__" zhK (zgC zal.C):=
 zjN.mk' (zaw (k:=0) zjN.F zs2 (zwp zal.C) λcdv A outer s H E hr=>⟨_,(zah (zc0 zal.cl zal.n_place (dv 0) (dv 1))),λds S Q ex h=>by
  unfold zgC at h
  split at h
  ·rename_i n x
   obtain⟨T,rfl,rfl,h⟩:=h
   refine zc2 (v:=x) (S1:=T++[Ob.ins zal.C []]) (S2:=T++[Ob.ins zal.C []]) (n:=T.length) (fs:=[]) (λK hK=>by exact hK) (λK hK=>by exact hK) (zc4 ..) (by simp) ?_
   rw[zc1]
   exact h
  ·exact h.elim⟩)
def zwX  (zae:zbC K mg)(zmq:Dm K zae.C "__init__" "Pair.__init__" zld zgW):Fm P w K mg base 1 zae.C "__init__" zgW (zg4 zae.C):=
 zmq.mk' (zaw (k:=0) zmq.F zwf (zxl zae.C) λcdv A outer s H E hr=>⟨_,(zap (zc0 zae.cl zae.n_one (dv 0) (dv 1)) (zah (zc0 zae.cl zae.n_other (dv 0) (dv 2)))),λds S Q ex h=>by
  unfold zg4 at h
  split at h
  ·rename_i n x y
   obtain⟨T,rfl,rfl,h⟩:=h
   refine zc2 (v:=x) (S1:=T++[Ob.ins zae.C []]) (S2:=T++[Ob.ins zae.C []]) (n:=T.length) (fs:=[]) (λK hK=>by exact hK) (λK hK=>by exact hK) (zc4 ..) (by simp) ?_
   rw[zc1]
   refine zc2 (v:=y) (S1:=T++[Ob.ins zae.C [("one",x)]]) (S2:=T++[Ob.ins zae.C [("one",x)]]) (n:=T.length) (fs:=[("one",x)]) (λK hK=>by exact hK) (λK hK=>by exact hK) (zc4 ..) (by simp) ?_
   rw[zc1]
   exact h
  ·exact h.elim⟩)
def zsL  (zaf:zbB K mg)(zkR:Dm K zaf.C "__init__" "Pair.__init__" zjB zhZ):Fm P w K mg base 1 zaf.C "__init__" zhZ (zhX zaf.C):=
 zkR.mk' (zaw (k:=0) zkR.F ztu (zsc zaf.C) λcdv A outer s H E hr=>⟨_,(zap (zc0 zaf.cl zaf.n_one (dv 0) (dv 1)) (zah (zc0 zaf.cl zaf.n_other (dv 0) (dv 2)))),λds S Q ex h=>by
  unfold zhX at h
  split at h
  ·rename_i n x y
   obtain⟨T,rfl,rfl,h⟩:=h
   refine zc2 (v:=x) (S1:=T++[Ob.ins zaf.C []]) (S2:=T++[Ob.ins zaf.C []]) (n:=T.length) (fs:=[]) (λK hK=>by exact hK) (λK hK=>by exact hK) (zc4 ..) (by simp) ?_
   rw[zc1]
   refine zc2 (v:=y) (S1:=T++[Ob.ins zaf.C [("one",x)]]) (S2:=T++[Ob.ins zaf.C [("one",x)]]) (n:=T.length) (fs:=[("one",x)]) (λK hK=>by exact hK) (λK hK=>by exact hK) (zc4 ..) (by simp) ?_
   rw[zc1]
   exact h
  ·exact h.elim⟩)
def zug  (zag:zbD K mg)(zkQ:Dm K zag.C "__init__" "Pair.__init__" zmf ziJ):Fm P w K mg base 1 zag.C "__init__" ziJ (zhC zag.C):=
 zkQ.mk' (zaw (k:=0) zkQ.F zyC (zte zag.C) λcdv A outer s H E hr=>⟨_,(zap (zc0 zag.cl zag.n_one (dv 0) (dv 1)) (zah (zc0 zag.cl zag.n_other (dv 0) (dv 2)))),λds S Q ex h=>by
  unfold zhC at h
  split at h
  ·rename_i n x y
   obtain⟨T,rfl,rfl,h⟩:=h
   refine zc2 (v:=x) (S1:=T++[Ob.ins zag.C []]) (S2:=T++[Ob.ins zag.C []]) (n:=T.length) (fs:=[]) (λK hK=>by exact hK) (λK hK=>by exact hK) (zc4 ..) (by simp) ?_
   rw[zc1]
   refine zc2 (v:=y) (S1:=T++[Ob.ins zag.C [("one",x)]]) (S2:=T++[Ob.ins zag.C [("one",x)]]) (n:=T.length) (fs:=[("one",x)]) (λK hK=>by exact hK) (λK hK=>by exact hK) (zc4 ..) (by simp) ?_
   rw[zc1]
   exact h
  ·exact h.elim⟩)
def zu9  (zai:zbJ K mg)(zag:zbD K mg)(zaf:zbB K mg)(zae:zbC K mg)(zal:zbQ K mg)(zaj:zbG K mg)(zmM:Df K mg "kind_of" zks zfE)(zfg:Fm P w K mg base 1 zai.C "__init__" zhi (zhN zai.C))(zfa:Fm P w K mg base 1 zag.C "__init__" ziJ (zhC zag.C))(zfn:Fm P w K mg base 1 zaf.C "__init__" zhZ (zhX zaf.C))(zeR:Fm P w K mg base 1 zae.C "__init__" zgW (zg4 zae.C))(zfc:Fm P w K mg base 1 zal.C "__init__" zhK (zgC zal.C))(zfL:Fm P w K mg base 1 zaj.C "__init__" zhd (zhI zaj.C)):Fk P w K mg base 3 "kind_of" zfE (zfw zaj.C zal.C zae.C zaf.C zag.C zai.C):=
 zmM.mk' (zaw (k:=2) zmM.F ztK (zya zaj.C zal.C zae.C zaf.C zag.C zai.C) λcdv A outer s H E hr=>⟨_,(zap (zaM (zaI (zaS hr) (zav (dv 0) zac (λ_ _=>rfl)) zbP (zaC _)) (zah (zar (zf7 ⟨zaj.makes,zfL.m.at_,zfL.m.fn,zaj.kp⟩ zfL.ok (hr.mono (by decide)) rfl zaj.m zfL.b zeQ (zaa (zav (dv 0) zac (λ_ _=>rfl)) (zaa (zav (dv 0) zac (λ_ _=>rfl)) zab))))) zaP) (zap (zaM (zaI (zaS hr) (zav (dv 0) zac (λ_ _=>rfl)) zbP (zaC _)) (zah (zar (zf7 ⟨zal.makes,zfc.m.at_,zfc.m.fn,zal.kp⟩ zfc.ok (hr.mono (by decide)) rfl zal.m zfc.b zeQ (zaa (zav (dv 0) zac (λ_ _=>rfl)) zab)))) zaP) (zap (zaM (zaI (zaS hr) (zav (dv 0) zac (λ_ _=>rfl)) zbP (zaC _)) (zah (zar (zf7 ⟨zae.makes,zeR.m.at_,zeR.m.fn,zae.kp⟩ zeR.ok (hr.mono (by decide)) rfl zae.m zeR.b zeQ (zaa (zav (dv 0) zac (λ_ _=>rfl)) (zaa (zav (dv 0) zac (λ_ _=>rfl)) zab))))) zaP) (zap (zaM (zaI (zaS hr) (zav (dv 0) zac (λ_ _=>rfl)) zbP (zaC _)) (zah (zar (zf7 ⟨zaf.makes,zfn.m.at_,zfn.m.fn,zaf.kp⟩ zfn.ok (hr.mono (by decide)) rfl zaf.m zfn.b zeQ (zaa (zav (dv 0) zac (λ_ _=>rfl)) (zaa (zav (dv 0) zac (λ_ _=>rfl)) zab))))) zaP) (zap (zaM (zaI (zaS hr) (zav (dv 0) zac (λ_ _=>rfl)) zbP (zaC _)) (zah (zar (zf7 ⟨zag.makes,zfa.m.at_,zfa.m.fn,zag.kp⟩ zfa.ok (hr.mono (by decide)) rfl zag.m zfa.b zeQ (zaa (zav (dv 0) zac (λ_ _=>rfl)) (zaa (zav (dv 0) zac (λ_ _=>rfl)) zab))))) zaP) (zah (zar (zf7 ⟨zai.makes,zfg.m.at_,zfg.m.fn,zai.kp⟩ zfg.ok (hr.mono (by decide)) rfl zai.m zfg.b zeQ (zaa (zav (dv 0) zac (λ_ _=>rfl)) (zaa (zav (dv 0) zac (λ_ _=>rfl)) zab)))))))))),λds S Q ex h=>by
  unfold zfw at h
  split at h
  ·obtain⟨v,rfl,h⟩:=h
   cases v <;> exact⟨S,rfl,rfl,rfl,h⟩
  ·exact h.elim⟩)
def zvx  (zai:zbJ K mg)(zag:zbD K mg)(zaf:zbB K mg)(zae:zbC K mg)(zal:zbQ K mg)(zaj:zbG K mg)(ziN:Df K mg "worths" zmy zei)(zoo:Fm P w K mg base 3 zai.C "forth" zhv (zfA zaj.C zal.C zae.C zaf.C zag.C zai.C))(zng:Fm P w K mg base 3 zag.C "forth" zit (zfe zaj.C zal.C zae.C zaf.C zag.C zai.C))(znh:Fm P w K mg base 2 zaf.C "forth" zgN (ze8 zaj.C zal.C zae.C zaf.C zag.C zai.C))(znW:Fm P w K mg base 2 zae.C "forth" zgj (zfQ zaj.C zal.C zae.C zaf.C zag.C zai.C))(zni:Fm P w K mg base 1 zal.C "forth" zgK (zfY zaj.C zal.C zae.C zaf.C zag.C zai.C))(zoC:Fm P w K mg base 3 zaj.C "forth" ziy (ze1 zaj.C zal.C zae.C zaf.C zag.C zai.C))(zf4:Fk P w K mg base 3 "kind_of" zfE (zfw zaj.C zal.C zae.C zaf.C zag.C zai.C)):Fk P w K mg base 4 "worths" zei zeq:=
 ziN.mk' (zaw (k:=3) ziN.F zn9 (zt2) λcdv A outer s H E hr=>⟨_,(zap (zaE (i:=3) zn9.nd rfl (Or.inl rfl) (zcJ zab)) (zap (zda (i:=4) PassesOwn.never rfl zn9.nd rfl (Or.inl rfl) (dv 0) (zah (zce (zdk (dv 3) (zqi (zaq zf4 hr (zaa (dv 4) zab)) (zcI zaj.cl zoC (hr.mono (by decide)) (zcI zal.cl zni (hr.mono (by decide)) (zcI zae.cl znW (hr.mono (by decide)) (zcI zaf.cl znh (hr.mono (by decide)) (zcI zag.cl zng (hr.mono (by decide)) (zcI zai.cl zoo (hr.mono (by decide)) zrl)))))) zfu (zaa (dv 3) (zaa (dv 1) (zaa (dv 2) zab)))))))) (zah (zar (dv 3))))),λds S Q ex h=>by
  unfold zeq at h
  split at h
  ·rename_i a b g
   obtain⟨ns,ws,bs,ha,hb,net,sb,hg,hl,h⟩:=h
   have disp:∀v:Nd,∃C fs sd,v.ob zaj.C zal.C zae.C zaf.C zag.C zai.C=.ins C fs∧(C,sd)∈[(zaj.C,ze1 zaj.C zal.C zae.C zaf.C zag.C zai.C),(zal.C,zfY zaj.C zal.C zae.C zaf.C zag.C zai.C),(zae.C,zfQ zaj.C zal.C zae.C zaf.C zag.C zai.C),(zaf.C,ze8 zaj.C zal.C zae.C zaf.C zag.C zai.C),(zag.C,zfe zaj.C zal.C zae.C zaf.C zag.C zai.C),(zai.C,zfA zaj.C zal.C zae.C zaf.C zag.C zai.C)]∧fs.lookup ("forth":Str)=none∧∀(n w p:Nat) (g:Int) (S:Sto) (Q:DK) (ex:Addr→Sto→Prop) (vs bs:List (Int×Int)),S[n]?=some (v.ob zaj.C zal.C zae.C zaf.C zag.C zai.C)→S[w]?=some (.lst (vs.map frD))→S[p]?=some (.lst (bs.map frD))→v.ok vs.length bs.length→Spn 1400 vs→(1≤g∧g≤1000000)→Q (frD (v.fw vs bs g)) S→sd [.ref n,.ref w,.ref p,.int g] S Q ex:=by
    intro v
    cases v with
    | number x y=>exact⟨_,_,_,rfl,(.head _),rfl,λn w p g S Q ex vs bs a1 a2 a3 a4 a5 a6 q=>⟨x,y,vs,bs,a1,a2,a3,a4,a5,a6,q⟩⟩
    | unknown k=>exact⟨_,_,_,rfl,(.tail _ (.head _)),rfl,λn w p g S Q ex vs bs a1 a2 a3 a4 a5 a6 q=>⟨k,vs,bs,a1,a2,a3,a4,a5,a6,q⟩⟩
    | plus i j=>exact⟨_,_,_,rfl,(.tail _ (.tail _ (.head _))),rfl,λn w p g S Q ex vs bs a1 a2 a3 a4 a5 a6 q=>⟨i,j,vs,bs,a1,a2,a3,a4,a5,a6,q⟩⟩
    | minus i j=>exact⟨_,_,_,rfl,(.tail _ (.tail _ (.tail _ (.head _)))),rfl,λn w p g S Q ex vs bs a1 a2 a3 a4 a5 a6 q=>⟨i,j,vs,bs,a1,a2,a3,a4,a5,a6,q⟩⟩
    | times i j=>exact⟨_,_,_,rfl,(.tail _ (.tail _ (.tail _ (.tail _ (.head _))))),rfl,λn w p g S Q ex vs bs a1 a2 a3 a4 a5 a6 q=>⟨i,j,vs,bs,a1,a2,a3,a4,a5,a6,q⟩⟩
    | power i m=>exact⟨_,_,_,rfl,(.tail _ (.tail _ (.tail _ (.tail _ (.tail _ (.head _)))))),rfl,λn w p g S Q ex vs bs a1 a2 a3 a4 a5 a6 q=>⟨i,m,vs,bs,a1,a2,a3,a4,a5,a6,q⟩⟩
   have la:=zbo ha
   have lb:=zbo hb
   refine zdi (n:=a) (o:=.lst (ns.map Nd.d)) (λk dl' S'=>k≤ns.length∧Pre S S'∧S'[S.length]?=some (.lst ((zan bs g (ns.take k)).map frD))∧∃u:Option D,dl'=[some (.ref a),some (.ref b),some (.int g),some (.ref S.length),u]) ⟨Vat _,Pre.refl.push,zax _ _,_,rfl⟩ (λk dl' S' w=>w.2.1 _ _ ha) ?_ ?_
   ·rintro k x dl' S' nx ct ex' ⟨hk,pr,hf,u,rfl⟩ hn
    have ex2:(ns.map Nd.d)[k]?=some x:=ex'
    rw[Vae] at ex2
    obtain⟨v,hv,rfl⟩:=Vam.mp ex2
    have hk':=(Vab.mp hv).1
    have ln:(zan bs g (ns.take k)).length=k:=by rw[zdp,Vau]; omega
    have okv:v.ok (zan bs g (ns.take k)).length bs.length:=by rw[ln]; exact(net.ok k v hv).1
    obtain⟨C,fs,sd,eo,hm,hf2,go⟩:=disp v
    have N1:=zax S' (v.ob zaj.C zal.C zae.C zaf.C zag.C zai.C)
    refine znX (n:=S.length) (S1:=S') (S2:=S'++[v.ob zaj.C zal.C zae.C zaf.C zag.C zai.C]) (xs:=(zan bs g (ns.take k)).map frD) (y:=frD (v.fw (zan bs g (ns.take k)) bs g)) (λK hK=>by exact hK) hf (λK hK=>?_) (zaB hf) (by rw[Vac,ln]; omega) ?_
    ·refine zo2 (n:=S'.length) (C:=C) (sd:=sd) (fs:=fs) (S1:=S'++[v.ob zaj.C zal.C zae.C zaf.C zag.C zai.C]) (λK hK=>⟨v,rfl,by exact hK⟩) (by rw[← eo]; exact N1) hm hf2 ?_
     exact go _ _ _ _ _ _ _ (zan bs g (ns.take k)) bs N1 (zaB hf) (zaB (pr _ _ hb)) okv ((zqT net rfl sb hg k hk).mono (by decide)) hg hK
    ·refine hn _ _ ⟨by omega,zcU (zcm pr _) (Vad _),?_,_,rfl⟩
     rw[zca hv,zlG,Vav]
     exact zb2 (zaB hf)
   ·rintro dl' S' ⟨hk,pr,hf,u,rfl⟩
    refine h _ _ pr (Vad _) ?_
    have e:ns.take (zak (.lst (ns.map Nd.d))).length=ns:=by
     show ns.take (ns.map Nd.d).length=ns
     rw[Vac,VaW]
    rw[e] at hf
    exact hf
  ·exact h.elim⟩)
def zxY  (zaj:zbG K mg)(zal:zbQ K mg)(zae:zbC K mg)(zaf:zbB K mg)(zag:zbD K mg)(zai:zbJ K mg)(zls:Dm K zaj.C "slope" "Number.slope" zl6 zgm):Fm P w K mg base 1 zaj.C "slope" zgm (zft zaj.C zal.C zae.C zaf.C zag.C zai.C):=
 zls.mk' (zaw (k:=0) zls.F zuY (zvm zaj.C zal.C zae.C zaf.C zag.C zai.C) λcdv A outer s H E hr=>⟨_,(zah (zar (zao zw5 (zcJ (zaa (za1 (zaa zac (zaa zac zab))) zab)) (dv 3)))),λds S Q ex h=>by
  unfold zft at h
  split at h
  ·rename_i n w s qi g
   obtain⟨x,y,q,vs,sl,ds,hn,hw,hs,rows,sz,⟨rfl,hq⟩,ok,lv,s1,hg,h⟩:=h
   have sg:Sz 21 g:=Sz.of 1000000 (by omega)
   have fin:∀ys:List D,ys=(zaZ vs sl g q (Nd.number x y)).map frD→Q (.ref (S++[Ob.lst [frD (0,0)]]).length) ((S++[.lst [frD (0,0)]])++[.lst ys]):=λys e=>by
    subst e
    exact h _ _ Pre.refl.push.push (by simp) (zax _ _)
   refine zuS (n:=S.length) (k:=((q:Nat):Int)) (xs:=[frD (0,0)]) (zax _ _) ⟨by omega,by omega⟩ (by simp; omega) ?_
   refine fin _ ?_
   rw[Vah,zvI]
   unfold zaZ
   rw[Vag]
   rfl
  ·exact h.elim⟩)
def zxj  (zal:zbQ K mg)(zaj:zbG K mg)(zae:zbC K mg)(zaf:zbB K mg)(zag:zbD K mg)(zai:zbJ K mg)(zkV:Dm K zal.C "slope" "Unknown.slope" zio zh8)(zaQ:mg "range"=none):Fm P w K mg base 1 zal.C "slope" zh8 (ze2 zaj.C zal.C zae.C zaf.C zag.C zai.C):=
 zkV.mk' (zaw (k:=0) zkV.F zx3 (zwi zaj.C zal.C zae.C zaf.C zag.C zai.C) λcdv A outer s H E hr=>⟨_,(zah (zar (zd2 (x:="k") (N:=["grid","self"]) (caps:=[4,0]) (ar:=zam zio) rfl rfl csc rfl (by decide) rfl zaQ (zaa (dv 3) zab) (λ_ _ _ _ _ _=>zbh) (λ_ _ _ _ _ _=>(znn (zaI (zaS hr) (dv 0) (za6 zal.cl zal.n_place (dv 2)) (zaC _)) (za1 (zaa (dv 1) (zaa (dv 1) zab))) (za1 (zaa zac (zaa zac zab)))))))),λds S Q ex h=>by
  unfold ze2 at h
  split at h
  ·rename_i n w s qi g
   obtain⟨k,q,vs,sl,ds,hn,hw,hs,rows,sz,⟨rfl,hq⟩,ok,lv,s1,hg,h⟩:=h
   have sg:Sz 21 g:=Sz.of 1000000 (by omega)
   have fin:∀ys:List D,ys=(zaZ vs sl g q (Nd.unknown k)).map frD→Q (.ref S.length) (S++[.lst ys]):=λys e=>by
    subst e
    exact h _ _ Pre.refl.push (by simp) (zax _ _)
   refine zdY (j:=((q:Nat):Int)) (S1:=S) (λl=>frD (if (l:Int)=k then (g,g) else (0,0))) (λK hK=>by exact hK) ⟨by omega,by omega⟩ (λl hl S2 K pr hK=>?_) ?_
   ·refine za2 (n:=n) (λK hK=>by exact hK) (pr _ _ hn) rfl ?_
    refine ifD (λe=>?_) (λe=>?_)
    ·rw[if_pos e] at hK
     exact hK
    ·rw[if_neg e] at hK
     exact hK
   ·refine fin _ ?_
    rw[Vah]
    unfold zaZ
    rw[Vag]
    rfl
  ·exact h.elim⟩)
def zu4  (zae:zbC K mg)(zmr:Dm K zae.C "slope_of_both" "Plus.slope_of_both" zkD zg3)(zb5:Fk P w K mg base 1 "add_spans" zdE zdH):Fm P w K mg base 2 zae.C "slope_of_both" zg3 (zgI zae.C):=
 zmr.mk' (zaw (k:=1) zmr.F zwe (zux zae.C) λcdv A outer s H E hr=>⟨_,(zah (zar (zaq zb5 hr (zaa (dv 3) (zaa (dv 4) zab))))),λds S Q ex h=>by
  unfold zgI at h
  split at h
  ·exact h
  ·exact h.elim⟩)
def zvg  (zae:zbC K mg)(zaj:zbG K mg)(zal:zbQ K mg)(zaf:zbB K mg)(zag:zbD K mg)(zai:zbJ K mg)(zmo:Dm K zae.C "slope" "Pair.slope" zgv zgi)(zhf:Fm P w K mg base 2 zae.C "slope_of_both" zg3 (zgI zae.C))(zbg:mg "zip"=none):Fm P w K mg base 3 zae.C "slope" zgi (zfP zaj.C zal.C zae.C zaf.C zag.C zai.C):=
 zmo.mk' (zaw (k:=2) zmo.F zm0 (zv2 zaj.C zal.C zae.C zaf.C zag.C zai.C) λcdv A outer s H E hr=>⟨_,(zap (zaE (i:=5) zm0.nd rfl (Or.inr rfl) (zaH (dv 1) (za6 zae.cl zae.n_one (dv 0)) (λ_ _=>rfl))) (zap (zaE (i:=6) zm0.nd rfl (Or.inr rfl) (zaH (dv 1) (za6 zae.cl zae.n_other (dv 0)) (λ_ _=>rfl))) (zah (zar (zmD (x1:="a") (x2:="b") (N:=["x","y","grid","self"]) (caps:=[5,6,4,0]) (ar:=zam zgv) rfl rfl zcT rfl rfl rfl (by decide) rfl zbg Boot.«zip» (zaa (zaH (dv 2) (za6 zae.cl zae.n_one (dv 0)) (λ_ _=>rfl)) (zaa (zaH (dv 2) (za6 zae.cl zae.n_other (dv 0)) (λ_ _=>rfl)) zab)) (λ_ _ _ _ _ _=>(zov (C:=zae.C) (dv 5) zae.cl zhf.m zhf.ok (hr.mono (by decide)) zhf.b zfu (zaa (dv 2) (zaa (dv 3) (zaa (dv 0) (zaa (dv 1) (zaa (dv 4) zab)))))))))))),λds S Q ex h=>by
  unfold zfP at h
  split at h
  ·rename_i n w s qi g
   obtain⟨i,j,q,vs,sl,ds,hn,hw,hs,rows,sz,⟨rfl,hq⟩,ok,lv,s1,hg,h⟩:=h
   have sg:Sz 21 g:=Sz.of 1000000 (by omega)
   have fin:∀ys:List D,ys=(zaZ vs sl g q (Nd.plus i j)).map frD→Q (.ref S.length) (S++[.lst ys]):=λys e=>by
    subst e
    exact h _ _ Pre.refl.push (by simp) (zax _ _)
   refine za2 (n:=n) (λK hK=>by exact hK) hn rfl ?_
   refine zaG (o:=.lst (vs.map frD)) hw (zbi (i:=i) ⟨ok.1.1,by have:=ok.1.2; omega⟩) ?_
   refine za2 (n:=n) (λK hK=>by exact hK) hn rfl ?_
   refine zaG (o:=.lst (vs.map frD)) hw (zbi (i:=j) ⟨ok.2.1,by have:=ok.2.2; omega⟩) ?_
   obtain⟨a1,ea,_,ha⟩:=rows.at ok.1
   obtain⟨a2,eb,_,hb⟩:=rows.at ok.2
   obtain⟨la,za⟩:=sz i ok.1
   obtain⟨lb,zb⟩:=sz j ok.2
   have ci:=s1.at (i:=i) ⟨ok.1.1,by have:=ok.1.2; omega⟩
   have cj:=s1.at (i:=j) ⟨ok.2.1,by have:=ok.2.2; omega⟩
   refine zgh (n:=a1) (n':=a2) (S1:=S) (xs:=(sl.getD i.toNat []).map frD) (ys:=(sl.getD j.toNat []).map frD) (λx y=>match x,y with | .tup [.int a,.int b],.tup [.int c,.int d]=>.tup [.int (a+c),.int (b+d)] | _,_=>.non) (λK hK=>by
    refine za2 (n:=n) (λK hK=>by exact hK) hn rfl ?_
    refine zaG (o:=.lst ds) hs ea ?_
    refine za2 (n:=n) (λK hK=>by exact hK) hn rfl ?_
    exact zaG (o:=.lst ds) hs eb hK) ha hb (by rw[Vac,la]; omega) (λk x y hx hy S2 K pr hK=>?_) ?_
   ·rw[Vae] at hx hy
    obtain⟨p,hp,rfl⟩:=Vam.mp hx
    obtain⟨r,hr,rfl⟩:=Vam.mp hy
    have kq:k<q:=by
     have:=(Vab.mp hp).1
     omega
    have e1:gs sl i k=p:=by
     unfold gs
     rw[Vaf,hp]
     rfl
    have e2:gs sl j k=r:=by
     unfold gs
     rw[Vaf,hr]
     rfl
    have z1:=za k kq
    have z2:=zb k kq
    rw[e1] at z1
    rw[e2] at z2
    refine zm9 (n:=n) (fs:=[("one",.int i),("other",.int j)]) (λK hK=>by exact hK) (pr _ _ hn) rfl ?_
    exact hK
   ·refine fin _ ?_
    rw[List.zipWith_map]
    unfold zaZ
    rw[Vag]
    rw[znI _ _ _ la lb]
    rfl
  ·exact h.elim⟩)
def zws  (zaf:zbB K mg)(zjE:Dm K zaf.C "slope_of_both" "Minus.slope_of_both" zku zgS)(zcx:Fk P w K mg base 1 "take_spans" zdX zdV):Fm P w K mg base 2 zaf.C "slope_of_both" zgS (zhV zaf.C):=
 zjE.mk' (zaw (k:=1) zjE.F zxL (ztb zaf.C) λcdv A outer s H E hr=>⟨_,(zah (zar (zaq zcx hr (zaa (dv 3) (zaa (dv 4) zab))))),λds S Q ex h=>by
  unfold zhV at h
  split at h
  ·exact h
  ·exact h.elim⟩)
def zwl  (zaf:zbB K mg)(zaj:zbG K mg)(zal:zbQ K mg)(zae:zbC K mg)(zag:zbD K mg)(zai:zbJ K mg)(zk6:Dm K zaf.C "slope" "Pair.slope" zgH ziu)(zhT:Fm P w K mg base 2 zaf.C "slope_of_both" zgS (zhV zaf.C))(zbg:mg "zip"=none):Fm P w K mg base 3 zaf.C "slope" ziu (zeH zaj.C zal.C zae.C zaf.C zag.C zai.C):=
 zk6.mk' (zaw (k:=2) zk6.F znD (zuU zaj.C zal.C zae.C zaf.C zag.C zai.C) λcdv A outer s H E hr=>⟨_,(zap (zaE (i:=5) znD.nd rfl (Or.inr rfl) (zaH (dv 1) (za6 zaf.cl zaf.n_one (dv 0)) (λ_ _=>rfl))) (zap (zaE (i:=6) znD.nd rfl (Or.inr rfl) (zaH (dv 1) (za6 zaf.cl zaf.n_other (dv 0)) (λ_ _=>rfl))) (zah (zar (zmD (x1:="a") (x2:="b") (N:=["x","y","grid","self"]) (caps:=[5,6,4,0]) (ar:=zam zgH) rfl rfl zcT rfl rfl rfl (by decide) rfl zbg Boot.«zip» (zaa (zaH (dv 2) (za6 zaf.cl zaf.n_one (dv 0)) (λ_ _=>rfl)) (zaa (zaH (dv 2) (za6 zaf.cl zaf.n_other (dv 0)) (λ_ _=>rfl)) zab)) (λ_ _ _ _ _ _=>(zov (C:=zaf.C) (dv 5) zaf.cl zhT.m zhT.ok (hr.mono (by decide)) zhT.b zfu (zaa (dv 2) (zaa (dv 3) (zaa (dv 0) (zaa (dv 1) (zaa (dv 4) zab)))))))))))),λds S Q ex h=>by
  unfold zeH at h
  split at h
  ·rename_i n w s qi g
   obtain⟨i,j,q,vs,sl,ds,hn,hw,hs,rows,sz,⟨rfl,hq⟩,ok,lv,s1,hg,h⟩:=h
   have sg:Sz 21 g:=Sz.of 1000000 (by omega)
   have fin:∀ys:List D,ys=(zaZ vs sl g q (Nd.minus i j)).map frD→Q (.ref S.length) (S++[.lst ys]):=λys e=>by
    subst e
    exact h _ _ Pre.refl.push (by simp) (zax _ _)
   refine za2 (n:=n) (λK hK=>by exact hK) hn rfl ?_
   refine zaG (o:=.lst (vs.map frD)) hw (zbi (i:=i) ⟨ok.1.1,by have:=ok.1.2; omega⟩) ?_
   refine za2 (n:=n) (λK hK=>by exact hK) hn rfl ?_
   refine zaG (o:=.lst (vs.map frD)) hw (zbi (i:=j) ⟨ok.2.1,by have:=ok.2.2; omega⟩) ?_
   obtain⟨a1,ea,_,ha⟩:=rows.at ok.1
   obtain⟨a2,eb,_,hb⟩:=rows.at ok.2
   obtain⟨la,za⟩:=sz i ok.1
   obtain⟨lb,zb⟩:=sz j ok.2
   have ci:=s1.at (i:=i) ⟨ok.1.1,by have:=ok.1.2; omega⟩
   have cj:=s1.at (i:=j) ⟨ok.2.1,by have:=ok.2.2; omega⟩
   refine zgh (n:=a1) (n':=a2) (S1:=S) (xs:=(sl.getD i.toNat []).map frD) (ys:=(sl.getD j.toNat []).map frD) (λx y=>match x,y with | .tup [.int a,.int b],.tup [.int c,.int d]=>.tup [.int (a-d),.int (b-c)] | _,_=>.non) (λK hK=>by
    refine za2 (n:=n) (λK hK=>by exact hK) hn rfl ?_
    refine zaG (o:=.lst ds) hs ea ?_
    refine za2 (n:=n) (λK hK=>by exact hK) hn rfl ?_
    exact zaG (o:=.lst ds) hs eb hK) ha hb (by rw[Vac,la]; omega) (λk x y hx hy S2 K pr hK=>?_) ?_
   ·rw[Vae] at hx hy
    obtain⟨p,hp,rfl⟩:=Vam.mp hx
    obtain⟨r,hr,rfl⟩:=Vam.mp hy
    have kq:k<q:=by
     have:=(Vab.mp hp).1
     omega
    have e1:gs sl i k=p:=by
     unfold gs
     rw[Vaf,hp]
     rfl
    have e2:gs sl j k=r:=by
     unfold gs
     rw[Vaf,hr]
     rfl
    have z1:=za k kq
    have z2:=zb k kq
    rw[e1] at z1
    rw[e2] at z2
    refine zm9 (n:=n) (fs:=[("one",.int i),("other",.int j)]) (λK hK=>by exact hK) (pr _ _ hn) rfl ?_
    exact hK
   ·refine fin _ ?_
    rw[List.zipWith_map]
    unfold zaZ
    rw[Vag]
    rw[znI _ _ _ la lb]
    rfl
  ·exact h.elim⟩)
def zsq  (zag:zbD K mg)(zkJ:Dm K zag.C "slope_of_both" "Times.slope_of_both" zmH zh1)(zb5:Fk P w K mg base 1 "add_spans" zdE zdH)(zcr:Fk P w K mg base 2 "mul_spans" zdU zd8):Fm P w K mg base 3 zag.C "slope_of_both" zh1 (zia zag.C):=
 zkJ.mk' (zaw (k:=2) zkJ.F zrH (zyr zag.C) λcdv A outer s H E hr=>⟨_,(zah (zar (zaq zb5 hr (zaa (zaq zcr hr (zaa (dv 1) (zaa (dv 4) (zaa (dv 5) zab)))) (zaa (zaq zcr hr (zaa (dv 2) (zaa (dv 3) (zaa (dv 5) zab)))) zab))))),λds S Q ex h=>by
  unfold zia at h
  split at h
  ·rename_i x1 x2 y1 y2 a b c d g
   obtain⟨⟨h1,h2,h3,h4,h5,h6,h7,h8,g1,g2⟩,h⟩:=h
   have sg:Sz 21 g:=Sz.of 1000000 (by omega)
   refine⟨⟨⟨zaR h1 h7,zaR h1 h8,zaR h2 h7,zaR h2 h8⟩,sg.fd (by omega)⟩,λmn mx hc=>?_⟩
   obtain⟨rfl,rfl⟩:=hc.eq
   refine⟨⟨⟨zaR h3 h5,zaR h3 h6,zaR h4 h5,zaR h4 h6⟩,sg.fd (by omega)⟩,λmn mx hc=>?_⟩
   obtain⟨rfl,rfl⟩:=hc.eq
   exact h
  ·exact h.elim⟩)
def zr1  (zag:zbD K mg)(zaj:zbG K mg)(zal:zbQ K mg)(zae:zbC K mg)(zaf:zbB K mg)(zai:zbJ K mg)(zlE:Dm K zag.C "slope" "Pair.slope" zhq zgP)(zg0:Fm P w K mg base 3 zag.C "slope_of_both" zh1 (zia zag.C))(zbg:mg "zip"=none):Fm P w K mg base 4 zag.C "slope" zgP (zf5 zaj.C zal.C zae.C zaf.C zag.C zai.C):=
 zlE.mk' (zaw (k:=3) zlE.F zm6 (zr8 zaj.C zal.C zae.C zaf.C zag.C zai.C) λcdv A outer s H E hr=>⟨_,(zap (zaE (i:=5) zm6.nd rfl (Or.inr rfl) (zaH (dv 1) (za6 zag.cl zag.n_one (dv 0)) (λ_ _=>rfl))) (zap (zaE (i:=6) zm6.nd rfl (Or.inr rfl) (zaH (dv 1) (za6 zag.cl zag.n_other (dv 0)) (λ_ _=>rfl))) (zah (zar (zmD (x1:="a") (x2:="b") (N:=["x","y","grid","self"]) (caps:=[5,6,4,0]) (ar:=zam zhq) rfl rfl zcT rfl rfl rfl (by decide) rfl zbg Boot.«zip» (zaa (zaH (dv 2) (za6 zag.cl zag.n_one (dv 0)) (λ_ _=>rfl)) (zaa (zaH (dv 2) (za6 zag.cl zag.n_other (dv 0)) (λ_ _=>rfl)) zab)) (λ_ _ _ _ _ _=>(zov (C:=zag.C) (dv 5) zag.cl zg0.m zg0.ok (hr.mono (by decide)) zg0.b zfu (zaa (dv 2) (zaa (dv 3) (zaa (dv 0) (zaa (dv 1) (zaa (dv 4) zab)))))))))))),λds S Q ex h=>by
  unfold zf5 at h
  split at h
  ·rename_i n w s qi g
   obtain⟨i,j,q,vs,sl,ds,hn,hw,hs,rows,sz,⟨rfl,hq⟩,ok,lv,s1,hg,h⟩:=h
   have sg:Sz 21 g:=Sz.of 1000000 (by omega)
   have fin:∀ys:List D,ys=(zaZ vs sl g q (Nd.times i j)).map frD→Q (.ref S.length) (S++[.lst ys]):=λys e=>by
    subst e
    exact h _ _ Pre.refl.push (by simp) (zax _ _)
   refine za2 (n:=n) (λK hK=>by exact hK) hn rfl ?_
   refine zaG (o:=.lst (vs.map frD)) hw (zbi (i:=i) ⟨ok.1.1,by have:=ok.1.2; omega⟩) ?_
   refine za2 (n:=n) (λK hK=>by exact hK) hn rfl ?_
   refine zaG (o:=.lst (vs.map frD)) hw (zbi (i:=j) ⟨ok.2.1,by have:=ok.2.2; omega⟩) ?_
   obtain⟨a1,ea,_,ha⟩:=rows.at ok.1
   obtain⟨a2,eb,_,hb⟩:=rows.at ok.2
   obtain⟨la,za⟩:=sz i ok.1
   obtain⟨lb,zb⟩:=sz j ok.2
   have ci:=s1.at (i:=i) ⟨ok.1.1,by have:=ok.1.2; omega⟩
   have cj:=s1.at (i:=j) ⟨ok.2.1,by have:=ok.2.2; omega⟩
   refine zgh (n:=a1) (n':=a2) (S1:=S) (xs:=(sl.getD i.toNat []).map frD) (ys:=(sl.getD j.toNat []).map frD) (λx y=>match x,y with | .tup [.int a,.int b],.tup [.int c,.int d]=>.tup [.int ((zaL (gt vs i) (c,d) g).1+(zaL (gt vs j) (a,b) g).1),.int ((zaL (gt vs i) (c,d) g).2+(zaL (gt vs j) (a,b) g).2)] | _,_=>.non) (λK hK=>by
    refine za2 (n:=n) (λK hK=>by exact hK) hn rfl ?_
    refine zaG (o:=.lst ds) hs ea ?_
    refine za2 (n:=n) (λK hK=>by exact hK) hn rfl ?_
    exact zaG (o:=.lst ds) hs eb hK) ha hb (by rw[Vac,la]; omega) (λk x y hx hy S2 K pr hK=>?_) ?_
   ·rw[Vae] at hx hy
    obtain⟨p,hp,rfl⟩:=Vam.mp hx
    obtain⟨r,hr,rfl⟩:=Vam.mp hy
    have kq:k<q:=by
     have:=(Vab.mp hp).1
     omega
    have e1:gs sl i k=p:=by
     unfold gs
     rw[Vaf,hp]
     rfl
    have e2:gs sl j k=r:=by
     unfold gs
     rw[Vaf,hr]
     rfl
    have z1:=za k kq
    have z2:=zb k kq
    rw[e1] at z1
    rw[e2] at z2
    refine zm9 (n:=n) (fs:=[("one",.int i),("other",.int j)]) (λK hK=>by exact hK) (pr _ _ hn) rfl ?_
    exact⟨⟨ci.2.1.mono (by decide),ci.2.2.mono (by decide),cj.2.1.mono (by decide),cj.2.2.mono (by decide),z1.2.1.mono (by decide),z1.2.2.mono (by decide),z2.2.1.mono (by decide),z2.2.2.mono (by decide),hg.1,hg.2⟩,hK⟩
   ·refine fin _ ?_
    rw[List.zipWith_map]
    unfold zaZ
    rw[Vag]
    rw[znI _ _ _ la lb]
    rfl
  ·exact h.elim⟩)
def zvY  (zky:Df K mg "scale_span" zjg zid)(zbE:mg "max"=none)(zck:mg "min"=none):Fk P w K mg base 1 "scale_span" zid zgn:=
 zky.mk' (zaw (k:=0) zky.F zyq (zuG) λcdv A outer s H E hr=>⟨_,(zah (zar (za1 (zaa (zaT (zoB rfl) rfl zck Boot.«min» (zaa (zao za3 (zav (dv 0) zac (λ_ _=>rfl)) (dv 1)) (zaa (zao za3 (zav (dv 0) zac (λ_ _=>rfl)) (dv 1)) zab))) (zaa (zaT (zjn rfl) rfl zbE Boot.«max» (zaa (zao za3 (zav (dv 0) zac (λ_ _=>rfl)) (dv 1)) (zaa (zao za3 (zav (dv 0) zac (λ_ _=>rfl)) (dv 1)) zab))) zab))))),λds S Q ex h=>by
  unfold zgn at h
  split at h
  ·obtain⟨⟨h1,h2⟩,h⟩:=h
   exact⟨h1,h2,h1,h2,h⟩
  ·exact h.elim⟩)
def zs6  (zai:zbJ K mg)(zaj:zbG K mg)(zal:zbQ K mg)(zae:zbC K mg)(zaf:zbB K mg)(zag:zbD K mg)(zjL:Dm K zai.C "slope" "Power.slope" zgu zgZ)(zcr:Fk P w K mg base 2 "mul_spans" zdU zd8)(zoK:Fk P w K mg base 1 "scale_span" zid zgn)(zfm:Fk P w K mg base 2 "raise_span" zfy zf1):Fm P w K mg base 3 zai.C "slope" zgZ (zfO zaj.C zal.C zae.C zaf.C zag.C zai.C):=
 zjL.mk' (zaw (k:=2) zjL.F zmQ (zvF zaj.C zal.C zae.C zaf.C zag.C zai.C) λcdv A outer s H E hr=>⟨_,(zap (zaE (i:=5) zmQ.nd rfl (Or.inl rfl) (zaq zfm hr (zaa (zaH (dv 1) (za6 zai.cl zai.n_one (dv 0)) (λ_ _=>rfl)) (zaa (zao zcZ (za6 zai.cl zai.n_many (dv 0)) zac) (zaa (dv 4) zab))))) (zap (zaE (i:=6) zmQ.nd rfl (Or.inr rfl) (zaq zoK hr (zaa (dv 5) (zaa (za6 zai.cl zai.n_many (dv 0)) zab)))) (zah (zar (zcD (x:="a") (N:=["steep","grid"]) (caps:=[6,4]) (ar:=zam zgu) rfl rfl csc rfl (by decide) (zaH (dv 2) (za6 zai.cl zai.n_one (dv 0)) (λ_ _=>rfl)) (λ_ _ _ _ _ _=>zbh) (λ_ _ _ _ _ _=>(zaq zcr hr (zaa (dv 1) (zaa (dv 0) (zaa (dv 2) zab)))))))))),λds S Q ex h=>by
  unfold zfO at h
  split at h
  ·rename_i n w s qi g
   obtain⟨i,m,q,vs,sl,ds,hn,hw,hs,rows,sz,⟨rfl,hq⟩,ok,lv,s1,hg,h⟩:=h
   have sg:Sz 21 g:=Sz.of 1000000 (by omega)
   have fin:∀ys:List D,ys=(zaZ vs sl g q (Nd.power i m)).map frD→Q (.ref S.length) (S++[.lst ys]):=λys e=>by
    subst e
    exact h _ _ Pre.refl.push (by simp) (zax _ _)
   obtain⟨a1,ea,_,ha⟩:=rows.at ok.1
   obtain⟨la,za⟩:=sz i ok.1
   have ci:=s1.at (i:=i) ⟨ok.1.1,by have:=ok.1.2; omega⟩
   obtain⟨ok1,m2,m6⟩:=ok
   refine za2 (n:=n) (λK hK=>by exact hK) hn rfl ?_
   refine zaG (o:=.lst (vs.map frD)) hw (zbi (i:=i) ⟨ok1.1,by have:=ok1.2; omega⟩) ?_
   refine za2 (n:=n) (λK hK=>by exact hK) hn rfl ?_
   refine⟨⟨by omega,by omega,ci.2.1.mono (by decide),ci.2.2.mono (by decide),hg.1,sg.mono (by decide)⟩,λm' M' hP=>?_⟩
   obtain⟨rfl,rfl⟩:=hP.eq (by omega)
   have gp:(1:Int)≤g^((m-1).toNat-1):=VaS (by omega)
   have lo:=zfx gp (zoA (gt vs i).1 (gt vs i).2 (m-1).toNat)
   have fl:=ztr (gt vs i) (n:=m) (by omega) hg.1
   have p1:Sz 6000 ((gt vs i).1^(m-1).toNat):=(ci.2.1.pow _).mono (by omega)
   have p2:Sz 6000 ((gt vs i).2^(m-1).toNat):=(ci.2.2.pow _).mono (by omega)
   have pl:Sz 6000 (zbY (gt vs i).1 (gt vs i).2 (m-1).toNat):=by
    unfold zbY
    split
    ·exact VaM (by decide)
    ·exact zdK p1 p2
   have sm:Sz 10 m:=Sz.of 6 (by omega)
   refine za2 (n:=n) (λK hK=>by exact hK) hn rfl ?_
   refine⟨⟨zaR (pl.div gp) sm,zaR (zeB (zc8 p1 p2) gp) sm⟩,?_⟩
   have e1:(if -(-zdh (gt vs i).1 (gt vs i).2 (m-1).toNat/g^((m-1).toNat-1))*m<zbY (gt vs i).1 (gt vs i).2 (m-1).toNat/g^((m-1).toNat-1)*m then -(-zdh (gt vs i).1 (gt vs i).2 (m-1).toNat/g^((m-1).toNat-1))*m else zbY (gt vs i).1 (gt vs i).2 (m-1).toNat/g^((m-1).toNat-1)*m)=(zbW (gt vs i) m g).1:=by
    rw[if_neg (by have z:(zbW (gt vs i) m g).1≤(zbW (gt vs i) m g).2:=fl; exact Int.not_lt.mpr z)]
    rfl
   have e2:(if -(-zdh (gt vs i).1 (gt vs i).2 (m-1).toNat/g^((m-1).toNat-1))*m > zbY (gt vs i).1 (gt vs i).2 (m-1).toNat/g^((m-1).toNat-1)*m then -(-zdh (gt vs i).1 (gt vs i).2 (m-1).toNat/g^((m-1).toNat-1))*m else zbY (gt vs i).1 (gt vs i).2 (m-1).toNat/g^((m-1).toNat-1)*m)=(zbW (gt vs i) m g).2:=by
    split
    ·rfl
    ·rename_i c
     have z:¬ (zbW (gt vs i) m g).1<(zbW (gt vs i) m g).2:=c
     have z2:(zbW (gt vs i) m g).1=(zbW (gt vs i) m g).2:=by omega
     exact z2
   rw[e1,e2]
   have f1:Sz 6010 (zbW (gt vs i) m g).1:=zjF (e:=10) (pl.div gp) (by omega) (by omega)
   have f2:Sz 6010 (zbW (gt vs i) m g).2:=zjF (e:=10) (zeB (zc8 p1 p2) gp) (by omega) (by omega)
   generalize hfc:zbW (gt vs i) m g=fc at f1 f2
   refine zcY (n:=a1) (S1:=S) (o:=.lst ((sl.getD i.toNat []).map frD)) (λx=>match x with | .tup [.int a,.int b]=>frD (zaL fc (a,b) g) | _=>.non) (λK hK=>by
    refine za2 (n:=n) (λK hK=>by exact hK) hn rfl ?_
    exact zaG (o:=.lst ds) hs ea hK) ha (by show ((sl.getD i.toNat []).map frD).length≤1000; rw[Vac,la]; omega) (λx hx S2 K pr hK=>?_) ?_
   ·have hx':x∈(sl.getD i.toNat []).map frD:=hx
    obtain⟨p,hp,rfl⟩:=Vai.mp hx'
    obtain⟨k,hk,ek⟩:=VaK.mp hp
    have z1:=za k (by omega)
    have e1:gs sl i k=p:=by
     unfold gs
     rw[Vaf,Vaa hk,ek]
     rfl
    rw[e1] at z1
    refine⟨⟨⟨zaR f1 z1.2.1,zaR f1 z1.2.2,zaR f2 z1.2.1,zaR f2 z1.2.2⟩,sg.fd (by omega)⟩,λmn mx hc=>?_⟩
    obtain⟨rfl,rfl⟩:=hc.eq
    exact hK
   ·refine fin _ ?_
    show ((sl.getD i.toNat []).map frD).map _=_
    rw[Vag,ztQ _ _ la]
    unfold zaZ
    rw[Vag]
    subst hfc
    rfl
  ·exact h.elim⟩)
def ztq  (zai:zbJ K mg)(zag:zbD K mg)(zaf:zbB K mg)(zae:zbC K mg)(zal:zbQ K mg)(zaj:zbG K mg)(zi6:Df K mg "slopes" zmc zhl)(zmR:Fm P w K mg base 3 zai.C "slope" zgZ (zfO zaj.C zal.C zae.C zaf.C zag.C zai.C))(znA:Fm P w K mg base 4 zag.C "slope" zgP (zf5 zaj.C zal.C zae.C zaf.C zag.C zai.C))(znU:Fm P w K mg base 3 zaf.C "slope" ziu (zeH zaj.C zal.C zae.C zaf.C zag.C zai.C))(zoH:Fm P w K mg base 3 zae.C "slope" zgi (zfP zaj.C zal.C zae.C zaf.C zag.C zai.C))(znK:Fm P w K mg base 1 zal.C "slope" zh8 (ze2 zaj.C zal.C zae.C zaf.C zag.C zai.C))(zm1:Fm P w K mg base 1 zaj.C "slope" zgm (zft zaj.C zal.C zae.C zaf.C zag.C zai.C))(zf4:Fk P w K mg base 3 "kind_of" zfE (zfw zaj.C zal.C zae.C zaf.C zag.C zai.C))(zdx:Fk P w K mg base 4 "worths" zei zeq)(zaD:mg "len"=none):Fk P w K mg base 5 "slopes" zhl zhn:=
 zi6.mk' (zaw (k:=4) zi6.F zk9 (zr0) λcdv A outer s H E hr=>⟨_,(zap (zaE (i:=3) zk9.nd rfl (Or.inl rfl) (zaq zdx hr (zaa (dv 0) (zaa (dv 1) (zaa (dv 2) zab))))) (zap (zaE (i:=4) zk9.nd rfl (Or.inl rfl) (zcJ zab)) (zap (zda (i:=5) PassesOwn.never rfl zk9.nd rfl (Or.inl rfl) (dv 0) (zah (zce (zdk (dv 4) (zqi (zaq zf4 hr (zaa (dv 5) zab)) (zcI zaj.cl zm1 (hr.mono (by decide)) (zcI zal.cl znK (hr.mono (by decide)) (zcI zae.cl zoH (hr.mono (by decide)) (zcI zaf.cl znU (hr.mono (by decide)) (zcI zag.cl znA (hr.mono (by decide)) (zcI zai.cl zmR (hr.mono (by decide)) zrl)))))) zfu (zaa (dv 3) (zaa (dv 4) (zaa (zaT (zaW zbx) rfl zaD Boot.«len» (zaa (dv 1) zab)) (zaa (dv 2) zab))))))))) (zah (zar (dv 4)))))),λds S Q ex h=>by
  unfold zhn at h
  split at h
  ·rename_i a b g
   obtain⟨ns,ws,bs,ha,hb,net,sb,hq9,hg,hl,h⟩:=h
   have disp:∀v:Nd,∃C fs sd,v.ob zaj.C zal.C zae.C zaf.C zag.C zai.C=.ins C fs∧(C,sd)∈[(zaj.C,zft zaj.C zal.C zae.C zaf.C zag.C zai.C),(zal.C,ze2 zaj.C zal.C zae.C zaf.C zag.C zai.C),(zae.C,zfP zaj.C zal.C zae.C zaf.C zag.C zai.C),(zaf.C,zeH zaj.C zal.C zae.C zaf.C zag.C zai.C),(zag.C,zf5 zaj.C zal.C zae.C zaf.C zag.C zai.C),(zai.C,zfO zaj.C zal.C zae.C zaf.C zag.C zai.C)]∧fs.lookup ("slope":Str)=none∧∀(n w s:Nat) (q:Nat) (g:Int) (S:Sto) (Q:DK) (ex:Addr→Sto→Prop) (vs:List (Int×Int)) (sl:List (List (Int×Int))) (ds:List D),S[n]?=some (v.ob zaj.C zal.C zae.C zaf.C zag.C zai.C)→S[w]?=some (.lst (vs.map frD))→S[s]?=some (.lst ds)→zaV S 0 ds sl→(∀i:Int,inR sl.length i→(sl.getD i.toNat []).length=q∧∀l,l<q→(gs sl i l).1≤(gs sl i l).2∧Sz 1100 (gs sl i l).1∧Sz 1100 (gs sl i l).2)→q≤900→v.ok sl.length q→sl.length≤vs.length→Spn 1000 vs→(1≤g∧g≤1000000)→(∀(T:Sto) (m:Nat),Pre S T→S.length≤m→T[m]?=some (.lst ((zaZ vs sl g q v).map frD))→Q (.ref m) T)→sd [.ref n,.ref w,.ref s,.int (q:Nat),.int g] S Q ex:=by
    intro v
    cases v with
    | number x y=>exact⟨_,_,_,rfl,(.head _),rfl,λn w s q g S Q ex vs sl ds a1 a2 a3 a4 a5 a6 a7 a8 a9 b1 b2=>⟨x,y,q,vs,sl,ds,a1,a2,a3,a4,a5,⟨rfl,a6⟩,a7,a8,a9,b1,b2⟩⟩
    | unknown k=>exact⟨_,_,_,rfl,(.tail _ (.head _)),rfl,λn w s q g S Q ex vs sl ds a1 a2 a3 a4 a5 a6 a7 a8 a9 b1 b2=>⟨k,q,vs,sl,ds,a1,a2,a3,a4,a5,⟨rfl,a6⟩,a7,a8,a9,b1,b2⟩⟩
    | plus i j=>exact⟨_,_,_,rfl,(.tail _ (.tail _ (.head _))),rfl,λn w s q g S Q ex vs sl ds a1 a2 a3 a4 a5 a6 a7 a8 a9 b1 b2=>⟨i,j,q,vs,sl,ds,a1,a2,a3,a4,a5,⟨rfl,a6⟩,a7,a8,a9,b1,b2⟩⟩
    | minus i j=>exact⟨_,_,_,rfl,(.tail _ (.tail _ (.tail _ (.head _)))),rfl,λn w s q g S Q ex vs sl ds a1 a2 a3 a4 a5 a6 a7 a8 a9 b1 b2=>⟨i,j,q,vs,sl,ds,a1,a2,a3,a4,a5,⟨rfl,a6⟩,a7,a8,a9,b1,b2⟩⟩
    | times i j=>exact⟨_,_,_,rfl,(.tail _ (.tail _ (.tail _ (.tail _ (.head _))))),rfl,λn w s q g S Q ex vs sl ds a1 a2 a3 a4 a5 a6 a7 a8 a9 b1 b2=>⟨i,j,q,vs,sl,ds,a1,a2,a3,a4,a5,⟨rfl,a6⟩,a7,a8,a9,b1,b2⟩⟩
    | power i m=>exact⟨_,_,_,rfl,(.tail _ (.tail _ (.tail _ (.tail _ (.tail _ (.head _)))))),rfl,λn w s q g S Q ex vs sl ds a1 a2 a3 a4 a5 a6 a7 a8 a9 b1 b2=>⟨i,m,q,vs,sl,ds,a1,a2,a3,a4,a5,⟨rfl,a6⟩,a7,a8,a9,b1,b2⟩⟩
   refine⟨ns,ws,bs,ha,hb,net,sb,hg,hl,λT1 w pr1 lw hw=>?_⟩
   have szw:=zq4 net rfl sb hg
   have lf:(zan bs g ns).length=ns.length:=zdp _ _ _
   have spn:Spn 1000 (zan bs g ns):=szw.spn λk hk=>by
    have z:=(net.w1 (i:=(k:Int)) ⟨by omega,by omega⟩).2
    rwa [Vah] at z
   refine zdi (n:=a) (o:=.lst (ns.map Nd.d)) (λk dl' S'=>k≤ns.length∧Pre T1 S'∧(∃ds:List D,S'[T1.length]?=some (.lst ds)∧zaV S' (T1.length+1) ds (zaz (zan bs g ns) g bs.length (ns.take k)))∧∃u:Option D,dl'=[some (.ref a),some (.ref b),some (.int g),some (.ref w),some (.ref T1.length),u]) ⟨Vat _,Pre.refl.push,⟨[],zax _ _,zaV.nil⟩,_,rfl⟩ (λk dl' S' z=>z.2.1 _ _ (pr1 _ _ ha)) ?_ ?_
   ·rintro k x dl' S' nx ct ex' ⟨hk,pr,⟨ds,hf,rows⟩,u,rfl⟩ hn
    have ex2:(ns.map Nd.d)[k]?=some x:=ex'
    rw[Vae] at ex2
    obtain⟨v,hv,rfl⟩:=Vam.mp ex2
    have hk':=(Vab.mp hv).1
    have ln:(zaz (zan bs g ns) g bs.length (ns.take k)).length=k:=by rw[zef,Vau]; omega
    have okv:v.ok (zaz (zan bs g ns) g bs.length (ns.take k)).length bs.length:=by rw[ln]; exact(net.ok k v hv).1
    have slw:=zpu net szw lf hg k hk
    have ss:=slw.spn λi hi=>by
     have z:=(net.w1 (i:=(i:Int)) ⟨by omega,by omega⟩).2
     rwa [Vah] at z
    obtain⟨C,fs,sd,eo,hm,hf2,go⟩:=disp v
    have N1:=zax S' (v.ob zaj.C zal.C zae.C zaf.C zag.C zai.C)
    have ld:ds.length=k:=by rw[rows.1,ln]
    have lt:=zbo hf
    refine zg7 (n:=T1.length) (xs:=ds) (λK hK=>by exact hK) hf (λK hK=>?_) (by omega)
    refine zo2 (n:=S'.length) (C:=C) (sd:=sd) (fs:=fs) (S1:=S'++[v.ob zaj.C zal.C zae.C zaf.C zag.C zai.C]) (λK hK=>⟨v,rfl,by exact hK⟩) (by rw[← eo]; exact N1) hm hf2 ?_
    refine zb1 (zaB (pr _ _ (pr1 _ _ hb))) ?_
    rw[Vac]
    refine go _ _ _ bs.length _ _ _ _ (zan bs g ns) (zaz (zan bs g ns) g bs.length (ns.take k)) ds N1 (zaB (pr _ _ hw)) (zaB hf) ((rows.low (Vat _)).pre (zcm Pre.refl _)) ss hq9 okv (by omega) spn hg λT m prT lm hT=>?_
    have hf3:=prT _ _ (zaB hf)
    refine hK _ _ hf3 ?_
    have lS:(S'++[v.ob zaj.C zal.C zae.C zaf.C zag.C zai.C]).length=S'.length+1:=by simp
    have rows3:zaV T (T1.length+1) ds (zaz (zan bs g ns) g bs.length (ns.take k)):=rows.pre λi o e=>prT _ _ (zaB e)
    refine hn _ _ ⟨by omega,zcU (pr.trans λi o e=>prT _ _ (zaB e)) (Vad _),⟨ds++[.ref m],zb2 hf3,?_⟩,_,rfl⟩
    rw[zca hv,zgO]
    have r4:=rows3.snoc (a:=m) (r:=zaZ (zan bs g ns) (zaz (zan bs g ns) g bs.length (ns.take k)) g bs.length v) (by omega) hT
    exact r4.keep λx o hx e=>za9 e (by omega)
   ·rintro dl' S' ⟨hk,pr,⟨ds,hf,rows⟩,u,rfl⟩
    have e:ns.take (zak (.lst (ns.map Nd.d))).length=ns:=by
     show ns.take (ns.map Nd.d).length=ns
     rw[Vac,VaW]
    rw[e] at rows
    refine h _ _ ds (pr1.trans pr) ?_ hf rows
    exact zcF pr1
  ·exact h.elim⟩)
def ztl  (zl9:Df K mg "slopes_at" zk1 ziw)(zfb:Fk P w K mg base 1 "picked" zfr zeL)(zod:Fk P w K mg base 5 "slopes" zhl zhn):Fk P w K mg base 6 "slopes_at" ziw zgD:=
 zl9.mk' (zaw (k:=5) zl9.F zx7 (zty) λcdv A outer s H E hr=>⟨_,(zah (zar (zaq zfb hr (zaa (zaq zod hr (zaa (dv 0) (zaa (dv 2) (zaa (dv 3) zab)))) (zaa (dv 1) zab))))),λds S Q ex h=>by
  unfold zgD at h
  split at h
  ·rename_i a p b g
   obtain⟨ns,ws,bs,is,ha,hb,net,sb,hg,l7,b9,hp,i9,hi,h⟩:=h
   refine⟨ns,ws,bs,ha,hb,net,sb,b9,hg,l7,λT m ds pr lm hm rows=>?_⟩
   have ld:ds.length=ns.length:=by rw[rows.1,zef]
   refine⟨ds,is,hm,pr _ _ hp,i9,λi him=>by rw[ld]; exact hi i him,?_⟩
   refine h _ _ (is.map λi=>ds.getD i .non) (λx o z=>zaB (pr _ _ z)) (zcF pr) (zax _ _) ⟨by rw[Vac,Vac],λk d r hd hr=>?_⟩
   rw[Vae] at hd hr
   obtain⟨i,hik,rfl⟩:=Vam.mp hd
   rw[hik] at hr
   cases hr
   have him:=hi i (Val hik)
   have h1:ds[i]?=some (ds.getD i .non):=by rw[Vaa (show i<ds.length by omega)]; simp[show i<ds.length by omega]
   have ls:=zef (zan bs g ns) g bs.length ns
   have h2:(zaz (zan bs g ns) g bs.length ns)[i]?=some ((zaz (zan bs g ns) g bs.length ns).getD i []):=by rw[Vaa (show i<(zaz (zan bs g ns) g bs.length ns).length by omega)]; simp[show i<(zaz (zan bs g ns) g bs.length ns).length by omega]
   obtain⟨q,eq,_,sq⟩:=rows.2 i _ _ h1 h2
   exact⟨q,eq,Vat _,zaB sq⟩
  ·exact h.elim⟩)
def zsb  (zjO:Df K mg "signed" zkr zeb):Fk P w K mg base 1 "signed" zeb zdL:=
 zjO.mk' (zaw (k:=0) zjO.F zwz (zyL) λcdv A outer s H E hr=>⟨_,(zah (zar (znn (zaI (zaS hr) (zao zbv (dv 1) zac) zac (zaC _)) (ziG zgF (dv 0)) (dv 0)))),λds S Q ex h=>by
  unfold zdL at h
  split at h
  ·rename_i i k
   obtain⟨n,rfl,h⟩:=h
   refine ifD (λe=>?_) (λe=>?_)
   ·have z:sgn i n=-i:=by unfold sgn; rw[if_pos (by omega)]
    rw[z] at h
    exact h
   ·have z:sgn i n=i:=by unfold sgn; rw[if_neg (by omega)]
    rw[z] at h
    exact h
  ·exact h.elim⟩)
def zxV  (zl2:Df K mg "without" ziF zdT):Fk P w K mg base 1 "without" zdT zd3:=
 zl2.mk' (zaw (k:=0) zl2.F zrc (zsU) λcdv A outer s H E hr=>⟨_,(zap (zaE (i:=3) zrc.nd rfl (Or.inl rfl) (zao zqc (ze7 (dv 0) zhE (zew (dv 1))) (ze7 (dv 0) (zew (zao zbl (dv 1) zac)) zhE))) (zah (zar (zcD (x:="entries") (N:=["column"]) (caps:=[2]) (ar:=zam ziF) rfl rfl csc rfl (by decide) (dv 3) (λ_ _ _ _ _ _=>zbh) (λ_ _ _ _ _ _=>(zao zqc (ze7 (dv 0) zhE (zew (dv 1))) (ze7 (dv 0) (zew (zao zbl (dv 1) zac)) zhE))))))),λds S Q ex h=>by
  unfold zd3 at h
  split at h
  ·rename_i m r c
   obtain⟨M,i,j,n,rfl,rfl,⟨ds,hm,rows⟩,sq,hn,hi,hj,h⟩:=h
   have lm:ds.length=n+1:=by rw[rows.len]; exact sq.1
   refine ze6 (n:=m) (o:=.lst ds) (lo:=none) (hi:=some (i:Int)) (λK hK=>by exact hK) (λK hK=>by exact hK) (λK hK=>by exact hK) hm ?_
   refine ze6 (n:=m) (o:=.lst ds) (lo:=some ((i+1:Nat):Int)) (hi:=none) (λK hK=>by exact hK) (λK hK=>by exact hK) (λK hK=>by exact hK) (zcQ hm) ?_
   dsimp only[zak]
   rw[zqL,zpK]
   refine zpc (xs:=ds.take i) (ys:=ds.drop (i+1)) (zcQ (zax _ _)) (zax _ _) (by simp; omega) ?_
   have p0:Pre S (S++[.lst (ds.take i)]++[.lst (ds.drop (i+1))]++[.lst (ds.take i++ds.drop (i+1))]):=Pre.refl.push.push.push
   have r0:Rows (S++[.lst (ds.take i)]++[.lst (ds.drop (i+1))]++[.lst (ds.take i++ds.drop (i+1))]) 0 (ds.take i++ds.drop (i+1)) (M.take i++M.drop (i+1)):=((rows.take i).app (rows.drop (i+1))).pre p0
   refine zvy (n:=(S++[Ob.lst (ds.take i)]++[Ob.lst (ds.drop (i+1))]).length) (λe=>e.take j++e.drop (j+1)) (λK hK=>by exact hK) (zax _ _) r0 (by simp; omega) (λa r S2 K hr ha hK=>?_) (λS2 ys p2 e2 r2=>?_)
   ·have lr:r.length≤n+1:=by
     have z:=sq.2 r ((VaO.mp hr).elim Vbb Va4)
     omega
    show dOp (zbV ziB) (ze0 (zbq 0) zmV (zot (zbq 1))) (ze0 (zbq 0) (zot (dOp wAdd (zbq 1) (dC (D.int 1)))) zmV) [some (.ref a),some (.int (j:Int))] S2 K
    simp only[dOp]
    refine ze6 (n:=a) (o:=.lst (r.map D.int)) (lo:=none) (hi:=some (j:Int)) (λK hK=>by exact hK) (λK hK=>by exact hK) (λK hK=>by exact hK) ha ?_
    refine ze6 (n:=a) (o:=.lst (r.map D.int)) (lo:=some ((j+1:Nat):Int)) (hi:=none) (λK hK=>by exact hK) (λK hK=>by exact hK) (λK hK=>by exact hK) (zcQ ha) ?_
    dsimp only[zak]
    rw[zqL,zpK]
    refine zpc (xs:=(r.map D.int).take j) (ys:=(r.map D.int).drop (j+1)) (zcQ (zax _ _)) (zax _ _) (by simp; omega) ?_
    refine hK _ _ Pre.refl.push.push.push (by simp) ?_
    rw[Vav,VaZ,VaT]
    exact zax _ _
   ·exact h S2 _ (p0.trans p2) ⟨ys,e2,r2⟩
  ·exact h.elim⟩)
def zv4 (zbs:Df K mg "determinant" zcq zbN)(zcp:Fk P w K mg base 0 "cofactor" zbT zpp)(zbd:mg "sum"=none)(zbf:mg "enumerate"=none)(zaD:mg "len"=none):Fk P w K mg base 1 "determinant" zbN zgA:=
 zbs.mk' (zb9 (zaw (k:=0) zbs.F ziA (zb6 zvl) λcdv A outer s H E hr=>⟨_,(zap (zaM (zaI (zaS hr) (zaT (zaW zbx) rfl zaD Boot.«len» (zaa (dv 0) zab)) zac (zaC _)) (zah (zar zac)) zaP) (zah (zar (zaT (zaW (zf0 rfl)) rfl zbd Boot.«sum» (zaa (zfG (x1:="column") (x2:="entry") (N:=["matrix"]) (caps:=[0]) (ar:=zam zcq) rfl rfl zcT rfl rfl rfl (by decide) rfl zbf Boot.«enumerate» (zaa (zav (dv 0) zac (λ_ _=>rfl)) zab) (λ_ _ _ _ _ _=>(zao za3 (dv 1) (zaq zcp hr (zaa (dv 2) (zaa zac (zaa (dv 0) zab))))))) zab))))),λds S Q ex h=>by
  obtain⟨Q0,ex0,rfl,rfl,h⟩:=h
  unfold zgA at h
  split at h
  ·rename_i m
   obtain⟨M,n,hn,⟨ds,hm,rows⟩,sq,big,h⟩:=h
   have lm:ds.length=n:=by rw[rows.len]; exact sq.1
   refine zb1 hm ?_
   refine ifD (λe=>?_) (λe=>?_)
   ·have n0:n=0:=by omega
    subst n0
    exact⟨Pre.refl,.int _,h⟩
   ·exact absurd (show ((ds.length:Nat):Int)=0 by omega) e
  ·exact h.elim⟩))
def zrR (zbM:Df K mg "cofactor" zeD zbT)(zcA:Fk P w K mg base 1 "signed" zeb zdL)(zcP:Fk P w K mg base 1 "determinant" zbN zgA)(zcE:Fk P w K mg base 1 "without" zdT zd3):Fk P w K mg base 2 "cofactor" zbT zff:=
 zbM.mk' (zb9 (zaw (k:=1) zbM.F zjV (zb6 zyp) λcdv A outer s H E hr=>⟨_,(zah (zar (zaq zcA hr (zaa (zaq zcP hr (zaa (zaq zcE hr (zaa (dv 0) (zaa (dv 1) (zaa (dv 2) zab)))) zab)) (zaa (zao zbl (dv 1) (dv 2)) zab))))),λds S Q ex h=>by
  obtain⟨Q0,ex0,rfl,rfl,h⟩:=h
  unfold zff at h
  split at h
  ·rename_i m r c
   obtain⟨M,i,j,n,hn,rfl,rfl,hi,hj,hm,sq,big,h⟩:=h
   refine⟨M,i,j,n,rfl,rfl,hm,sq,by omega,hi,hj,λT k pt mt=>?_⟩
   refine⟨zaA M i j,n,hn,mt,zdR sq hi hj,big.minor i j,?_⟩
   exact⟨i+j,by omega,pt,.int _,h⟩
  ·exact h.elim⟩))
def zyQ (zbs:Df K mg "determinant" zcq zbN)(zcp:Fk P w K mg base 2 "cofactor" zbT zff)(zbd:mg "sum"=none)(zbf:mg "enumerate"=none)(zaD:mg "len"=none):Fk P w K mg base 3 "determinant" zbN zgw:=
 zbs.mk' (zb9 (zaw (k:=2) zbs.F ziA (zb6 zr3) λcdv A outer s H E hr=>⟨_,(zap (zaM (zaI (zaS hr) (zaT (zaW zbx) rfl zaD Boot.«len» (zaa (dv 0) zab)) zac (zaC _)) (zah (zar zac)) zaP) (zah (zar (zaT (zaW (zf0 rfl)) rfl zbd Boot.«sum» (zaa (zfG (x1:="column") (x2:="entry") (N:=["matrix"]) (caps:=[0]) (ar:=zam zcq) rfl rfl zcT rfl rfl rfl (by decide) rfl zbf Boot.«enumerate» (zaa (zav (dv 0) zac (λ_ _=>rfl)) zab) (λ_ _ _ _ _ _=>(zao za3 (dv 1) (zaq zcp hr (zaa (dv 2) (zaa zac (zaa (dv 0) zab))))))) zab))))),λds S Q ex h=>by
  obtain⟨Q0,ex0,rfl,rfl,h⟩:=h
  unfold zgw at h
  split at h
  ·rename_i m
   obtain⟨M,n,hn,⟨ds,hm,rows⟩,sq,big,h⟩:=h
   have lm:ds.length=n:=by rw[rows.len]; exact sq.1
   refine zb1 hm ?_
   refine ifD (λe=>?_) (λe=>?_)
   ·have n0:n=0:=by omega
    subst n0
    exact⟨Pre.refl,.int _,h⟩
   ·obtain⟨n,rfl⟩:∃k,n=k+1:=⟨n-1,by omega⟩
    obtain⟨r0,M',rfl⟩:∃r M',M=r::M':=by
     match M,sq.1 with
     | r::M',_=>exact⟨r,M',rfl⟩
    have lr:r0.length=n+1:=sq.2 r0 (by simp)
    obtain⟨a,hd,_,ha⟩:=rows.get' (k:=0) (r:=r0) rfl
    refine zh3 (n:=a) (xs:=r0.map D.int) (λk d=>.int (r0.getD k 0*sgn (zas n (zaA (r0::M') 0 k)) k)) (λK hK=>?_) ha (by simp; omega) (λk x hx S2 K p2 hK=>?_) ?_
    ·show dOp wIx (zbq 0) (dC (D.int 0)) [some (.ref m)] S λx S1=>K [x] S1
     exact zlo hm hd hK
    ·have hk:k<n+1:=by
      have:=(Vab.mp hx).1
      simpa [lr] using this
     obtain rfl:=zkL hx
     show zff [.ref m,.int 0,.int (k:Int)] S2 (λy S3=>zgb (.int (r0.getD k 0)) y S3 K) (λ_ _=>False)
     refine⟨r0::M',0,k,n,by omega,rfl,rfl,Vat _,by omega,(show zbn S m (r0::M') from ⟨ds,hm,rows⟩).pre p2,sq,big,?_⟩
     refine⟨zlS sq big (by omega) (by omega),?_⟩
     rw[Nat.zero_add]
     exact hK
    ·refine zgf (zax _ _) (zmE n r0 M') ?_
     exact⟨Pre.refl.push,.int _,h⟩
  ·exact h.elim⟩))
def zrJ (zbM:Df K mg "cofactor" zeD zbT)(zcA:Fk P w K mg base 1 "signed" zeb zdL)(zcP:Fk P w K mg base 3 "determinant" zbN zgw)(zcE:Fk P w K mg base 1 "without" zdT zd3):Fk P w K mg base 4 "cofactor" zbT zfJ:=
 zbM.mk' (zb9 (zaw (k:=3) zbM.F zjV (zb6 zxg) λcdv A outer s H E hr=>⟨_,(zah (zar (zaq zcA hr (zaa (zaq zcP hr (zaa (zaq zcE hr (zaa (dv 0) (zaa (dv 1) (zaa (dv 2) zab)))) zab)) (zaa (zao zbl (dv 1) (dv 2)) zab))))),λds S Q ex h=>by
  obtain⟨Q0,ex0,rfl,rfl,h⟩:=h
  unfold zfJ at h
  split at h
  ·rename_i m r c
   obtain⟨M,i,j,n,hn,rfl,rfl,hi,hj,hm,sq,big,h⟩:=h
   refine⟨M,i,j,n,rfl,rfl,hm,sq,by omega,hi,hj,λT k pt mt=>?_⟩
   refine⟨zaA M i j,n,hn,mt,zdR sq hi hj,big.minor i j,?_⟩
   exact⟨i+j,by omega,pt,.int _,h⟩
  ·exact h.elim⟩))
def zxG (zbs:Df K mg "determinant" zcq zbN)(zcp:Fk P w K mg base 4 "cofactor" zbT zfJ)(zbd:mg "sum"=none)(zbf:mg "enumerate"=none)(zaD:mg "len"=none):Fk P w K mg base 5 "determinant" zbN ziI:=
 zbs.mk' (zb9 (zaw (k:=4) zbs.F ziA (zb6 zxw) λcdv A outer s H E hr=>⟨_,(zap (zaM (zaI (zaS hr) (zaT (zaW zbx) rfl zaD Boot.«len» (zaa (dv 0) zab)) zac (zaC _)) (zah (zar zac)) zaP) (zah (zar (zaT (zaW (zf0 rfl)) rfl zbd Boot.«sum» (zaa (zfG (x1:="column") (x2:="entry") (N:=["matrix"]) (caps:=[0]) (ar:=zam zcq) rfl rfl zcT rfl rfl rfl (by decide) rfl zbf Boot.«enumerate» (zaa (zav (dv 0) zac (λ_ _=>rfl)) zab) (λ_ _ _ _ _ _=>(zao za3 (dv 1) (zaq zcp hr (zaa (dv 2) (zaa zac (zaa (dv 0) zab))))))) zab))))),λds S Q ex h=>by
  obtain⟨Q0,ex0,rfl,rfl,h⟩:=h
  unfold ziI at h
  split at h
  ·rename_i m
   obtain⟨M,n,hn,⟨ds,hm,rows⟩,sq,big,h⟩:=h
   have lm:ds.length=n:=by rw[rows.len]; exact sq.1
   refine zb1 hm ?_
   refine ifD (λe=>?_) (λe=>?_)
   ·have n0:n=0:=by omega
    subst n0
    exact⟨Pre.refl,.int _,h⟩
   ·obtain⟨n,rfl⟩:∃k,n=k+1:=⟨n-1,by omega⟩
    obtain⟨r0,M',rfl⟩:∃r M',M=r::M':=by
     match M,sq.1 with
     | r::M',_=>exact⟨r,M',rfl⟩
    have lr:r0.length=n+1:=sq.2 r0 (by simp)
    obtain⟨a,hd,_,ha⟩:=rows.get' (k:=0) (r:=r0) rfl
    refine zh3 (n:=a) (xs:=r0.map D.int) (λk d=>.int (r0.getD k 0*sgn (zas n (zaA (r0::M') 0 k)) k)) (λK hK=>?_) ha (by simp; omega) (λk x hx S2 K p2 hK=>?_) ?_
    ·show dOp wIx (zbq 0) (dC (D.int 0)) [some (.ref m)] S λx S1=>K [x] S1
     exact zlo hm hd hK
    ·have hk:k<n+1:=by
      have:=(Vab.mp hx).1
      simpa [lr] using this
     obtain rfl:=zkL hx
     show zfJ [.ref m,.int 0,.int (k:Int)] S2 (λy S3=>zgb (.int (r0.getD k 0)) y S3 K) (λ_ _=>False)
     refine⟨r0::M',0,k,n,by omega,rfl,rfl,Vat _,by omega,(show zbn S m (r0::M') from ⟨ds,hm,rows⟩).pre p2,sq,big,?_⟩
     refine⟨zlS sq big (by omega) (by omega),?_⟩
     rw[Nat.zero_add]
     exact hK
    ·refine zgf (zax _ _) (zmE n r0 M') ?_
     exact⟨Pre.refl.push,.int _,h⟩
  ·exact h.elim⟩))
def zvv (zbM:Df K mg "cofactor" zeD zbT)(zcA:Fk P w K mg base 1 "signed" zeb zdL)(zcP:Fk P w K mg base 5 "determinant" zbN ziI)(zcE:Fk P w K mg base 1 "without" zdT zd3):Fk P w K mg base 6 "cofactor" zbT zfS:=
 zbM.mk' (zb9 (zaw (k:=5) zbM.F zjV (zb6 zuZ) λcdv A outer s H E hr=>⟨_,(zah (zar (zaq zcA hr (zaa (zaq zcP hr (zaa (zaq zcE hr (zaa (dv 0) (zaa (dv 1) (zaa (dv 2) zab)))) zab)) (zaa (zao zbl (dv 1) (dv 2)) zab))))),λds S Q ex h=>by
  obtain⟨Q0,ex0,rfl,rfl,h⟩:=h
  unfold zfS at h
  split at h
  ·rename_i m r c
   obtain⟨M,i,j,n,hn,rfl,rfl,hi,hj,hm,sq,big,h⟩:=h
   refine⟨M,i,j,n,rfl,rfl,hm,sq,by omega,hi,hj,λT k pt mt=>?_⟩
   refine⟨zaA M i j,n,hn,mt,zdR sq hi hj,big.minor i j,?_⟩
   exact⟨i+j,by omega,pt,.int _,h⟩
  ·exact h.elim⟩))
def zsT (zbs:Df K mg "determinant" zcq zbN)(zcp:Fk P w K mg base 6 "cofactor" zbT zfS)(zbd:mg "sum"=none)(zbf:mg "enumerate"=none)(zaD:mg "len"=none):Fk P w K mg base 7 "determinant" zbN zgt:=
 zbs.mk' (zb9 (zaw (k:=6) zbs.F ziA (zb6 zvW) λcdv A outer s H E hr=>⟨_,(zap (zaM (zaI (zaS hr) (zaT (zaW zbx) rfl zaD Boot.«len» (zaa (dv 0) zab)) zac (zaC _)) (zah (zar zac)) zaP) (zah (zar (zaT (zaW (zf0 rfl)) rfl zbd Boot.«sum» (zaa (zfG (x1:="column") (x2:="entry") (N:=["matrix"]) (caps:=[0]) (ar:=zam zcq) rfl rfl zcT rfl rfl rfl (by decide) rfl zbf Boot.«enumerate» (zaa (zav (dv 0) zac (λ_ _=>rfl)) zab) (λ_ _ _ _ _ _=>(zao za3 (dv 1) (zaq zcp hr (zaa (dv 2) (zaa zac (zaa (dv 0) zab))))))) zab))))),λds S Q ex h=>by
  obtain⟨Q0,ex0,rfl,rfl,h⟩:=h
  unfold zgt at h
  split at h
  ·rename_i m
   obtain⟨M,n,hn,⟨ds,hm,rows⟩,sq,big,h⟩:=h
   have lm:ds.length=n:=by rw[rows.len]; exact sq.1
   refine zb1 hm ?_
   refine ifD (λe=>?_) (λe=>?_)
   ·have n0:n=0:=by omega
    subst n0
    exact⟨Pre.refl,.int _,h⟩
   ·obtain⟨n,rfl⟩:∃k,n=k+1:=⟨n-1,by omega⟩
    obtain⟨r0,M',rfl⟩:∃r M',M=r::M':=by
     match M,sq.1 with
     | r::M',_=>exact⟨r,M',rfl⟩
    have lr:r0.length=n+1:=sq.2 r0 (by simp)
    obtain⟨a,hd,_,ha⟩:=rows.get' (k:=0) (r:=r0) rfl
    refine zh3 (n:=a) (xs:=r0.map D.int) (λk d=>.int (r0.getD k 0*sgn (zas n (zaA (r0::M') 0 k)) k)) (λK hK=>?_) ha (by simp; omega) (λk x hx S2 K p2 hK=>?_) ?_
    ·show dOp wIx (zbq 0) (dC (D.int 0)) [some (.ref m)] S λx S1=>K [x] S1
     exact zlo hm hd hK
    ·have hk:k<n+1:=by
      have:=(Vab.mp hx).1
      simpa [lr] using this
     obtain rfl:=zkL hx
     show zfS [.ref m,.int 0,.int (k:Int)] S2 (λy S3=>zgb (.int (r0.getD k 0)) y S3 K) (λ_ _=>False)
     refine⟨r0::M',0,k,n,by omega,rfl,rfl,Vat _,by omega,(show zbn S m (r0::M') from ⟨ds,hm,rows⟩).pre p2,sq,big,?_⟩
     refine⟨zlS sq big (by omega) (by omega),?_⟩
     rw[Nat.zero_add]
     exact hK
    ·refine zgf (zax _ _) (zmE n r0 M') ?_
     exact⟨Pre.refl.push,.int _,h⟩
  ·exact h.elim⟩))
def zur (zbM:Df K mg "cofactor" zeD zbT)(zcA:Fk P w K mg base 1 "signed" zeb zdL)(zcP:Fk P w K mg base 7 "determinant" zbN zgt)(zcE:Fk P w K mg base 1 "without" zdT zd3):Fk P w K mg base 8 "cofactor" zbT zeg:=
 zbM.mk' (zb9 (zaw (k:=7) zbM.F zjV (zb6 zvZ) λcdv A outer s H E hr=>⟨_,(zah (zar (zaq zcA hr (zaa (zaq zcP hr (zaa (zaq zcE hr (zaa (dv 0) (zaa (dv 1) (zaa (dv 2) zab)))) zab)) (zaa (zao zbl (dv 1) (dv 2)) zab))))),λds S Q ex h=>by
  obtain⟨Q0,ex0,rfl,rfl,h⟩:=h
  unfold zeg at h
  split at h
  ·rename_i m r c
   obtain⟨M,i,j,n,hn,rfl,rfl,hi,hj,hm,sq,big,h⟩:=h
   refine⟨M,i,j,n,rfl,rfl,hm,sq,by omega,hi,hj,λT k pt mt=>?_⟩
   refine⟨zaA M i j,n,hn,mt,zdR sq hi hj,big.minor i j,?_⟩
   exact⟨i+j,by omega,pt,.int _,h⟩
  ·exact h.elim⟩))
def zwN (zbs:Df K mg "determinant" zcq zbN)(zcp:Fk P w K mg base 8 "cofactor" zbT zeg)(zbd:mg "sum"=none)(zbf:mg "enumerate"=none)(zaD:mg "len"=none):Fk P w K mg base 9 "determinant" zbN zgy:=
 zbs.mk' (zb9 (zaw (k:=8) zbs.F ziA (zb6 ztS) λcdv A outer s H E hr=>⟨_,(zap (zaM (zaI (zaS hr) (zaT (zaW zbx) rfl zaD Boot.«len» (zaa (dv 0) zab)) zac (zaC _)) (zah (zar zac)) zaP) (zah (zar (zaT (zaW (zf0 rfl)) rfl zbd Boot.«sum» (zaa (zfG (x1:="column") (x2:="entry") (N:=["matrix"]) (caps:=[0]) (ar:=zam zcq) rfl rfl zcT rfl rfl rfl (by decide) rfl zbf Boot.«enumerate» (zaa (zav (dv 0) zac (λ_ _=>rfl)) zab) (λ_ _ _ _ _ _=>(zao za3 (dv 1) (zaq zcp hr (zaa (dv 2) (zaa zac (zaa (dv 0) zab))))))) zab))))),λds S Q ex h=>by
  obtain⟨Q0,ex0,rfl,rfl,h⟩:=h
  unfold zgy at h
  split at h
  ·rename_i m
   obtain⟨M,n,hn,⟨ds,hm,rows⟩,sq,big,h⟩:=h
   have lm:ds.length=n:=by rw[rows.len]; exact sq.1
   refine zb1 hm ?_
   refine ifD (λe=>?_) (λe=>?_)
   ·have n0:n=0:=by omega
    subst n0
    exact⟨Pre.refl,.int _,h⟩
   ·obtain⟨n,rfl⟩:∃k,n=k+1:=⟨n-1,by omega⟩
    obtain⟨r0,M',rfl⟩:∃r M',M=r::M':=by
     match M,sq.1 with
     | r::M',_=>exact⟨r,M',rfl⟩
    have lr:r0.length=n+1:=sq.2 r0 (by simp)
    obtain⟨a,hd,_,ha⟩:=rows.get' (k:=0) (r:=r0) rfl
    refine zh3 (n:=a) (xs:=r0.map D.int) (λk d=>.int (r0.getD k 0*sgn (zas n (zaA (r0::M') 0 k)) k)) (λK hK=>?_) ha (by simp; omega) (λk x hx S2 K p2 hK=>?_) ?_
    ·show dOp wIx (zbq 0) (dC (D.int 0)) [some (.ref m)] S λx S1=>K [x] S1
     exact zlo hm hd hK
    ·have hk:k<n+1:=by
      have:=(Vab.mp hx).1
      simpa [lr] using this
     obtain rfl:=zkL hx
     show zeg [.ref m,.int 0,.int (k:Int)] S2 (λy S3=>zgb (.int (r0.getD k 0)) y S3 K) (λ_ _=>False)
     refine⟨r0::M',0,k,n,by omega,rfl,rfl,Vat _,by omega,(show zbn S m (r0::M') from ⟨ds,hm,rows⟩).pre p2,sq,big,?_⟩
     refine⟨zlS sq big (by omega) (by omega),?_⟩
     rw[Nat.zero_add]
     exact hK
    ·refine zgf (zax _ _) (zmE n r0 M') ?_
     exact⟨Pre.refl.push,.int _,h⟩
  ·exact h.elim⟩))
def ztM  (zj0:Df K mg "inverse_entry" zmI zh7)(zcp:Fk P w K mg base 8 "cofactor" zbT zeg):Fk P w K mg base 9 "inverse_entry" zh7 zib:=
 zj0.mk' (zaw (k:=8) zj0.F zvA (zr7) λcdv A outer s H E hr=>⟨_,(zah (zar (zao zsj (zao za3 (zao za3 (zaq zcp hr (zaa (dv 0) (zaa (dv 3) (zaa (dv 2) zab)))) (dv 4)) (dv 4)) (dv 1)))),λds S Q ex h=>by
  unfold zib at h
  split at h
  ·rename_i m w r c g
   obtain⟨M,i,j,n,hn,rfl,rfl,hi,hj,hm,sq,big,hw,hg,h⟩:=h
   refine⟨M,j,i,n,hn,rfl,rfl,hj,hi,hm,sq,big,?_⟩
   have e2:Sz 4140 (sgn (zas n (zaA M j i)) (j+i)):=zkf (znb (zdR sq hj hi) (big.minor j i) (by omega))
   have eg:Sz 20 g:=Sz.of 1000000 (by omega)
   refine⟨zaR e2 eg,zaR (e2.mul eg) eg,⟨hw.1,hw.2.log hw.1⟩,?_⟩
   exact h
  ·exact h.elim⟩)
def ztU  (zkF:Df K mg "inverse_row" zg8 zig)(zny:Fk P w K mg base 9 "inverse_entry" zh7 zib)(zaQ:mg "range"=none)(zaD:mg "len"=none):Fk P w K mg base 10 "inverse_row" zig zhU:=
 zkF.mk' (zaw (k:=9) zkF.F zw2 (zwA) λcdv A outer s H E hr=>⟨_,(zah (zar (zd2 (x:="column") (N:=["matrix","whole","row","grid"]) (caps:=[0,1,2,3]) (ar:=zam zg8) rfl rfl csc rfl (by decide) rfl zaQ (zaa (zaT (zaW zbx) rfl zaD Boot.«len» (zaa (dv 0) zab)) zab) (λ_ _ _ _ _ _=>zbh) (λ_ _ _ _ _ _=>(zaq zny hr (zaa (dv 1) (zaa (dv 2) (zaa (dv 3) (zaa (dv 0) (zaa (dv 4) zab)))))))))),λds S Q ex h=>by
  unfold zhU at h
  split at h
  ·rename_i m w r g
   obtain⟨M,i,n,hn,rfl,hi,hm,sq,big,hw,hg,h⟩:=h
   obtain⟨ds,hds,rows⟩:=id hm
   have lm:ds.length=n+1:=by rw[rows.len]; exact sq.1
   refine zdY (j:=((n+1:Nat):Int)) (S1:=S) (λk=>.int (zeW M n w g i k)) (λK hK=>?_) (by omega) (λk hk S2 K p2 hK=>?_) ?_
   ·refine zb1 hds ?_
    rw[lm]
    exact hK
   ·exact⟨M,i,k,n,hn,rfl,rfl,hi,by omega,hm.pre p2,sq,big,hw,hg,hK⟩
   ·have e:(List.range ((n+1:Nat):Int).toNat).map (λk=>D.int (zeW M n w g i k))=(zd7 M n w g i).map D.int:=by
     unfold zd7
     rw[Vag]
     rfl
    rw[e]
    exact h
  ·exact h.elim⟩)
def zyM  (zjb:Df K mg "inverse" ziE zgM)(znv:Fk P w K mg base 10 "inverse_row" zig zhU)(zcP:Fk P w K mg base 9 "determinant" zbN zgy)(zaQ:mg "range"=none)(zaD:mg "len"=none):Fk P w K mg base 11 "inverse" zgM zgL:=
 zjb.mk' (zaw (k:=10) zjb.F zqM (zx8) λcdv A outer s H E hr=>⟨_,(zap (zaE (i:=2) zqM.nd rfl (Or.inr rfl) (zaq zcP hr (zaa (dv 0) zab))) (zap (zaM (zaI (zaS hr) (dv 2) zac (zaC _)) (zah (zar zfv)) zaP) (zah (zar (zd2 (x:="row") (N:=["matrix","whole","grid"]) (caps:=[0,2,1]) (ar:=zam ziE) rfl rfl csc rfl (by decide) rfl zaQ (zaa (zaT (zaW zbx) rfl zaD Boot.«len» (zaa (dv 0) zab)) zab) (λ_ _ _ _ _ _=>zbh) (λ_ _ _ _ _ _=>(zaq znv hr (zaa (dv 1) (zaa (dv 2) (zaa (dv 0) (zaa (dv 3) zab))))))))))),λds S Q ex h=>by
  unfold zgL at h
  split at h
  ·rename_i m g
   obtain⟨M,n,hn,hm,sq,big,hg,h0,h1⟩:=h
   obtain⟨ds,hds,rows⟩:=id hm
   have lm:ds.length=n+1:=by rw[rows.len]; exact sq.1
   refine⟨M,n+1,by omega,hm,sq,big,?_⟩
   refine ifD (c:=zas (n+1) M=0) (λc=>?_) (λc=>?_)
   ·exact h0 c
   ·refine zuQ (j:=n+1) (T0:=S) (zd7 M n (zas (n+1) M) g) (λK hK=>?_) (by omega) (λk S2 K hk p2 hK=>?_) (λS2 ys p2 e2 r2=>?_)
    ·refine zb1 hds ?_
     rw[lm]
     exact hK
    ·refine⟨M,k,n,hn,rfl,by omega,hm.pre p2,sq,big,⟨c,znb sq big (by omega)⟩,hg,?_⟩
     exact hK _ _ Pre.refl.push (Vad _) (zax _ _)
    ·exact h1 c S2 _ p2 ⟨ys,e2,r2⟩
  ·exact h.elim⟩)
def zsG  (zjp:Df K mg "middle" zj3 zho):Fk P w K mg base 1 "middle" zho zhD:=
 zjp.mk' (zaw (k:=0) zjp.F zyN (zua) λcdv A outer s H E hr=>⟨_,(zah (zar (zao zbU (zao zbl (zav (dv 0) zac (λ_ _=>rfl)) (zav (dv 0) zac (λ_ _=>rfl))) zac))),λds S Q ex h=>by
  unfold zhD at h
  split at h
  ·exact h
  ·exact h.elim⟩)
def zrU  (zlc:Df K mg "middles" zgU zfM)(zoG:Fk P w K mg base 1 "middle" zho zhD):Fk P w K mg base 2 "middles" zfM ze4:=
 zlc.mk' (zaw (k:=1) zlc.F zsY (zv7) λcdv A outer s H E hr=>⟨_,(zah (zar (zcD (x:="span") (N:=[]) (caps:=[]) (ar:=zam zgU) rfl rfl csc rfl (by decide) (dv 0) (λ_ _ _ _ _ _=>zbh) (λ_ _ _ _ _ _=>(zaq zoG hr (zaa (dv 0) zab)))))),λds S Q ex h=>by
  unfold ze4 at h
  split at h
  ·rename_i s
   obtain⟨vs,hs,l9,h⟩:=h
   refine zcY (n:=s) (S1:=S) (o:=.lst (vs.map frD)) (λd=>match d with | .tup [.int a,.int b]=>.int ((a+b)/2) | _=>.non) (λK hK=>by exact hK) hs (by show (vs.map frD).length≤1000; rw[Vac]; omega) (λx hx S2 K pr hK=>?_) ?_
   ·have hx':x∈vs.map frD:=hx
    obtain⟨p,_,rfl⟩:=Vai.mp hx'
    exact hK
   ·have e2:(zak (.lst (vs.map frD))).map (λd=>match d with | .tup [.int a,.int b]=>.int ((a+b)/2) | _=>.non)=vs.map λp=>D.int (mid p):=by
     show (vs.map frD).map _=_
     rw[Vag]
     rfl
    rw[e2]
    exact h
  ·exact h.elim⟩)
def zt1  (zk4:Df K mg "box_of_middles" zih zeX)(zfs:Fk P w K mg base 2 "middles" zfM ze4):Fk P w K mg base 3 "box_of_middles" zeX zeT:=
 zk4.mk' (zaw (k:=2) zk4.F zx4 (zr9) λcdv A outer s H E hr=>⟨_,(zah (zar (zcD (x:="place") (N:=[]) (caps:=[]) (ar:=zam zih) rfl rfl csc rfl (by decide) (zaq zfs hr (zaa (dv 0) zab)) (λ_ _ _ _ _ _=>zbh) (λ_ _ _ _ _ _=>(za1 (zaa (dv 0) (zaa (dv 0) zab))))))),λds S Q ex h=>by
  unfold zeT at h
  split at h
  ·rename_i b
   obtain⟨vs,hb,l9,h⟩:=h
   refine zcY (n:=S.length) (S1:=S++[.lst (vs.map λp=>.int (mid p))]) (o:=.lst (vs.map λp=>.int (mid p))) (λd=>.tup [d,d]) (λK hK=>⟨vs,hb,l9,hK⟩) (zax _ _) (by show (vs.map _).length≤1000; rw[Vac]; omega) (λx hx S2 K pr hK=>by exact hK) ?_
   refine h _ _ Pre.refl.push.push (by simp) ?_
   have e:(zak (.lst (vs.map λp=>D.int (mid p)))).map (λd=>D.tup [d,d])=(vs.map zbe).map frD:=by
    show (vs.map λp=>D.int (mid p)).map _=_
    rw[Vag]
    rw[Vag]
    rfl
   rw[e]
   exact zax _ _
  ·exact h.elim⟩)
def zyc  (zly:Df K mg "sum_of_products" zkO zeU)(zb5:Fk P w K mg base 1 "add_spans" zdE zdH)(zcr:Fk P w K mg base 2 "mul_spans" zdU zd8)(zbg:mg "zip"=none):Fk P w K mg base 3 "sum_of_products" zeU zfl:=
 zly.mk' (zaw (k:=2) zly.F zmJ (zwV) λcdv A outer s H E hr=>⟨_,(zap (zaE (i:=3) zmJ.nd rfl (Or.inl rfl) (za1 (zaa zac (zaa zac zab)))) (zap (zup (is:=[4,5]) PassesOwn.never rfl zmJ.nd (Nms.cons (i:=4) rfl (Or.inl rfl) (by first | exact .inl rfl | exact .inr rfl) (Nms.cons (i:=5) rfl (Or.inl rfl) (by first | exact .inl rfl | exact .inr rfl) Nms.nil)) rfl rfl zbg Boot.«zip» (zaa (dv 0) (zaa (dv 1) zab)) (zah (zaE (i:=3) zmJ.nd rfl (Or.inl rfl) (zaq zb5 hr (zaa (dv 3) (zaa (zaq zcr hr (zaa (dv 4) (zaa (dv 5) (zaa (dv 2) zab)))) zab)))))) (zah (zar (dv 3))))),λds S Q ex h=>by
  unfold zfl at h
  split at h
  ·rename_i a b g
   obtain⟨us,vs,ha,hb,l6,z1,z2,hg,h⟩:=h
   have sg:Sz 21 g:=Sz.of 1000000 (by omega)
   refine zwP (n:=a) (n':=b) (xs:=us.map frD) (ys:=vs.map frD) (S:=S) (λk dl'=>∃u1 u2:Option D,dl'=[some (.ref a),some (.ref b),some (.int g),some (frD (sumP g (us.take k) (vs.take k))),u1,u2]) (λK hK=>by exact hK) ha hb ⟨_,_,rfl⟩ ?_ ?_
   ·rintro k x y dl' nx ct hx hy ⟨u1,u2,rfl⟩ hn
    rw[Vae] at hx hy
    obtain⟨p,hp,rfl⟩:=Vam.mp hx
    obtain⟨r,hr,rfl⟩:=Vam.mp hy
    have zp:=z1 _ (Val hp)
    have zr:=z2 _ (Val hr)
    refine⟨⟨⟨zaR zp.1 zr.1,zaR zp.1 zr.2,zaR zp.2 zr.1,zaR zp.2 zr.2⟩,sg.fd (by omega)⟩,λmn mx hc=>?_⟩
    obtain⟨rfl,rfl⟩:=hc.eq
    refine hn _ ⟨some (frD p),some (frD r),?_⟩
    rw[zi2 g us vs k hp hr]
    rfl
   ·rintro dl' ⟨u1,u2,rfl⟩
    rw[Vac,Vac,zn7]
    exact h
  ·exact h.elim⟩)
def zrI  (zmi:Df K mg "lacking" zhW zh9)(zcx:Fk P w K mg base 1 "take_spans" zdX zdV)(zex:Fk P w K mg base 3 "sum_of_products" zeU zfl):Fk P w K mg base 4 "lacking" zh9 zgz:=
 zmi.mk' (zb9 (zaw (k:=3) zmi.F znJ (zb6 (ztE)) λcdv A outer s H E hr=>⟨_,(zap (zaE (i:=5) znJ.nd rfl (Or.inl rfl) (znn (zaI (zaS hr) (dv 0) (dv 1) (zaC _)) (za1 (zaa (dv 4) (zaa (dv 4) zab))) (za1 (zaa zac (zaa zac zab))))) (zap (zoi (x:="slant") (N:=["column"]) (caps:=[1]) (ar:=zam zhW) rfl rfl csc rfl (by decide) (i:=6) znJ.nd rfl rfl (dv 3) (λ_ _ _ _ _ _=>zbh) (λ_ _ _ _ _ _=>(zaH (dv 0) (dv 1) (λ_ _=>rfl)))) (zah (zar (zaq zcx hr (zaa (dv 5) (zaa (zaq zex hr (zaa (dv 2) (zaa (dv 6) (zaa (dv 4) zab)))) zab))))))),λds S Q ex h=>by
  obtain⟨Q0,ex0,rfl,rfl,h⟩:=h
  unfold zgz at h
  split at h
  ·rename_i k c t s g
   obtain⟨q,kn,cn,ts,R,ds,rfl,rfl,ht,hs,rows,zr,hc,l6,r6,z1,hg,h⟩:=h
   have tail:∀whole:Int×Int,whole=(if kn=cn then (g,g) else (0,0))→∀K:DK,K (frD (zcb g kn cn ts R)) (S++[.lst ((R.map λr=>r.getD cn (0,0)).map frD)])→True:=λ_ _ _ _=>trivial
   have col:∀(k:Nat) (r:List (Int×Int)),R[k]?=some r→atI (r.map frD) ((cn:Nat):Int)=some (frD (r.getD cn (0,0))):=λk r hr=>by
    have hl:=(zr r (Val hr)).1
    have z:=zbi (vs:=r) (i:=((cn:Nat):Int)) ⟨by omega,by rw[hl]; omega⟩
    rw[z]
    have e:gt r ((cn:Nat):Int)=r.getD cn (0,0):=by
     have ll:cn<r.length:=by rw[hl]; exact hc
     unfold gt
     rw[Vah]
     simp[ll]
    rw[e]
   have bd:Bd 20000 (R.map λr=>r.getD cn (0,0)):=λp hp=>by
    obtain⟨r,hr,er⟩:=Vai.mp hp
    subst er
    obtain⟨hl,b⟩:=zr r hr
    have ll:cn<r.length:=by rw[hl]; exact hc
    have e:r.getD cn (0,0)=r[cn]:=by simp[ll]
    rw[e]
    exact⟨(b _ (VaH ll)).1.mono (by decide),(b _ (VaH ll)).2.mono (by decide)⟩
   have za8:∀whole:Int×Int,whole=(if kn=cn then (g,g) else (0,0))→Gc S Q0 (.tup [.int (whole.1-(sumP g ts (R.map λr=>r.getD cn (0,0))).2),.int (whole.2-(sumP g ts (R.map λr=>r.getD cn (0,0))).1)]) (S++[.lst ((R.map λr=>r.getD cn (0,0)).map frD)]):=λwhole e=>by
    subst e
    exact⟨Pre.refl.push,zfF,h⟩
   refine ifD (λe=>?_) (λe=>?_)
   ·refine zqQ (n:=s) (S1:=S) (o:=.lst ds) (λk d=>∃r,R[k]?=some r∧d=frD (r.getD cn (0,0))) (λK hK=>by exact hK) hs (by show ds.length≤1000; rw[rows.1]; omega) (λk x hx S2 K pr hK=>?_) (λxs lx hx=>?_)
    ·have hx':ds[k]?=some x:=hx
     have hk:k<R.length:=by
      have:=(Vab.mp hx').1
      rw[rows.1] at this
      exact this
     obtain⟨a,rfl,_,ha⟩:=rows.2 k x _ hx' (Vaa hk)
     refine zaG (o:=.lst _) (pr _ _ ha) (col k _ (Vaa hk)) ?_
     exact hK _ ⟨_,Vaa hk,rfl⟩
    ·have e2:xs=(R.map λr=>r.getD cn (0,0)).map frD:=by
      refine VaY λk=>?_
      by_cases hk:k<xs.length
      ·obtain⟨r,hr,e⟩:=hx k _ (Vaa hk)
       rw[Vaa hk,Vae,Vae,hr,e]
       rfl
      ·have lx':xs.length=R.length:=by rw[lx]; exact rows.1
       rw[VaC (by omega),VaC (by simp; omega)]
     subst e2
     refine⟨ts,_,zaB ht,zax _ _,l6,z1,bd,hg,?_⟩
     exact za8 (g,g) (by rw[if_pos (by omega)])
   ·refine zqQ (n:=s) (S1:=S) (o:=.lst ds) (λk d=>∃r,R[k]?=some r∧d=frD (r.getD cn (0,0))) (λK hK=>by exact hK) hs (by show ds.length≤1000; rw[rows.1]; omega) (λk x hx S2 K pr hK=>?_) (λxs lx hx=>?_)
    ·have hx':ds[k]?=some x:=hx
     have hk:k<R.length:=by
      have:=(Vab.mp hx').1
      rw[rows.1] at this
      exact this
     obtain⟨a,rfl,_,ha⟩:=rows.2 k x _ hx' (Vaa hk)
     refine zaG (o:=.lst _) (pr _ _ ha) (col k _ (Vaa hk)) ?_
     exact hK _ ⟨_,Vaa hk,rfl⟩
    ·have e2:xs=(R.map λr=>r.getD cn (0,0)).map frD:=by
      refine VaY λk=>?_
      by_cases hk:k<xs.length
      ·obtain⟨r,hr,e⟩:=hx k _ (Vaa hk)
       rw[Vaa hk,Vae,Vae,hr,e]
       rfl
      ·have lx':xs.length=R.length:=by rw[lx]; exact rows.1
       rw[VaC (by omega),VaC (by simp; omega)]
     subst e2
     refine⟨ts,_,zaB ht,zax _ _,l6,z1,bd,hg,?_⟩
     exact za8 (0,0) (by rw[if_neg (by omega)])
  ·exact h.elim⟩))
def zv9  (ziP:Df K mg "span_by" zeG zix)(zb5:Fk P w K mg base 1 "add_spans" zdE zdH)(zex:Fk P w K mg base 3 "sum_of_products" zeU zfl)(zcx:Fk P w K mg base 1 "take_spans" zdX zdV)(znl:Fk P w K mg base 4 "lacking" zh9 zgz)(zfz:Fk P w K mg base 3 "box_of_middles" zeX zeT)(zbg:mg "zip"=none)(zaQ:mg "range"=none)(zaD:mg "len"=none):Fk P w K mg base 5 "span_by" zix zhQ:=
 ziP.mk' (zb9 (zaw (k:=4) ziP.F zfI (zb6 (zsp)) λcdv A outer s H E hr=>⟨_,(zap (zaE (i:=6) zfI.nd rfl (Or.inr rfl) (zcD (x:="entry") (N:=[]) (caps:=[]) (ar:=zam zeG) rfl rfl csc rfl (by decide) (dv 3) (λ_ _ _ _ _ _=>zbh) (λ_ _ _ _ _ _=>(za1 (zaa (dv 0) (zaa (dv 0) zab)))))) (zap (zaE (i:=7) zfI.nd rfl (Or.inl rfl) (zaq zfz hr (zaa (dv 1) zab))) (zap (zaE (i:=8) zfI.nd rfl (Or.inl rfl) (zaq zcx hr (zaa (zaH (dv 7) (dv 0) (λ_ _=>rfl)) (zaa (zaq zex hr (zaa (dv 6) (zaa (dv 4) (zaa (dv 2) zab)))) zab)))) (zap (zo4 (x:="column") (N:=["k","turns","slants","grid"]) (caps:=[0,6,5,2]) (ar:=zam zeG) rfl rfl csc rfl (by decide) (i:=9) zfI.nd rfl rfl rfl zaQ (zaa (zaT (zaW zbx) rfl zaD Boot.«len» (zaa (dv 1) zab)) zab) (λ_ _ _ _ _ _=>zbh) (λ_ _ _ _ _ _=>(zaq znl hr (zaa (dv 1) (zaa (dv 0) (zaa (dv 2) (zaa (dv 3) (zaa (dv 4) zab)))))))) (zap (zxA (x1:="span") (x2:="centre") (N:=[]) (caps:=[]) (ar:=zam zeG) rfl rfl zcT rfl rfl rfl (by decide) (i:=10) zfI.nd rfl rfl rfl zbg Boot.«zip» (zaa (dv 1) (zaa (dv 7) zab)) (λ_ _ _ _ _ _=>(zaq zcx hr (zaa (dv 0) (zaa (dv 1) zab))))) (zah (zar (zaq zb5 hr (zaa (dv 8) (zaa (zaq zex hr (zaa (dv 9) (zaa (dv 10) (zaa (dv 2) zab)))) zab)))))))))),λds S Q ex h=>by
  obtain⟨Q0,ex0,rfl,rfl,h⟩:=h
  unfold zhQ at h
  split at h
  ·rename_i ki b g e t s
   obtain⟨k,box,thin,es,R,ds,rfl,hk,he,e4,ze,hb,ht,hs,rows,zr,bl,r4,t4,zb,zt,hg,h⟩:=h
   have bdE:Bd 20000 (es.map λx=>(x,x)):=λp hp=>by
    obtain⟨x,hx,rfl⟩:=Vai.mp hp
    exact⟨(ze x hx).mono (by decide),(ze x hx).mono (by decide)⟩
   have bdT:Bd 20000 thin:=λp hp=>⟨(zt p hp).1.mono (by decide),(zt p hp).2.mono (by decide)⟩
   have lE:(es.map λx=>(x,x)).length≤60:=by rw[Vac]; omega
   refine zcY (n:=e) (S1:=S) (o:=.lst (es.map D.int)) (λd=>.tup [d,d]) (λK hK=>by exact hK) he (by show (es.map D.int).length≤1000; rw[Vac]; omega) (λx hx S2 K pr hK=>by exact hK) ?_
   have eE:(zak (.lst (es.map D.int))).map (λd=>D.tup [d,d])=(es.map λx=>(x,x)).map frD:=by
    show (es.map D.int).map _=_
    rw[Vag]
    rw[Vag]
    rfl
   rw[eE]
   have T0:=zax S (.lst ((es.map λx=>(x,x)).map frD))
   refine⟨box,zaB hb,by omega,λT m pr lm hm=>?_⟩
   have P0:Pre S T:=λx o z=>pr _ _ (zaB z)
   have hT:=pr _ _ T0
   have kc:inR (((box.map zbe).length:Nat):Int) (k:Int):=⟨by omega,by rw[Vac]; omega⟩
   have ec:gt (box.map zbe) (k:Int)=zbe (gt box k):=by
    unfold gt
    rw[Vah]
    simp[hk]
   have ac:=zbi kc
   rw[ec] at ac
   refine zaG (o:=.lst ((box.map zbe).map frD)) hm ac ?_
   refine⟨_,thin,hT,P0 _ _ ht,lE,bdE,bdT,hg,?_⟩
   have lk:∀c:Nat,c<box.length→∀(S2:Sto) (K:DK),Pre T S2→K (frD (zcb g k c (es.map λx=>(x,x)) R)) S2→∃(q kn cn:Nat) (ts:List (Int×Int)) (R':List (List (Int×Int))) (ds':List D),((k:Nat):Int)=(kn:Nat)∧((c:Nat):Int)=(cn:Nat)∧S2[S.length]?=some (.lst (ts.map frD))∧S2[s]?=some (.lst ds')∧zaV S2 0 ds' R'∧(∀r∈R',r.length=q∧Bd 2000 r)∧cn<q∧ts.length≤60∧R'.length≤60∧Bd 20000 ts∧(1≤g∧g≤1000000)∧K (frD (zcb g kn cn ts R')) S2:=λc hc S2 K p2 hK=>⟨box.length,k,c,_,R,ds,rfl,rfl,p2 _ _ hT,p2 _ _ (P0 _ _ hs),rows.pre λx o z=>p2 _ _ (P0 _ _ z),zr,hc,lE,by omega,bdE,hg,hK⟩
   refine zdY (j:=((box.length:Nat):Int)) (S1:=T) (λc=>frD (zcb g k c (es.map λx=>(x,x)) R)) (λK hK=>by
    refine zb1 (P0 _ _ hb) ?_
    rw[Vac]
    exact hK) ⟨by omega,by omega⟩ (λc hc S2 K p2 hK=>lk c (by omega) S2 K p2 hK) ?_
   rw[Vah]
   have eL:((List.range box.length).map λc=>frD (zcb g k c (es.map λx=>(x,x)) R))=((List.range box.length).map λc=>zcb g k c (es.map λx=>(x,x)) R).map frD:=by
    rw[Vag]
    rfl
   rw[eL]
   have T1:=zax T (.lst (((List.range box.length).map λc=>zcb g k c (es.map λx=>(x,x)) R).map frD))
   refine zgh (n:=b) (n':=m) (S1:=T++[.lst (((List.range box.length).map λc=>zcb g k c (es.map λx=>(x,x)) R).map frD)]) (xs:=box.map frD) (ys:=(box.map zbe).map frD) (λx y=>match x,y with | .tup [.int a,.int b],.tup [.int c,.int d]=>.tup [.int (a-d),.int (b-c)] | _,_=>.non) (λK hK=>by exact hK) (zaB (P0 _ _ hb)) (zaB hm) (by rw[Vac]; omega) (λj x y hx hy S2 K p2 hK=>?_) ?_
   ·rw[Vae] at hx hy
    obtain⟨p,hp,rfl⟩:=Vam.mp hx
    obtain⟨r,hr,rfl⟩:=Vam.mp hy
    exact hK
   have eW:List.zipWith (λx y=>match x,y with | .tup [.int a,.int b],.tup [.int c,.int d]=>.tup [.int (a-d),.int (b-c)] | _,_=>.non) (box.map frD) ((box.map zbe).map frD)=(box.map λp=>zdS p (zbe p)).map frD:=by
    rw[Vag,List.zipWith_map,Vag,List.zipWith_self]
    rfl
   rw[eW]
   have zm:Bd 62 (box.map λp=>zdS p (zbe p)):=λp hp=>by
    obtain⟨x,hx,rfl⟩:=Vai.mp hp
    have z:=zb x hx
    have zmid:=zqJ z.1 z.2
    exact(zo7 (B:=60) (C:=61) z ⟨zmid,zmid⟩).imp (λz=>z.mono (by decide)) (λz=>z.mono (by decide))
   have zl:Bd 20000 ((List.range box.length).map λc=>zcb g k c (es.map λx=>(x,x)) R):=λp hp=>by
    obtain⟨c,hc,rfl⟩:=Vai.mp hp
    have hc':=VaR.mp hc
    have bR:Bd 2000 (R.map λr=>r.getD c (0,0)):=λp hp=>by
     obtain⟨r,hr,er⟩:=Vai.mp hp
     subst er
     obtain⟨hl,b⟩:=zr r hr
     have ll:c<r.length:=by rw[hl]; exact hc'
     have e:r.getD c (0,0)=r[c]:=by simp[ll]
     rw[e]
     exact b _ (VaH ll)
    have bE:Bd 4000 (es.map λx=>(x,x)):=λp hp=>by
     obtain⟨x,hx,rfl⟩:=Vai.mp hp
     exact⟨ze x hx,ze x hx⟩
    have z:=zyd hg.1 bE bR lE
    have sg:Sz 21 g:=Sz.of 1000000 (by omega)
    unfold zcb
    have w:Sz 21 (if k=c then (g,g) else (0,0)).1∧Sz 21 (if k=c then (g,g) else (0,0)).2:=by
     split
     ·exact⟨sg,sg⟩
     ·exact⟨VaM (by decide),VaM (by decide)⟩
    exact(zo7 w z).imp (λz=>z.mono (by decide)) (λz=>z.mono (by decide))
   refine⟨_,_,zaB T1,zax _ _,by rw[Vac,List.length_range]; omega,zl,λp hp=>⟨(zm p hp).1.mono (by decide),(zm p hp).2.mono (by decide)⟩,hg,?_⟩
   exact⟨λx o z=>zaB (zaB (P0 _ _ z)),zfF,h⟩
  ·exact h.elim⟩))
def zt8  (zmA:Df K mg "step_by" zgl zh6)(zoz:Fk P w K mg base 5 "span_by" zix zhQ)(zbf:mg "enumerate"=none):Fk P w K mg base 6 "step_by" zh6 zhc:=
 zmA.mk' (zaw (k:=5) zmA.F zuD (zvh) λcdv A outer s H E hr=>⟨_,(zah (zar (zfG (x1:="k") (x2:="entries") (N:=["box","grid","thin","slants"]) (caps:=[0,1,3,4]) (ar:=zam zgl) rfl rfl zcT rfl rfl rfl (by decide) rfl zbf Boot.«enumerate» (zaa (dv 2) zab) (λ_ _ _ _ _ _=>(zaq zoz hr (zaa (dv 0) (zaa (dv 2) (zaa (dv 3) (zaa (dv 1) (zaa (dv 4) (zaa (dv 5) zab))))))))))),λds S Q ex h=>by
  unfold zhc at h
  split at h
  ·rename_i b g u t s
   obtain⟨box,thin,M,ms,R,ds,hu,mi,lM,zM,hb,ht,hs,rows,zr,bl,r4,t4,zb,zt,hg,h⟩:=h
   refine zh3 (n:=u) (S1:=S) (xs:=ms) (λk d=>frD (zdI g box thin R k (M.getD k []))) (λK hK=>by exact hK) hu (by rw[mi.1]; omega) (λk x hx S2 K pr hK=>?_) ?_
   ·have hk:k<M.length:=by
     have:=(Vab.mp hx).1
     rw[mi.1] at this
     exact this
    obtain⟨a,rfl,ha⟩:=mi.2 k x _ hx (Vaa hk)
    have eM:M.getD k []=M[k]:=by simp[hk]
    rw[eM] at hK
    have z:=zM _ (VaH hk)
    exact⟨k,box,thin,M[k],R,ds,rfl,by omega,pr _ _ ha,z.1,z.2,pr _ _ hb,pr _ _ ht,pr _ _ hs,rows.pre pr,zr,bl,r4,t4,zb,zt,hg,hK⟩
   ·have e:(ms.mapIdx λk d=>frD (zdI g box thin R k (M.getD k [])))=(M.mapIdx λk es=>zdI g box thin R k es).map frD:=by
     refine VaY λk=>?_
     rw[List.getElem?_mapIdx,Vae,List.getElem?_mapIdx]
     by_cases hk:k<M.length
     ·rw[Vaa (show k<ms.length by rw[mi.1]; exact hk),Vaa hk]
      simp[hk]
     ·rw[VaC (by rw[mi.1]; omega),VaC (show M.length≤k by omega)]
      rfl
    rw[e]
    exact h
  ·exact h.elim⟩)
def zx0  (zkx:Df K mg "thin_worths" zlQ zhF)(zfb:Fk P w K mg base 1 "picked" zfr zeL)(zdx:Fk P w K mg base 4 "worths" zei zeq)(zfz:Fk P w K mg base 3 "box_of_middles" zeX zeT):Fk P w K mg base 5 "thin_worths" zhF zie:=
 zkx.mk' (zaw (k:=4) zkx.F zyv (zvV) λcdv A outer s H E hr=>⟨_,(zah (zar (zaq zfb hr (zaa (zaq zdx hr (zaa (dv 0) (zaa (zaq zfz hr (zaa (dv 2) zab)) (zaa (dv 3) zab)))) (zaa (dv 1) zab))))),λds S Q ex h=>by
  unfold zie at h
  split at h
  ·rename_i a p b g
   obtain⟨ns,ws,bs,is,ha,hb,net,sb,hg,l7,b9,hp,i9,hi,h⟩:=h
   refine⟨bs,hb,b9,λT m pr lm hm=>?_⟩
   refine⟨ns,ws,bs.map zbe,pr _ _ ha,hm,by rw[Vac]; exact net,zpW sb,hg,l7,λT1 m1 pr1 lm1 h1=>?_⟩
   refine⟨_,is,h1,pr1 _ _ (pr _ _ hp),i9,λi him=>by rw[Vac,zdp]; exact hi i him,?_⟩
   have e:(is.map λi=>((zan (bs.map zbe) g ns).map frD).getD i .non)=(is.map λ(i:Nat)=>gt (zan (bs.map zbe) g ns) i).map frD:=by
    rw[Vag]
    refine VaI λi him=>?_
    have hl:i<(zan (bs.map zbe) g ns).length:=by rw[zdp]; exact hi i him
    show _=frD (gt (zan (bs.map zbe) g ns) (i:Int))
    unfold gt
    rw[Vah]
    simp[hl]
   rw[e]
   refine h _ _ (λx o z=>zaB (pr1 _ _ (pr _ _ z))) ?_ (zax _ _)
   have:=zcF pr
   have:=zcF pr1
   omega
  ·exact h.elim⟩)
def zxq  (zmg:Df K mg "deep" zi7 zgY):Fk P w K mg base 1 "deep" zgY ziz:=
 zmg.mk' (zaw (k:=0) zmg.F zuc (zxH) λcdv A outer s H E hr=>⟨_,(zah (zar (zhu (zci zea (zav (dv 1) zac (λ_ _=>rfl)) (zav (dv 0) zac (λ_ _=>rfl)) (zaC _)) (zhA (zci zea (zav (dv 0) zac (λ_ _=>rfl)) (zav (dv 1) zac (λ_ _=>rfl)) (zaC _)))))),λds S Q ex h=>by
  unfold ziz at h
  split at h
  ·refine ifD (λe=>?_) (λe=>?_)
   ·rw[decide_eq_true e,Bool.true_and] at h
    exact h
   ·rw[decide_eq_false e,Bool.false_and] at h
    exact h
  ·exact h.elim⟩)
def zth  (zlM:Df K mg "all_deep" zgB zgQ)(zna:Fk P w K mg base 1 "deep" zgY ziz)(zcM:mg "all"=none)(zbg:mg "zip"=none):Fk P w K mg base 2 "all_deep" zgQ zgG:=
 zlM.mk' (zb9 (zaw (k:=1) zlM.F ztv (zb6 (zsy)) λcdv A outer s H E hr=>⟨_,(zah (zar (zaT (zaW (zrg rfl)) rfl zcM Boot.«all» (zaa (zmD (x1:="new") (x2:="old") (N:=[]) (caps:=[]) (ar:=zam zgB) rfl rfl zcT rfl rfl rfl (by decide) rfl zbg Boot.«zip» (zaa (dv 0) (zaa (dv 1) zab)) (λ_ _ _ _ _ _=>(zaq zna hr (zaa (dv 0) (zaa (dv 1) zab))))) zab)))),λds S Q ex h=>by
  obtain⟨Q0,ex0,rfl,rfl,h⟩:=h
  unfold zgG at h
  split at h
  ·rename_i m n
   obtain⟨us,vs,h1,h2,hl,h⟩:=h
   refine zgh (n:=m) (n':=n) (S1:=S) (xs:=us.map frD) (ys:=vs.map frD) (λx y=>match x,y with | .tup [.int a,.int b],.tup [.int c,.int d]=>.bl (decide (c<a)&&decide (b<d)) | _,_=>.non) (λK hK=>by exact hK) h1 h2 (by rw[Vac]; exact hl) (λk x y hx hy S2 K pr hK=>?_) ?_
   ·obtain⟨p,_,rfl⟩:=Vai.mp (Val hx)
    obtain⟨q,_,rfl⟩:=Vai.mp (Val hy)
    exact hK
   ·refine zrd (n:=S.length) (o:=.lst _) (bs:=List.zipWith zfB us vs) (zax _ _) (zu0 us vs) ?_
    exact⟨Pre.refl.push,.bl _,h⟩
  ·exact h.elim⟩))
def zrV  (zjX:Df K mg "sure" zlF zhG):Fk P w K mg base 1 "sure" zhG zg6:=
 zjX.mk' (zaw (k:=0) zjX.F zxU (ztB) λcdv A outer s H E hr=>⟨_,(zap (zaM (zaI (zaS hr) (dv 0) zbP (zaC _)) (zah (zar (zhu (zci (zaS hr) (zav (dv 1) zac (λ_ _=>rfl)) zac (zaC _)) (zhA (zci (zaS hr) (zav (dv 1) zac (λ_ _=>rfl)) zac (zaC _)))))) zaP) (zah (zar (zci zpd (zav (dv 1) zac (λ_ _=>rfl)) zac (zaC _))))),λds S Q ex h=>by
  unfold zg6 at h
  split at h
  ·rcases h with ⟨rfl,h⟩ | ⟨rfl,h⟩
   ·refine ifD (λc=>?_) (λc=>?_)
    ·rw[decide_eq_true c,Bool.true_and] at h
     exact h
    ·rw[decide_eq_false c,Bool.false_and] at h
     exact h
   ·exact h
  ·exact h.elim⟩)
def zsN  (ziW:Df K mg "leasts_are_sure" zg5 zhm)(znN:Fk P w K mg base 1 "sure" zhG zg6)(zcM:mg "all"=none):Fk P w K mg base 2 "leasts_are_sure" zhm zgV:=
 ziW.mk' (zb9 (zaw (k:=1) ziW.F zxc (zb6 (zxS)) λcdv A outer s H E hr=>⟨_,(zah (zar (zaT (zaW (zrg rfl)) rfl zcM Boot.«all» (zaa (zcD (x:="row") (N:=["spans"]) (caps:=[1]) (ar:=zam zg5) rfl rfl csc rfl (by decide) (dv 0) (λ_ _ _ _ _ _=>zpY (zaI (zaS hr) (zav (dv 0) zac (λ_ _=>rfl)) zbP (zaC _))) (λ_ _ _ _ _ _=>(zaq znN hr (zaa (zav (dv 0) zac (λ_ _=>rfl)) (zaa (zaH (dv 1) (zav (dv 0) zac (λ_ _=>rfl)) (λ_ _=>rfl)) zab))))) zab)))),λds S Q ex h=>by
  obtain⟨Q0,ex0,rfl,rfl,h⟩:=h
  unfold zgV at h
  split at h
  ·rename_i r s
   obtain⟨rows,vs,hr,hs,l9,hi,h⟩:=h
   refine zrt (n:=r) (S1:=S) (o:=.lst (rows.map rwD)) (λd=>match d with | .tup [.str w,.int at']=>if w="least" then some (.bl (decide (0≤(gt vs at').1))) else none | _=>none) (λK hK=>by exact hK) hr (by show (rows.map rwD).length≤1000; rw[Vac]; omega) (λx hx S2 K pr hK=>?_) (λx hx y hy S2 K pr hK=>?_) ?_
   ·have hx':x∈rows.map rwD:=hx
    obtain⟨⟨b,n⟩,_,rfl⟩:=Vai.mp hx'
    cases b
    ·exact hK
    ·exact hK
   ·have hx':x∈rows.map rwD:=hx
    obtain⟨⟨b,n⟩,hm,rfl⟩:=Vai.mp hx'
    cases b
    ·cases hy
     refine zaG (o:=.lst (vs.map frD)) (pr _ _ hs) (zbi (vs:=vs) (i:=(n:Int)) ⟨by omega,by have:=hi _ hm; dsimp only at this; omega⟩) ?_
     exact .inr ⟨rfl,hK⟩
    ·exact absurd hy (by
      simp[rwD]
      intro z
      exact absurd z (by decide))
   ·refine zrd (n:=S.length) (o:=.lst _) (zax _ _) (znV vs rows) ?_
    rw[← zm3 vs rows] at h
    exact⟨Pre.refl.push,.bl _,h⟩
  ·exact h.elim⟩))
def zyl  (zkG:Df K mg "alone" zgk zis)(znt:Fk P w K mg base 2 "all_deep" zgQ zgG)(zow:Fk P w K mg base 6 "step_by" zh6 zhc)(zog:Fk P w K mg base 5 "thin_worths" zhF zie)(zoI:Fk P w K mg base 11 "inverse" zgM zgL)(zfs:Fk P w K mg base 2 "middles" zfM ze4)(znw:Fk P w K mg base 6 "slopes_at" ziw zgD)(zm4:Fk P w K mg base 2 "leasts_are_sure" zhm zgV)(zdx:Fk P w K mg base 4 "worths" zei zeq)(znS:Fk P w K mg base 1 "equation_places" zhY zhR)(zaD:mg "len"=none):Fk P w K mg base 12 "alone" zis zhy:=
 zkG.mk' (zaw (k:=11) zkG.F zge (zw6) λcdv A outer s H E hr=>⟨_,(zap (zaE (i:=4) zge.nd rfl (Or.inl rfl) (zaq znS hr (zaa (dv 1) zab))) (zap (zaM (PDW.pt (zcN (zaI (zeE hr) (zaT (zaW zbx) rfl zaD Boot.«len» (zaa (dv 4) zab)) (zaT (zaW zbx) rfl zaD Boot.«len» (zaa (dv 2) zab)) (zaC _)) (zec (zcd (zcl (zaq zm4 hr (zaa (dv 1) (zaa (zaq zdx hr (zaa (dv 0) (zaa (dv 2) (zaa (dv 3) zab)))) zab)))))))) (zah (zar zfv)) zaP) (zap (zaE (i:=5) zge.nd rfl (Or.inl rfl) (zaq znw hr (zaa (dv 0) (zaa (dv 4) (zaa (dv 2) (zaa (dv 3) zab)))))) (zap (zaE (i:=6) zge.nd rfl (Or.inl rfl) (zaq zoI hr (zaa (zcD (x:="slant") (N:=[]) (caps:=[]) (ar:=zam zgk) rfl rfl csc rfl (by decide) (dv 5) (λ_ _ _ _ _ _=>zbh) (λ_ _ _ _ _ _=>(zaq zfs hr (zaa (dv 0) zab)))) (zaa (dv 3) zab)))) (zap (zaM (zaI zp7 (dv 6) zfv (zaC _)) (zah (zar zfv)) zaP) (zap (zaE (i:=7) zge.nd rfl (Or.inl rfl) (zaq zow hr (zaa (dv 2) (zaa (dv 3) (zaa (dv 6) (zaa (zaq zog hr (zaa (dv 0) (zaa (dv 4) (zaa (dv 2) (zaa (dv 3) zab))))) (zaa (dv 5) zab))))))) (zap (zaM (zcd (zcl (zaq znt hr (zaa (dv 7) (zaa (dv 2) zab))))) (zah (zar zfv)) zaP) (zah (zar (za1 (zaa (dv 6) (zaa (dv 7) zab)))))))))))),λds S Q ex h=>by
  unfold zhy at h
  split at h
  ·rename_i a r b g
   obtain⟨ns,ws,bs,rows,ha,hb,net,sb,hg,l7,b9,hr,r9,hi,bl,hN,hY⟩:=h
   have hi':∀i∈eqs rows,i<ns.length:=λi him=>hi _ (zxW him)
   refine⟨rows,hr,r9,?_⟩
   have P0:Pre S (S++[Ob.lst ((eqs rows).map wtD)]):=Pre.refl.push
   have hp:=zax S (.lst ((eqs rows).map wtD))
   refine zb1 hp ?_
   refine zb1 (P0 _ _ hb) ?_
   rw[Vac,Vac]
   refine ifN (λc=>?_) (λc=>?_)
   ·refine zbL ?_
    exact hN (by unfold alS; rw[if_neg (λz=>c (by rw[z.1]))]) _ P0
   have lq:(eqs rows).length=bs.length:=by omega
   refine⟨ns,ws,bs,P0 _ _ ha,P0 _ _ hb,net,sb,hg,l7,λT1 m1 p1 lm1 h1=>?_⟩
   have P1:Pre S T1:=λx o z=>p1 _ _ (P0 _ _ z)
   refine⟨rows,zan bs g ns,P1 _ _ hr,h1,r9,λr hr=>by rw[zdp]; exact hi r hr,?_⟩
   cases eL:zdl rows (zan bs g ns)
   ·refine zbL ?_
    exact hN (by unfold alS; rw[if_neg (λz=>by rw[eL] at z; cases z.2)]) _ P1
   refine zbj ?_
   refine⟨ns,ws,bs,eqs rows,P1 _ _ ha,P1 _ _ hb,net,sb,hg,l7,b9,p1 _ _ hp,by omega,hi',λT2 m2 ds p2 lm2 h2 rowsT=>?_⟩
   have P2:Pre S T2:=λx o z=>p2 _ _ (P1 _ _ z)
   have hp2:=p2 _ _ (p1 _ _ hp)
   refine zm2 (S1:=T2) (n:=m2) (o:=.lst ds) (λk ys S2=>Pre T2 S2∧S2[T2.length]?=some (.lst ys)∧ys.length=k∧Rows S2 (T2.length+1) ys (((zcn g bs ns rows).take k).map λr=>r.map mid)) (λK hK=>by exact hK) h2 (λk ys S2 w=>⟨w.1 _ _ h2,w.2.1,w.2.2.1⟩) (by show ds.length≤1000; rw[rowsT.1,Vac]; omega) ⟨Pre.refl.push,zax _ _,rfl,by simpa using Rows.nil⟩ (λk x ys S2 K hx w hK=>?_) (λys S2 w=>?_)
   ·obtain⟨y1,y2,y3,y4⟩:=w
    have hx':ds[k]?=some x:=hx
    have hk:k<(zcn g bs ns rows).length:=by
     have:=(Vab.mp hx').1
     rw[rowsT.1] at this
     exact this
    have hr:=Vaa hk
    generalize (zcn g bs ns rows)[k]=r at hr
    obtain⟨ar,rfl,_,har⟩:=rowsT.2 k x r hx' hr
    have zr':=zor net sb hg hi' r (Val hr)
    refine⟨r,y1 _ _ har,by rw[zr'.1]; omega,?_⟩
    have lt:=zbo y2
    refine hK _ _ (zaB y2) ⟨zcU (zcm y1 _) (Vad _),zb2 (zaB y2),by simp[y3],?_⟩
    rw[zca hr,Vav]
    refine Rows.snoc (y4.keep λa o l q=>?_) (by omega) ?_
    ·exact za9 (zaB q) (by omega)
    ·refine za9 ?_ (by omega)
     have e:(r.map mid).map D.int=r.map λp=>D.int (mid p):=by rw[Vag]; rfl
     rw[e]
     exact zax _ _
   obtain⟨y1,y2,y3,y4⟩:=w
   have e9:(zcn g bs ns rows).take (zak (.lst ds)).length=zcn g bs ns rows:=VaD (by show (zcn g bs ns rows).length≤ds.length; rw[rowsT.1]; exact Vad _)
   rw[e9] at y4
   have P3:Pre S S2:=λx o z=>y1 _ _ (P2 _ _ z)
   have hn:bs.length-1+1=bs.length:=by omega
   have sq:Sq (bs.length-1+1) (zbc g bs ns rows):=⟨by unfold zbc zcn; rw[Vac,Vac]; omega,λr hr=>by
    obtain⟨x,hx,rfl⟩:=Vai.mp hr
    rw[Vac,(zor net sb hg hi' x hx).1,hn]⟩
   have bigM:Big (zbc g bs ns rows):=λr hr x hx=>by
    obtain⟨z,hz,rfl⟩:=Vai.mp hr
    obtain⟨p,hp,rfl⟩:=Vai.mp hx
    have z2:=(zpa net sb hg hi' z hz).2 p hp
    exact(zqJ z2.1 z2.2).mono (by decide)
   refine⟨zbc g bs ns rows,bs.length-1,by omega,⟨ys,y2,y4.low (Vat _)⟩,sq,bigM,hg,λdz=>?_,λdz T4 k4 p4 mt=>?_⟩
   ·rw[hn] at dz
    exact hN (by unfold alS; rw[if_pos ⟨lq,eL⟩,if_pos dz]) _ P3
   rw[hn] at dz mt
   have P4:Pre S T4:=λx o z=>p4 _ _ (P3 _ _ z)
   obtain⟨tds,ht,rowsM⟩:=mt
   refine⟨ns,ws,bs,eqs rows,P4 _ _ ha,P4 _ _ hb,net,sb,hg,l7,b9,p4 _ _ (y1 _ _ hp2),by omega,hi',λT5 m5 p5 lm5 h5=>?_⟩
   have P5:Pre S T5:=λx o z=>p5 _ _ (P4 _ _ z)
   have lI:=zvJ (zbc g bs ns rows) (bs.length-1) (zas bs.length (zbc g bs ns rows)) g
   refine⟨bs,zeI g bs ns rows,zbO (zbc g bs ns rows) (bs.length-1) (zas bs.length (zbc g bs ns rows)) g,tds,zcn g bs ns rows,ds,p5 _ _ ht,rowsM.toI.pre p5,by omega,λr hr=>⟨by have:=zt9 r hr; omega,zsm sq bigM (by omega) dz hg r hr⟩,P5 _ _ hb,h5,p5 _ _ (p4 _ _ (y1 _ _ h2)),rowsT.pre λx o z=>p5 _ _ (p4 _ _ (y1 _ _ z)),zor net sb hg hi',bl,by unfold zcn; rw[Vac]; omega,by unfold zeI; rw[Vac]; omega,λp hp=>⟨(sb p hp).2.1.mono (by decide),(sb p hp).2.2.mono (by decide)⟩,zui net sb hg hi',hg,?_⟩
   refine⟨zd5 g bs ns rows (zbO (zbc g bs ns rows) (bs.length-1) (zas bs.length (zbc g bs ns rows)) g),bs,zax _ _,zaB (P5 _ _ hb),by unfold zd5; rw[List.length_mapIdx]; omega,?_⟩
   cases eD:zbR (zd5 g bs ns rows (zbO (zbc g bs ns rows) (bs.length-1) (zas bs.length (zbc g bs ns rows)) g)) bs
   ·refine zbL ?_
    exact hN (by unfold alS; rw[if_pos ⟨lq,eL⟩,if_neg dz,if_neg (by rw[eD]; decide)]) _ (zcm P5 _)
   refine zbj ?_
   have:=zcF P5
   exact hY (zbO (zbc g bs ns rows) (bs.length-1) (zas bs.length (zbc g bs ns rows)) g) (zd5 g bs ns rows (zbO (zbc g bs ns rows) (bs.length-1) (zas bs.length (zbc g bs ns rows)) g)) (by unfold alS; rw[if_pos ⟨lq,eL⟩,if_neg dz,if_pos eD]) _ _ _ _ (zcm P5 _) (zaB (p5 _ _ ht)) ((rowsM.toI.pre p5).pre (zcm Pre.refl _)) (zax _ _) this
  ·exact h.elim⟩)
def zys  (zj6:Df K mg "_law_whole" zli zfH)(zbp:mg "isinstance"=none)(zdO:mg "bool"=none)(zcL:mg "int"=none)(zf2:Kit K "bool")(zf8:Kit K "int"):Fk P w K mg base 1 "_law_whole" zfH zfN:=
 zj6.mk' (zaw (k:=0) zj6.F zwL (zsn) λcdv A outer s H E hr=>⟨_,(zah (zar (zhu (zmO zf8 rfl zbp rfl zcL Boot.«int» (dv 0)) (zhA (ztk (zmO zf2 rfl zbp rfl zdO Boot.«bool» (dv 0))))))),λds S Q ex h=>by
  unfold zfN at h
  split at h
  ·exact h
  ·exact h.elim⟩)
def zuJ  (zmd:Df K mg "_law_matrix" zmK zg2)(zem:Fk P w K mg base 1 "_law_whole" zfH zfN)(zbp:mg "isinstance"=none)(zbH:mg "list"=none)(zaD:mg "len"=none):Fk P w K mg base 2 "_law_matrix" zg2 zhr:=
 zmd.mk' (zaw (k:=1) zmd.F zoQ (zsv) λcdv A outer s H E hr=>⟨_,(zap (zaM (PDW.pt (zcN (zcd (zcl (zno (znj _) rfl zbp rfl zbH Boot.«list» (dv 0)))) (zec (zaI (zeE hr) (zaT (zaW zbx) rfl zaD Boot.«len» (zaa (dv 0) zab)) (zaT (zaW zbx) rfl zaD Boot.«len» (zaa (dv 1) zab)) (zaC _))))) (zah (zar zcH)) zaP) (zap (zda (i:=2) PassesOwn.never rfl zoQ.nd rfl (Or.inl rfl) (dv 0) (zap (zaM (zcd (zcl (zno (znj _) rfl zbp rfl zbH Boot.«list» (dv 2)))) (zah (zar zcH)) zaP) (zah (zda (i:=3) PassesOwn.never rfl zoQ.nd rfl (Or.inl rfl) (dv 2) (zah (zaM (zcd (zcl (zaq zem hr (zaa (dv 3) zab)))) (zah (zar zcH)) zaP)))))) (zah (zar (zci (zxe hr) (dv 0) (dv 1) (zaC _)))))),λds S Q ex h=>by
  unfold zhr at h
  split at h
  ·rename_i m d
   obtain⟨ms,ds,M,hm,rm,hd,rd,l4,h⟩:=h
   refine znR (n:=m) (λK hK=>by exact hK) hm ?_
   refine zbj ?_
   refine zb1 hm ?_
   refine zb1 hd ?_
   refine ifN (λc=>absurd (by rw[rm.1,rd.1]) c) (λ_=>?_)
   refine zdi (n:=m) (o:=.lst ms) (λk dl' S'=>S'=S∧∃u v:Option D,dl'=[some (.ref m),some (.ref d),u,v]) ⟨rfl,_,_,rfl⟩ (λk dl' S' w=>by rw[w.1]; exact hm) ?_ (λdl' S' w=>?_)
   ·rintro k x dl' S' nx ct ex' ⟨rfl,u,v,rfl⟩ hn
    have hx:ms[k]?=some x:=ex'
    have hk:k<M.length:=by have:=(Vab.mp hx).1; rw[rm.1] at this; exact this
    obtain⟨a,rfl,ha⟩:=rm.2 k x _ hx (Vaa hk)
    generalize M[k]=row at ha
    refine znR (n:=a) (λK hK=>by exact hK) ha ?_
    refine zbj ?_
    refine zdi (n:=a) (o:=.lst (row.map D.int)) (λk dl' S2=>S2=S'∧∃v:Option D,dl'=[some (.ref m),some (.ref d),some (.ref a),v]) ⟨rfl,_,rfl⟩ (λk dl' S' w=>by rw[w.1]; exact ha) ?_ (λdl' S2 w=>?_)
    ·rintro k x dl' S2 nx ct ex' ⟨rfl,v,rfl⟩ hn
     obtain⟨i,_,rfl⟩:=Vai.mp (show x∈row.map D.int from Val ex')
     exact hn _ _ ⟨rfl,_,rfl⟩
    ·obtain⟨rfl,v,rfl⟩:=w
     exact hn _ _ ⟨rfl,_,_,rfl⟩
   ·obtain⟨rfl,u,v,rfl⟩:=w
    refine⟨⟨ms,ds,hm,hd,by rw[rm.1,rd.1],λk x y hx hy=>?_⟩,h⟩
    have hk:k<M.length:=by have:=(Vab.mp hx).1; rw[rm.1] at this; exact this
    obtain⟨a,rfl,ha⟩:=rm.2 k x _ hx (Vaa hk)
    obtain⟨b,rfl,hb⟩:=rd.2 k y _ hy (Vaa hk)
    exact zyw (f:=D.int) (λx=>alk0 (zxP x) 4) ha hb
  ·exact h.elim⟩)
def zsM  (zjv:Df K mg "_law_cell" zmp ziq)(zaD:mg "len"=none):Fk P w K mg base 1 "_law_cell" ziq ziC:=
 zjv.mk' (zaw (k:=0) zjv.F zsQ (zwR) λcdv A outer s H E hr=>⟨_,(zap (zaM (zaI zea (dv 1) (zaT zbx rfl zaD Boot.«len» (zaa (dv 0) zab)) (zaC _)) (zah (zar (zav (dv 0) (dv 1) (λ_ _=>rfl)))) zaP) (zah (zar zac))),λds S Q ex h=>by
  unfold ziC at h
  split at h
  ·rename_i n k
   obtain⟨ns,h1,h2,h3⟩:=h
   simp only[zqa,zcW,zpT,dRet,dRetN,dIf,zhL,zbq,dC,dOp,dUn,wI,wI0,wIf,zla,dNot,dAnd,dOr,zpy,dOrV,zro,dIfE,zoS,zhg,zeZ,dTup,dLst,wIx,zj2,zlW,zqj,wAbs,zen,zfk,wEq,wNe,wIsN,wNotN,wNeg,zeJ,Vas,List.map_nil,Vay,Vbc,List.cons_append,List.nil_append,Nat.reduceAdd,Nat.reduceSub,List.replicate,List.getElem?_cons_zero,List.getElem?_cons_succ,List.set_cons_zero,List.set_cons_succ,ite_true,ite_false,if_true,if_false,Nat.reduceLeDiff,eq_self,p40,p41,p20,zhz,powB,Int.reduceLT,Int.reduceLE,Int.reduceNeg,decide_true,Bool.and_self,Bool.and_true,Bool.true_and,L3.eq1,L3.eq2,L3.eqT,L3.eqF,L3.eqL]
   have hA:lAt S n=some (.frz (ns.map D.int)):=zaN h1 rfl
   simp only[hA,zak,Vac]
   refine ze3 (λc=>?_) (λc=>?_)
   ·have c':k<(ns.length:Int):=of_decide_eq_true c
    have hk:k.toNat<ns.length:=(by omega)
    have e:atI (ns.map D.int) k=some (.int ns[k.toNat]):=by
     have z:=zcV (xs:=ns.map D.int) (j:=k.toNat) (v:=.int ns[k.toNat]) (by simp[hk])
     rw[show ((k.toNat:Nat):Int)=k by omega] at z
     exact z
    simp only[e]
    rw[Vaf,Vaa hk] at h3
    exact h3
   ·have c':¬ k<(ns.length:Int):=λz=>c (decide_eq_true z)
    rw[Vaf,VaC (by omega)] at h3
    exact h3
  ·exact h.elim⟩)
def zuE  (zi5:Df K mg "_law_place" zjo ziD):Fk P w K mg base 1 "_law_place" ziD zf9:=
 zi5.mk' (zaw (k:=0) zi5.F zuC (zu8) λcdv A outer s H E hr=>⟨_,(zap (zaM (zaI (zaS hr) (zao zbv (dv 0) zac) zac (zaC _)) (zah (zar (zao zcZ (zao zbv (zao zbU (dv 0) zac) zac) zac))) zaP) (zah (zar (zao zcZ (zao zbv (zao zbU (dv 0) zac) zac) zac)))),λds S Q ex h=>by
  unfold zf9 at h
  split at h
  ·rename_i c
   refine ifD (λe=>?_) (λe=>?_)
   ·exact h _ (by omega)
   ·exact h _ (by omega)
  ·exact h.elim⟩)
def zwk  (zkE:Df K mg "_law_at" zl3 zey):Fk P w K mg base 1 "_law_at" zey zer:=
 zkE.mk' (zaw (k:=0) zkE.F zwJ (zu5) λcdv A outer s H E hr=>⟨_,(zap (zaM (zaI (zyz hr) (dv 1) (dv 0) rfl) (zah (zce (zdk (dv 0) (dv 1)))) zaP) (zah (zar (zut (k:=1) hr (by decide) (dv 0) (zaa (dv 1) zab))))),λds S Q ex h=>by
  unfold zer at h
  split at h
  ·rename_i a d
   obtain⟨q,v,ns,ws,rfl,ha,l9,net,ok,h16,h⟩:=h
   have fin:∀(T:Sto) (j:Nat) (ns':List Nd) (ws':List Nat),Gr q a 1 S ns ws T ns' ws'→ns'[j]?=some v→Q (.int (j:Int)) T:=λT j ns' ws' gr hj=>by
    refine h T j ns' ws' gr (Vab.mp hj).1 hj ?_ (zxJ gr ok hj)
    rw[(gr.net.ok j v hj).2.1]
    exact zrQ gr net ok
   obtain⟨o,e1,e2,e3⟩:=znY v ns
   refine zvR (o:=o) ha e2 ?_
   cases o with
   | some j=>
    refine zbj ?_
    refine zqv (n:=a) (v:=v) (ns:=ns) (λK hK=>by exact hK) (λK hK=>by exact hK) ha e1 ?_
    exact fin S j ns ws ((Gr.refl net ha).mono (by decide)) (e3 j rfl)
   | none=>
    refine zbL ?_
    refine zqp (n:=a) (S1:=S) (xs:=ns.map Nd.d) (y:=v.d) (λK hK=>by exact hK) ha (λK hK=>by exact hK) (by rw[Vac]; omega) ?_
    have hm:(S.set a (.lst (ns.map Nd.d++[v.d])))[a]?=some (.lst ((ns++[v]).map Nd.d)):=by
     rw[Vav]
     exact zb2 ha
    obtain⟨o2,f1,f2,f3⟩:=znY v (ns++[v])
    cases o2 with
    | none=>
     obtain⟨k,hk⟩:∃k,(ns++[v])[k]?=some v:=⟨ns.length,by simp⟩
     exact absurd f2 (any_some hk)
    | some j=>
     refine zqv (n:=a) (v:=v) (ns:=ns++[v]) (λK hK=>by exact hK) (λK hK=>by exact hK) hm f1 ?_
     exact fin _ j (ns++[v]) (ws++[v.wt ws]) ⟨net.snoc ok h16,⟨[v],rfl,by simp⟩,⟨_,rfl⟩,hm,by simp,λx o hx e=>za9 e (Ne.symm hx)⟩ (f3 j rfl)
  ·exact h.elim⟩)
def zyK  (zjl:Df K mg "_law_sum" zmb zht)(zcG:Fk P w K mg base 1 "_law_at" zey zer):Fk P w K mg base 2 "_law_sum" zht zil:=
 zjl.mk' (zaw (k:=1) zjl.F zlj (zvu) λcdv A outer s H E hr=>⟨_,(zap (zaE (i:=2) zlj.nd rfl (Or.inl rfl) (zaH (dv 1) zac (λ_ _=>rfl))) (zap (zda (i:=3) PassesOwn.never rfl zlj.nd rfl (Or.inl rfl) (ze7 (dv 1) (zew zac) zhE) (zah (zaE (i:=2) zlj.nd rfl (Or.inl rfl) (zaq zcG hr (zaa (dv 0) (zaa (za1 (zaa zbP (zaa (dv 2) (zaa (dv 3) zab)))) zab)))))) (zah (zar (dv 2))))),λds S Q ex h=>by
  unfold zil at h
  split at h
  ·rename_i a p
   obtain⟨q,B,ns,ws,is,ha,hp,ap,net,⟨i1,i4⟩,b16,l8,his,h⟩:=h
   have h0:is[0]?=some is[0]:=Vaa (by omega)
   generalize is[0]=j0 at h0
   have z0:=his j0 (Val h0)
   refine zaG (o:=.lst (is.map wtD)) hp (d:=.int (j0:Int)) (zcV (j:=0) (by show (is.map wtD)[0]?=_; rw[Vae,h0]; rfl)) ?_
   refine ze6 (n:=p) (o:=.lst (is.map wtD)) (lo:=some 1) (hi:=none) (S3:=S) (λK hK=>by exact hK) (λK hK=>by exact hK) (λK hK=>by exact hK) hp ?_
   have ec:zbk (is.map wtD) (some 1) none=(is.drop 1).map wtD:=by rw[zyu,VaT]
   have ecut:(zak (Ob.lst (zbk (is.map wtD) (some 1) none))).length=is.length-1:=by
    show (zbk (is.map wtD) (some 1) none).length=_
    rw[ec,Vac,Va1]
   have la:=zbo ha
   refine zdi (n:=S.length) (o:=.lst (zbk (is.map wtD) (some 1) none)) (λk dl' S'=>∃(j:Nat) (ns':List Nd) (ws':List Nat),Gr q a k S ns ws S' ns' ws'∧j<ns'.length∧ws'.getD j 0≤(k+1)*B∧(∀(g:Int) (fs:Nat→Nat→Int),(∀r i,is[r]?=some i→zba q g ns i (fs r) 0)→zba q g ns' j (λl=>zad (k+1) λr=>fs r l) 0)∧S'[S.length]?=some (.lst (zbk (is.map wtD) (some 1) none))∧∃u:Option D,dl'=[some (.ref a),some (.ref p),some (.int (j:Int)),u]) ⟨j0,ns,ws,Gr.push net ha _,z0.1,by have:=z0.2; omega,λg fs hz=>by
    have e:(λl=>zad (0+1) λr=>fs r l)=fs 0:=by
     funext l
     show 0+fs 0 l=fs 0 l
     omega
    rw[e]
    exact hz 0 j0 h0,zax _ _,_,rfl⟩ (λk dl' S' ⟨_,_,_,_,_,_,_,e,_⟩=>e) ?_ ?_
   ·rintro k x dl' S' nx ct ex' ⟨j,ns',ws',gr,hj,wj,dj,e4,u,rfl⟩ hn
    have hx:(zbk (is.map wtD) (some 1) none)[k]?=some x:=ex'
    have hk:=(Vab.mp hx).1
    rw[ec] at hx
    rw[ec,Vac,Va1] at hk
    rw[Vae] at hx
    obtain⟨i,hi,rfl⟩:=Vam.mp hx
    have him':=Va4 (Val hi)
    have him:=his i him'
    have ln:=gr.ln
    have hi':i<ns'.length:=by omega
    have wi:=gr.wt net him.1
    have hB:(k+1+1)*B≤16:=VaA (Nat.mul_le_mul_right B (show k+1+1≤is.length by omega)) b16
    have eB:(k+1+1)*B=(k+1)*B+B:=Nat.succ_mul (k+1) B
    have wv:Nd.wt ws' (.plus (j:Int) (i:Int))≤(k+1+1)*B:=by
     show ws'.getD ((j:Nat):Int).toNat 0+ws'.getD ((i:Nat):Int).toNat 0≤_
     rw[Vah,Vah,wi]
     have:=him.2
     omega
    refine⟨q,.plus j i,ns',ws',rfl,gr.nd,by omega,gr.net,⟨⟨by omega,by omega⟩,⟨by omega,by omega⟩⟩,by omega,λT j2 ns2 ws2 gr2 lj2 hj2 wj2 dj2=>?_⟩
    refine hn _ _ ⟨j2,ns2,ws2,gr.trans gr2,lj2,by rw[wj2]; exact wv,λg fs hz=>?_,gr2.kp _ _ (by omega) e4,_,rfl⟩
    have hi2:is[k+1]?=some i:=by
     rw[List.getElem?_drop] at hi
     rw[Nat.add_comm]
     exact hi
    exact zyi hj2 ((dj g fs hz).gr gr2) (((hz _ _ hi2).gr gr).gr gr2)
   ·rintro dl' S' ⟨j,ns',ws',gr,hj,wj,dj,e4,u,rfl⟩
    rw[ecut] at gr wj dj
    rw[show is.length-1+1=is.length by omega] at dj
    exact h _ j ns' ws' (gr.mono (by omega)) hj (by rw[show is.length-1+1=is.length by omega] at wj; exact wj) dj
  ·exact h.elim⟩)
def zxy  (zk8:Df K mg "_law_linear" ziR zhk)(zox:Fk P w K mg base 2 "_law_sum" zht zil)(zcG:Fk P w K mg base 1 "_law_at" zey zer)(zaQ:mg "range"=none)(zaD:mg "len"=none):Fk P w K mg base 3 "_law_linear" zhk ziH:=
 zk8.mk' (zaw (k:=2) zk8.F zk7 (zxn) λcdv A outer s H E hr=>⟨_,(zap (zaE (i:=3) zk7.nd rfl (Or.inl rfl) (zcJ zab)) (zap (zgd (i:=4) PassesOwn.never rfl zk7.nd rfl (Or.inl rfl) rfl zaQ (zaa (zaT (zaW zbx) rfl zaD Boot.«len» (zaa (dv 1) zab)) zab) (zap (zaE (i:=5) zk7.nd rfl (Or.inl rfl) (zaq zcG hr (zaa (dv 0) (zaa (za1 (zaa zbP (zaa (zaH (dv 1) (dv 4) (λ_ _=>rfl)) (zaa zac zab)))) zab)))) (zah (zaM (zcl (dv 2)) (zah (zce (zdk (dv 3) (zaq zcG hr (zaa (dv 0) (zaa (za1 (zaa zbP (zaa (dv 4) (zaa (dv 5) zab)))) zab)))))) (zah (zce (zdk (dv 3) (zaq zcG hr (zaa (dv 0) (zaa (za1 (zaa zbP (zaa (dv 5) (zaa (dv 4) zab)))) zab)))))))))) (zah (zar (zaq zox hr (zaa (dv 0) (zaa (dv 3) zab))))))),λds S Q ex h=>by
  unfold ziH at h
  split at h
  ·rename_i a e tr
   obtain⟨q,f,ns,ws,ha,he,ae,net,⟨q1,q4⟩,l7,sf,unk,h⟩:=h
   have la:=zbo ha
   refine zb1 (zaB he) ?_
   rw[Vac,Vac,List.length_range]
   refine⟨⟨by omega,by omega⟩,λk dl' S'=>k≤q∧(∃(is:List Nat) (ns':List Nd) (ws':List Nat),Gr q a (2*k) S ns ws S' ns' ws'∧S'[S.length]?=some (.lst (is.map wtD))∧is.length=k∧(∀r i,is[r]?=some i→i<ns'.length∧ws'.getD i 0≤2∧∀g:Int,1≤g→zba q g ns' i (λl=>if l=r then f r else 0) 0))∧∃u4 u5:Option D,dl'=[some (.ref a),some (.ref e),some (.bl tr),some (.ref S.length),u4,u5],⟨Vat _,⟨[],ns,ws,Gr.push net ha _,zax _ _,rfl,λr i hi=>by simp at hi⟩,_,_,rfl⟩,?_⟩
   rintro k dl' S' ⟨hk,⟨is,ns',ws',gr,hI,li,zi⟩,u4,u5,rfl⟩
   rw[Vah]
   refine ze3 (λc=>?_) (λc=>?_)
   ·have he':=gr.kp _ _ (Ne.symm ae) he
    have ln:=gr.ln
    refine zaG (o:=.lst (((List.range q).map f).map D.int)) he' (d:=.int (f k)) (zcV (j:=k) (by show (((List.range q).map f).map D.int)[k]?=_; rw[Vae,Vae,VaE (by omega)]; rfl)) ?_
    refine⟨q,.number (f k) 1,ns',ws',rfl,gr.nd,by omega,gr.net,⟨⟨by decide,by decide⟩,Int.gcd_one_right _,by have:=sf k (by omega); omega⟩,show 1≤16 by decide,λT j ns2 ws2 gr2 lj hj wj dj=>?_⟩
    have hkn:k<ns.length:=(Vab.mp (unk k (by omega))).1
    have unkT:ns2[k]?=some (.unknown (k:Int)):=gr2.get (gr.get (unk k (by omega)))
    have lk:=(Vab.mp unkT).1
    have wk:ws2.getD k 0=1:=(gr2.net.ok k _ unkT).2.1
    have wj':ws2.getD j 0=1:=wj
    have sl:=zbo hI
    have ln2:=gr2.ln
    have hc:∀g:Int,1≤g→zcS q g ns2 j (f k*g):=λg hg=>zqw hj (by decide) (by rw[Int.mul_one])
    have fin:∀(T2:Sto) (j2:Nat) (ns3:List Nd) (ws3:List Nat),Gr q a 1 T ns2 ws2 T2 ns3 ws3→j2<ns3.length→ws3.getD j2 0=2→(ns3[j2]?=some (.times (j:Int) (k:Int))∨ns3[j2]?=some (.times (k:Int) (j:Int)))→k+1≤q∧∃(is':List Nat) (ns':List Nd) (ws':List Nat),Gr q a (2*(k+1)) S ns ws (T2.set S.length (.lst (is.map wtD++[.int (j2:Int)]))) ns' ws'∧(T2.set S.length (.lst (is.map wtD++[.int (j2:Int)])))[S.length]?=some (.lst (is'.map wtD))∧is'.length=k+1∧(∀r i,is'[r]?=some i→i<ns'.length∧ws'.getD i 0≤2∧∀g:Int,1≤g→zba q g ns' i (λl=>if l=r then f r else 0) 0):=λT2 j2 ns3 ws3 gr3 lj2 wj2 hj2=>by
     have hI2:=gr3.kp _ _ (show S.length≠a by omega) (gr2.kp _ _ (by omega) hI)
     refine⟨by omega,is++[j2],ns3,ws3,(((gr.trans gr2).trans gr3).mono (by omega)).put (by omega) (Vad _),by rw[Vav]; exact zb2 hI2,by rw[Var,li]; rfl,λr i hi=>?_⟩
     by_cases c2:r<is.length
     ·rw[Vao c2] at hi
      obtain⟨z1,z2,z3⟩:=zi r i hi
      have y1:=gr2.ln
      have y2:=gr3.ln
      exact⟨by omega,by rw[gr3.wt gr2.net (by omega),gr2.wt gr.net z1]; exact z2,λg hg=>((z3 g hg).gr gr2).gr gr3⟩
     ·have hl:=(Vab.mp hi).1
      rw[Var] at hl
      have er:r=k:=by have:[j2].length=1:=rfl; omega
      subst er
      rw[Vaz (by omega),li,VaX] at hi
      have ei:j2=i:=Option.some.inj hi
      subst ei
      exact⟨lj2,by omega,λg hg=>zvH hg hj2 (gr3.get unkT) (by omega) ((hc g hg).gr gr3)⟩
    cases tr
    ·refine zg7 (n:=S.length) (xs:=is.map wtD) (λK hK=>by exact hK) (gr2.kp _ _ (by omega) hI) (λK hK=>?_) (by rw[Vac]; omega)
     refine⟨q,.times j k,ns2,ws2,rfl,gr2.nd,by omega,gr2.net,⟨⟨by omega,by omega⟩,⟨by omega,by omega⟩⟩,?_,λT2 j2 ns3 ws3 gr3 lj2 hj2 wj2 dj2=>?_⟩
     ·show ws2.getD ((j:Nat):Int).toNat 0+ws2.getD ((k:Nat):Int).toNat 0≤16
      rw[Vah,Vah,wk,wj']
      decide
     ·have w3:ws3.getD j2 0=2:=by
       rw[wj2]
       show ws2.getD ((j:Nat):Int).toNat 0+ws2.getD ((k:Nat):Int).toNat 0=2
       rw[Vah,Vah,wk,wj']
      obtain⟨f1,f2⟩:=fin T2 j2 ns3 ws3 gr3 lj2 w3 (.inl hj2)
      exact hK _ _ (gr3.kp _ _ (by omega) (gr2.kp _ _ (by omega) hI)) ⟨f1,f2,_,_,rfl⟩
    ·refine zg7 (n:=S.length) (xs:=is.map wtD) (λK hK=>by exact hK) (gr2.kp _ _ (by omega) hI) (λK hK=>?_) (by rw[Vac]; omega)
     refine⟨q,.times k j,ns2,ws2,rfl,gr2.nd,by omega,gr2.net,⟨⟨by omega,by omega⟩,⟨by omega,by omega⟩⟩,?_,λT2 j2 ns3 ws3 gr3 lj2 hj2 wj2 dj2=>?_⟩
     ·show ws2.getD ((k:Nat):Int).toNat 0+ws2.getD ((j:Nat):Int).toNat 0≤16
      rw[Vah,Vah,wk,wj']
      decide
     ·have w3:ws3.getD j2 0=2:=by
       rw[wj2]
       show ws2.getD ((k:Nat):Int).toNat 0+ws2.getD ((j:Nat):Int).toNat 0=2
       rw[Vah,Vah,wk,wj']
      obtain⟨f1,f2⟩:=fin T2 j2 ns3 ws3 gr3 lj2 w3 (.inr hj2)
      exact hK _ _ (gr3.kp _ _ (by omega) (gr2.kp _ _ (by omega) hI)) ⟨f1,f2,_,_,rfl⟩
   ·have ek:k=q:=by omega
    subst ek
    have ln:=gr.ln
    refine⟨k,2,ns',ws',is,gr.nd,hI,by omega,gr.net,⟨by omega,by omega⟩,by omega,by omega,λi hi=>?_,λT j ns2 ws2 gr2 lj wj dj=>?_⟩
    ·obtain⟨r,hr⟩:=Vbi.mp hi
     exact⟨(zi r i hr).1,(zi r i hr).2.1⟩
    ·refine h T j ns2 ws2 ((gr.trans gr2).mono (by omega)) lj (by omega) λg hg=>?_
     have z:=dj g (λr l=>if l=r then f r else 0) λr i hi=>(zi r i hi).2.2 g hg
     rw[li] at z
     refine z.congr λl hl=>?_
     have y:=zde l f k
     rw[if_pos hl] at y
     rw[← y]
     refine zby _ λr _=>?_
     by_cases e:l=r
     ·rw[if_pos e,if_pos e.symm,Int.one_mul]
     ·rw[if_neg e,if_neg λz=>e z.symm,Vbd]
  ·exact h.elim⟩)
def zuK  (ziZ:Df K mg "_law_lowest" zlI zim)(zdW:mg "abs"=none):Fk P w K mg base 1 "_law_lowest" zim zgX:=
 ziZ.mk' (zaw (k:=0) ziZ.F zlh (zyR) λcdv A outer s H E hr=>⟨_,(zap (zaE (i:=2) zlh.nd rfl (Or.inl rfl) (zaT zxx rfl zdW Boot.«abs» (zaa (dv 0) zab))) (zap (zaE (i:=3) zlh.nd rfl (Or.inl rfl) (dv 1)) (zap (zvr PassesOwn.never (zaI (zeE hr) (dv 3) zac (zaC _)) (zah (zvX (i:=2) (j:=3) rfl zlh.nd rfl rfl (by decide) rfl rfl (zaa (dv 3) (zaa (zao zdb (dv 2) (dv 3)) zab))))) (zah (zar (za1 (zaa (zao zel (dv 0) (dv 2)) (zaa (zao zel (dv 1) (dv 2)) zab)))))))),λds S Q ex h=>by
  unfold zgX at h
  split at h
  ·rename_i T B
   obtain⟨⟨hB,sB⟩,h⟩:=h
   have f:=zus (T:=T) (B:=B) (d:=((Int.gcd T B:Nat):Int)) (by omega) (by rw[if_neg (by omega)])
   obtain⟨f1,f2,f3,f4,f5,f6⟩:=f
   have gp:(0:Int)<((Int.gcd T B:Nat):Int):=by omega
   have gle:((Int.gcd T B:Nat):Int)≤B:=Int.le_of_dvd hB (Int.gcd_dvd_right T B)
   have sg:Sz 4000 ((Int.gcd T B:Nat):Int):=by
    unfold Sz at sB ⊢
    omega
   have eg:Int.gcd (zdm T) B=Int.gcd T B:=by
    have z:=ztP T B
    rw[show zdm B=B by unfold zdm; split <;> omega] at z
    exact z
   refine⟨λm dl' S'=>S'=S∧∃(x y:Int),dl'=[some (.int T),some (.int B),some (.int x),some (.int y)]∧0≤x∧0≤y∧Int.gcd x y=Int.gcd T B∧m=y.toNat,⟨B.toNat,rfl,zdm T,B,rfl,zxo T,by omega,eg,rfl⟩,?_⟩
   rintro m dl' S' ⟨rfl,x,y,rfl,hx,hy,hg,rfl⟩
   refine ifN (λc=>?_) (λc=>?_)
   ·have c':0<y:=by omega
    exact⟨c',⟨(x%y).toNat,by have:=zdq (a:=x) c'; omega,rfl,y,x%y,rfl,hy,(zdq (a:=x) c').1,(zvB x y).trans hg,rfl⟩⟩
   ·subst c
    have e:((Int.gcd T B:Nat):Int)=x:=by rw[← hg,Int.gcd_zero_right]; omega
    have e1:T/((Int.gcd T B:Nat):Int)=T.fdiv ((Int.gcd T B:Nat):Int):=(Int.fdiv_eq_ediv_of_nonneg _ (by omega)).symm
    have e2:B/((Int.gcd T B:Nat):Int)=B.fdiv ((Int.gcd T B:Nat):Int):=(Int.fdiv_eq_ediv_of_nonneg _ (by omega)).symm
    have q:=h _ _ f4 f5 f6 (zoV f1 f2) (by have:=zoV f1 f3; omega)
    rw[← e1,← e2] at q
    rw[e] at q sg gp
    exact⟨sg.fd gp,sg.fd gp,q⟩
  ·exact h.elim⟩)
def zwu  (zkW:Df K mg "_law_around" zlX zgR)(zbE:mg "max"=none):Fk P w K mg base 1 "_law_around" zgR ziv:=
 zkW.mk' (zaw (k:=0) zkW.F zet (zsk) λcdv A outer s H E hr=>⟨_,(zap (zaE (i:=3) zet.nd rfl (Or.inl rfl) (zao zcZ (zao zcZ (dv 0) zac) (zao zbv (zao zbU (dv 1) zac) zac))) (zap (zaM (zaI (zaS hr) (zao zbv (dv 1) zac) zac (zaC _)) (zah (zaE (i:=3) zet.nd rfl (Or.inl rfl) (dv 0))) zaP) (zap (zaM (zaI (zaS hr) (zao zbv (dv 1) zac) zac (zaC _)) (zah (zaE (i:=3) zet.nd rfl (Or.inl rfl) (zao zbl (dv 0) zac))) zaP) (zap (zaE (i:=4) zet.nd rfl (Or.inl rfl) (zao zbl (zao zbl (dv 0) zac) (zao zbv (zao zbU (dv 2) zac) zac))) (zap (zaM (zaI (zaS hr) (zao zbv (dv 2) zac) zac (zaC _)) (zah (zaE (i:=4) zet.nd rfl (Or.inl rfl) (dv 0))) zaP) (zap (zaM (zaI (zaS hr) (zao zbv (dv 2) zac) zac (zaC _)) (zah (zaE (i:=4) zet.nd rfl (Or.inl rfl) (zao zcZ (dv 0) zac))) zaP) (zah (zar (za1 (zaa (dv 3) (zaa (zaT (zjn rfl) rfl zbE Boot.«max» (zaa (dv 3) (zaa (dv 4) zab))) zab))))))))))),λds S Q ex h=>by
  unfold ziv at h
  split at h
  ·rename_i p lo hi
   obtain⟨hp,h⟩:=h
   refine zlz (λdl2 S2=>S=S2∧∃low:Int,low.natAbs≤1000400∧dl2=[some (.int p),some (.int lo),some (.int hi),some (.int low),none]) (λnx hn=>?_) ?_
   ·refine ifD (λe=>?_) (λe=>?_)
    ·refine ifD (λe2=>?_) (λe2=>?_)
     ·exact hn _ _ ⟨rfl,_,by omega,rfl⟩
     ·exact hn _ _ ⟨rfl,_,by omega,rfl⟩
    ·refine ifD (λe2=>?_) (λe2=>?_)
     ·exact hn _ _ ⟨rfl,_,by omega,rfl⟩
     ·exact hn _ _ ⟨rfl,_,by omega,rfl⟩
   rintro dl2 S2 ⟨rfl,low,l1,rfl⟩
   refine zlz (λdl2 S2=>S=S2∧∃high:Int,high.natAbs≤1000400∧dl2=[some (.int p),some (.int lo),some (.int hi),some (.int low),some (.int high)]) (λnx hn=>?_) ?_
   ·refine ifD (λe=>?_) (λe=>?_)
    ·refine ifD (λe2=>?_) (λe2=>?_)
     ·exact hn _ _ ⟨rfl,_,by omega,rfl⟩
     ·exact hn _ _ ⟨rfl,_,by omega,rfl⟩
    ·refine ifD (λe2=>?_) (λe2=>?_)
     ·exact hn _ _ ⟨rfl,_,by omega,rfl⟩
     ·exact hn _ _ ⟨rfl,_,by omega,rfl⟩
   rintro dl2 S2 ⟨rfl,high,l2,rfl⟩
   have tail:∃v:Int,(if high > low then high else low)=v∧low≤v∧v.natAbs≤2000000:=by
    split
    ·exact⟨_,rfl,by omega,by omega⟩
    ·exact⟨_,rfl,by omega,by omega⟩
   obtain⟨v,ev,v1,v2⟩:=tail
   have z:=h low v v1 (by omega) v2
   rw[← ev] at z
   exact z
  ·exact h.elim⟩)
def zvN  (zi3:Df K mg "_law_sure" zkY zhh):Fk P w K mg base 1 "_law_sure" zhh zgx:=
 zi3.mk' (zaw (k:=0) zi3.F zrf (ztx) λcdv A outer s H E hr=>⟨_,(zap (zaE (i:=4) zrf.nd rfl (Or.inl rfl) (zao zbv (dv 1) zac)) (zap (zaM (PDW.pt (zcN (zaI (zaS hr) (dv 4) zac (zaC _)) (zcN (zaI (zaS hr) (dv 4) zac (zaC _)) (zec (PDW.pt (zrj (zaI (zaS hr) (dv 4) zac (zaC _)) (zpx (zaI zoY (dv 2) zac (zaC _))))))))) (zah (zar zcH)) zaP) (zah (zar (pd_or (zci (zeE hr) (dv 4) zac (zaC _)) (zhA (zci zpd (zav (zaH (dv 3) (zao zdb (zao zbU (dv 1) zac) (dv 2)) (λ_ _=>rfl)) zac (λ_ _=>rfl)) zac (zaC _)))))))),λds S Q ex h=>by
  unfold zgx at h
  split at h
  ·rename_i r c qi b
   obtain⟨q,bs,rfl,⟨q1,q4⟩,l,hb,hY,hN⟩:=h
   refine ifD (λe0=>?_) (λe0=>?_)
   ·exact hN λz=>z.1 (.inl e0)
   refine ifD (λe1=>?_) (λe1=>?_)
   ·exact hN λz=>z.1 (.inr (.inl e1))
   have np:(0:Int)<(q:Nat):=by omega
   have kr:=zdq (a:=c/40) np
   have last:¬(c%8=2∧1<q)→dOrV (dOp (wNe eq2) (zbq 4) (dC (D.int 3))) (dOp wGe (dOp wIx (dOp (zbV wIx) (zbq 3) (dOp zjt (dOp zjc (zbq 1) (dC (D.int 40))) (zbq 2))) (dC (D.int 0))) (dC (D.int 0))) [some (.ref r),some (.int c),some (.int (q:Nat)),some (.ref b),some (.int (c%8))] S Q:=λe2=>by
    have z0:¬(c%8=0∨c%8=1∨(c%8=2∧1<q)):=by omega
    refine ifN (λe3=>?_) (λe3=>?_)
    ·exact hY ⟨z0,.inl e3⟩
    ·refine⟨np,?_⟩
     refine zaG (o:=.lst (bs.map frD)) hb (zbi ⟨kr.1,by omega⟩) ?_
     show Q (.bl (decide ((gt bs (c/40%((q:Nat):Int))).1≥0))) S
     by_cases e4:(gt bs (c/40%((q:Nat):Int))).1≥0
     ·rw[decide_eq_true e4]
      exact hY ⟨z0,.inr e4⟩
     ·rw[decide_eq_false e4]
      exact hN λz=>z.2.elim (λw=>w e3) λw=>e4 w
   refine ifD (λe2=>?_) (λe2=>?_)
   ·refine ifD (λe3=>?_) (λe3=>?_)
    ·exact hN λz=>z.1 (.inr (.inr ⟨e2,by omega⟩))
    ·exact last λz=>e3 (by have:=z.2; omega)
   ·exact last λz=>e2 z.1
  ·exact h.elim⟩)
def ztO  (zmn:Df K mg "_law_deep" zjD ziM)(zaQ:mg "range"=none)(zaD:mg "len"=none):Fk P w K mg base 1 "_law_deep" ziM ziK:=
 zmn.mk' (zaw (k:=0) zmn.F zrx (zvC) λcdv A outer s H E hr=>⟨_,(zap (zgd (i:=2) PassesOwn.never rfl zrx.nd rfl (Or.inl rfl) rfl zaQ (zaa (zaT (zaW zbx) rfl zaD Boot.«len» (zaa (dv 1) zab)) zab) (zah (zaM (PDW.pt (zcN (zcd (zaI zea (zav (zaH (dv 1) (dv 2) (λ_ _=>rfl)) zac (λ_ _=>rfl)) (zav (zaH (dv 0) (dv 2) (λ_ _=>rfl)) zac (λ_ _=>rfl)) (zaC _))) (zec (zcd (zaI zea (zav (zaH (dv 0) (dv 2) (λ_ _=>rfl)) zac (λ_ _=>rfl)) (zav (zaH (dv 1) (dv 2) (λ_ _=>rfl)) zac (λ_ _=>rfl)) (zaC _)))))) (zah (zar zcH)) zaP))) (zah (zar zcH))),λds S Q ex h=>by
  unfold ziK at h
  split at h
  ·rename_i f b
   obtain⟨us,vs,hu,hv,l,l9,h⟩:=h
   refine zb1 hv ?_
   rw[Vac]
   refine⟨⟨by omega,by omega⟩,λk dl' S'=>S=S'∧k≤vs.length∧(∀i:Nat,i<k→(gt vs (i:Int)).1<(gt us (i:Int)).1∧(gt us (i:Int)).2<(gt vs (i:Int)).2)∧∃u:Option D,dl'=[some (.ref f),some (.ref b),u],⟨rfl,Vat _,λi hi=>by omega,_,rfl⟩,?_⟩
   rintro k dl' S' ⟨rfl,hk,hd,u,rfl⟩
   rw[Vah]
   have no:∀i:Nat,i<vs.length→¬((gt vs (i:Int)).1<(gt us (i:Int)).1∧(gt us (i:Int)).2<(gt vs (i:Int)).2)→zbR us vs=false:=λi hi hn=>by
    cases e:zbR us vs
    ·rfl
    ·have z:=zqe.mp e i us[i] vs[i] (Vaa (by omega)) (Vaa hi)
     rw[zfT (Vaa (show i<us.length by omega)),zfT (Vaa hi)] at hn
     exact absurd z hn
   refine ze3 (λc=>?_) (λc=>?_)
   ·have kv:inR ((vs.length:Nat):Int) (k:Int):=⟨by omega,by omega⟩
    have ku:inR ((us.length:Nat):Int) (k:Int):=⟨by omega,by omega⟩
    refine zaG (o:=.lst (vs.map frD)) hv (zbi kv) ?_
    refine zaG (o:=.lst (us.map frD)) hu (zbi ku) ?_
    refine ifN (λw1=>?_) (λw1=>?_)
    ·rw[no k c (λz=>w1 z.1)] at h
     exact h
    refine zaG (o:=.lst (us.map frD)) hu (zbi ku) ?_
    refine zaG (o:=.lst (vs.map frD)) hv (zbi kv) ?_
    refine ifN (λw2=>?_) (λw2=>?_)
    ·rw[no k c (λz=>w2 z.2)] at h
     exact h
    refine⟨rfl,c,λi hi=>?_,_,rfl⟩
    by_cases e:i=k
    ·subst e
     exact⟨w1,w2⟩
    ·exact hd i (by omega)
   ·have e:zbR us vs=true:=zqe.mpr λi p q hp hq=>by
     have hi:=(Vab.mp hq).1
     have z:=hd i (by omega)
     rw[zfT hp,zfT hq] at z
     exact z
    rw[e] at h
    exact h
  ·exact h.elim⟩)
def zsX  (zjR:Df K mg "_law_span" zlk zh2)(zem:Fk P w K mg base 1 "_law_whole" zfH zfN)(zaD:mg "len"=none)(zbp:mg "isinstance"=none)(zcR:mg "tuple"=none)(zdB:Kit K "tuple"):Fk P w K mg base 2 "_law_span" zh2 zgg:=
 zjR.mk' (zaw (k:=1) zjR.F zuj (zxI) λcdv A outer s H E hr=>⟨_,(zap (zaM (PDW.pt (zcN (zcd (zcl (zmO zdB rfl zbp rfl zcR Boot.«tuple» (dv 0)))) (zec (zaI (zeE hr) (zaT zbx rfl zaD Boot.«len» (zaa (dv 0) zab)) zac (zaC _))))) (zah (zar zcH)) zaP) (zah (zar (zhu (zaq zem hr (zaa (zav (dv 0) zac (λ_ _=>rfl)) zab)) (zhu (zaq zem hr (zaa (zav (dv 0) zac (λ_ _=>rfl)) zab)) (zhA (zci do_le (zav (dv 0) zac (λ_ _=>rfl)) (zav (dv 0) zac (λ_ _=>rfl)) (zaC _)))))))),λds S Q ex h=>by
  unfold zgg at h
  split at h
  ·obtain⟨hab,h⟩:=h
   exact qt (Q:=Q) (decide_eq_true hab) h
  ·exact h.elim⟩)
def zsS  (zjJ:Df K mg "_law_spans" zkC zhO)(zol:Fk P w K mg base 2 "_law_span" zh2 zgg)(zaD:mg "len"=none)(zbp:mg "isinstance"=none)(zbH:mg "list"=none):Fk P w K mg base 3 "_law_spans" zhO zhP:=
 zjJ.mk' (zaw (k:=2) zjJ.F zqH (zxB) λcdv A outer s H E hr=>⟨_,(zap (zaM (PDW.pt (zcN (zcd (zcl (zno (znj _) rfl zbp rfl zbH Boot.«list» (dv 0)))) (zec (zaI (zeE hr) (zaT (zaW zbx) rfl zaD Boot.«len» (zaa (dv 0) zab)) (dv 1) (zaC _))))) (zah (zar zcH)) zaP) (zap (zda (i:=2) PassesOwn.never rfl zqH.nd rfl (Or.inl rfl) (dv 0) (zah (zaM (zcd (zcl (zaq zol hr (zaa (dv 2) zab)))) (zah (zar zcH)) zaP))) (zah (zar zcH)))),λds S Q ex h=>by
  unfold zhP at h
  split at h
  ·rename_i a m
   obtain⟨vs,h1,rfl,hp,h⟩:=h
   refine znR (n:=a) (λK hK=>by exact hK) h1 ?_
   refine zbj ?_
   refine zb1 h1 ?_
   rw[Vac]
   refine ifN (λc=>absurd rfl c) (λ_=>?_)
   refine zdi (n:=a) (o:=.lst (vs.map frD)) (λk dl' S'=>S'=S∧∃u:Option D,dl'=[some (.ref a),some (.int (vs.length:Nat)),u]) ⟨rfl,_,rfl⟩ (λk dl' S' w=>by rw[w.1]; exact h1) ?_ (λdl' S' w=>by rw[w.1]; exact h)
   rintro k x dl' S' nx ct ex' ⟨rfl,u,rfl⟩ hn
   obtain⟨p,hpm,rfl⟩:=Vai.mp (Val ex')
   refine⟨hp p hpm,?_⟩
   exact hn _ _ ⟨rfl,_,rfl⟩
  ·exact h.elim⟩)
def zu7  (zkB:Df K mg "law" zcw zji)(znP:Fk P w K mg base 2 "_law_matrix" zg2 zhr)(znO:Fk P w K mg base 3 "_law_spans" zhO zhP)(zn2:Fk P w K mg base 1 "_law_deep" ziM ziK)(zoq:Fk P w K mg base 1 "_law_sure" zhh zgx)(zc7:Fk P w K mg base 1 "_law_cell" ziq ziC)(zoD:Fk P w K mg base 12 "alone" zis zhy)(zoj:Fk P w K mg base 1 "_law_changed" zic zhw)(zcG:Fk P w K mg base 1 "_law_at" zey zer)(zns:Fk P w K mg base 1 "_law_lowest" zim zgX)(zn0:Fk P w K mg base 3 "_law_linear" zhk ziH)(zou:Fk P w K mg base 1 "_law_around" zgR ziv)(zmT:Fk P w K mg base 1 "_law_place" ziD zf9)(zoP:Fk P w K mg base 1 "_law_turned" zgq zgs)(zoE:Fk P w K mg base 1 "_law_grid" zgr zhJ)(zaD:mg "len"=none)(zbp:mg "isinstance"=none)(zcR:mg "tuple"=none)(zbH:mg "list"=none)(zbd:mg "sum"=none)(zaQ:mg "range"=none)(zdB:Kit K "tuple"):Fk P w K mg base 13 "law" zji zfh:=
 zkB.mk' (zaw (k:=12) zkB.F zb4 zv8 λcdv A outer s H E hr=>⟨_,(zap (zaE (i:=1) zb4.nd rfl (Or.inl rfl) (zao zbl zac (zao zbv (zaq zc7 hr (zaa (dv 0) (zaa zac zab))) zac))) (zap (zaE (i:=2) zb4.nd rfl (Or.inr rfl) (zaq zoE hr (zaa (zaq zc7 hr (zaa (dv 0) (zaa zac zab))) zab))) (zap (ztg (is:=[3,4]) rfl zb4.nd (Nms.cons (i:=3) rfl (Or.inl rfl) (by first | exact .inl rfl | exact .inr rfl) (Nms.cons (i:=4) rfl (Or.inl rfl) (by first | exact .inl rfl | exact .inr rfl) Nms.nil)) (zaq zoP hr (zaa (dv 1) (zaa (ze7 (dv 0) (zew zac) (zew zac)) zab)))) (zap (zaE (i:=5) zb4.nd rfl (Or.inr rfl) (zd2 (x:="_law_k") (N:=["_law_script"]) (caps:=[0]) (ar:=zam zcw) rfl rfl csc rfl (by decide) rfl zaQ (zaa (dv 1) zab) (λ_ _ _ _ _ _=>zbh) (λ_ _ _ _ _ _=>(zaq zmT hr (zaa (zaq zc7 hr (zaa (dv 1) (zaa (zao zbl zac (zao za3 zac (dv 0))) zab))) zab))))) (zap (zaE (i:=6) zb4.nd rfl (Or.inl rfl) (zcJ zab)) (zap (zgd (i:=7) PassesOwn.never rfl zb4.nd rfl (Or.inl rfl) rfl zaQ (zaa (dv 1) zab) (zah (zce (zdk (dv 6) (zaq zou hr (zaa (zaH (dv 5) (dv 7) (λ_ _=>rfl)) (zaa (zaq zc7 hr (zaa (dv 0) (zaa (zao zbl zac (zao za3 zac (dv 7))) zab))) (zaa (zaq zc7 hr (zaa (dv 0) (zaa (zao zbl zac (zao za3 zac (dv 7))) zab))) zab)))))))) (zap (zo4 (x:="_law_k") (N:=[]) (caps:=[]) (ar:=zam zcw) rfl rfl csc rfl (by decide) (i:=8) zb4.nd rfl rfl rfl zaQ (zaa (dv 1) zab) (λ_ _ _ _ _ _=>zbh) (λ_ _ _ _ _ _=>(za1 (zaa zbP (zaa (dv 0) zab))))) (zap (zaE (i:=9) zb4.nd rfl (Or.inl rfl) (zcJ zab)) (zap (zda (i:=10) PassesOwn.never rfl zb4.nd rfl (Or.inr rfl) (dv 3) (zap (zaE (i:=11) zb4.nd rfl (Or.inl rfl) (zaq zn0 hr (zaa (dv 8) (zaa (dv 10) (zaa (zci (zaS hr) (zao zbv (zao zbU (zaq zc7 hr (zaa (dv 0) (zaa zac zab))) zac) zac) zac (zaC _)) zab))))) (zap (zaE (i:=12) zb4.nd rfl (Or.inl rfl) (zaq zns hr (zaa (zaT (zaW (zf0 rfl)) rfl zbd Boot.«sum» (zaa (zd2 (x:="_law_k") (N:=["_law_entries","_law_places"]) (caps:=[10,5]) (ar:=zam zcw) rfl rfl csc rfl (by decide) rfl zaQ (zaa (dv 1) zab) (λ_ _ _ _ _ _=>zbh) (λ_ _ _ _ _ _=>(zao za3 (zaH (dv 1) (dv 0) (λ_ _=>rfl)) (zaH (dv 2) (dv 0) (λ_ _=>rfl))))) zab)) (zaa (dv 2) zab)))) (zap (zaE (i:=13) zb4.nd rfl (Or.inl rfl) (zaq zcG hr (zaa (dv 8) (zaa (za1 (zaa zbP (zaa (zav (dv 12) zac (λ_ _=>rfl)) (zaa (zav (dv 12) zac (λ_ _=>rfl)) zab)))) zab)))) (zah (zce (zdk (dv 9) (za1 (zaa zbP (zaa (zaq zcG hr (zaa (dv 8) (zaa (za1 (zaa zbP (zaa (dv 11) (zaa (dv 13) zab)))) zab))) zab)))))))))) (zap (zce (zaq zoj hr (zaa (dv 9) (zaa (zaq zc7 hr (zaa (dv 0) (zaa zac zab))) (zaa (dv 1) zab))))) (zap (zaE (i:=14) zb4.nd rfl (Or.inl rfl) (zcJ (zaa (zh0 (zaW znG) rfl zbH Boot.«list» (zaa (dv 8) zab)) (zaa (zh0 (zaW znG) rfl zbH Boot.«list» (zaa (dv 9) zab)) (zaa (zh0 (zaW znG) rfl zbH Boot.«list» (zaa (dv 6) zab)) zab))))) (zap (zaE (i:=15) zb4.nd rfl (Or.inl rfl) (zaq zoD hr (zaa (zaH (dv 14) zac (λ_ _=>rfl)) (zaa (zaH (dv 14) zac (λ_ _=>rfl)) (zaa (zaH (dv 14) zac (λ_ _=>rfl)) (zaa (dv 2) zab)))))) (zap (zaM (zaI (zuF hr) (dv 14) (zcJ (zaa (dv 8) (zaa (dv 9) (zaa (dv 6) zab)))) (zaC _)) (zah (zar zcH)) zaP) (zap (zoi (x:="_law_place_here") (N:=[]) (caps:=[]) (ar:=zam zcw) rfl rfl csc rfl (by decide) (i:=16) zb4.nd rfl rfl (dv 5) (λ_ _ _ _ _ _=>zbh) (λ_ _ _ _ _ _=>(za1 (zaa (dv 0) (zaa (dv 0) zab))))) (zap (zaM (PDW.pt (zcN (zcd (zcl (zaq zoq hr (zaa (dv 9) (zaa (zaq zc7 hr (zaa (dv 0) (zaa zac zab))) (zaa (dv 1) (zaa (dv 6) zab))))))) (zec (zcd (zcl (zaq zn2 hr (zaa (dv 16) (zaa (dv 6) zab)))))))) (zah (zar (zci zp7 (dv 15) zfv (zaC _)))) zaP) (zap (zaM (PDW.pt (zcN (zcd (zcl (zmO zdB rfl zbp rfl zcR Boot.«tuple» (dv 15)))) (zcN (zaI (zeE hr) (zaT (zaW zbx) rfl zaD Boot.«len» (zaa (dv 15) zab)) zac (zaC _)) (zcN (zcd (zcl (zaq znO hr (zaa (zav (dv 15) zac (λ_ _=>rfl)) (zaa (dv 1) zab))))) (zec (zaI (zw8 hr) (zav (dv 15) zac (λ_ _=>rfl)) (dv 16) (zaC _))))))) (zah (zar zcH)) zaP) (zah (zar (zaq znP hr (zaa (zav (dv 15) zac (λ_ _=>rfl)) (zaa (zcD (x:="_law_row") (N:=["_law_grid_here"]) (caps:=[2]) (ar:=zam zcw) rfl rfl csc rfl (by decide) (dv 4) (λ_ _ _ _ _ _=>zbh) (λ_ _ _ _ _ _=>(zcD (x:="_law_entry") (N:=["_law_grid_here"]) (caps:=[1]) (ar:=relabel _ _) rfl rfl (cscN (ar0:=zam zcw) rfl) rfl (by decide) (dv 0) (λ_ _ _ _ _ _=>zbh) (λ_ _ _ _ _ _=>(zao za3 (dv 1) (dv 0)))))) zab))))))))))))))))))))),λds S Q ex h=>by
  obtain⟨ns,rfl,rfl,hl,h⟩:=h
  refine zq9 (λdl2 S2=>S2=[Ob.frz (ns.map D.int)]∧∃n:Nat,n≤3∧dl2=[some (.ref 0),some (.int ((n+1:Nat):Int)),none,none,none,none,none,none,none,none,none,none,none,none,none,none,none]) (λnx hn=>?_) ?_
  ·refine⟨ns,rfl,by decide,?_⟩
   refine hn _ _ ⟨rfl,(ns.getD (0:Int).toNat 0%4).toNat,by omega,?_⟩
   rw[show (((ns.getD (0:Int).toNat 0%4).toNat+1:Nat):Int)=1+ns.getD (0:Int).toNat 0%4 by omega]
   rfl
  rintro dl2 S2 ⟨rfl,n,n3,rfl⟩
  refine⟨ns,rfl,by decide,?_⟩
  intro g hg g2
  refine ze6 (n:=0) (o:=.frz (ns.map D.int)) (lo:=some 15) (hi:=some 21) (S3:=[Ob.frz (ns.map D.int)]) (λK hK=>by exact hK) (λK hK=>by exact hK) (λK hK=>by exact hK) rfl ?_
  have z6:(zbk (ns.map D.int) (some 15) (some 21)).length≤21-15:=zvj (ns.map D.int) 15 21
  obtain⟨cs,ecs,_⟩:=zoL (G:=λ_=>True) (zbk (ns.map D.int) (some 15) (some 21)) λk d hd=>by
   obtain⟨c,e⟩:=zun hd
   exact⟨c,e,trivial⟩
  dsimp only[zak]
  rw[ecs] at z6 ⊢
  rw[Vac] at z6
  refine⟨n,cs,rfl,n3,zax _ _,z6,λT0 m1 m2 kk a b p0 lm1 l12 mA mB tr k6=>⟨rfl,?_⟩⟩
  have h00:=p0 _ _ (zaB (T:=[Ob.lst (cs.map D.int)]) (show [Ob.frz (ns.map D.int)][0]?=some (.frz (ns.map D.int)) from rfl))
  clear p0
  obtain⟨as,la,hA,rA⟩:=mA
  have lt1:=zbo hA
  have lt2:m2<T0.length:=by
   obtain⟨bs,_,hB,_⟩:=mB
   exact zbo hB
  have l11:1≤m1:=by simp at lm1; omega
  refine zwM (j:=((n+1:Nat):Int)) (S1:=T0) (λ_ d=>∃p:Int,d=.int p∧p.natAbs≤1000000) (λK hK=>by exact hK) ⟨by omega,by omega⟩ (λk hk S2 K pr hK=>?_) (λxs lx hx=>?_)
  ·refine⟨IntMulOk.of_left (by decide),ns,pr _ _ h00,show (0:Int)≤3+3*(k:Int) by omega,?_⟩
   exact λp hp=>hK _ ⟨p,rfl,hp⟩
  obtain⟨ps,rfl,sp⟩:=zoL (G:=λp:Int=>p.natAbs≤1000000) xs hx
  rw[Vac,Vah] at lx
  clear hx
  have P1:Pre T0 (T0++[Ob.lst (ps.map D.int)]):=Pre.refl.push
  have hP1:=zax T0 (.lst (ps.map D.int))
  have e1:(T0++[Ob.lst (ps.map D.int)]).length=T0.length+1:=by simp
  generalize T0++[Ob.lst (ps.map D.int)]=T1 at P1 hP1 e1 ⊢
  have atp:∀k:Nat,k<n+1→atI (ps.map D.int) (k:Int)=some (.int (ps.getD k 0)):=λk hk=>zcV (j:=k) (by
   rw[Vae,Vaf,Vaa (by omega)]
   rfl)
  have szp:∀k:Nat,k<n+1→(ps.getD k 0).natAbs≤1000000:=λk hk=>by
   rw[Vaf,Vaa (by omega)]
   exact sp _ (VaH ..)
  try dsimp only
  refine zqY (λdl2 S2=>Pre T1 S2∧(∃B:List (Int×Int),S2[T1.length]?=some (.lst (B.map frD))∧B.length=n+1∧∀p∈B,p.1≤p.2∧p.1.natAbs≤2000000∧p.2.natAbs≤2000000)∧∃u7:Option D,dl2=[some (.ref 0),some (.int ((n+1:Nat):Int)),some (.int g),some (.ref m1),some (.ref m2),some (.ref T0.length),some (.ref T1.length),u7,none,none,none,none,none,none,none,none,none]) (λnx hn=>?_) ?_
  ·refine⟨⟨by omega,by omega⟩,λk dl' S'=>k≤n+1∧Pre T1 S'∧(∃B:List (Int×Int),S'[T1.length]?=some (.lst (B.map frD))∧B.length=k∧∀p∈B,p.1≤p.2∧p.1.natAbs≤2000000∧p.2.natAbs≤2000000)∧∃u7:Option D,dl'=[some (.ref 0),some (.int ((n+1:Nat):Int)),some (.int g),some (.ref m1),some (.ref m2),some (.ref T0.length),some (.ref T1.length),u7,none,none,none,none,none,none,none,none,none],⟨Vat _,Pre.refl.push,⟨[],zax _ _,rfl,λp hp=>by simp at hp⟩,_,rfl⟩,?_⟩
   rintro k dl' S' ⟨hk,pr,⟨B,hB,lB,zB⟩,u7,rfl⟩
   rw[Vah]
   refine ze3 (λc=>?_) (λc=>?_)
   ·refine zg7 (n:=T1.length) (xs:=B.map frD) (λK hK=>by exact hK) hB (λK hK=>?_) (by rw[Vac]; omega)
    refine zaG (o:=.lst (ps.map D.int)) (pr _ _ hP1) (atp k (by omega)) ?_
    refine⟨IntMulOk.of_left (by decide),ns,pr _ _ (P1 _ _ h00),show (0:Int)≤4+3*(k:Int) by omega,?_⟩
    refine⟨IntMulOk.of_left (by decide),ns,pr _ _ (P1 _ _ h00),show (0:Int)≤5+3*(k:Int) by omega,?_⟩
    refine⟨szp k (by omega),λu v uv su sv=>?_⟩
    refine hK _ _ hB ⟨by omega,zcU pr (Vad _),⟨B++[(u,v)],by rw[Vav]; exact zb2 hB,by rw[Var,lB]; rfl,λp hp=>?_⟩,_,rfl⟩
    rcases VaO.mp hp with w | w
    ·exact zB p w
    ·rw[List.mem_singleton.mp w]; exact⟨uv,su,sv⟩
   ·have ek:k=n+1:=by omega
    subst ek
    exact hn _ _ ⟨pr,⟨B,hB,lB,zB⟩,_,rfl⟩
  rintro dl2 T2 ⟨P2,⟨B,hB,lB,zB⟩,u7,rfl⟩
  have l2:=zcF P2
  have ltB:=zbo hB
  refine zdY (j:=((n+1:Nat):Int)) (S1:=T2) (λk=>.tup [.str "unknown",.int (k:Int)]) (λK hK=>by exact hK) ⟨by omega,by omega⟩ (λk hk S2 K pr hK=>by exact hK) ?_
  have eN:((List.range ((n+1:Nat):Int).toNat).map λ(k:Nat)=>D.tup [.str "unknown",.int (k:Int)])=((List.range (n+1)).map λ(k:Nat)=>Nd.unknown (k:Int)).map Nd.d:=by
   rw[Vag,Vah]
   rfl
  rw[eN]
  have net0:=zsJ (n+1)
  have unk0:∀k:Nat,k<n+1→((List.range (n+1)).map λ(k:Nat)=>Nd.unknown (k:Int))[k]?=some (.unknown (k:Int)):=λk hk=>by rw[Vae,VaE hk]; rfl
  have ln0:((List.range (n+1)).map λ(k:Nat)=>Nd.unknown (k:Int)).length=n+1:=by simp
  have P3:Pre T2 (T2++[Ob.lst (((List.range (n+1)).map λ(k:Nat)=>Nd.unknown (k:Int)).map Nd.d)]):=Pre.refl.push
  have hN3:=zax T2 (.lst (((List.range (n+1)).map λ(k:Nat)=>Nd.unknown (k:Int)).map Nd.d))
  have e3:(T2++[Ob.lst (((List.range (n+1)).map λ(k:Nat)=>Nd.unknown (k:Int)).map Nd.d)]).length=T2.length+1:=by simp
  generalize ((List.range (n+1)).map λ(k:Nat)=>Nd.unknown (k:Int))=ns0 at net0 unk0 ln0 P3 hN3 e3 ⊢
  generalize ((List.range (n+1)).map λ_=>1)=ws0 at net0
  generalize T2++[Ob.lst (ns0.map Nd.d)]=T3 at P3 hN3 e3 ⊢
  have P13:Pre T1 T3:=λx o e=>P3 _ _ (P2 _ _ e)
  have P03:Pre T0 T3:=λx o e=>P13 _ _ (P1 _ _ e)
  try dsimp only
  refine zqY (λdl2 S2=>(∃(rs:List Nat) (xs:List Nd) (wx:List Nat),Gr (n+1) T2.length 64 T3 ns0 ws0 S2 xs wx∧S2[T3.length]?=some (.lst ((tr' rs).map rwD))∧rs.length=n+1∧(∀i j,rs[i]?=some j→j<xs.length∧zba (n+1) g xs j (a i) (-(zad (n+1) λk=>a i k*ps.getD k 0))))∧∃u10 u11 u12 u13:Option D,dl2=[some (.ref 0),some (.int ((n+1:Nat):Int)),some (.int g),some (.ref m1),some (.ref m2),some (.ref T0.length),some (.ref T1.length),u7,some (.ref T2.length),some (.ref T3.length),u10,u11,u12,u13,none,none,none]) (λnx hn=>?_) ?_
  ·refine zdi (n:=m1) (o:=.lst (as.map D.ref)) (λr dl2 S2=>(∃(rs:List Nat) (xs:List Nd) (wx:List Nat),Gr (n+1) T2.length (16*r) T3 ns0 ws0 S2 xs wx∧S2[T3.length]?=some (.lst ((tr' rs).map rwD))∧rs.length=r∧(∀i j,rs[i]?=some j→j<xs.length∧zba (n+1) g xs j (a i) (-(zad (n+1) λk=>a i k*ps.getD k 0))))∧∃u10 u11 u12 u13:Option D,dl2=[some (.ref 0),some (.int ((n+1:Nat):Int)),some (.int g),some (.ref m1),some (.ref m2),some (.ref T0.length),some (.ref T1.length),u7,some (.ref T2.length),some (.ref T3.length),u10,u11,u12,u13,none,none,none]) ⟨⟨[],ns0,ws0,Gr.push net0 hN3 _,zax _ _,rfl,λi j hi=>by simp at hi⟩,_,_,_,_,rfl⟩ (λk dl' S' w=>?_) ?_ ?_
   ·obtain⟨⟨rs,xs,wx,gr,_⟩,_⟩:=w
    exact gr.kp _ _ (by omega) (P03 _ _ hA)
   ·rintro r x dl' S' nx ct ex' ⟨⟨rs,xs,wx,gr,hR,lr,zr⟩,u10,u11,u12,u13,rfl⟩ hn2
    have hx:(as.map D.ref)[r]?=some x:=ex'
    have rn:r<n+1:=by have:=(Vab.mp hx).1; rw[Vac,la] at this; exact this
    rw[Vae] at hx
    obtain⟨y,hy,rfl⟩:=Vam.mp hx
    have hy0:=rA r y hy
    have lty:=zbo hy0
    have row:=gr.kp _ _ (show y≠T2.length by have:=zcF P1; omega) (P03 _ _ hy0)
    have h0':=gr.kp _ _ (show 0≠T2.length by omega) (P03 _ _ h00)
    have hP':=gr.kp _ _ (show T0.length≠T2.length by omega) (P13 _ _ hP1)
    have rw9:=tr.row k6 rn
    have ln:=gr.ln
    have ltr:=zbo hR
    refine⟨ns,h0',by decide,?_⟩
    refine⟨n+1,a r,xs,wx,gr.nd,row,by have:=zcF P1; omega,gr.net,⟨by omega,by omega⟩,by omega,λk hk=>by have:=zk2 (a r) hk; omega,λk hk=>gr.get (unk0 k hk),λT j ns2 ws2 gr2 lj wj hj=>?_⟩
    have row2:=gr2.kp _ _ (show y≠T2.length by have:=zcF P1; omega) row
    have hP2':=gr2.kp _ _ (show T0.length≠T2.length by omega) hP'
    refine zdY (j:=((n+1:Nat):Int)) (S1:=T) (λk=>.int (a r k*ps.getD k 0)) (λK hK=>by exact hK) ⟨by omega,by omega⟩ (λk hk S2 K pr hK=>?_) ?_
    ·rw[Vah] at hk
     refine zaG (o:=rwI (n+1) (a r)) (pr _ _ row2) (zfZ hk) ?_
     refine zaG (o:=.lst (ps.map D.int)) (pr _ _ hP2') (atp k hk) ?_
     exact⟨zaR (m:=10) (n:=30) (Sz.of 239 (by have:=zk2 (a r) hk; omega)) (Sz.of 1000000 (szp k hk)),hK⟩
    rw[Vah]
    refine zgf (ns:=(List.range (n+1)).map λk=>a r k*ps.getD k 0) (zax _ _) (by
     have e:((List.range (n+1)).map λk=>D.int (a r k*ps.getD k 0))=((List.range (n+1)).map λk=>a r k*ps.getD k 0).map D.int:=by rw[Vag]; rfl
     show zcc ((List.range (n+1)).map λk=>D.int (a r k*ps.getD k 0))=_
     rw[e,zpG]) ?_
    rw[zqG]
    have szS:=zvn (a r) (λk=>ps.getD k 0) (B:=1000000) (q:=n+1) szp
    try dsimp only at szS
    generalize eY:(zad (n+1) λk=>a r k*ps.getD k 0)=Y at szS ⊢
    have szY:Y.natAbs≤239000000:=by
     have:((1000000:Nat):Int)*zbA (n+1) (a r)≤1000000*239:=by omega
     omega
    refine⟨⟨by omega,Sz.of (n:=4000) (10^10) (by omega)⟩,λt d d1 tg te tt tb=>?_⟩
    have gr2':Gr (n+1) T2.length 13 S' xs wx (T++[Ob.lst ((List.range (n+1)).map λk=>D.int (a r k*ps.getD k 0))]) ns2 ws2:=gr2.trans (Gr.push gr2.net gr2.nd _)
    generalize T++[Ob.lst ((List.range (n+1)).map λk=>D.int (a r k*ps.getD k 0))]=T' at gr2' ⊢
    have ln2:=gr2'.ln
    refine⟨n+1,.number t d,ns2,ws2,rfl,gr2'.nd,by omega,gr2'.net,⟨⟨d1,by omega⟩,tg,by omega⟩,show 1≤16 by decide,λT4 j4 ns4 ws4 gr4 lj4 hj4 wj4 dj4=>?_⟩
    have ln4:=gr4.ln
    have w4:ws4.getD j 0≤8:=by rw[gr4.wt gr2'.net lj]; exact wj
    have wj4':ws4.getD j4 0=1:=wj4
    refine zg7 (n:=T3.length) (xs:=(tr' rs).map rwD) (λK hK=>by exact hK) (gr4.kp _ _ (by omega) (gr2'.kp _ _ (by omega) hR)) (λK hK=>?_) (by rw[Vac,Vac]; omega)
    refine⟨n+1,.minus j j4,ns4,ws4,rfl,gr4.nd,by omega,gr4.net,⟨⟨by omega,by omega⟩,⟨by omega,by omega⟩⟩,?_,λT5 j5 ns5 ws5 gr5 lj5 hj5 wj5 dj5=>?_⟩
    ·show ws4.getD ((j:Nat):Int).toNat 0+ws4.getD ((j4:Nat):Int).toNat 0≤16
     rw[Vah,Vah]
     omega
    have hR5:=gr5.kp _ _ (show T3.length≠T2.length by omega) (gr4.kp _ _ (by omega) (gr2'.kp _ _ (by omega) hR))
    refine hK _ _ hR5 (hn2 _ _ ⟨⟨rs++[j5],ns5,ws5,((((gr.trans gr2').trans gr4).trans gr5).mono (by omega)).put (by omega) (Vad _),?_,by rw[Var,lr]; rfl,λi j' hi=>?_⟩,_,_,_,_,rfl⟩)
    ·have e:(tr' (rs++[j5])).map rwD=(tr' rs).map rwD++[rwD (true,j5)]:=by rw[tr',Vav,Vav]; rfl
     rw[e]
     exact zb2 hR5
    ·rcases zmX hi with w | ⟨w1,w2⟩
     ·obtain⟨z1,z2⟩:=zr i j' w
      have y5:=gr5.ln
      exact⟨by omega,((z2.gr gr2').gr gr4).gr gr5⟩
     ·subst w2
      rw[w1,lr]
      refine⟨lj5,?_⟩
      have cn:zcS (n+1) g ns4 j4 Y:=zqw hj4 d1 te
      have z:=zta hj5 (((hj g hg).gr gr4).gr gr5) (cn.gr gr5)
      rw[Int.zero_sub,← eY] at z
      exact z
   ·rintro dl' S' ⟨⟨rs,xs,wx,gr,hR,lr,zr⟩,u10,u11,u12,u13,rfl⟩
    have e9:(zak (.lst (as.map D.ref))).length=n+1:=by show (as.map D.ref).length=_; rw[Vac,la]
    rw[e9] at gr lr
    exact hn _ _ ⟨⟨rs,xs,wx,gr.mono (by omega),hR,lr,zr⟩,_,_,_,_,rfl⟩
  rintro dl2 T4 ⟨⟨rs,xs,wx,gr,hR,lr,zr⟩,u10,u11,u12,u13,rfl⟩
  have h04:=gr.kp _ _ (show 0≠T2.length by omega) (P03 _ _ h00)
  have hP4:=gr.kp _ _ (show T0.length≠T2.length by omega) (P13 _ _ hP1)
  have hB4:=gr.kp _ _ (show T1.length≠T2.length by omega) (P3 _ _ hB)
  have mB4:zdG T4 m2 (n+1) b:=by
   obtain⟨bs,lb,hb,rb⟩:=mB
   refine⟨bs,lb,gr.kp _ _ (by have:=zcF P1; omega) (P03 _ _ hb),λr x hx=>gr.kp _ _ ?_ (P03 _ _ (rb r x hx))⟩
   have:=zbo (rb r x hx)
   have:=zcF P1
   omega
  have hN4:=gr.nd
  have netx:=gr.net
  have lx4:xs.length≤70:=by have:=gr.ln; omega
  have unkx:∀k:Nat,k<n+1→xs[k]?=some (.unknown (k:Int)):=λk hk=>gr.get (unk0 k hk)
  have ltR:=zbo hR
  clear gr
  refine⟨ns,h04,by decide,?_⟩
  refine⟨n+1,rs,rfl,⟨by omega,by omega⟩,lr,hR,λrows ch=>?_⟩
  have up:∀ {x:Nat} {o:Ob},x≠T3.length→T4[x]?=some o→(T4.set T3.length (.lst (rows.map rwD)))[x]?=some o:=λhx e=>za9 e (Ne.symm hx)
  have h05:=up (by omega) h04
  have hP5:=up (by omega) hP4
  have hB5:=up (by omega) hB4
  have hN5:=up (by omega) hN4
  have hR5:=zb2 (u:=.lst (rows.map rwD)) hR
  have mB5:zdG (T4.set T3.length (.lst (rows.map rwD))) m2 (n+1) b:=by
   obtain⟨bs,lb,hb,rb⟩:=mB4
   refine⟨bs,lb,up (by have:=zcF P1; omega) hb,λr x hx=>up ?_ (rb r x hx)⟩
   intro e
   have:=rb r x hx
   rw[e,hR] at this
   have lz:rwI (n+1) (b r)=.lst ((tr' rs).map rwD):=(Option.some.inj this).symm
   have l0:0<((List.range (n+1)).map (b r)).length:=by simp
   have lz2:((List.range (n+1)).map (b r)).map D.int=(tr' rs).map rwD:=by injection lz
   have lz3:=congrArg (·[0]?) lz2
   simp only[Vae,VaE (show 0<n+1 by omega),Vaa (show 0<rs.length by omega)] at lz3
   cases lz3
  clear up mB4 hN4 hB4 hP4 h04 hR
  generalize T4.set T3.length (.lst (rows.map rwD))=T5 at h05 hP5 hB5 hN5 hR5 mB5 ⊢
  have sb:Spn 51 B:=λp hp=>⟨(zB p hp).1,Sz.of (n:=51) (10^15) (by have:=(zB p hp).2.1; omega),Sz.of (n:=51) (10^15) (by have:=(zB p hp).2.2; omega)⟩
  have netB:zaJ B.length xs wx:=by rw[lB]; exact netx
  have bl:1≤B.length∧B.length≤4:=⟨by omega,by omega⟩
  have okr:∀r∈rows,r.2<xs.length:=λr hr=>by
   rcases ch.2.1 r hr with w | w
   ·obtain⟨i,hi⟩:=Vbi.mp w
    exact(zr i _ hi).1
   ·exact(Vab.mp (unkx r.2 w)).1
  have good:(zdD (ns.getD (2:Int).toNat 0) (n+1) B∧zbR ((List.range (n+1)).map λk=>(ps.getD k 0,ps.getD k 0)) B=true→alS g B xs rows=some ((List.range (n+1)).map λi=>(List.range (n+1)).map λj=>g*b i j,(List.range (n+1)).map λk=>(ps.getD k 0,ps.getD k 0)))∧(¬(zdD (ns.getD (2:Int).toNat 0) (n+1) B∧zbR ((List.range (n+1)).map λk=>(ps.getD k 0,ps.getD k 0)) B=true)→alS g B xs rows=none):=zt5 n3 hg lB lr netB (λi j hi=>⟨(zr i j hi).1,(zr i j hi).2.here netx⟩) unkx tr.inv tr.det ch
  refine zmZ (zaN hN5 rfl) ?_
  refine zmZ (zaN (zaB hR5) rfl) ?_
  refine zmZ (zaN (zaB (zaB hB5)) rfl) ?_
  dsimp only[zak]
  have A1:(T5++[Ob.lst (xs.map Nd.d)]++[Ob.lst (rows.map rwD)]++[Ob.lst (B.map frD)])[T5.length]?=some (.lst (xs.map Nd.d)):=zaB (zaB (zax _ _))
  have A2:(T5++[Ob.lst (xs.map Nd.d)]++[Ob.lst (rows.map rwD)]++[Ob.lst (B.map frD)])[(T5++[Ob.lst (xs.map Nd.d)]).length]?=some (.lst (rows.map rwD)):=zaB (zax _ _)
  have A3:(T5++[Ob.lst (xs.map Nd.d)]++[Ob.lst (rows.map rwD)]++[Ob.lst (B.map frD)])[(T5++[Ob.lst (xs.map Nd.d)]++[Ob.lst (rows.map rwD)]).length]?=some (.lst (B.map frD)):=zax _ _
  have pu:Pre T5 (T5++[Ob.lst (xs.map Nd.d)]++[Ob.lst (rows.map rwD)]++[Ob.lst (B.map frD)]):=zcm (zcm (zcm Pre.refl _) _) _
  have B0:=pu _ _ h05
  have B1:=pu _ _ hN5
  have B2:=pu _ _ hR5
  have B3:=pu _ _ hB5
  have B4:=pu _ _ hP5
  have mB6:=mB5.pre pu
  generalize (T5++[Ob.lst (xs.map Nd.d)]).length=i2 at A2 ⊢
  generalize (T5++[Ob.lst (xs.map Nd.d)]++[Ob.lst (rows.map rwD)]).length=i3 at A3 ⊢
  generalize T5.length=i1 at A1 ⊢
  clear pu hN5 hR5 hB5 hP5 h05 mB5
  generalize T5++[Ob.lst (xs.map Nd.d)]++[Ob.lst (rows.map rwD)]++[Ob.lst (B.map frD)]=V at A1 A2 A3 B0 B1 B2 B3 B4 mB6 ⊢
  have H:=zax V (.lst [.ref i1,.ref i2,.ref i3])
  have pV:Pre V (V++[Ob.lst [.ref i1,.ref i2,.ref i3]]):=Pre.refl.push
  unfold zhg
  dsimp only
  rw[if_pos (show [D.ref i1,.ref i2,.ref i3].length≤1000 by simp)]
  refine zq9 (λdl2 S2=>Pre (V++[Ob.lst [.ref i1,.ref i2,.ref i3]]) S2∧∃fd:D,dl2=[some (.ref 0),some (.int ((n+1:Nat):Int)),some (.int g),some (.ref m1),some (.ref m2),some (.ref T0.length),some (.ref T1.length),u7,some (.ref T2.length),some (.ref T3.length),u10,u11,u12,u13,some (.ref V.length),some fd,none]∧((fd=.non∧alS g B xs rows=none)∨∃(M:List (List Int)) (near:List (Int×Int)) (m k:Nat) (ms:List D),alS g B xs rows=some (M,near)∧fd=.tup [.ref m,.ref k]∧S2[m]?=some (.lst ms)∧zdr S2 ms M∧S2[k]?=some (.lst (near.map frD)))) (λnx hn=>?_) ?_
  ·refine zaG (o:=.lst [.ref i1,.ref i2,.ref i3]) H (d:=.ref i1) rfl ?_
   refine zaG (o:=.lst [.ref i1,.ref i2,.ref i3]) H (d:=.ref i2) rfl ?_
   refine zaG (o:=.lst [.ref i1,.ref i2,.ref i3]) H (d:=.ref i3) rfl ?_
   refine⟨xs,wx,B,rows,pV _ _ A1,pV _ _ A3,netB,sb,⟨hg,g2⟩,by omega,by omega,pV _ _ A2,by have:=ch.1; omega,okr,bl,λeN T pT=>?_,λM near eS T m k ms pT h1 rI h2 _=>?_⟩
   ·exact hn _ _ ⟨pT,_,rfl,.inl ⟨rfl,eN⟩⟩
   ·exact hn _ _ ⟨pT,_,rfl,.inr ⟨M,near,m,k,ms,eS,rfl,h1,rI,h2⟩⟩
  rintro dl2 U ⟨pU,fd,rfl,hfd⟩
  have pVU:Pre V U:=λx o e=>pU _ _ (pV _ _ e)
  have HU:=pU _ _ H
  have A1:=pVU _ _ A1
  have A2:=pVU _ _ A2
  have A3:=pVU _ _ A3
  have B0:=pVU _ _ B0
  have B1:=pVU _ _ B1
  have B2:=pVU _ _ B2
  have B3:=pVU _ _ B3
  have B4:=pVU _ _ B4
  have mB7:=mB6.pre pVU
  generalize V.length=mh at HU ⊢
  clear pVU pV pU H mB6
  have al:∀(k:Nat) (d e:D),[D.ref i1,.ref i2,.ref i3][k]?=some d→[D.ref T2.length,.ref T3.length,.ref T1.length][k]?=some e→∃a b ys zs,d=.ref a∧e=.ref b∧(U++[Ob.lst [.ref T2.length,.ref T3.length,.ref T1.length]])[a]?=some (.lst ys)∧(U++[Ob.lst [.ref T2.length,.ref T3.length,.ref T1.length]])[b]?=some (.lst zs)∧eqL (eqN 1) ys zs=some true:=λk d e hd he=>by
   match k with
   | 0=>
    cases hd; cases he
    exact⟨_,_,_,_,rfl,rfl,zaB A1,zaB B1,zq8 _⟩
   | 1=>
    cases hd; cases he
    exact⟨_,_,_,_,rfl,rfl,zaB A2,zaB B2,zq7 _⟩
   | 2=>
    cases hd; cases he
    exact⟨_,_,_,_,rfl,rfl,zaB A3,zaB B3,znT _⟩
   | k+3=>simp at hd
  refine zr5 (ds:=[.ref i1,.ref i2,.ref i3]) (es:=[.ref T2.length,.ref T3.length,.ref T1.length]) (zaB HU) (zax _ _) rfl al ?_
  refine zbj ?_
  have pW:Pre U (U++[Ob.lst [.ref T2.length,.ref T3.length,.ref T1.length]]):=Pre.refl.push
  refine zcY (n:=T0.length) (S1:=U++[Ob.lst [.ref T2.length,.ref T3.length,.ref T1.length]]) (o:=.lst (ps.map D.int)) (λd=>.tup [d,d]) (λK hK=>by exact hK) (pW _ _ B4) (by show (ps.map D.int).length≤1000; rw[Vac]; omega) (λx hx S2 K pr hK=>by exact hK) ?_
  have eq9:(zak (.lst (ps.map D.int))).map (λd=>D.tup [d,d])=((List.range (n+1)).map λk=>(ps.getD k 0,ps.getD k 0)).map frD:=by
   show (ps.map D.int).map _=_
   rw[Vag]
   refine(zhH (by simp[lx]) λk hk=>?_).trans (Vag ..).symm
   rw[Vae,Vaa (by omega)]
   show some (D.tup [.int ps[k],.int ps[k]])=some (frD (ps.getD k 0,ps.getD k 0))
   rw[Vaf,Vaa (by omega)]
   rfl
  rw[eq9]
  have ln9:((List.range (n+1)).map λk=>(ps.getD k 0,ps.getD k 0)).length=n+1:=by simp
  have nl9:∀p∈((List.range (n+1)).map λk=>(ps.getD k 0,ps.getD k 0)),p.1≤p.2:=λp hp=>by
   obtain⟨k,_,rfl⟩:=Vai.mp hp
   exact VaJ _
  generalize ((List.range (n+1)).map λk=>(ps.getD k 0,ps.getD k 0))=nr at good ln9 nl9 ⊢
  have hW:=zax (U++[Ob.lst [.ref T2.length,.ref T3.length,.ref T1.length]]) (.lst (nr.map frD))
  have pX:Pre U (U++[Ob.lst [.ref T2.length,.ref T3.length,.ref T1.length]]++[Ob.lst (nr.map frD)]):=pW.push
  generalize (U++[Ob.lst [.ref T2.length,.ref T3.length,.ref T1.length]]).length=mw at hW ⊢
  generalize U++[Ob.lst [.ref T2.length,.ref T3.length,.ref T1.length]]++[Ob.lst (nr.map frD)]=Y at hW pX ⊢
  have B0:=pX _ _ B0
  have B3:=pX _ _ B3
  have mB8:=mB7.pre pX
  refine⟨ns,B0,by decide,?_⟩
  have hfdX:(fd=.non∧alS g B xs rows=none)∨∃(M:List (List Int)) (near:List (Int×Int)) (m k:Nat) (ms:List D),alS g B xs rows=some (M,near)∧fd=.tup [.ref m,.ref k]∧Y[m]?=some (.lst ms)∧zdr Y ms M∧Y[k]?=some (.lst (near.map frD)):=by
   rcases hfd with z | ⟨M,near,m,k,ms,z1,z2,z3,z4,z5⟩
   ·exact .inl z
   ·exact .inr ⟨M,near,m,k,ms,z1,z2,pX _ _ z3,z4.pre pX,pX _ _ z5⟩
  clear hfd
  refine⟨n+1,B,rfl,⟨by omega,by omega⟩,lB,B3,λsr=>?_,λsr=>?_⟩
  ·refine zbj ?_
   refine⟨nr,B,hW,B3,by omega,by omega,?_⟩
   cases eD:zbR nr B
   ·refine zbL ?_
    have en:=good.2 (λz=>by rw[eD] at z; cases z.2)
    rcases hfdX with ⟨rfl,_⟩ | ⟨M,near,m,k,ms,z1,_⟩
    ·exact h _
    ·rw[en] at z1; cases z1
   refine zbj ?_
   have es:=good.1 ⟨sr,eD⟩
   rcases hfdX with ⟨rfl,e0⟩ | ⟨M,near,m,k,ms,z1,rfl,z3,z4,z5⟩
   ·rw[e0] at es; cases es
   rw[es] at z1
   cases z1
   refine zx5 ?_
   refine⟨nr,z5,by omega,nl9,?_⟩
   refine zbj ?_
   refine zrK (zaN z5 rfl) (zaN hW rfl) (znT nr) ?_
   refine zbj ?_
   obtain⟨bl9,lbl,hbl,rbl⟩:=mB8
   have bigB:∀r c:Nat,(b r c).natAbs≤729:=λr c=>by
    have z:=tr.sb r c
    have y:3^kk≤3^6:=Nat.pow_le_pow_right (by decide) k6
    omega
   refine zm2 (S1:=Y) (n:=m2) (o:=.lst (bl9.map D.ref)) (λk ys S2=>Pre Y S2∧S2[Y.length]?=some (.lst ys)∧ys.length=k∧Rows S2 (Y.length+1) ys (((List.range (n+1)).map λi=>(List.range (n+1)).map λj=>g*b i j).take k)) (λK hK=>by exact hK) hbl (λk ys S2 w=>⟨w.1 _ _ hbl,w.2.1,w.2.2.1⟩) (by show (bl9.map D.ref).length≤1000; rw[Vac]; omega) ⟨Pre.refl.push,zax _ _,rfl,by simpa using Rows.nil⟩ (λk x ys S2 K hx w hK=>?_) (λys S2 w=>?_)
   ·obtain⟨y1,y2,y3,y4⟩:=w
    have hx':(bl9.map D.ref)[k]?=some x:=hx
    have kn:k<n+1:=by have:=(Vab.mp hx').1; rw[Vac,lbl] at this; exact this
    rw[Vae] at hx'
    obtain⟨y,hy,rfl⟩:=Vam.mp hx'
    have row:=y1 _ _ (rbl k y hy)
    refine zcY (n:=y) (S1:=S2) (o:=rwI (n+1) (b k)) (λd=>match d with | .int i=>.int (g*i) | _=>.non) (λK hK=>by exact hK) row (by show (((List.range (n+1)).map (b k)).map D.int).length≤1000; simp; omega) (λx hx S3 K pr hK=>?_) ?_
    ·obtain⟨i,hi,rfl⟩:=Vai.mp (show x∈((List.range (n+1)).map (b k)).map D.int from hx)
     obtain⟨l,_,rfl⟩:=Vai.mp hi
     exact⟨zaR (m:=30) (n:=20) (Sz.of 1000000 (by omega)) (Sz.of 729 (bigB k l)),hK⟩
    have en:(zak (rwI (n+1) (b k))).map (λd=>match d with | .int i=>.int (g*i) | _=>.non)=((List.range (n+1)).map λj=>g*b k j).map D.int:=by
     show (((List.range (n+1)).map (b k)).map D.int).map _=_
     rw[Vag,Vag,Vag]
     rfl
    rw[en]
    have lt:=zbo y2
    have hr:((List.range (n+1)).map λi=>(List.range (n+1)).map λj=>g*b i j)[k]?=some ((List.range (n+1)).map λj=>g*b k j):=by rw[Vae,VaE kn]; rfl
    refine hK _ _ (zaB y2) ⟨zcU (zcm y1 _) (Vad _),zb2 (zaB y2),by simp[y3],?_⟩
    rw[zca hr]
    refine Rows.snoc (y4.keep λa o l q=>?_) (by omega) ?_
    ·exact za9 (zaB q) (by omega)
    ·exact za9 (zax _ _) (by omega)
   obtain⟨y1,y2,y3,y4⟩:=w
   have e9:((List.range (n+1)).map λi=>(List.range (n+1)).map λj=>g*b i j).take (zak (.lst (bl9.map D.ref))).length=(List.range (n+1)).map λi=>(List.range (n+1)).map λj=>g*b i j:=VaD (by show _≤(bl9.map D.ref).length; rw[Vac,Vac,List.length_range]; omega)
   rw[e9] at y4
   exact⟨ms,ys,_,y1 _ _ z3,z4.pre y1,y2,y4.toI,by simp; omega,h _⟩
  ·refine zbL ?_
   have en:=good.2 (λz=>sr z.1)
   rcases hfdX with ⟨rfl,_⟩ | ⟨M,near,m,k,ms,z1,_⟩
   ·exact h _
   ·rw[en] at z1; cases z1⟩)
end
theorem ztC {l:PySem.W.OpenLaw}{w:World}{K:PySem.W.Frag}{h:Heap}{mg:Str→Option Value}{fa:Addr}(X:K.In h)(G:h.Ns mainGlobals mg)(hfa:mg "law"=some (.ref fa))
  {zcy:Addr}(zms:PySem.W.nsIn K mainGlobals "Number"=some (some (.ref zcy)))(zjA:PySem.W.plainGet K zcy Str.empty=true)(zlx:PySem.W.hasDictIn K zcy=true)(zl0:PySem.W.plainOver K zcy=true)(zj9:PySem.W.findIn K (.ref zcy) "__setattr__"=some (some (.builtin "object.__setattr__")))(zlt:PySem.W.makesIn K zcy=true)(zl1:PySem.W.keepIn K (.ref zcy)=true)
  (zjP:PySem.W.findIn K (.ref zcy) "bottom"=some none)
  (zi9:PySem.W.findIn K (.ref zcy) "top"=some none)
  {zcB:Addr}(zkK:PySem.W.nsIn K mainGlobals "Unknown"=some (some (.ref zcB)))(zl4:PySem.W.plainGet K zcB Str.empty=true)(zma:PySem.W.hasDictIn K zcB=true)(zlL:PySem.W.plainOver K zcB=true)(zmL:PySem.W.findIn K (.ref zcB) "__setattr__"=some (some (.builtin "object.__setattr__")))(zmP:PySem.W.makesIn K zcB=true)(zi1:PySem.W.keepIn K (.ref zcB)=true)
  (zjK:PySem.W.findIn K (.ref zcB) "place"=some none)
  {zcg:Addr}(zmN:PySem.W.nsIn K mainGlobals "Plus"=some (some (.ref zcg)))(zjT:PySem.W.plainGet K zcg Str.empty=true)(zll:PySem.W.hasDictIn K zcg=true)(zmG:PySem.W.plainOver K zcg=true)(zi0:PySem.W.findIn K (.ref zcg) "__setattr__"=some (some (.builtin "object.__setattr__")))(zjM:PySem.W.makesIn K zcg=true)(zkt:PySem.W.keepIn K (.ref zcg)=true)
  (zjx:PySem.W.findIn K (.ref zcg) "other"=some none)
  (zlv:PySem.W.findIn K (.ref zcg) "one"=some none)
  {zcf:Addr}(zkz:PySem.W.nsIn K mainGlobals "Minus"=some (some (.ref zcf)))(zjr:PySem.W.plainGet K zcf Str.empty=true)(zjk:PySem.W.hasDictIn K zcf=true)(zmv:PySem.W.plainOver K zcf=true)(ziT:PySem.W.findIn K (.ref zcf) "__setattr__"=some (some (.builtin "object.__setattr__")))(zlu:PySem.W.makesIn K zcf=true)(zkN:PySem.W.keepIn K (.ref zcf)=true)
  (zlR:PySem.W.findIn K (.ref zcf) "other"=some none)
  (zmt:PySem.W.findIn K (.ref zcf) "one"=some none)
  {zcj:Addr}(zj7:PySem.W.nsIn K mainGlobals "Times"=some (some (.ref zcj)))(zkX:PySem.W.plainGet K zcj Str.empty=true)(zjY:PySem.W.hasDictIn K zcj=true)(zkA:PySem.W.plainOver K zcj=true)(ziY:PySem.W.findIn K (.ref zcj) "__setattr__"=some (some (.builtin "object.__setattr__")))(zkT:PySem.W.makesIn K zcj=true)(zk0:PySem.W.keepIn K (.ref zcj)=true)
  (zlf:PySem.W.findIn K (.ref zcj) "other"=some none)
  (zlJ:PySem.W.findIn K (.ref zcj) "one"=some none)
  {zcs:Addr}(zjz:PySem.W.nsIn K mainGlobals "Power"=some (some (.ref zcs)))(zkS:PySem.W.plainGet K zcs Str.empty=true)(zkm:PySem.W.hasDictIn K zcs=true)(zl8:PySem.W.plainOver K zcs=true)(zjS:PySem.W.findIn K (.ref zcs) "__setattr__"=some (some (.builtin "object.__setattr__")))(zlY:PySem.W.makesIn K zcs=true)(zkH:PySem.W.keepIn K (.ref zcs)=true)
  (zlb:PySem.W.findIn K (.ref zcs) "many"=some none)
  (zki:PySem.W.findIn K (.ref zcs) "one"=some none)
  {f0 h0:Addr}{m0:Value}(a0:nsA K "_law_grid" f0)(l0:lkA K f0 "_law_grid" "_law_grid" zlC m0 h0)(c0:cdA K h0 "_law_grid")
  {f1 h1:Addr}{m1:Value}(a1:nsA K "_law_turned" f1)(l1:lkA K f1 "_law_turned" "_law_turned" zdQ m1 h1)(c1:cdA K h1 "_law_turned")
  {f2 h2:Addr}{m2:Value}(a2:nsA K "_law_changed" f2)(l2:lkA K f2 "_law_changed" "_law_changed" zlm m2 h2)(c2:cdA K h2 "_law_changed")
  {f3 h3:Addr}{m3:Value}(a3:nsA K "equation_places" f3)(l3:lkA K f3 "equation_places" "equation_places" zg1 m3 h3)(c3:cdA K h3 "equation_places")
  {f4 h4:Addr}{m4:Value}(a4:nsA K "picked" f4)(l4:lkA K f4 "picked" "picked" zga m4 h4)(c4:cdA K h4 "picked")
  {f5 h5:Addr}{m5:Value}(a5:nsA K "less" f5)(l5:lkA K f5 "less" "less" zlP m5 h5)(c5:cdA K h5 "less")
  {f6 h6:Addr}{m6:Value}(a6:nsA K "rounded_up" f6)(l6:lkA K f6 "rounded_up" "rounded_up" zln m6 h6)(c6:cdA K h6 "rounded_up")
  {f7 h7:Addr}{m7:Value}(a7:nsA K "span_of" f7)(l7:lkA K f7 "span_of" "span_of" zjC m7 h7)(c7:cdA K h7 "span_of")
  {f8 h8:Addr}{m8:Value}(a8:fdA K zcy "forth" f8)(l8:lkA K f8 "forth" "Number.forth" zj1 m8 h8)(c8:cdA K h8 "Number.forth")
  {f9 h9:Addr}{m9:Value}(a9:fdA K zcB "forth" f9)(l9:lkA K f9 "forth" "Unknown.forth" zkk m9 h9)(c9:cdA K h9 "Unknown.forth")
  {f10 h10:Addr}{m10:Value}(a10:nsA K "add_spans" f10)(l10:lkA K f10 "add_spans" "add_spans" zmB m10 h10)(c10:cdA K h10 "add_spans")
  {f11 h11:Addr}{m11:Value}(a11:fdA K zcg "forth" f11)(l11:lkA K f11 "forth" "Plus.forth" zjI m11 h11)(c11:cdA K h11 "Plus.forth")
  {f12 h12:Addr}{m12:Value}(a12:nsA K "take_spans" f12)(l12:lkA K f12 "take_spans" "take_spans" zi4 m12 h12)(c12:cdA K h12 "take_spans")
  {f13 h13:Addr}{m13:Value}(a13:fdA K zcf "forth" f13)(l13:lkA K f13 "forth" "Minus.forth" zkZ m13 h13)(c13:cdA K h13 "Minus.forth")
  {f14 h14:Addr}{m14:Value}(a14:nsA K "mul_spans" f14)(l14:lkA K f14 "mul_spans" "mul_spans" zmw m14 h14)(c14:cdA K h14 "mul_spans")
  {f15 h15:Addr}{m15:Value}(a15:fdA K zcj "forth" f15)(l15:lkA K f15 "forth" "Times.forth" zkc m15 h15)(c15:cdA K h15 "Times.forth")
  {f16 h16:Addr}{m16:Value}(a16:nsA K "raised" f16)(l16:lkA K f16 "raised" "raised" ziU m16 h16)(c16:cdA K h16 "raised")
  {f17 h17:Addr}{m17:Value}(a17:nsA K "raise_span" f17)(l17:lkA K f17 "raise_span" "raise_span" zgT m17 h17)(c17:cdA K h17 "raise_span")
  {f18 h18:Addr}{m18:Value}(a18:fdA K zcs "forth" f18)(l18:lkA K f18 "forth" "Power.forth" zjj m18 h18)(c18:cdA K h18 "Power.forth")
  {f19 h19:Addr}{m19:Value}(a19:fdA K zcs "__init__" f19)(l19:lkA K f19 "__init__" "Power.__init__" zmC m19 h19)(c19:cdA K h19 "Power.__init__")
  {f20 h20:Addr}{m20:Value}(a20:fdA K zcy "__init__" f20)(l20:lkA K f20 "__init__" "Number.__init__" zk3 m20 h20)(c20:cdA K h20 "Number.__init__")
  {f21 h21:Addr}{m21:Value}(a21:fdA K zcB "__init__" f21)(l21:lkA K f21 "__init__" "Unknown.__init__" zlU m21 h21)(c21:cdA K h21 "Unknown.__init__")
  {f22 h22:Addr}{m22:Value}(a22:fdA K zcg "__init__" f22)(l22:lkA K f22 "__init__" "Pair.__init__" zld m22 h22)(c22:cdA K h22 "Pair.__init__")
  {f23 h23:Addr}{m23:Value}(a23:fdA K zcf "__init__" f23)(l23:lkA K f23 "__init__" "Pair.__init__" zjB m23 h23)(c23:cdA K h23 "Pair.__init__")
  {f24 h24:Addr}{m24:Value}(a24:fdA K zcj "__init__" f24)(l24:lkA K f24 "__init__" "Pair.__init__" zmf m24 h24)(c24:cdA K h24 "Pair.__init__")
  {f25 h25:Addr}{m25:Value}(a25:nsA K "kind_of" f25)(l25:lkA K f25 "kind_of" "kind_of" zks m25 h25)(c25:cdA K h25 "kind_of")
  {f26 h26:Addr}{m26:Value}(a26:nsA K "worths" f26)(l26:lkA K f26 "worths" "worths" zmy m26 h26)(c26:cdA K h26 "worths")
  {f27 h27:Addr}{m27:Value}(a27:fdA K zcy "slope" f27)(l27:lkA K f27 "slope" "Number.slope" zl6 m27 h27)(c27:cdA K h27 "Number.slope")
  {f28 h28:Addr}{m28:Value}(a28:fdA K zcB "slope" f28)(l28:lkA K f28 "slope" "Unknown.slope" zio m28 h28)(c28:cdA K h28 "Unknown.slope")
  {f29 h29:Addr}{m29:Value}(a29:fdA K zcg "slope_of_both" f29)(l29:lkA K f29 "slope_of_both" "Plus.slope_of_both" zkD m29 h29)(c29:cdA K h29 "Plus.slope_of_both")
  {f30 h30:Addr}{m30:Value}(a30:fdA K zcg "slope" f30)(l30:lkA K f30 "slope" "Pair.slope" zgv m30 h30)(c30:cdA K h30 "Pair.slope")
  {f31 h31:Addr}{m31:Value}(a31:fdA K zcf "slope_of_both" f31)(l31:lkA K f31 "slope_of_both" "Minus.slope_of_both" zku m31 h31)(c31:cdA K h31 "Minus.slope_of_both")
  {f32 h32:Addr}{m32:Value}(a32:fdA K zcf "slope" f32)(l32:lkA K f32 "slope" "Pair.slope" zgH m32 h32)(c32:cdA K h32 "Pair.slope")
  {f33 h33:Addr}{m33:Value}(a33:fdA K zcj "slope_of_both" f33)(l33:lkA K f33 "slope_of_both" "Times.slope_of_both" zmH m33 h33)(c33:cdA K h33 "Times.slope_of_both")
  {f34 h34:Addr}{m34:Value}(a34:fdA K zcj "slope" f34)(l34:lkA K f34 "slope" "Pair.slope" zhq m34 h34)(c34:cdA K h34 "Pair.slope")
  {f35 h35:Addr}{m35:Value}(a35:nsA K "scale_span" f35)(l35:lkA K f35 "scale_span" "scale_span" zjg m35 h35)(c35:cdA K h35 "scale_span")
  {f36 h36:Addr}{m36:Value}(a36:fdA K zcs "slope" f36)(l36:lkA K f36 "slope" "Power.slope" zgu m36 h36)(c36:cdA K h36 "Power.slope")
  {f37 h37:Addr}{m37:Value}(a37:nsA K "slopes" f37)(l37:lkA K f37 "slopes" "slopes" zmc m37 h37)(c37:cdA K h37 "slopes")
  {f38 h38:Addr}{m38:Value}(a38:nsA K "slopes_at" f38)(l38:lkA K f38 "slopes_at" "slopes_at" zk1 m38 h38)(c38:cdA K h38 "slopes_at")
  {f39 h39:Addr}{m39:Value}(a39:nsA K "signed" f39)(l39:lkA K f39 "signed" "signed" zkr m39 h39)(c39:cdA K h39 "signed")
  {f40 h40:Addr}{m40:Value}(a40:nsA K "without" f40)(l40:lkA K f40 "without" "without" ziF m40 h40)(c40:cdA K h40 "without")
  {f41 h41:Addr}{m41:Value}(a41:nsA K "cofactor" f41)(l41:lkA K f41 "cofactor" "cofactor" zeD m41 h41)(c41:cdA K h41 "cofactor")
  {f42 h42:Addr}{m42:Value}(a42:nsA K "determinant" f42)(l42:lkA K f42 "determinant" "determinant" zcq m42 h42)(c42:cdA K h42 "determinant")
  {f43 h43:Addr}{m43:Value}(a43:nsA K "inverse_entry" f43)(l43:lkA K f43 "inverse_entry" "inverse_entry" zmI m43 h43)(c43:cdA K h43 "inverse_entry")
  {f44 h44:Addr}{m44:Value}(a44:nsA K "inverse_row" f44)(l44:lkA K f44 "inverse_row" "inverse_row" zg8 m44 h44)(c44:cdA K h44 "inverse_row")
  {f45 h45:Addr}{m45:Value}(a45:nsA K "inverse" f45)(l45:lkA K f45 "inverse" "inverse" ziE m45 h45)(c45:cdA K h45 "inverse")
  {f46 h46:Addr}{m46:Value}(a46:nsA K "middle" f46)(l46:lkA K f46 "middle" "middle" zj3 m46 h46)(c46:cdA K h46 "middle")
  {f47 h47:Addr}{m47:Value}(a47:nsA K "middles" f47)(l47:lkA K f47 "middles" "middles" zgU m47 h47)(c47:cdA K h47 "middles")
  {f48 h48:Addr}{m48:Value}(a48:nsA K "box_of_middles" f48)(l48:lkA K f48 "box_of_middles" "box_of_middles" zih m48 h48)(c48:cdA K h48 "box_of_middles")
  {f49 h49:Addr}{m49:Value}(a49:nsA K "sum_of_products" f49)(l49:lkA K f49 "sum_of_products" "sum_of_products" zkO m49 h49)(c49:cdA K h49 "sum_of_products")
  {f50 h50:Addr}{m50:Value}(a50:nsA K "lacking" f50)(l50:lkA K f50 "lacking" "lacking" zhW m50 h50)(c50:cdA K h50 "lacking")
  {f51 h51:Addr}{m51:Value}(a51:nsA K "span_by" f51)(l51:lkA K f51 "span_by" "span_by" zeG m51 h51)(c51:cdA K h51 "span_by")
  {f52 h52:Addr}{m52:Value}(a52:nsA K "step_by" f52)(l52:lkA K f52 "step_by" "step_by" zgl m52 h52)(c52:cdA K h52 "step_by")
  {f53 h53:Addr}{m53:Value}(a53:nsA K "thin_worths" f53)(l53:lkA K f53 "thin_worths" "thin_worths" zlQ m53 h53)(c53:cdA K h53 "thin_worths")
  {f54 h54:Addr}{m54:Value}(a54:nsA K "deep" f54)(l54:lkA K f54 "deep" "deep" zi7 m54 h54)(c54:cdA K h54 "deep")
  {f55 h55:Addr}{m55:Value}(a55:nsA K "all_deep" f55)(l55:lkA K f55 "all_deep" "all_deep" zgB m55 h55)(c55:cdA K h55 "all_deep")
  {f56 h56:Addr}{m56:Value}(a56:nsA K "sure" f56)(l56:lkA K f56 "sure" "sure" zlF m56 h56)(c56:cdA K h56 "sure")
  {f57 h57:Addr}{m57:Value}(a57:nsA K "leasts_are_sure" f57)(l57:lkA K f57 "leasts_are_sure" "leasts_are_sure" zg5 m57 h57)(c57:cdA K h57 "leasts_are_sure")
  {f58 h58:Addr}{m58:Value}(a58:nsA K "alone" f58)(l58:lkA K f58 "alone" "alone" zgk m58 h58)(c58:cdA K h58 "alone")
  {f59 h59:Addr}{m59:Value}(a59:nsA K "_law_whole" f59)(l59:lkA K f59 "_law_whole" "_law_whole" zli m59 h59)(c59:cdA K h59 "_law_whole")
  {f60 h60:Addr}{m60:Value}(a60:nsA K "_law_matrix" f60)(l60:lkA K f60 "_law_matrix" "_law_matrix" zmK m60 h60)(c60:cdA K h60 "_law_matrix")
  {f61 h61:Addr}{m61:Value}(a61:nsA K "_law_cell" f61)(l61:lkA K f61 "_law_cell" "_law_cell" zmp m61 h61)(c61:cdA K h61 "_law_cell")
  {f62 h62:Addr}{m62:Value}(a62:nsA K "_law_place" f62)(l62:lkA K f62 "_law_place" "_law_place" zjo m62 h62)(c62:cdA K h62 "_law_place")
  {f63 h63:Addr}{m63:Value}(a63:nsA K "_law_at" f63)(l63:lkA K f63 "_law_at" "_law_at" zl3 m63 h63)(c63:cdA K h63 "_law_at")
  {f64 h64:Addr}{m64:Value}(a64:nsA K "_law_sum" f64)(l64:lkA K f64 "_law_sum" "_law_sum" zmb m64 h64)(c64:cdA K h64 "_law_sum")
  {f65 h65:Addr}{m65:Value}(a65:nsA K "_law_linear" f65)(l65:lkA K f65 "_law_linear" "_law_linear" ziR m65 h65)(c65:cdA K h65 "_law_linear")
  {f66 h66:Addr}{m66:Value}(a66:nsA K "_law_lowest" f66)(l66:lkA K f66 "_law_lowest" "_law_lowest" zlI m66 h66)(c66:cdA K h66 "_law_lowest")
  {f67 h67:Addr}{m67:Value}(a67:nsA K "_law_around" f67)(l67:lkA K f67 "_law_around" "_law_around" zlX m67 h67)(c67:cdA K h67 "_law_around")
  {f68 h68:Addr}{m68:Value}(a68:nsA K "_law_sure" f68)(l68:lkA K f68 "_law_sure" "_law_sure" zkY m68 h68)(c68:cdA K h68 "_law_sure")
  {f69 h69:Addr}{m69:Value}(a69:nsA K "_law_deep" f69)(l69:lkA K f69 "_law_deep" "_law_deep" zjD m69 h69)(c69:cdA K h69 "_law_deep")
  {f70 h70:Addr}{m70:Value}(a70:nsA K "_law_span" f70)(l70:lkA K f70 "_law_span" "_law_span" zlk m70 h70)(c70:cdA K h70 "_law_span")
  {f71 h71:Addr}{m71:Value}(a71:nsA K "_law_spans" f71)(l71:lkA K f71 "_law_spans" "_law_spans" zkC m71 h71)(c71:cdA K h71 "_law_spans")
  {f72 h72:Addr}{m72:Value}(a72:nsA K "law" f72)(l72:lkA K f72 "law" "law" zcw m72 h72)(c72:cdA K h72 "law")
  (zaQ:PySem.W.nsIn K mainGlobals "range"=some none)
  (zcL:PySem.W.nsIn K mainGlobals "int"=some none)
  (zbE:PySem.W.nsIn K mainGlobals "max"=some none)
  (zck:PySem.W.nsIn K mainGlobals "min"=some none)
  (zbg:PySem.W.nsIn K mainGlobals "zip"=some none)
  (zaD:PySem.W.nsIn K mainGlobals "len"=some none)
  (zbd:PySem.W.nsIn K mainGlobals "sum"=some none)
  (zbf:PySem.W.nsIn K mainGlobals "enumerate"=some none)
  (zcM:PySem.W.nsIn K mainGlobals "all"=some none)
  (zbp:PySem.W.nsIn K mainGlobals "isinstance"=some none)
  (zdO:PySem.W.nsIn K mainGlobals "bool"=some none)
  (zbH:PySem.W.nsIn K mainGlobals "list"=some none)
  (zdW:PySem.W.nsIn K mainGlobals "abs"=some none)
  (zcR:PySem.W.nsIn K mainGlobals "tuple"=some none)
  (zf2:Kit K "bool")
  (zf8:Kit K "int")
  (zdB:Kit K "tuple")
  :∃fd:FuncData,(∀(s:Shared) (v:Value),BindsTo s fd ⟨[v],[]⟩ [("_law_script",v)])∧∀base:Heap,K.In base→base.Ns mainGlobals mg→za5 l.prog w K mg base (CXE l.prog w) 13 fa fd ["_law_script"] (upF K zfh):=by
 have e:=hfa.symm.trans (PySem.W.mg_of X G a72)
 cases e
 let zaj:zbG K mg:=⟨zcy,PySem.W.mg_of X G zms,⟨zjA,zlx,zl0,zj9⟩,zjP,zi9,zlt,zl1⟩
 let zal:zbQ K mg:=⟨zcB,PySem.W.mg_of X G zkK,⟨zl4,zma,zlL,zmL⟩,zjK,zmP,zi1⟩
 let zae:zbC K mg:=⟨zcg,PySem.W.mg_of X G zmN,⟨zjT,zll,zmG,zi0⟩,zjx,zlv,zjM,zkt⟩
 let zaf:zbB K mg:=⟨zcf,PySem.W.mg_of X G zkz,⟨zjr,zjk,zmv,ziT⟩,zlR,zmt,zlu,zkN⟩
 let zag:zbD K mg:=⟨zcj,PySem.W.mg_of X G zj7,⟨zkX,zjY,zkA,ziY⟩,zlf,zlJ,zkT,zk0⟩
 let zai:zbJ K mg:=⟨zcs,PySem.W.mg_of X G zjz,⟨zkS,zkm,zl8,zjS⟩,zlb,zki,zlY,zkH⟩
 let zlr:Df K mg "_law_grid" zlC zgr:=dfo X G a0 l0 c0 λ_ _ _ _ _ _=>ln1 λ_=>rfl
 let zkd:Df K mg "_law_turned" zdQ zgq:=dfo X G a1 l1 c1 λ_ _ _ _ _ _=>ln2 λ_ _=>rfl
 let zjG:Df K mg "_law_changed" zlm zic:=dfo X G a2 l2 c2 λ_ _ _ _ _ _=>ln3 λ_ _ _=>rfl
 let zkh:Df K mg "equation_places" zg1 zhY:=dfo X G a3 l3 c3 λ_ _ _ _ _ _=>ln1 λ_=>rfl
 let zk5:Df K mg "picked" zga zfr:=dfo X G a4 l4 c4 λ_ _ _ _ _ _=>ln2 λ_ _=>rfl
 let zjm:Df K mg "less" zlP ziL:=dfo X G a5 l5 c5 λ_ _ _ _ _ _=>ln2 λ_ _=>rfl
 let zjd:Df K mg "rounded_up" zln zej:=dfo X G a6 l6 c6 λ_ _ _ _ _ _=>ln2 λ_ _=>rfl
 let zlH:Df K mg "span_of" zjC zhp:=dfo X G a7 l7 c7 λ_ _ _ _ _ _=>ln3 λ_ _ _=>rfl
 let zmz:Dm K zaj.C "forth" "Number.forth" zj1 ziy:=dmo a8 l8 c8 λ_ _ _ _ _ _=>ln4 λ_ _ _ _=>rfl
 let zjq:Dm K zal.C "forth" "Unknown.forth" zkk zgK:=dmo a9 l9 c9 λ_ _ _ _ _ _=>ln4 λ_ _ _ _=>rfl
 let zkn:Df K mg "add_spans" zmB zdE:=dfo X G a10 l10 c10 λ_ _ _ _ _ _=>ln2 λ_ _=>rfl
 let zkg:Dm K zae.C "forth" "Plus.forth" zjI zgj:=dmo a11 l11 c11 λ_ _ _ _ _ _=>ln4 λ_ _ _ _=>rfl
 let zlB:Df K mg "take_spans" zi4 zdX:=dfo X G a12 l12 c12 λ_ _ _ _ _ _=>ln2 λ_ _=>rfl
 let zjQ:Dm K zaf.C "forth" "Minus.forth" zkZ zgN:=dmo a13 l13 c13 λ_ _ _ _ _ _=>ln4 λ_ _ _ _=>rfl
 let zi8:Df K mg "mul_spans" zmw zdU:=dfo X G a14 l14 c14 λ_ _ _ _ _ _=>ln3 λ_ _ _=>rfl
 let zlq:Dm K zag.C "forth" "Times.forth" zkc zit:=dmo a15 l15 c15 λ_ _ _ _ _ _=>ln4 λ_ _ _ _=>rfl
 let zmF:Df K mg "raised" ziU zha:=dfo X G a16 l16 c16 λ_ _ _ _ _ _=>ln2 λ_ _=>rfl
 let zme:Df K mg "raise_span" zgT zfy:=dfo X G a17 l17 c17 λ_ _ _ _ _ _=>ln3 λ_ _ _=>rfl
 let zkj:Dm K zai.C "forth" "Power.forth" zjj zhv:=dmo a18 l18 c18 λ_ _ _ _ _ _=>ln4 λ_ _ _ _=>rfl
 let zjf:Dm K zai.C "__init__" "Power.__init__" zmC zhi:=dmo a19 l19 c19 λ_ _ _ _ _ _=>ln3 λ_ _ _=>rfl
 let zj4:Dm K zaj.C "__init__" "Number.__init__" zk3 zhd:=dmo a20 l20 c20 λ_ _ _ _ _ _=>ln3 λ_ _ _=>rfl
 let zjN:Dm K zal.C "__init__" "Unknown.__init__" zlU zhK:=dmo a21 l21 c21 λ_ _ _ _ _ _=>ln2 λ_ _=>rfl
 let zmq:Dm K zae.C "__init__" "Pair.__init__" zld zgW:=dmo a22 l22 c22 λ_ _ _ _ _ _=>ln3 λ_ _ _=>rfl
 let zkR:Dm K zaf.C "__init__" "Pair.__init__" zjB zhZ:=dmo a23 l23 c23 λ_ _ _ _ _ _=>ln3 λ_ _ _=>rfl
 let zkQ:Dm K zag.C "__init__" "Pair.__init__" zmf ziJ:=dmo a24 l24 c24 λ_ _ _ _ _ _=>ln3 λ_ _ _=>rfl
 let zmM:Df K mg "kind_of" zks zfE:=dfo X G a25 l25 c25 λ_ _ _ _ _ _=>ln1 λ_=>rfl
 let ziN:Df K mg "worths" zmy zei:=dfo X G a26 l26 c26 λ_ _ _ _ _ _=>ln3 λ_ _ _=>rfl
 let zls:Dm K zaj.C "slope" "Number.slope" zl6 zgm:=dmo a27 l27 c27 λ_ _ _ _ _ _=>ln5 λ_ _ _ _ _=>rfl
 let zkV:Dm K zal.C "slope" "Unknown.slope" zio zh8:=dmo a28 l28 c28 λ_ _ _ _ _ _=>ln5 λ_ _ _ _ _=>rfl
 let zmr:Dm K zae.C "slope_of_both" "Plus.slope_of_both" zkD zg3:=dmo a29 l29 c29 λ_ _ _ _ _ _=>ln6 λ_ _ _ _ _ _=>rfl
 let zmo:Dm K zae.C "slope" "Pair.slope" zgv zgi:=dmo a30 l30 c30 λ_ _ _ _ _ _=>ln5 λ_ _ _ _ _=>rfl
 let zjE:Dm K zaf.C "slope_of_both" "Minus.slope_of_both" zku zgS:=dmo a31 l31 c31 λ_ _ _ _ _ _=>ln6 λ_ _ _ _ _ _=>rfl
 let zk6:Dm K zaf.C "slope" "Pair.slope" zgH ziu:=dmo a32 l32 c32 λ_ _ _ _ _ _=>ln5 λ_ _ _ _ _=>rfl
 let zkJ:Dm K zag.C "slope_of_both" "Times.slope_of_both" zmH zh1:=dmo a33 l33 c33 λ_ _ _ _ _ _=>ln6 λ_ _ _ _ _ _=>rfl
 let zlE:Dm K zag.C "slope" "Pair.slope" zhq zgP:=dmo a34 l34 c34 λ_ _ _ _ _ _=>ln5 λ_ _ _ _ _=>rfl
 let zky:Df K mg "scale_span" zjg zid:=dfo X G a35 l35 c35 λ_ _ _ _ _ _=>ln2 λ_ _=>rfl
 let zjL:Dm K zai.C "slope" "Power.slope" zgu zgZ:=dmo a36 l36 c36 λ_ _ _ _ _ _=>ln5 λ_ _ _ _ _=>rfl
 let zi6:Df K mg "slopes" zmc zhl:=dfo X G a37 l37 c37 λ_ _ _ _ _ _=>ln3 λ_ _ _=>rfl
 let zl9:Df K mg "slopes_at" zk1 ziw:=dfo X G a38 l38 c38 λ_ _ _ _ _ _=>ln4 λ_ _ _ _=>rfl
 let zjO:Df K mg "signed" zkr zeb:=dfo X G a39 l39 c39 λ_ _ _ _ _ _=>ln2 λ_ _=>rfl
 let zl2:Df K mg "without" ziF zdT:=dfo X G a40 l40 c40 λ_ _ _ _ _ _=>ln3 λ_ _ _=>rfl
 let zbM:Df K mg "cofactor" zeD zbT:=dfo X G a41 l41 c41 λ_ _ _ _ _ _=>ln3 λ_ _ _=>rfl
 let zbs:Df K mg "determinant" zcq zbN:=dfo X G a42 l42 c42 λ_ _ _ _ _ _=>ln1 λ_=>rfl
 let zj0:Df K mg "inverse_entry" zmI zh7:=dfo X G a43 l43 c43 λ_ _ _ _ _ _=>ln5 λ_ _ _ _ _=>rfl
 let zkF:Df K mg "inverse_row" zg8 zig:=dfo X G a44 l44 c44 λ_ _ _ _ _ _=>ln4 λ_ _ _ _=>rfl
 let zjb:Df K mg "inverse" ziE zgM:=dfo X G a45 l45 c45 λ_ _ _ _ _ _=>ln2 λ_ _=>rfl
 let zjp:Df K mg "middle" zj3 zho:=dfo X G a46 l46 c46 λ_ _ _ _ _ _=>ln1 λ_=>rfl
 let zlc:Df K mg "middles" zgU zfM:=dfo X G a47 l47 c47 λ_ _ _ _ _ _=>ln1 λ_=>rfl
 let zk4:Df K mg "box_of_middles" zih zeX:=dfo X G a48 l48 c48 λ_ _ _ _ _ _=>ln1 λ_=>rfl
 let zly:Df K mg "sum_of_products" zkO zeU:=dfo X G a49 l49 c49 λ_ _ _ _ _ _=>ln3 λ_ _ _=>rfl
 let zmi:Df K mg "lacking" zhW zh9:=dfo X G a50 l50 c50 λ_ _ _ _ _ _=>ln5 λ_ _ _ _ _=>rfl
 let ziP:Df K mg "span_by" zeG zix:=dfo X G a51 l51 c51 λ_ _ _ _ _ _=>ln6 λ_ _ _ _ _ _=>rfl
 let zmA:Df K mg "step_by" zgl zh6:=dfo X G a52 l52 c52 λ_ _ _ _ _ _=>ln5 λ_ _ _ _ _=>rfl
 let zkx:Df K mg "thin_worths" zlQ zhF:=dfo X G a53 l53 c53 λ_ _ _ _ _ _=>ln4 λ_ _ _ _=>rfl
 let zmg:Df K mg "deep" zi7 zgY:=dfo X G a54 l54 c54 λ_ _ _ _ _ _=>ln2 λ_ _=>rfl
 let zlM:Df K mg "all_deep" zgB zgQ:=dfo X G a55 l55 c55 λ_ _ _ _ _ _=>ln2 λ_ _=>rfl
 let zjX:Df K mg "sure" zlF zhG:=dfo X G a56 l56 c56 λ_ _ _ _ _ _=>ln2 λ_ _=>rfl
 let ziW:Df K mg "leasts_are_sure" zg5 zhm:=dfo X G a57 l57 c57 λ_ _ _ _ _ _=>ln2 λ_ _=>rfl
 let zkG:Df K mg "alone" zgk zis:=dfo X G a58 l58 c58 λ_ _ _ _ _ _=>ln4 λ_ _ _ _=>rfl
 let zj6:Df K mg "_law_whole" zli zfH:=dfo X G a59 l59 c59 λ_ _ _ _ _ _=>ln1 λ_=>rfl
 let zmd:Df K mg "_law_matrix" zmK zg2:=dfo X G a60 l60 c60 λ_ _ _ _ _ _=>ln2 λ_ _=>rfl
 let zjv:Df K mg "_law_cell" zmp ziq:=dfo X G a61 l61 c61 λ_ _ _ _ _ _=>ln2 λ_ _=>rfl
 let zi5:Df K mg "_law_place" zjo ziD:=dfo X G a62 l62 c62 λ_ _ _ _ _ _=>ln1 λ_=>rfl
 let zkE:Df K mg "_law_at" zl3 zey:=dfo X G a63 l63 c63 λ_ _ _ _ _ _=>ln2 λ_ _=>rfl
 let zjl:Df K mg "_law_sum" zmb zht:=dfo X G a64 l64 c64 λ_ _ _ _ _ _=>ln2 λ_ _=>rfl
 let zk8:Df K mg "_law_linear" ziR zhk:=dfo X G a65 l65 c65 λ_ _ _ _ _ _=>ln3 λ_ _ _=>rfl
 let ziZ:Df K mg "_law_lowest" zlI zim:=dfo X G a66 l66 c66 λ_ _ _ _ _ _=>ln2 λ_ _=>rfl
 let zkW:Df K mg "_law_around" zlX zgR:=dfo X G a67 l67 c67 λ_ _ _ _ _ _=>ln3 λ_ _ _=>rfl
 let zi3:Df K mg "_law_sure" zkY zhh:=dfo X G a68 l68 c68 λ_ _ _ _ _ _=>ln4 λ_ _ _ _=>rfl
 let zmn:Df K mg "_law_deep" zjD ziM:=dfo X G a69 l69 c69 λ_ _ _ _ _ _=>ln2 λ_ _=>rfl
 let zjR:Df K mg "_law_span" zlk zh2:=dfo X G a70 l70 c70 λ_ _ _ _ _ _=>ln1 λ_=>rfl
 let zjJ:Df K mg "_law_spans" zkC zhO:=dfo X G a71 l71 c71 λ_ _ _ _ _ _=>ln2 λ_ _=>rfl
 let zkB:Df K mg "law" zcw zji:=dfo X G a72 l72 c72 λ_ _ _ _ _ _=>ln1 λ_=>rfl
 have zaQ:=PySem.W.mg_none_of X G zaQ
 have zcL:=PySem.W.mg_none_of X G zcL
 have zbE:=PySem.W.mg_none_of X G zbE
 have zck:=PySem.W.mg_none_of X G zck
 have zbg:=PySem.W.mg_none_of X G zbg
 have zaD:=PySem.W.mg_none_of X G zaD
 have zbd:=PySem.W.mg_none_of X G zbd
 have zbf:=PySem.W.mg_none_of X G zbf
 have zcM:=PySem.W.mg_none_of X G zcM
 have zbp:=PySem.W.mg_none_of X G zbp
 have zdO:=PySem.W.mg_none_of X G zdO
 have zbH:=PySem.W.mg_none_of X G zbH
 have zdW:=PySem.W.mg_none_of X G zdW
 have zcR:=PySem.W.mg_none_of X G zcR
 refine⟨PySem.W.fnOf "law" "law" (zeh zcw) (zdv zcw) (zam zcw) .none .none .none m72 none (.ref h72) .none,λs v=>.of_eq rfl,λbase _ _=>?_⟩
 let zoE:=zwD (P:=l.prog) (w:=w) (base:=base) zlr
 let zoP:=zuo (P:=l.prog) (w:=w) (base:=base) zkd zaQ zcL
 let zoj:=zry (P:=l.prog) (w:=w) (base:=base) zjG
 let znS:=zuW (P:=l.prog) (w:=w) (base:=base) zkh
 let zfb:=zxK (P:=l.prog) (w:=w) (base:=base) zk5
 let znu:=zvw (P:=l.prog) (w:=w) (base:=base) zjm
 let zdw:=zu3 (P:=l.prog) (w:=w) (base:=base) zjd
 let znC:=zuu (P:=l.prog) (w:=w) (base:=base) zlH zdw znu
 let zoC:=zw0 (P:=l.prog) (w:=w) (base:=base) zaj zal zae zaf zag zai zmz znC
 let zni:=zvi (P:=l.prog) (w:=w) (base:=base) zal zaj zae zaf zag zai zjq
 let zb5:=zuL (P:=l.prog) (w:=w) (base:=base) zkn
 let znW:=zyH (P:=l.prog) (w:=w) (base:=base) zae zaj zal zaf zag zai zkg zb5
 let zcx:=zsF (P:=l.prog) (w:=w) (base:=base) zlB
 let znh:=zxf (P:=l.prog) (w:=w) (base:=base) zaf zaj zal zae zag zai zjQ zcx
 let zcr:=zub (P:=l.prog) (w:=w) (base:=base) zi8 zdw zbE zck
 let zng:=zwg (P:=l.prog) (w:=w) (base:=base) zag zaj zal zae zaf zai zlq zcr
 let zjU:=zrN (P:=l.prog) (w:=w) (base:=base) zmF zaQ
 let zfm:=zxp (P:=l.prog) (w:=w) (base:=base) zme zdw zjU zbE zck
 let zoo:=zwS (P:=l.prog) (w:=w) (base:=base) zai zaj zal zae zaf zag zkj zfm
 let zfg:=ztj (P:=l.prog) (w:=w) (base:=base) zai zjf
 let zfL:=ztz (P:=l.prog) (w:=w) (base:=base) zaj zj4
 let zfc:=zuf (P:=l.prog) (w:=w) (base:=base) zal zjN
 let zeR:=zwX (P:=l.prog) (w:=w) (base:=base) zae zmq
 let zfn:=zsL (P:=l.prog) (w:=w) (base:=base) zaf zkR
 let zfa:=zug (P:=l.prog) (w:=w) (base:=base) zag zkQ
 let zf4:=zu9 (P:=l.prog) (w:=w) (base:=base) zai zag zaf zae zal zaj zmM zfg zfa zfn zeR zfc zfL
 let zdx:=zvx (P:=l.prog) (w:=w) (base:=base) zai zag zaf zae zal zaj ziN zoo zng znh znW zni zoC zf4
 let zm1:=zxY (P:=l.prog) (w:=w) (base:=base) zaj zal zae zaf zag zai zls
 let znK:=zxj (P:=l.prog) (w:=w) (base:=base) zal zaj zae zaf zag zai zkV zaQ
 let zhf:=zu4 (P:=l.prog) (w:=w) (base:=base) zae zmr zb5
 let zoH:=zvg (P:=l.prog) (w:=w) (base:=base) zae zaj zal zaf zag zai zmo zhf zbg
 let zhT:=zws (P:=l.prog) (w:=w) (base:=base) zaf zjE zcx
 let znU:=zwl (P:=l.prog) (w:=w) (base:=base) zaf zaj zal zae zag zai zk6 zhT zbg
 let zg0:=zsq (P:=l.prog) (w:=w) (base:=base) zag zkJ zb5 zcr
 let znA:=zr1 (P:=l.prog) (w:=w) (base:=base) zag zaj zal zae zaf zai zlE zg0 zbg
 let zoK:=zvY (P:=l.prog) (w:=w) (base:=base) zky zbE zck
 let zmR:=zs6 (P:=l.prog) (w:=w) (base:=base) zai zaj zal zae zaf zag zjL zcr zoK zfm
 let zod:=ztq (P:=l.prog) (w:=w) (base:=base) zai zag zaf zae zal zaj zi6 zmR znA znU zoH znK zm1 zf4 zdx zaD
 let znw:=ztl (P:=l.prog) (w:=w) (base:=base) zl9 zfb zod
 let zcA:=zsb (P:=l.prog) (w:=w) (base:=base) zjO
 let zcE:=zxV (P:=l.prog) (w:=w) (base:=base) zl2
 let zvP:=zv4 (P:=l.prog) (w:=w) (base:=base) zbs (Df.never (P:=l.prog) (w:=w) (base:=base) 0 zbM) zbd zbf zaD
 let zuV:=zrR (P:=l.prog) (w:=w) (base:=base) zbM zcA zvP zcE
 let zxT:=zyQ (P:=l.prog) (w:=w) (base:=base) zbs zuV zbd zbf zaD
 let zrz:=zrJ (P:=l.prog) (w:=w) (base:=base) zbM zcA zxT zcE
 let zrP:=zxG (P:=l.prog) (w:=w) (base:=base) zbs zrz zbd zbf zaD
 let zxi:=zvv (P:=l.prog) (w:=w) (base:=base) zbM zcA zrP zcE
 let zwK:=zsT (P:=l.prog) (w:=w) (base:=base) zbs zxi zbd zbf zaD
 let zcp:=zur (P:=l.prog) (w:=w) (base:=base) zbM zcA zwK zcE
 let zcP:=zwN (P:=l.prog) (w:=w) (base:=base) zbs zcp zbd zbf zaD
 let zny:=ztM (P:=l.prog) (w:=w) (base:=base) zj0 zcp
 let znv:=ztU (P:=l.prog) (w:=w) (base:=base) zkF zny zaQ zaD
 let zoI:=zyM (P:=l.prog) (w:=w) (base:=base) zjb znv zcP zaQ zaD
 let zoG:=zsG (P:=l.prog) (w:=w) (base:=base) zjp
 let zfs:=zrU (P:=l.prog) (w:=w) (base:=base) zlc zoG
 let zfz:=zt1 (P:=l.prog) (w:=w) (base:=base) zk4 zfs
 let zex:=zyc (P:=l.prog) (w:=w) (base:=base) zly zb5 zcr zbg
 let znl:=zrI (P:=l.prog) (w:=w) (base:=base) zmi zcx zex
 let zoz:=zv9 (P:=l.prog) (w:=w) (base:=base) ziP zb5 zex zcx znl zfz zbg zaQ zaD
 let zow:=zt8 (P:=l.prog) (w:=w) (base:=base) zmA zoz zbf
 let zog:=zx0 (P:=l.prog) (w:=w) (base:=base) zkx zfb zdx zfz
 let zna:=zxq (P:=l.prog) (w:=w) (base:=base) zmg
 let znt:=zth (P:=l.prog) (w:=w) (base:=base) zlM zna zcM zbg
 let znN:=zrV (P:=l.prog) (w:=w) (base:=base) zjX
 let zm4:=zsN (P:=l.prog) (w:=w) (base:=base) ziW znN zcM
 let zoD:=zyl (P:=l.prog) (w:=w) (base:=base) zkG znt zow zog zoI zfs znw zm4 zdx znS zaD
 let zem:=zys (P:=l.prog) (w:=w) (base:=base) zj6 zbp zdO zcL zf2 zf8
 let znP:=zuJ (P:=l.prog) (w:=w) (base:=base) zmd zem zbp zbH zaD
 let zc7:=zsM (P:=l.prog) (w:=w) (base:=base) zjv zaD
 let zmT:=zuE (P:=l.prog) (w:=w) (base:=base) zi5
 let zcG:=zwk (P:=l.prog) (w:=w) (base:=base) zkE
 let zox:=zyK (P:=l.prog) (w:=w) (base:=base) zjl zcG
 let zn0:=zxy (P:=l.prog) (w:=w) (base:=base) zk8 zox zcG zaQ zaD
 let zns:=zuK (P:=l.prog) (w:=w) (base:=base) ziZ zdW
 let zou:=zwu (P:=l.prog) (w:=w) (base:=base) zkW zbE
 let zoq:=zvN (P:=l.prog) (w:=w) (base:=base) zi3
 let zn2:=ztO (P:=l.prog) (w:=w) (base:=base) zmn zaQ zaD
 let zol:=zsX (P:=l.prog) (w:=w) (base:=base) zjR zem zaD zbp zcR zdB
 let znO:=zsS (P:=l.prog) (w:=w) (base:=base) zjJ zol zaD zbp zbH
 let G_law:=zu7 (P:=l.prog) (w:=w) (base:=base) zkB znP znO zn2 zoq zc7 zoD zoj zcG zns zn0 zou zmT zoP zoE zaD zbp zcR zbH zbd zaQ zdB
 exact G_law.ok
end Mine
open PySem PySem.W PyProof.Rows
set_option maxRecDepth 100003 in
set_option maxHeartbeats 0 in
theorem PySem.Challenge.cw_boxnarrow_k45_alone_told_holds : PySem.Challenge.rw_boxnarrow_k45_alone_told.Holds := by
 w_on; refine PySem.W.holds_law Mine.ws_eq λsaid=>?_
 refine PySem.W.holds_open (q:=Mine.vw) (loose:=[]) (Xt:=Mine.xt) (XP:=XL Mine.vw []) (Yf:=Hook.obs (kHook Mine.kp Mine.ks Mine.zeP)) (Ya:=Hook.val (kHook Mine.kp Mine.ks Mine.zeP))
  (YP:=Hook.says (kHook Mine.kp Mine.ks Mine.zeP)) (N:=9864) Mine.left (Hook.of (kHook Mine.kp Mine.ks Mine.zeP)) (Hook.keeps (kHook Mine.kp Mine.ks Mine.zeP)) (λs e=>xl_of s (Bool.and_eq_true_iff.mp e).1) XL.keeps
  (by rfl) (by rfl) (by rfl) (λs e=>recFacts_of (Bool.and_eq_true_iff.mp e).2) (by rfl) (by first | assumption | decide +kernel)
  (by decide +kernel) ⟨rfl,rfl,rfl,rfl,rfl,by decide +kernel⟩ ?hw ?hc
 (case hw=>w_witness2)
 k_fill
 refine L3.zss (l:=PySem.Challenge.rw_boxnarrow_k45_alone_told) (x:="_law_script") 13 rfl rfl ⟨rfl,by decide,by decide⟩ (λw h Y=>PySem.W.kIn_of Y) ?F
 case F=>
  intro w mg fa h KX G hmg
  refine' Mine.ztC KX G hmg (zms:=?zms) (zjA:=?zjA) (zlx:=?zlx) (zl0:=?zl0) (zj9:=?zj9) (zlt:=?zlt) (zl1:=?zl1) (zjP:=?zjP) (zi9:=?zi9) (zkK:=?zkK) (zl4:=?zl4) (zma:=?zma) (zlL:=?zlL) (zmL:=?zmL) (zmP:=?zmP) (zi1:=?zi1) (zjK:=?zjK) (zmN:=?zmN) (zjT:=?zjT) (zll:=?zll) (zmG:=?zmG) (zi0:=?zi0) (zjM:=?zjM) (zkt:=?zkt) (zjx:=?zjx) (zlv:=?zlv) (zkz:=?zkz) (zjr:=?zjr) (zjk:=?zjk) (zmv:=?zmv) (ziT:=?ziT) (zlu:=?zlu) (zkN:=?zkN) (zlR:=?zlR) (zmt:=?zmt) (zj7:=?zj7) (zkX:=?zkX) (zjY:=?zjY) (zkA:=?zkA) (ziY:=?ziY) (zkT:=?zkT) (zk0:=?zk0) (zlf:=?zlf) (zlJ:=?zlJ) (zjz:=?zjz) (zkS:=?zkS) (zkm:=?zkm) (zl8:=?zl8) (zjS:=?zjS) (zlY:=?zlY) (zkH:=?zkH) (zlb:=?zlb) (zki:=?zki) (a0:=?a0) (l0:=?l0) (c0:=?c0) (a1:=?a1) (l1:=?l1) (c1:=?c1) (a2:=?a2) (l2:=?l2) (c2:=?c2) (a3:=?a3) (l3:=?l3) (c3:=?c3) (a4:=?a4) (l4:=?l4) (c4:=?c4) (a5:=?a5) (l5:=?l5) (c5:=?c5) (a6:=?a6) (l6:=?l6) (c6:=?c6) (a7:=?a7) (l7:=?l7) (c7:=?c7) (a8:=?a8) (l8:=?l8) (c8:=?c8) (a9:=?a9) (l9:=?l9) (c9:=?c9) (a10:=?a10) (l10:=?l10) (c10:=?c10) (a11:=?a11) (l11:=?l11) (c11:=?c11) (a12:=?a12) (l12:=?l12) (c12:=?c12) (a13:=?a13) (l13:=?l13) (c13:=?c13) (a14:=?a14) (l14:=?l14) (c14:=?c14) (a15:=?a15) (l15:=?l15) (c15:=?c15) (a16:=?a16) (l16:=?l16) (c16:=?c16) (a17:=?a17) (l17:=?l17) (c17:=?c17) (a18:=?a18) (l18:=?l18) (c18:=?c18) (a19:=?a19) (l19:=?l19) (c19:=?c19) (a20:=?a20) (l20:=?l20) (c20:=?c20) (a21:=?a21) (l21:=?l21) (c21:=?c21) (a22:=?a22) (l22:=?l22) (c22:=?c22) (a23:=?a23) (l23:=?l23) (c23:=?c23) (a24:=?a24) (l24:=?l24) (c24:=?c24) (a25:=?a25) (l25:=?l25) (c25:=?c25) (a26:=?a26) (l26:=?l26) (c26:=?c26) (a27:=?a27) (l27:=?l27) (c27:=?c27) (a28:=?a28) (l28:=?l28) (c28:=?c28) (a29:=?a29) (l29:=?l29) (c29:=?c29) (a30:=?a30) (l30:=?l30) (c30:=?c30) (a31:=?a31) (l31:=?l31) (c31:=?c31) (a32:=?a32) (l32:=?l32) (c32:=?c32) (a33:=?a33) (l33:=?l33) (c33:=?c33) (a34:=?a34) (l34:=?l34) (c34:=?c34) (a35:=?a35) (l35:=?l35) (c35:=?c35) (a36:=?a36) (l36:=?l36) (c36:=?c36) (a37:=?a37) (l37:=?l37) (c37:=?c37) (a38:=?a38) (l38:=?l38) (c38:=?c38) (a39:=?a39) (l39:=?l39) (c39:=?c39) (a40:=?a40) (l40:=?l40) (c40:=?c40) (a41:=?a41) (l41:=?l41) (c41:=?c41) (a42:=?a42) (l42:=?l42) (c42:=?c42) (a43:=?a43) (l43:=?l43) (c43:=?c43) (a44:=?a44) (l44:=?l44) (c44:=?c44) (a45:=?a45) (l45:=?l45) (c45:=?c45) (a46:=?a46) (l46:=?l46) (c46:=?c46) (a47:=?a47) (l47:=?l47) (c47:=?c47) (a48:=?a48) (l48:=?l48) (c48:=?c48) (a49:=?a49) (l49:=?l49) (c49:=?c49) (a50:=?a50) (l50:=?l50) (c50:=?c50) (a51:=?a51) (l51:=?l51) (c51:=?c51) (a52:=?a52) (l52:=?l52) (c52:=?c52) (a53:=?a53) (l53:=?l53) (c53:=?c53) (a54:=?a54) (l54:=?l54) (c54:=?c54) (a55:=?a55) (l55:=?l55) (c55:=?c55) (a56:=?a56) (l56:=?l56) (c56:=?c56) (a57:=?a57) (l57:=?l57) (c57:=?c57) (a58:=?a58) (l58:=?l58) (c58:=?c58) (a59:=?a59) (l59:=?l59) (c59:=?c59) (a60:=?a60) (l60:=?l60) (c60:=?c60) (a61:=?a61) (l61:=?l61) (c61:=?c61) (a62:=?a62) (l62:=?l62) (c62:=?c62) (a63:=?a63) (l63:=?l63) (c63:=?c63) (a64:=?a64) (l64:=?l64) (c64:=?c64) (a65:=?a65) (l65:=?l65) (c65:=?c65) (a66:=?a66) (l66:=?l66) (c66:=?c66) (a67:=?a67) (l67:=?l67) (c67:=?c67) (a68:=?a68) (l68:=?l68) (c68:=?c68) (a69:=?a69) (l69:=?l69) (c69:=?c69) (a70:=?a70) (l70:=?l70) (c70:=?c70) (a71:=?a71) (l71:=?l71) (c71:=?c71) (a72:=?a72) (l72:=?l72) (c72:=?c72) (zaQ:=?zaQ) (zcL:=?zcL) (zbE:=?zbE) (zck:=?zck) (zbg:=?zbg) (zaD:=?zaD) (zbd:=?zbd) (zbf:=?zbf) (zcM:=?zcM) (zbp:=?zbp) (zdO:=?zdO) (zbH:=?zbH) (zdW:=?zdW) (zcR:=?zcR) (zf2:=?zf2) (zf8:=?zf8) (zdB:=?zdB)
  (case zms | zjA | zlx | zl0 | zj9 | zlt | zl1 | zjP | zi9 | zkK | zl4 | zma | zlL | zmL | zmP | zi1 | zjK | zmN | zjT | zll | zmG | zi0 | zjM | zkt | zjx | zlv | zkz | zjr | zjk | zmv | ziT | zlu | zkN | zlR | zmt | zj7 | zkX | zjY | zkA | ziY | zkT | zk0 | zlf | zlJ | zjz | zkS | zkm | zl8 | zjS | zlY | zkH | zlb | zki | zaQ | zcL | zbE | zck | zbg | zaD | zbd | zbf | zcM | zbp | zdO | zbH | zdW | zcR=>k_is)
  (case a0 | a1 | a2 | a3 | a4 | a5 | a6 | a7 | a10 | a12 | a14 | a16 | a17 | a25 | a26 | a35 | a37 | a38 | a39 | a40 | a41 | a42 | a43 | a44 | a45 | a46 | a47 | a48 | a49 | a50 | a51 | a52 | a53 | a54 | a55 | a56 | a57 | a58 | a59 | a60 | a61 | a62 | a63 | a64 | a65 | a66 | a67 | a68 | a69 | a70 | a71 | a72=>delta Mine.nsA; k_is)
  (case a8 | a9 | a11 | a13 | a15 | a18 | a19 | a20 | a21 | a22 | a23 | a24 | a27 | a28 | a29 | a30 | a31 | a32 | a33 | a34 | a36=>delta Mine.fdA; k_is)
  (case l0 | l1 | l2 | l3 | l4 | l5 | l6 | l7 | l8 | l9 | l10 | l11 | l12 | l13 | l14 | l15 | l16 | l17 | l18 | l19 | l20 | l21 | l22 | l23 | l24 | l25 | l26 | l27 | l28 | l29 | l30 | l31 | l32 | l33 | l34 | l35 | l36 | l37 | l38 | l39 | l40 | l41 | l42 | l43 | l44 | l45 | l46 | l47 | l48 | l49 | l50 | l51 | l52 | l53 | l54 | l55 | l56 | l57 | l58 | l59 | l60 | l61 | l62 | l63 | l64 | l65 | l66 | l67 | l68 | l69 | l70 | l71 | l72=>delta Mine.lkA; k_is)
  (case c0 | c1 | c2 | c3 | c4 | c5 | c6 | c7 | c8 | c9 | c10 | c11 | c12 | c13 | c14 | c15 | c16 | c17 | c18 | c19 | c20 | c21 | c22 | c23 | c24 | c25 | c26 | c27 | c28 | c29 | c30 | c31 | c32 | c33 | c34 | c35 | c36 | c37 | c38 | c39 | c40 | c41 | c42 | c43 | c44 | c45 | c46 | c47 | c48 | c49 | c50 | c51 | c52 | c53 | c54 | c55 | c56 | c57 | c58 | c59 | c60 | c61 | c62 | c63 | c64 | c65 | c66 | c67 | c68 | c69 | c70 | c71 | c72=>delta Mine.cdA; k_is)
  (case zf2=>exact L3.znB _ _ (by simp))
  (case zf8=>exact L3.znB _ _ (by simp))
  (case zdB=>exact L3.znB _ _ (by simp))
