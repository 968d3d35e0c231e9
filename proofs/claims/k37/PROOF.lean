import PyProof.Rows.All
import Wide.All
import OpenK.AllK
import Wide.FinOn
import Lean
import PyProof.EqAt
import PyProof.EqKinds
import PyProof.TupleCall
import PySem.Challenge.RW_boxnarrow_k37_whole_narrowing_by_a_model
theorem Vaa:type_of% @List.length_map:=@List.length_map
theorem Vab:type_of% @Nat.le_refl:=@Nat.le_refl
theorem Vac:type_of% @List.getElem?_eq_some_iff:=@List.getElem?_eq_some_iff
theorem Vad:type_of% @List.mem_cons:=@List.mem_cons
theorem Vae:type_of% @List.getElem?_map:=@List.getElem?_map
theorem Vaf:type_of% @Int.pow_succ:=@Int.pow_succ
theorem Vag:type_of% @Int.le_of_lt:=@Int.le_of_lt
theorem Vah:type_of% @Int.neg_mul:=@Int.neg_mul
theorem Vai:type_of% @Option.map_eq_some_iff:=@Option.map_eq_some_iff
theorem Vaj:type_of% @List.getElem?_eq_getElem:=@List.getElem?_eq_getElem
theorem Vak:type_of% @List.mem_of_getElem?:=@List.mem_of_getElem?
theorem Val:type_of% @Bool.false_ne_true:=@Bool.false_ne_true
theorem Vam:type_of% @List.map_cons:=@List.map_cons
theorem Van:type_of% @List.size_toArray:=@List.size_toArray
theorem Vao:type_of% @List.getElem?_append_left:=@List.getElem?_append_left
theorem Vap:type_of% @Nat.lt_of_lt_of_le:=@Nat.lt_of_lt_of_le
theorem Vaq:type_of% @Nat.ne_of_lt:=@Nat.ne_of_lt
theorem Var:type_of% @Int.mul_nonneg:=@Int.mul_nonneg
theorem Vas:type_of% @List.not_mem_nil:=@List.not_mem_nil
theorem Vat:type_of% @List.lookup_cons:=@List.lookup_cons
theorem Vau:type_of% @List.length_take:=@List.length_take
theorem Vav:type_of% @Int.toNat_natCast:=@Int.toNat_natCast
theorem Vaw:type_of% @List.getD_eq_getElem?_getD:=@List.getD_eq_getElem?_getD
theorem Vax:type_of% @Nat.zero_le:=@Nat.zero_le
theorem Vay:type_of% @List.length_append:=@List.length_append
theorem Vaz:type_of% @List.map_append:=@List.map_append
theorem VaA:type_of% @List.mem_singleton:=@List.mem_singleton
theorem VaB:type_of% @Int.pow_pos:=@Int.pow_pos
theorem VaC:type_of% @List.getElem?_eq_none_iff:=@List.getElem?_eq_none_iff
theorem VaD:type_of% @Nat.le_trans:=@Nat.le_trans
theorem VaE:type_of% @Int.le_refl:=@Int.le_refl
theorem VaF:type_of% @List.mem_cons_of_mem:=@List.mem_cons_of_mem
theorem VaG:type_of% @List.length_set:=@List.length_set
theorem VaH:type_of% @Int.pow_nonneg:=@Int.pow_nonneg
theorem VaI:type_of% @List.mem_append:=@List.mem_append
theorem VaJ:type_of% @List.mem_append_right:=@List.mem_append_right
theorem VaK:type_of% @List.length_cons:=@List.length_cons
theorem VaL:type_of% @List.mem_iff_getElem:=@List.mem_iff_getElem
theorem VaM:type_of% @List.take_length:=@List.take_length
theorem VaN:type_of% @Nat.lt_irrefl:=@Nat.lt_irrefl
theorem VaO:type_of% @Int.pow_zero:=@Int.pow_zero
theorem VaP:type_of% @Int.mul_le_mul_of_nonneg_right:=@Int.mul_le_mul_of_nonneg_right
theorem VaQ:type_of% @List.getElem?_set_self:=@List.getElem?_set_self
theorem VaR:type_of% @List.getElem?_set_ne:=@List.getElem?_set_ne
theorem VaS:type_of% @List.append_nil:=@List.append_nil
theorem VaT:type_of% @List.getElem?_append_right:=@List.getElem?_append_right
theorem VaU:type_of% @List.find?_cons:=@List.find?_cons
theorem VaV:type_of% @Int.mul_zero:=@Int.mul_zero
theorem VaW:type_of% @Int.mul_neg:=@Int.mul_neg
theorem VaX:type_of% @List.map_map:=@List.map_map
theorem VaY:type_of% @Nat.le_of_lt:=@Nat.le_of_lt
theorem VaZ:type_of% @List.mem_cons_self:=@List.mem_cons_self
theorem Va0:type_of% @Int.mul_comm:=@Int.mul_comm
theorem Va1:type_of% @Int.neg_neg:=@Int.neg_neg
theorem Va2:type_of% @Option.isSome_iff_exists:=@Option.isSome_iff_exists
theorem Va3:type_of% @List.mem_map:=@List.mem_map
theorem Va4:type_of% @Int.le_trans:=@Int.le_trans
set_option Elab.async false
set_option linter.all false
set_option maxRecDepth 100000
set_option genSizeOf false
set_option maxHeartbeats 40000000
namespace L2
open PySem PySem.Spec PyProof.Rows
def zaN (s:Stmt)(j:Nat):Stmt:=match s with
 | .ClassDef _ _ _ body _ _ _ _ _ _ _=>body.getD j (.Pass ⟨0,0,0,0⟩)
 | _=>.Pass ⟨0,0,0,0⟩
def zeh (s:Stmt):Arguments:=match s with
 | .FunctionDef _ a _ _ _ _ _ _ _ _=>a
 | _=>{ posonlyargs:=[],args:=[],vararg:=none,kwonlyargs:=[],kw_defaults:=[],kwarg:=none,defaults:=[] }
def zc0 (s:Stmt):List Stmt:=match s with
 | .FunctionDef _ _ b _ _ _ _ _ _ _=>b
 | _=>[]
def zas (s:Stmt):Scope:=match s with
 | .FunctionDef _ _ _ _ _ _ sc _ _ _=>sc
 | _=>{ kind:=.function,names:=[],isGenerator:=false,isCoroutine:=false }
end L2
namespace L3
open PySem PySem.W PyProof.Rows PySem.Calls
theorem zoM {α β γ δ:Type}{f:α→Option β}{A:β→γ}{B:β→δ}{a:γ}{b:δ}(h1:(λx=>(f x).map A)=λ_=>some a)(h2:(λx=>(f x).map B)=λ_=>some b):(λx=>(f x).map λs=>(A s,B s))=λ_=>some (a,b):=by
 funext x
 have e1:=congrFun h1 x
 have e2:=congrFun h2 x
 cases h:f x with
 | none=>rw[h] at e1; cases e1
 | some s=>
  rw[h] at e1 e2
  exact congrArg some (Prod.ext (Option.some.inj e1) (Option.some.inj e2))
def goT (tb:String→Option Builtin)(p:Program)(w:World)(n₀:Nat)(ann:Option Value):Nat→SharedT→Thread→Option SharedT
 | 0,_,_=>none
 | k+1,s,t=>bif through t then some s else bif stepOk n₀ ann t then (stepT (denote tb) p w s t).bind (λr=>goT tb p w n₀ ann k r.1 r.2) else none
theorem zq7 {tb:String→Option Builtin}{p:Program}{w:World}{n₀:Nat}{ann:Option Value}:∀ {n:Nat} {s s':SharedT} {t:Thread},goT tb p w n₀ ann n s t=some s'→topRun tb p w n₀ ann n s.abs t=some s'.abs
 | 0,_,_,_,q=>nomatch q
 | n+1,s,s',t,q=>by
  unfold goT at q
  unfold topRun
  cases c1:through t
  ·rw[c1] at q
   cases c2:stepOk n₀ ann t
   ·rw[c2] at q
    exact nomatch q
   ·rw[c2] at q
    obtain⟨⟨s2,t2⟩,c3,q⟩:=Option.bind_eq_some_iff.mp q
    rw[stepT_spec c3]
    exact zq7 q
  ·rw[c1] at q
   cases q
   rfl
def znM (os:Array Obj):Nat→Nat→Nat→BT
 | 0,_,_=>.nil
 | f+1,a,b=>match os[b]? with
  | some o=>.node o (znM os f (2*a) (a+b)) (znM os f (2*a) (2*a+b))
  | none=>.nil
noncomputable def bootT (P:Params):BT:=znM (boot_heap P).objs 6 1 0
noncomputable abbrev zct (w:World)(os:OsState):SharedT:=⟨bootT w.params,11,(boot_heap w.params).life,Array.mk [],boot_drawn,boot_toks,os⟩
def znl (s:SharedT)(a:Addr):Option Obj:=if a<s.n then (match s.tree.get a with | some o=>alive o | none=>s.abs.heap.get? a) else none
theorem ztU (s:SharedT)(a:Addr):s.abs.heap.get? a=znl s a:=by
 unfold znl
 split
 ·rename_i h
  cases e:s.tree.get a with
  | none=>rfl
  | some o=>exact abs_get h e
 ·rename_i h
  exact abs_get_none h
theorem zvx (l:List Addr)(s:SharedT):l.map s.abs.heap.get?=l.map (znl s):=List.map_congr_left λa _=>ztU s a
noncomputable abbrev seenT (p q:Program)(loose:List Str)(Xt:Shared→Bool){α:Type}(YT:SharedT→α)(g0:Bool)(w:World)(s:SharedT):=
 ((staticsOk (importedModules p.main.body) (boot_heap w.params) s.abs.heap&&namesBound p s.abs.heap&&gensDone s.abs&&laidKept (boot_heap w.params) s.abs.heap),openSeen q loose (importedModules p.main.body) Xt g0 s.abs,YT s)
theorem zvQ {p q:Program}{loose:List Str}{Xt:Shared→Bool}{α:Type}{Yf:Shared→α}{YT:SharedT→α}{Ya:World→α}{N:Nat}{g0:Bool}{ann:Option Value}(hY:∀s:SharedT,Yf s.abs=YT s)(e:opening p=plainProg p.main.scope.names)(hN:Nat.ble 600 N=true)(f:∀s,fenceModules? p s=some s)
  (size:∀w:World,((boot_heap w.params).isNs mainGlobals&&(Array.mk []:Array GenState).size==0,(boot_heap w.params).objs.size,(boot_heap w.params).nsMap mainGlobals "__annotations__")=(true,11,ann))
  (run:∀w:World,(λos=>(goT treeTable p w 11 ann N (zct w os) (topStub p)).map λs=>seenT p q loose Xt YT g0 w s)=λ_=>some (true,openGood q loose,Ya w)):LeftO p q loose Xt Yf Ya N g0:=λw=>by
 obtain⟨⟨h,gs,d,k,os⟩,e1,e'⟩:=Vai.mp (boot_open e hN f w)
 obtain⟨rfl,rfl,rfl,rfl⟩:h=boot_heap w.params∧gs=Array.mk []∧d=boot_drawn∧k=boot_toks:=by simpa using e'
 obtain⟨y1,y2,y3⟩:_∧_∧_:=by simpa only [Prod.mk.injEq] using size w
 obtain⟨s',r1,r2⟩:=Vai.mp (congrFun (run w) os)
 obtain⟨l1,l2,l3⟩:_∧_∧_:=by simpa only [Prod.mk.injEq] using r2
 have r:topRun treeTable p w 11 ann N ⟨boot_heap w.params,Array.mk [],boot_drawn,boot_toks,os⟩ (topStub p)=some s'.abs:=by
  have z:=zq7 r1
  exact z
 have t:topFrom treeTable p w N ⟨boot_heap w.params,Array.mk [],boot_drawn,boot_toks,os⟩=some s'.abs:=by
  unfold topFrom
  dsimp only
  rw[y1,y2,y3,r]
  show (match staticsOk (importedModules p.main.body) (boot_heap w.params) s'.abs.heap&&namesBound p s'.abs.heap&&gensDone s'.abs&&laidKept (boot_heap w.params) s'.abs.heap with | true=>_ | false=>_)=_
  rw[l1]
 unfold openEnds
 rw[e1]
 show Option.map _ (topFrom treeTable p w N _)=_
 rw[t]
 exact congrArg some (Prod.ext l2 ((hY s').trans l3))
noncomputable abbrev zoU (p:Program)(w:World)(s:SharedT):Bool:=staticsOk (importedModules p.main.body) (boot_heap w.params) s.abs.heap&&namesBound p s.abs.heap&&gensDone s.abs&&laidKept (boot_heap w.params) s.abs.heap
theorem zxy {p q:Program}{loose:List Str}{Xt:Shared→Bool}{α:Type}{Yf:Shared→α}{YT:SharedT→α}{Ya:World→α}{N:Nat}{g0:Bool}{ann:Option Value}(hY:∀s:SharedT,Yf s.abs=YT s)(e:opening p=plainProg p.main.scope.names)(hN:Nat.ble 600 N=true)(f:∀s,fenceModules? p s=some s)
  (size:∀w:World,((boot_heap w.params).isNs mainGlobals&&(Array.mk []:Array GenState).size==0,(boot_heap w.params).objs.size,(boot_heap w.params).nsMap mainGlobals "__annotations__")=(true,11,ann))
  (ra:∀w:World,(λos=>(goT treeTable p w 11 ann N (zct w os) (topStub p)).map λs=>(zoU p w s,(openSeen q loose (importedModules p.main.body) Xt g0 s.abs).1))=λ_=>some (true,(openGood q loose).1))
  (rb:∀w:World,(λos=>(goT treeTable p w 11 ann N (zct w os) (topStub p)).map λs=>((openSeen q loose (importedModules p.main.body) Xt g0 s.abs).2.1,(openSeen q loose (importedModules p.main.body) Xt g0 s.abs).2.2.1))=λ_=>some ((openGood q loose).2.1,(openGood q loose).2.2.1))
  (rc:∀w:World,(λos=>(goT treeTable p w 11 ann N (zct w os) (topStub p)).map λs=>(openSeen q loose (importedModules p.main.body) Xt g0 s.abs).2.2.2)=λ_=>some (openGood q loose).2.2.2)
  (objs:∀w:World,(λos=>(goT treeTable p w 11 ann N (zct w os) (topStub p)).map YT)=λ_=>some (Ya w)):LeftO p q loose Xt Yf Ya N g0:=by
 refine zvQ hY e hN f size λw=>funext λos=>?_
 obtain⟨s1,a1,b1⟩:=Vai.mp (congrFun (ra w) os)
 obtain⟨s2,a2,b2⟩:=Vai.mp (congrFun (rb w) os)
 obtain⟨s3,a3,b3⟩:=Vai.mp (congrFun (rc w) os)
 obtain⟨s4,a4,b4⟩:=Vai.mp (congrFun (objs w) os)
 rw[a1] at a2 a3 a4
 cases a2
 cases a3
 cases a4
 obtain⟨l1,l2⟩:=Prod.mk.inj b1
 obtain⟨l3,l4⟩:=Prod.mk.inj b2
 have l5:openSeen q loose (importedModules p.main.body) Xt g0 s1.abs=openGood q loose:=Prod.ext l2 (Prod.ext l3 (Prod.ext l4 b3))
 rw[a1]
 show some (zoU p w s1,openSeen q loose (importedModules p.main.body) Xt g0 s1.abs,YT s1)=some (true,openGood q loose,Ya w)
 rw[l1,l5,b4]
end L3
namespace Mine
open PySem PySem.Spec PyProof.Rows L2 L3
def top (i:Nat):Stmt:=PySem.Challenge.pw_boxnarrow_k37_whole_narrowing_by_a_model.main.body.getD i (.Pass ⟨0,0,0,0⟩)
theorem ws_eq:PySem.W.OpenLaw.wellSaid PySem.Challenge.rw_boxnarrow_k37_whole_narrowing_by_a_model=true:=by decide +kernel
def vw:Program:={ PySem.Challenge.pw_boxnarrow_k37_whole_narrowing_by_a_model with main:={ PySem.Challenge.pw_boxnarrow_k37_whole_narrowing_by_a_model.main with body:=[top 0,top 2,top 3,top 5,top 6,top 8,top 9,top 10,top 11,top 12,top 13,top 14,top 15,top 17,top 18,top 19,top 20,top 21,top 22,top 23,top 24,top 25,top 26,top 27,top 29,top 30,top 31,top 32,top 33,top 34,top 35,top 36,top 37,top 39,top 41,top 42,top 43,top 45,top 46,top 47,top 48,top 49,top 50,top 51,top 52,top 53,top 54,top 55,top 56,top 57,top 58,top 59,top 60,top 61,top 62,top 63,top 64,top 65,top 66,top 67,top 68,top 69,top 70,top 71,top 72,top 73,top 74,top 75,top 76,top 77] } }
noncomputable abbrev de (P:Params)(s:Str)(t:Tok)(v:Value):DictEntry:=⟨PySem.PyData.keyHash P s,.str s t,v⟩
abbrev co (n q:Str)(a b c d:Tok)(i k:Int)(r s:Addr)(y z:Value)(t:Addr)(j:Int):Obj:=⟨.type "code",none,.fields #[.str n a,.str q b,.str "/claim/cut.py" c,.int i 0,.int k 0,.int 0 0,.int 0 0,.int 3 0,.ref r,.bool Bool.true,.int 181 0,.ref s,.none,y,z,.ref t,.int j 0,.int i 0,.str "/claim/cut.py" d],#[]⟩
abbrev fo (n q:Str)(st:Stmt)(m:Value)(c:Addr):Obj:=⟨.type "function",none,.func (PySem.W.fnOf n q (zeh st) (zc0 st) (zas st) .none .none .none m none (.ref c) .none),#[]⟩
noncomputable def kp:Params→PySem.W.Frag:=λP=>
 (nat_lit 3,(.mk (.type "dict") none (.dict #[(de P "__name__" 165 (.str "law_boxnarrow_k37_whole_narrowing_by_a_model" 969)),(de P "__doc__" 166 .none),(de P "__package__" 167 .none),(de P "__loader__" 168 (.builtin "__main__.__loader__#opaque")),(de P "__spec__" 169 .none),(de P "__annotations__" 170 (.ref 6)),(de P "__builtins__" 171 (.ref 4)),(de P "__file__" 173 (.str "/claim/cut.py" 172)),(de P "__cached__" 174 .none),(de P "_wall" 193 (.ref 21)),(de P "BoxError" 213 (.ref 31)),(de P "NoSpan" 229 (.ref 44)),(de P "raised" 241 (.ref 53)),(de P "less" 249 (.ref 60)),(de P "rounded_up" 259 (.ref 67)),(de P "span_of" 268 (.ref 74)),(de P "add_spans" 276 (.ref 81)),(de P "take_spans" 284 (.ref 88)),(de P "mul_spans" 294 (.ref 95)),(de P "raise_span" 300 (.ref 100)),(de P "common" 310 (.ref 107)),(de P "hull" 318 (.ref 114)),(de P "holds_nought" 327 (.ref 121)),(de P "opposite" 334 (.ref 128)),(de P "joined" 342 (.ref 135)),(de P "part_between" 351 (.ref 142)),(de P "quotient" 359 (.ref 149)),(de P "back_by_side" 372 (.ref 156)),(de P "back_times" 385 (.ref 163)),(de P "root_below" 395 (.ref 170)),(de P "next_guess" 404 (.ref 177)),(de P "root" 413 (.ref 184)),(de P "back_power" 427 (.ref 191)),(de P "Node" 449 (.ref 201)),(de P "Number" 517 (.ref 250)),(de P "Unknown" 582 (.ref 297)),(de P "Pair" 632 (.ref 330)),(de P "Plus" 701 (.ref 377)),(de P "Minus" 770 (.ref 424)),(de P "Times" 839 (.ref 471)),(de P "Power" 907 (.ref 518)),(de P "kind_of" 914 (.ref 527)),(de P "worths" 927 (.ref 534)),(de P "asked_of" 937 (.ref 541)),(de P "spans_back" 953 (.ref 548)),(de P "narrowed" 968 (.ref 555)),(de P "_law_cell" 978 (.ref 562)),(de P "_law_whole" 985 (.ref 569)),(de P "_law_span_is" 992 (.ref 576)),(de P "_law_spans_are" 1001 (.ref 583)),(de P "_law_divisor" 1010 (.ref 590)),(de P "_law_fraction" 1019 (.ref 597)),(de P "_law_grid" 1027 (.ref 604)),(de P "_law_span" 1038 (.ref 611)),(de P "_law_power" 1048 (.ref 618)),(de P "_law_number" 1057 (.ref 625)),(de P "_law_node" 1069 (.ref 632)),(de P "_law_weight" 1077 (.ref 639)),(de P "_law_net" 1083 (.ref 644)),(de P "_law_forth" 1098 (.ref 651)),(de P "_law_worths" 1109 (.ref 658)),(de P "_law_row_by" 1126 (.ref 665)),(de P "_law_meet" 1134 (.ref 672)),(de P "_law_pieces" 1151 (.ref 679)),(de P "_law_kept" 1161 (.ref 686)),(de P "_law_hulled" 1167 (.ref 691)),(de P "_law_quot" 1173 (.ref 696)),(de P "_law_root" 1185 (.ref 703)),(de P "_law_down" 1195 (.ref 710)),(de P "_law_root_kept" 1206 (.ref 717)),(de P "_law_rooted" 1221 (.ref 724)),(de P "_law_half" 1233 (.ref 731)),(de P "_law_back" 1245 (.ref 738)),(de P "_law_narrowed" 1262 (.ref 745)),(de P "_law_digit_span" 1270 (.ref 752)),(de P "_law_digit_node" 1281 (.ref 759)),(de P "_law_by_digits" 1287 (.ref 764)),(de P "_law_drawn" 1293 (.ref 769)),(de P "law" 1308 (.ref 776))] 79) #[]))::
 (nat_lit 30,(.mk (.type "dict") none (.dict #[(de P "__module__" 203 (.str "boxnarrow.errors" 194)),(de P "__firstlineno__" 207 (.int 5 206)),(de P "__static_attributes__" 208 (.ref 29)),(de P "__weakref__" 210 (.ref 32)),(de P "__doc__" 211 .none)] 3) #[]))::
 (nat_lit 31,(.mk (.type "type") none (.cls (PySem.ClassData.mk "BoxError" [(.type "ValueError")] [(.ref 31),(.type "ValueError"),(.type "Exception"),(.type "BaseException"),(.type "object")] 30 "BoxError" Bool.true [] [(.ref 44)] Bool.false none Bool.false)) #[(some (.ref 22)),none,(some (.str "BoxError" 196)),(some (.str "BoxError" 204)),(some (.builtin "ValueError.__new__")),(some (.bool Bool.true))]))::
 (nat_lit 43,(.mk (.type "dict") none (.dict #[(de P "__module__" 221 (.str "boxnarrow.errors" 194)),(de P "__firstlineno__" 225 (.int 7 224)),(de P "__static_attributes__" 226 (.ref 42)),(de P "__doc__" 227 .none)] 2) #[]))::
 (nat_lit 44,(.mk (.type "type") none (.cls (PySem.ClassData.mk "NoSpan" [(.ref 31)] [(.ref 44),(.ref 31),(.type "ValueError"),(.type "Exception"),(.type "BaseException"),(.type "object")] 43 "NoSpan" Bool.true [] [] Bool.false none Bool.false)) #[(some (.ref 35)),none,(some (.str "NoSpan" 214)),(some (.str "NoSpan" 222)),(some (.builtin "ValueError.__new__")),(some (.bool Bool.true))]))::
 (nat_lit 52,co "raised" "raised" 232 233 234 240 10 2 47 48 (.ref 49) (.ref 50) 51 239)::
 (nat_lit 53,fo "raised" "raised" (top 5) (.str "boxnarrow.fractions" 230) 52)::
 (nat_lit 59,co "less" "less" 242 243 244 248 15 2 54 55 (.ref 56) (.ref 57) 58 247)::
 (nat_lit 60,fo "less" "less" (top 6) (.str "boxnarrow.fractions" 230) 59)::
 (nat_lit 66,co "rounded_up" "rounded_up" 252 253 254 258 18 2 61 62 (.ref 63) (.ref 64) 65 257)::
 (nat_lit 67,fo "rounded_up" "rounded_up" (top 8) (.str "boxnarrow.spans" 250) 66)::
 (nat_lit 73,co "span_of" "span_of" 260 261 262 267 20 3 68 69 (.ref 70) (.ref 71) 72 266)::
 (nat_lit 74,fo "span_of" "span_of" (top 9) (.str "boxnarrow.spans" 250) 73)::
 (nat_lit 80,co "add_spans" "add_spans" 269 270 271 275 24 2 75 76 (.ref 77) (.ref 78) 79 274)::
 (nat_lit 81,fo "add_spans" "add_spans" (top 10) (.str "boxnarrow.spans" 250) 80)::
 (nat_lit 87,co "take_spans" "take_spans" 277 278 279 283 26 2 82 83 (.ref 84) (.ref 85) 86 282)::
 (nat_lit 88,fo "take_spans" "take_spans" (top 11) (.str "boxnarrow.spans" 250) 87)::
 (nat_lit 94,co "mul_spans" "mul_spans" 285 286 287 293 28 3 89 90 (.ref 91) (.ref 92) 93 292)::
 (nat_lit 95,fo "mul_spans" "mul_spans" (top 12) (.str "boxnarrow.spans" 250) 94)::
 (nat_lit 99,co "raise_span" "raise_span" 295 296 297 299 31 3 96 97 .none .none 98 298)::
 (nat_lit 100,fo "raise_span" "raise_span" (top 13) (.str "boxnarrow.spans" 250) 99)::
 (nat_lit 106,co "common" "common" 301 302 303 309 38 2 101 102 (.ref 103) (.ref 104) 105 308)::
 (nat_lit 107,fo "common" "common" (top 14) (.str "boxnarrow.spans" 250) 106)::
 (nat_lit 113,co "hull" "hull" 311 312 313 317 44 2 108 109 (.ref 110) (.ref 111) 112 316)::
 (nat_lit 114,fo "hull" "hull" (top 15) (.str "boxnarrow.spans" 250) 113)::
 (nat_lit 120,co "holds_nought" "holds_nought" 321 322 323 326 47 1 115 116 (.ref 117) (.ref 118) 119 325)::
 (nat_lit 121,fo "holds_nought" "holds_nought" (top 17) (.str "boxnarrow.backs" 319) 120)::
 (nat_lit 127,co "opposite" "opposite" 328 329 330 333 49 1 122 123 (.ref 124) (.ref 125) 126 332)::
 (nat_lit 128,fo "opposite" "opposite" (top 18) (.str "boxnarrow.backs" 319) 127)::
 (nat_lit 134,co "joined" "joined" 335 336 337 341 51 2 129 130 (.ref 131) (.ref 132) 133 340)::
 (nat_lit 135,fo "joined" "joined" (top 19) (.str "boxnarrow.backs" 319) 134)::
 (nat_lit 141,co "part_between" "part_between" 343 344 345 350 57 3 136 137 (.ref 138) (.ref 139) 140 349)::
 (nat_lit 142,fo "part_between" "part_between" (top 20) (.str "boxnarrow.backs" 319) 141)::
 (nat_lit 148,co "quotient" "quotient" 352 353 354 358 61 2 143 144 (.ref 145) (.ref 146) 147 357)::
 (nat_lit 149,fo "quotient" "quotient" (top 21) (.str "boxnarrow.backs" 319) 148)::
 (nat_lit 155,co "back_by_side" "back_by_side" 360 361 362 371 63 3 150 151 (.ref 152) (.ref 153) 154 370)::
 (nat_lit 156,fo "back_by_side" "back_by_side" (top 22) (.str "boxnarrow.backs" 319) 155)::
 (nat_lit 162,co "back_times" "back_times" 373 374 375 384 69 4 157 158 (.ref 159) (.ref 160) 161 383)::
 (nat_lit 163,fo "back_times" "back_times" (top 23) (.str "boxnarrow.backs" 319) 162)::
 (nat_lit 169,co "root_below" "root_below" 386 387 388 394 80 2 164 165 (.ref 166) (.ref 167) 168 393)::
 (nat_lit 170,fo "root_below" "root_below" (top 24) (.str "boxnarrow.backs" 319) 169)::
 (nat_lit 176,co "next_guess" "next_guess" 396 397 398 403 89 3 171 172 (.ref 173) (.ref 174) 175 402)::
 (nat_lit 177,fo "next_guess" "next_guess" (top 25) (.str "boxnarrow.backs" 319) 176)::
 (nat_lit 183,co "root" "root" 405 406 407 412 91 2 178 179 (.ref 180) (.ref 181) 182 411)::
 (nat_lit 184,fo "root" "root" (top 26) (.str "boxnarrow.backs" 319) 183)::
 (nat_lit 190,co "back_power" "back_power" 414 415 416 426 98 4 185 186 (.ref 187) (.ref 188) 189 425)::
 (nat_lit 191,fo "back_power" "back_power" (top 27) (.str "boxnarrow.backs" 319) 190)::
 (nat_lit 200,(.mk (.type "dict") none (.dict #[(de P "__module__" 437 (.str "boxnarrow.kinds" 428)),(de P "__firstlineno__" 441 (.int 109 440)),(de P "__static_attributes__" 442 (.ref 199)),(de P "__dict__" 444 (.ref 202)),(de P "__weakref__" 446 (.ref 203)),(de P "__doc__" 447 .none)] 4) #[]))::
 (nat_lit 201,(.mk (.type "type") none (.cls (PySem.ClassData.mk "Node" [(.type "object")] [(.ref 201),(.type "object")] 200 "Node" Bool.true [] [(.ref 250),(.ref 297),(.ref 330),(.ref 518)] Bool.false none Bool.false)) #[none,none,(some (.str "Node" 430)),(some (.str "Node" 438)),(some (.builtin "object.__new__")),(some (.bool Bool.true))]))::
 (nat_lit 218,co "__init__" "Number.__init__" 462 463 464 469 113 3 213 214 (.ref 215) (.ref 216) 217 468)::
 (nat_lit 219,fo "__init__" "Number.__init__" (zaN (top 30) 0) (.str "boxnarrow.kinds" 428) 218)::
 (nat_lit 232,co "forth" "Number.forth" 480 481 482 489 120 4 227 228 (.ref 229) (.ref 230) 231 488)::
 (nat_lit 233,fo "forth" "Number.forth" (zaN (top 30) 2) (.str "boxnarrow.kinds" 428) 232)::
 (nat_lit 239,co "back" "Number.back" 491 492 493 499 124 4 234 235 (.ref 236) (.ref 237) 238 498)::
 (nat_lit 240,fo "back" "Number.back" (zaN (top 30) 3) (.str "boxnarrow.kinds" 428) 239)::
 (nat_lit 249,(.mk (.type "dict") none (.dict #[(de P "__module__" 457 (.str "boxnarrow.kinds" 428)),(de P "__firstlineno__" 461 (.int 111 460)),(de P "__init__" 470 (.ref 219)),(de P "exact" 479 (.ref 226)),(de P "forth" 490 (.ref 233)),(de P "back" 500 (.ref 240)),(de P "slope" 511 (.ref 247)),(de P "__static_attributes__" 514 (.ref 248)),(de P "__doc__" 515 .none)] 2) #[]))::
 (nat_lit 250,(.mk (.type "type") none (.cls (PySem.ClassData.mk "Number" [(.ref 201)] [(.ref 250),(.ref 201),(.type "object")] 249 "Number" Bool.true [] [] Bool.false none Bool.false)) #[(some (.ref 206)),none,(some (.str "Number" 450)),(some (.str "Number" 458)),(some (.builtin "object.__new__")),(some (.bool Bool.true))]))::
 (nat_lit 265,co "__init__" "Unknown.__init__" 530 531 532 536 131 2 260 261 (.ref 262) (.ref 263) 264 535)::
 (nat_lit 266,fo "__init__" "Unknown.__init__" (zaN (top 31) 0) (.str "boxnarrow.kinds" 428) 265)::
 (nat_lit 279,co "forth" "Unknown.forth" 547 548 549 555 137 4 274 275 (.ref 276) (.ref 277) 278 554)::
 (nat_lit 280,fo "forth" "Unknown.forth" (zaN (top 31) 2) (.str "boxnarrow.kinds" 428) 279)::
 (nat_lit 286,co "back" "Unknown.back" 557 558 559 565 140 4 281 282 (.ref 283) (.ref 284) 285 564)::
 (nat_lit 287,fo "back" "Unknown.back" (zaN (top 31) 3) (.str "boxnarrow.kinds" 428) 286)::
 (nat_lit 296,(.mk (.type "dict") none (.dict #[(de P "__module__" 525 (.str "boxnarrow.kinds" 428)),(de P "__firstlineno__" 529 (.int 129 528)),(de P "__init__" 537 (.ref 266)),(de P "exact" 546 (.ref 273)),(de P "forth" 556 (.ref 280)),(de P "back" 566 (.ref 287)),(de P "slope" 577 (.ref 294)),(de P "__static_attributes__" 579 (.ref 295)),(de P "__doc__" 580 .none)] 2) #[]))::
 (nat_lit 297,(.mk (.type "type") none (.cls (PySem.ClassData.mk "Unknown" [(.ref 201)] [(.ref 297),(.ref 201),(.type "object")] 296 "Unknown" Bool.true [] [] Bool.false none Bool.false)) #[(some (.ref 253)),none,(some (.str "Unknown" 518)),(some (.str "Unknown" 526)),(some (.builtin "object.__new__")),(some (.bool Bool.true))]))::
 (nat_lit 312,co "__init__" "Pair.__init__" 595 596 597 602 147 3 307 308 (.ref 309) (.ref 310) 311 601)::
 (nat_lit 313,fo "__init__" "Pair.__init__" (zaN (top 32) 0) (.str "boxnarrow.kinds" 428) 312)::
 (nat_lit 319,co "back" "Pair.back" 604 605 606 614 151 4 314 315 (.ref 316) (.ref 317) 318 613)::
 (nat_lit 320,fo "back" "Pair.back" (zaN (top 32) 1) (.str "boxnarrow.kinds" 428) 319)::
 (nat_lit 329,(.mk (.type "dict") none (.dict #[(de P "__module__" 590 (.str "boxnarrow.kinds" 428)),(de P "__firstlineno__" 594 (.int 145 593)),(de P "__init__" 603 (.ref 313)),(de P "back" 615 (.ref 320)),(de P "slope" 626 (.ref 327)),(de P "__static_attributes__" 629 (.ref 328)),(de P "__doc__" 630 .none)] 2) #[]))::
 (nat_lit 330,(.mk (.type "type") none (.cls (PySem.ClassData.mk "Pair" [(.ref 201)] [(.ref 330),(.ref 201),(.type "object")] 329 "Pair" Bool.true [] [(.ref 377),(.ref 424),(.ref 471)] Bool.false none Bool.false)) #[(some (.ref 300)),none,(some (.str "Pair" 583)),(some (.str "Pair" 591)),(some (.builtin "object.__new__")),(some (.bool Bool.true))]))::
 (nat_lit 352,co "forth" "Plus.forth" 654 655 656 662 168 4 347 348 (.ref 349) (.ref 350) 351 661)::
 (nat_lit 353,fo "forth" "Plus.forth" (zaN (top 33) 1) (.str "boxnarrow.kinds" 428) 352)::
 (nat_lit 359,co "first_left" "Plus.first_left" 664 665 666 673 171 5 354 355 (.ref 356) (.ref 357) 358 672)::
 (nat_lit 360,fo "first_left" "Plus.first_left" (zaN (top 33) 2) (.str "boxnarrow.kinds" 428) 359)::
 (nat_lit 366,co "second_left" "Plus.second_left" 675 676 677 684 174 5 361 362 (.ref 363) (.ref 364) 365 683)::
 (nat_lit 367,fo "second_left" "Plus.second_left" (zaN (top 33) 3) (.str "boxnarrow.kinds" 428) 366)::
 (nat_lit 376,(.mk (.type "dict") none (.dict #[(de P "__module__" 640 (.str "boxnarrow.kinds" 428)),(de P "__firstlineno__" 644 (.int 163 643)),(de P "exact" 653 (.ref 346)),(de P "forth" 663 (.ref 353)),(de P "first_left" 674 (.ref 360)),(de P "second_left" 685 (.ref 367)),(de P "slope_of_both" 697 (.ref 374)),(de P "__static_attributes__" 698 (.ref 375)),(de P "__doc__" 699 .none)] 2) #[]))::
 (nat_lit 377,(.mk (.type "type") none (.cls (PySem.ClassData.mk "Plus" [(.ref 330)] [(.ref 377),(.ref 330),(.ref 201),(.type "object")] 376 "Plus" Bool.true [] [] Bool.false none Bool.false)) #[(some (.ref 333)),none,(some (.str "Plus" 633)),(some (.str "Plus" 641)),(some (.builtin "object.__new__")),(some (.bool Bool.true))]))::
 (nat_lit 399,co "forth" "Minus.forth" 723 724 725 731 184 4 394 395 (.ref 396) (.ref 397) 398 730)::
 (nat_lit 400,fo "forth" "Minus.forth" (zaN (top 34) 1) (.str "boxnarrow.kinds" 428) 399)::
 (nat_lit 406,co "first_left" "Minus.first_left" 733 734 735 742 187 5 401 402 (.ref 403) (.ref 404) 405 741)::
 (nat_lit 407,fo "first_left" "Minus.first_left" (zaN (top 34) 2) (.str "boxnarrow.kinds" 428) 406)::
 (nat_lit 413,co "second_left" "Minus.second_left" 744 745 746 753 190 5 408 409 (.ref 410) (.ref 411) 412 752)::
 (nat_lit 414,fo "second_left" "Minus.second_left" (zaN (top 34) 3) (.str "boxnarrow.kinds" 428) 413)::
 (nat_lit 423,(.mk (.type "dict") none (.dict #[(de P "__module__" 709 (.str "boxnarrow.kinds" 428)),(de P "__firstlineno__" 713 (.int 179 712)),(de P "exact" 722 (.ref 393)),(de P "forth" 732 (.ref 400)),(de P "first_left" 743 (.ref 407)),(de P "second_left" 754 (.ref 414)),(de P "slope_of_both" 766 (.ref 421)),(de P "__static_attributes__" 767 (.ref 422)),(de P "__doc__" 768 .none)] 2) #[]))::
 (nat_lit 424,(.mk (.type "type") none (.cls (PySem.ClassData.mk "Minus" [(.ref 330)] [(.ref 424),(.ref 330),(.ref 201),(.type "object")] 423 "Minus" Bool.true [] [] Bool.false none Bool.false)) #[(some (.ref 380)),none,(some (.str "Minus" 702)),(some (.str "Minus" 710)),(some (.builtin "object.__new__")),(some (.bool Bool.true))]))::
 (nat_lit 446,co "forth" "Times.forth" 792 793 794 800 200 4 441 442 (.ref 443) (.ref 444) 445 799)::
 (nat_lit 447,fo "forth" "Times.forth" (zaN (top 35) 1) (.str "boxnarrow.kinds" 428) 446)::
 (nat_lit 453,co "first_left" "Times.first_left" 802 803 804 811 203 5 448 449 (.ref 450) (.ref 451) 452 810)::
 (nat_lit 454,fo "first_left" "Times.first_left" (zaN (top 35) 2) (.str "boxnarrow.kinds" 428) 453)::
 (nat_lit 460,co "second_left" "Times.second_left" 813 814 815 822 206 5 455 456 (.ref 457) (.ref 458) 459 821)::
 (nat_lit 461,fo "second_left" "Times.second_left" (zaN (top 35) 3) (.str "boxnarrow.kinds" 428) 460)::
 (nat_lit 470,(.mk (.type "dict") none (.dict #[(de P "__module__" 778 (.str "boxnarrow.kinds" 428)),(de P "__firstlineno__" 782 (.int 195 781)),(de P "exact" 791 (.ref 440)),(de P "forth" 801 (.ref 447)),(de P "first_left" 812 (.ref 454)),(de P "second_left" 823 (.ref 461)),(de P "slope_of_both" 835 (.ref 468)),(de P "__static_attributes__" 836 (.ref 469)),(de P "__doc__" 837 .none)] 2) #[]))::
 (nat_lit 471,(.mk (.type "type") none (.cls (PySem.ClassData.mk "Times" [(.ref 330)] [(.ref 471),(.ref 330),(.ref 201),(.type "object")] 470 "Times" Bool.true [] [] Bool.false none Bool.false)) #[(some (.ref 427)),none,(some (.str "Times" 771)),(some (.str "Times" 779)),(some (.builtin "object.__new__")),(some (.bool Bool.true))]))::
 (nat_lit 486,co "__init__" "Power.__init__" 852 853 854 859 213 3 481 482 (.ref 483) (.ref 484) 485 858)::
 (nat_lit 487,fo "__init__" "Power.__init__" (zaN (top 36) 0) (.str "boxnarrow.kinds" 428) 486)::
 (nat_lit 500,co "forth" "Power.forth" 870 871 872 878 220 4 495 496 (.ref 497) (.ref 498) 499 877)::
 (nat_lit 501,fo "forth" "Power.forth" (zaN (top 36) 2) (.str "boxnarrow.kinds" 428) 500)::
 (nat_lit 507,co "back" "Power.back" 880 881 882 889 223 4 502 503 (.ref 504) (.ref 505) 506 888)::
 (nat_lit 508,fo "back" "Power.back" (zaN (top 36) 3) (.str "boxnarrow.kinds" 428) 507)::
 (nat_lit 517,(.mk (.type "dict") none (.dict #[(de P "__module__" 847 (.str "boxnarrow.kinds" 428)),(de P "__firstlineno__" 851 (.int 211 850)),(de P "__init__" 860 (.ref 487)),(de P "exact" 869 (.ref 494)),(de P "forth" 879 (.ref 501)),(de P "back" 890 (.ref 508)),(de P "slope" 901 (.ref 515)),(de P "__static_attributes__" 904 (.ref 516)),(de P "__doc__" 905 .none)] 2) #[]))::
 (nat_lit 518,(.mk (.type "type") none (.cls (PySem.ClassData.mk "Power" [(.ref 201)] [(.ref 518),(.ref 201),(.type "object")] 517 "Power" Bool.true [] [] Bool.false none Bool.false)) #[(some (.ref 474)),none,(some (.str "Power" 840)),(some (.str "Power" 848)),(some (.builtin "object.__new__")),(some (.bool Bool.true))]))::
 (nat_lit 526,co "kind_of" "kind_of" 908 909 910 913 231 1 521 522 (.ref 523) (.ref 524) 525 912)::
 (nat_lit 527,fo "kind_of" "kind_of" (top 37) (.str "boxnarrow.kinds" 428) 526)::
 (nat_lit 533,co "worths" "worths" 917 918 919 926 244 3 528 529 (.ref 530) (.ref 531) 532 925)::
 (nat_lit 534,fo "worths" "worths" (top 39) (.str "boxnarrow.worths" 915) 533)::
 (nat_lit 540,co "asked_of" "asked_of" 930 931 932 936 250 2 535 536 (.ref 537) (.ref 538) 539 935)::
 (nat_lit 541,fo "asked_of" "asked_of" (top 41) (.str "boxnarrow.narrow" 928) 540)::
 (nat_lit 547,co "spans_back" "spans_back" 938 939 940 952 254 4 542 543 (.ref 544) (.ref 545) 546 951)::
 (nat_lit 548,fo "spans_back" "spans_back" (top 42) (.str "boxnarrow.narrow" 928) 547)::
 (nat_lit 554,co "narrowed" "narrowed" 954 955 956 967 268 4 549 550 (.ref 551) (.ref 552) 553 966)::
 (nat_lit 555,fo "narrowed" "narrowed" (top 43) (.str "boxnarrow.narrow" 928) 554)::
 (nat_lit 561,co "_law_cell" "_law_cell" 971 972 973 977 279 2 556 557 (.ref 558) (.ref 559) 560 976)::
 (nat_lit 562,fo "_law_cell" "_law_cell" (top 45) (.str "law_boxnarrow_k37_whole_narrowing_by_a_model" 969) 561)::
 (nat_lit 568,co "_law_whole" "_law_whole" 979 980 981 984 283 1 563 564 (.ref 565) (.ref 566) 567 983)::
 (nat_lit 569,fo "_law_whole" "_law_whole" (top 46) (.str "law_boxnarrow_k37_whole_narrowing_by_a_model" 969) 568)::
 (nat_lit 575,co "_law_span_is" "_law_span_is" 986 987 988 991 285 1 570 571 (.ref 572) (.ref 573) 574 990)::
 (nat_lit 576,fo "_law_span_is" "_law_span_is" (top 47) (.str "law_boxnarrow_k37_whole_narrowing_by_a_model" 969) 575)::
 (nat_lit 582,co "_law_spans_are" "_law_spans_are" 993 994 995 1000 289 2 577 578 (.ref 579) (.ref 580) 581 999)::
 (nat_lit 583,fo "_law_spans_are" "_law_spans_are" (top 48) (.str "law_boxnarrow_k37_whole_narrowing_by_a_model" 969) 582)::
 (nat_lit 589,co "_law_divisor" "_law_divisor" 1002 1003 1004 1009 296 2 584 585 (.ref 586) (.ref 587) 588 1008)::
 (nat_lit 590,fo "_law_divisor" "_law_divisor" (top 49) (.str "law_boxnarrow_k37_whole_narrowing_by_a_model" 969) 589)::
 (nat_lit 596,co "_law_fraction" "_law_fraction" 1011 1012 1013 1018 302 2 591 592 (.ref 593) (.ref 594) 595 1017)::
 (nat_lit 597,fo "_law_fraction" "_law_fraction" (top 50) (.str "law_boxnarrow_k37_whole_narrowing_by_a_model" 969) 596)::
 (nat_lit 603,co "_law_grid" "_law_grid" 1020 1021 1022 1026 305 1 598 599 (.ref 600) (.ref 601) 602 1025)::
 (nat_lit 604,fo "_law_grid" "_law_grid" (top 51) (.str "law_boxnarrow_k37_whole_narrowing_by_a_model" 969) 603)::
 (nat_lit 610,co "_law_span" "_law_span" 1028 1029 1030 1037 308 1 605 606 (.ref 607) (.ref 608) 609 1036)::
 (nat_lit 611,fo "_law_span" "_law_span" (top 52) (.str "law_boxnarrow_k37_whole_narrowing_by_a_model" 969) 610)::
 (nat_lit 617,co "_law_power" "_law_power" 1039 1040 1041 1047 322 2 612 613 (.ref 614) (.ref 615) 616 1046)::
 (nat_lit 618,fo "_law_power" "_law_power" (top 53) (.str "law_boxnarrow_k37_whole_narrowing_by_a_model" 969) 617)::
 (nat_lit 624,co "_law_number" "_law_number" 1049 1050 1051 1056 327 1 619 620 (.ref 621) (.ref 622) 623 1055)::
 (nat_lit 625,fo "_law_number" "_law_number" (top 54) (.str "law_boxnarrow_k37_whole_narrowing_by_a_model" 969) 624)::
 (nat_lit 631,co "_law_node" "_law_node" 1058 1059 1060 1068 334 3 626 627 (.ref 628) (.ref 629) 630 1067)::
 (nat_lit 632,fo "_law_node" "_law_node" (top 55) (.str "law_boxnarrow_k37_whole_narrowing_by_a_model" 969) 631)::
 (nat_lit 638,co "_law_weight" "_law_weight" 1070 1071 1072 1076 348 2 633 634 (.ref 635) (.ref 636) 637 1075)::
 (nat_lit 639,fo "_law_weight" "_law_weight" (top 56) (.str "law_boxnarrow_k37_whole_narrowing_by_a_model" 969) 638)::
 (nat_lit 643,co "_law_net" "_law_net" 1078 1079 1080 1082 354 5 640 641 .none .none 642 1081)::
 (nat_lit 644,fo "_law_net" "_law_net" (top 57) (.str "law_boxnarrow_k37_whole_narrowing_by_a_model" 969) 643)::
 (nat_lit 650,co "_law_forth" "_law_forth" 1084 1085 1086 1097 368 4 645 646 (.ref 647) (.ref 648) 649 1096)::
 (nat_lit 651,fo "_law_forth" "_law_forth" (top 58) (.str "law_boxnarrow_k37_whole_narrowing_by_a_model" 969) 650)::
 (nat_lit 657,co "_law_worths" "_law_worths" 1099 1100 1101 1108 388 3 652 653 (.ref 654) (.ref 655) 656 1107)::
 (nat_lit 658,fo "_law_worths" "_law_worths" (top 59) (.str "law_boxnarrow_k37_whole_narrowing_by_a_model" 969) 657)::
 (nat_lit 664,co "_law_row_by" "_law_row_by" 1110 1111 1112 1125 393 5 659 660 (.ref 661) (.ref 662) 663 1124)::
 (nat_lit 665,fo "_law_row_by" "_law_row_by" (top 60) (.str "law_boxnarrow_k37_whole_narrowing_by_a_model" 969) 664)::
 (nat_lit 671,co "_law_meet" "_law_meet" 1127 1128 1129 1133 407 2 666 667 (.ref 668) (.ref 669) 670 1132)::
 (nat_lit 672,fo "_law_meet" "_law_meet" (top 61) (.str "law_boxnarrow_k37_whole_narrowing_by_a_model" 969) 671)::
 (nat_lit 678,co "_law_pieces" "_law_pieces" 1135 1136 1137 1150 411 3 673 674 (.ref 675) (.ref 676) 677 1149)::
 (nat_lit 679,fo "_law_pieces" "_law_pieces" (top 62) (.str "law_boxnarrow_k37_whole_narrowing_by_a_model" 969) 678)::
 (nat_lit 685,co "_law_kept" "_law_kept" 1152 1153 1154 1160 435 2 680 681 (.ref 682) (.ref 683) 684 1159)::
 (nat_lit 686,fo "_law_kept" "_law_kept" (top 63) (.str "law_boxnarrow_k37_whole_narrowing_by_a_model" 969) 685)::
 (nat_lit 690,co "_law_hulled" "_law_hulled" 1162 1163 1164 1166 447 1 687 688 .none .none 689 1165)::
 (nat_lit 691,fo "_law_hulled" "_law_hulled" (top 64) (.str "law_boxnarrow_k37_whole_narrowing_by_a_model" 969) 690)::
 (nat_lit 695,co "_law_quot" "_law_quot" 1168 1169 1170 1172 452 4 692 693 .none .none 694 1171)::
 (nat_lit 696,fo "_law_quot" "_law_quot" (top 65) (.str "law_boxnarrow_k37_whole_narrowing_by_a_model" 969) 695)::
 (nat_lit 702,co "_law_root" "_law_root" 1174 1175 1176 1184 456 3 697 698 (.ref 699) (.ref 700) 701 1183)::
 (nat_lit 703,fo "_law_root" "_law_root" (top 66) (.str "law_boxnarrow_k37_whole_narrowing_by_a_model" 969) 702)::
 (nat_lit 709,co "_law_down" "_law_down" 1186 1187 1188 1194 466 3 704 705 (.ref 706) (.ref 707) 708 1193)::
 (nat_lit 710,fo "_law_down" "_law_down" (top 67) (.str "law_boxnarrow_k37_whole_narrowing_by_a_model" 969) 709)::
 (nat_lit 716,co "_law_root_kept" "_law_root_kept" 1196 1197 1198 1205 473 4 711 712 (.ref 713) (.ref 714) 715 1204)::
 (nat_lit 717,fo "_law_root_kept" "_law_root_kept" (top 68) (.str "law_boxnarrow_k37_whole_narrowing_by_a_model" 969) 716)::
 (nat_lit 723,co "_law_rooted" "_law_rooted" 1207 1208 1209 1220 478 4 718 719 (.ref 720) (.ref 721) 722 1219)::
 (nat_lit 724,fo "_law_rooted" "_law_rooted" (top 69) (.str "law_boxnarrow_k37_whole_narrowing_by_a_model" 969) 723)::
 (nat_lit 730,co "_law_half" "_law_half" 1222 1223 1224 1232 491 6 725 726 (.ref 727) (.ref 728) 729 1231)::
 (nat_lit 731,fo "_law_half" "_law_half" (top 70) (.str "law_boxnarrow_k37_whole_narrowing_by_a_model" 969) 730)::
 (nat_lit 737,co "_law_back" "_law_back" 1234 1235 1236 1244 499 4 732 733 (.ref 734) (.ref 735) 736 1243)::
 (nat_lit 738,fo "_law_back" "_law_back" (top 71) (.str "law_boxnarrow_k37_whole_narrowing_by_a_model" 969) 737)::
 (nat_lit 744,co "_law_narrowed" "_law_narrowed" 1246 1247 1248 1261 512 4 739 740 (.ref 741) (.ref 742) 743 1260)::
 (nat_lit 745,fo "_law_narrowed" "_law_narrowed" (top 72) (.str "law_boxnarrow_k37_whole_narrowing_by_a_model" 969) 744)::
 (nat_lit 751,co "_law_digit_span" "_law_digit_span" 1263 1264 1265 1269 531 1 746 747 (.ref 748) (.ref 749) 750 1268)::
 (nat_lit 752,fo "_law_digit_span" "_law_digit_span" (top 73) (.str "law_boxnarrow_k37_whole_narrowing_by_a_model" 969) 751)::
 (nat_lit 758,co "_law_digit_node" "_law_digit_node" 1271 1272 1273 1280 534 3 753 754 (.ref 755) (.ref 756) 757 1279)::
 (nat_lit 759,fo "_law_digit_node" "_law_digit_node" (top 74) (.str "law_boxnarrow_k37_whole_narrowing_by_a_model" 969) 758)::
 (nat_lit 763,co "_law_by_digits" "_law_by_digits" 1282 1283 1284 1286 545 1 760 761 .none .none 762 1285)::
 (nat_lit 764,fo "_law_by_digits" "_law_by_digits" (top 75) (.str "law_boxnarrow_k37_whole_narrowing_by_a_model" 969) 763)::
 (nat_lit 768,co "_law_drawn" "_law_drawn" 1288 1289 1290 1292 561 1 765 766 .none .none 767 1291)::
 (nat_lit 769,fo "_law_drawn" "_law_drawn" (top 76) (.str "law_boxnarrow_k37_whole_narrowing_by_a_model" 969) 768)::
 (nat_lit 775,co "law" "law" 1294 1295 1296 1307 571 1 770 771 (.ref 772) (.ref 773) 774 1306)::
 (nat_lit 776,fo "law" "law" (top 77) (.str "law_boxnarrow_k37_whole_narrowing_by_a_model" 969) 775)::[]
def ks:List Addr:=nat_lit 3::nat_lit 30::nat_lit 31::nat_lit 43::nat_lit 44::nat_lit 52::nat_lit 53::nat_lit 59::nat_lit 60::nat_lit 66::nat_lit 67::nat_lit 73::nat_lit 74::nat_lit 80::nat_lit 81::nat_lit 87::nat_lit 88::nat_lit 94::nat_lit 95::nat_lit 99::nat_lit 100::nat_lit 106::nat_lit 107::nat_lit 113::nat_lit 114::nat_lit 120::nat_lit 121::nat_lit 127::nat_lit 128::nat_lit 134::nat_lit 135::nat_lit 141::nat_lit 142::nat_lit 148::nat_lit 149::nat_lit 155::nat_lit 156::nat_lit 162::nat_lit 163::nat_lit 169::nat_lit 170::nat_lit 176::nat_lit 177::nat_lit 183::nat_lit 184::nat_lit 190::nat_lit 191::nat_lit 200::nat_lit 201::nat_lit 218::nat_lit 219::nat_lit 232::nat_lit 233::nat_lit 239::nat_lit 240::nat_lit 249::nat_lit 250::nat_lit 265::nat_lit 266::nat_lit 279::nat_lit 280::nat_lit 286::nat_lit 287::nat_lit 296::nat_lit 297::nat_lit 312::nat_lit 313::nat_lit 319::nat_lit 320::nat_lit 329::nat_lit 330::nat_lit 352::nat_lit 353::nat_lit 359::nat_lit 360::nat_lit 366::nat_lit 367::nat_lit 376::nat_lit 377::nat_lit 399::nat_lit 400::nat_lit 406::nat_lit 407::nat_lit 413::nat_lit 414::nat_lit 423::nat_lit 424::nat_lit 446::nat_lit 447::nat_lit 453::nat_lit 454::nat_lit 460::nat_lit 461::nat_lit 470::nat_lit 471::nat_lit 486::nat_lit 487::nat_lit 500::nat_lit 501::nat_lit 507::nat_lit 508::nat_lit 517::nat_lit 518::nat_lit 526::nat_lit 527::nat_lit 533::nat_lit 534::nat_lit 540::nat_lit 541::nat_lit 547::nat_lit 548::nat_lit 554::nat_lit 555::nat_lit 561::nat_lit 562::nat_lit 568::nat_lit 569::nat_lit 575::nat_lit 576::nat_lit 582::nat_lit 583::nat_lit 589::nat_lit 590::nat_lit 596::nat_lit 597::nat_lit 603::nat_lit 604::nat_lit 610::nat_lit 611::nat_lit 617::nat_lit 618::nat_lit 624::nat_lit 625::nat_lit 631::nat_lit 632::nat_lit 638::nat_lit 639::nat_lit 643::nat_lit 644::nat_lit 650::nat_lit 651::nat_lit 657::nat_lit 658::nat_lit 664::nat_lit 665::nat_lit 671::nat_lit 672::nat_lit 678::nat_lit 679::nat_lit 685::nat_lit 686::nat_lit 690::nat_lit 691::nat_lit 695::nat_lit 696::nat_lit 702::nat_lit 703::nat_lit 709::nat_lit 710::nat_lit 716::nat_lit 717::nat_lit 723::nat_lit 724::nat_lit 730::nat_lit 731::nat_lit 737::nat_lit 738::nat_lit 744::nat_lit 745::nat_lit 751::nat_lit 752::nat_lit 758::nat_lit 759::nat_lit 763::nat_lit 764::nat_lit 768::nat_lit 769::nat_lit 775::nat_lit 776::[]
theorem zeq (P:Params):ks=(kp P).map (·.1):=by kernel_rfl
noncomputable abbrev hk:PySem.W.Hook:=PySem.W.kHook kp ks zeq
abbrev xt (s:Shared):Bool:=PySem.W.xlAt vw [] s&&PySem.W.recOk (PySem.W.RowW.records (PySem.W.OpenRow.toRowW (PySem.W.OpenLaw.row PySem.Challenge.rw_boxnarrow_k37_whole_narrowing_by_a_model))) s
theorem zn0:PySem.W.opening PySem.Challenge.pw_boxnarrow_k37_whole_narrowing_by_a_model=PySem.W.plainProg PySem.Challenge.pw_boxnarrow_k37_whole_narrowing_by_a_model.main.scope.names:=by kernel_rfl
theorem fe_eq (s:Shared):PySem.fenceModules? PySem.Challenge.pw_boxnarrow_k37_whole_narrowing_by_a_model s=some s:=by kernel_rfl
theorem si_eq (w:World):((PySem.W.boot_heap w.params).isNs mainGlobals&&(Array.mk []:Array GenState).size==0,(PySem.W.boot_heap w.params).objs.size,(PySem.W.boot_heap w.params).nsMap mainGlobals "__annotations__")=(true,11,some (.ref 6)):=by kernel_rfl
open PySem.W PySem.Calls in
theorem zyt (w:World):(λos=>(L3.goT PySem.treeTable PySem.Challenge.pw_boxnarrow_k37_whole_narrowing_by_a_model w 11 (some (.ref 6)) 10580 (L3.zct w os) (PySem.W.topStub PySem.Challenge.pw_boxnarrow_k37_whole_narrowing_by_a_model)).map λs=>(L3.zoU PySem.Challenge.pw_boxnarrow_k37_whole_narrowing_by_a_model w s))=λ_=>some (true):=by kernel_rfl
open PySem.W PySem.Calls in
theorem zuS (w:World):(λos=>(L3.goT PySem.treeTable PySem.Challenge.pw_boxnarrow_k37_whole_narrowing_by_a_model w 11 (some (.ref 6)) 10580 (L3.zct w os) (PySem.W.topStub PySem.Challenge.pw_boxnarrow_k37_whole_narrowing_by_a_model)).map λs=>(seen ((recsOf vw).map (·.name)) (ownsOf vw) [] { s.abs with gens:=#[] }))=λ_=>some (expectedOf vw):=by kernel_rfl
open PySem.W PySem.Calls in
theorem zvp (w:World):(λos=>(L3.goT PySem.treeTable PySem.Challenge.pw_boxnarrow_k37_whole_narrowing_by_a_model w 11 (some (.ref 6)) 10580 (L3.zct w os) (PySem.W.topStub PySem.Challenge.pw_boxnarrow_k37_whole_narrowing_by_a_model)).map λs=>(s.abs.heap.bltView))=λ_=>some (bltViewBooted):=by kernel_rfl
open PySem.W PySem.Calls in
theorem zrM (w:World):(λos=>(L3.goT PySem.treeTable PySem.Challenge.pw_boxnarrow_k37_whole_narrowing_by_a_model w 11 (some (.ref 6)) 10580 (L3.zct w os) (PySem.W.topStub PySem.Challenge.pw_boxnarrow_k37_whole_narrowing_by_a_model)).map λs=>(s.abs.heap.keysOk (looseW vw []) ((recsOf vw).map (·.name)) ((litsOf vw).map (·.1)) ((clssOf vw (looseW vw [])).map (·.name))&&s.abs.heap.accountedOkI (importedModules PySem.Challenge.pw_boxnarrow_k37_whole_narrowing_by_a_model.main.body)&&s.abs.heap.isNs mainGlobals&&s.abs.heap.isNs builtinsNs&&tablesOk vw s.abs.heap&&xt s.abs&&(if true then s.abs.gens.size==0 else !leftWithCleanup s.abs.gens)))=λ_=>some (true):=by kernel_rfl
open PySem.W PySem.Calls in
theorem zxP (w:World):(λos=>(L3.goT PySem.treeTable PySem.Challenge.pw_boxnarrow_k37_whole_narrowing_by_a_model w 11 (some (.ref 6)) 10580 (L3.zct w os) (PySem.W.topStub PySem.Challenge.pw_boxnarrow_k37_whole_narrowing_by_a_model)).map λs=>(tabsOk vw s.abs))=λ_=>some (true):=by kernel_rfl
open PySem.W PySem.Calls in
theorem zsf (w:World):(λos=>(L3.goT PySem.treeTable PySem.Challenge.pw_boxnarrow_k37_whole_narrowing_by_a_model w 11 (some (.ref 6)) 10580 (L3.zct w os) (PySem.W.topStub PySem.Challenge.pw_boxnarrow_k37_whole_narrowing_by_a_model)).map λs=>(pinSeenD vw (drecsOf vw) s.abs,plainSeenE vw (looseW vw []) s.abs,plainSeenD vw [] s.abs,wideSeen vw s.abs,clsSeenW vw [] s.abs))=λ_=>some (pinGoodD (drecsOf vw),plainGoodE vw (looseW vw []),plainGoodD vw [],wideGood vw,clsGoodW vw []):=by kernel_rfl
theorem ob_eq (w:World):(λos=>(L3.goT PySem.treeTable PySem.Challenge.pw_boxnarrow_k37_whole_narrowing_by_a_model w 11 (some (.ref 6)) 10580 (L3.zct w os) (PySem.W.topStub PySem.Challenge.pw_boxnarrow_k37_whole_narrowing_by_a_model)).map λs=>ks.map (L3.znl s))=λ_=>some (hk.val w):=by kernel_rfl
theorem left:PySem.W.LeftO PySem.Challenge.pw_boxnarrow_k37_whole_narrowing_by_a_model vw [] xt hk.obs hk.val 10580:=L3.zxy (L3.zvx ks) zn0 (by decide) fe_eq si_eq (λw=>L3.zoM (zyt w) (zuS w)) (λw=>L3.zoM (zvp w) (zrM w)) (λw=>L3.zoM (zxP w) (zsf w)) ob_eq
end Mine
set_option Elab.async false
set_option linter.all false
set_option maxRecDepth 100000
namespace L2
open PySem PySem.Spec PyProof.Rows
abbrev Key:=Sum Int Str
def zqS:Key→Value→Bool
 | .inl k,v=>Value.isInt k v
 | .inr x,v=>Value.isStrOf x v
def keyH (w:World):Key→Int
 | .inl k=>hashInt k
 | .inr x=>hashStr w x
theorem zc8:∀ {k:Key} {v:Value},zqS k v=true→(∃i t,k=Sum.inl i∧v=Value.int i t)∨(∃x t,k=Sum.inr x∧v=Value.str x t)
 | .inl i,v,h=>by
  obtain⟨t,e⟩:=Value.isInt_shape (k:=i) (v:=v) h
  exact .inl ⟨i,t,rfl,e⟩
 | .inr x,v,h=>by
  obtain⟨t,e⟩:=Value.isStrOf_shape (x:=x) (v:=v) h
  exact .inr ⟨x,t,rfl,e⟩
theorem zw7 (a b:Int):decide ((Sum.inl a:Key)=Sum.inl b)=(a==b):=by
 by_cases e:a=b
 ·subst e; simp
 ·have h:¬ (Sum.inl a:Key)=Sum.inl b:=λq=>e (Sum.inl.inj q)
  rw[decide_eq_false h]
  exact(beq_eq_false_iff_ne.mpr e).symm
theorem zsz (a b:Str):decide ((Sum.inr a:Key)=Sum.inr b)=decide (a=b):=by
 by_cases e:a=b
 ·subst e; simp
 ·have h:¬ (Sum.inr a:Key)=Sum.inr b:=λq=>e (Sum.inr.inj q)
  rw[decide_eq_false h,decide_eq_false e]
theorem zwK (a:Int)(b:Str):decide ((Sum.inl a:Key)=Sum.inr b)=false:=decide_eq_false (λq=>nomatch q)
theorem zs8 (a:Str)(b:Int):decide ((Sum.inr a:Key)=Sum.inl b)=false:=decide_eq_false (λq=>nomatch q)
def zri (prog:Program)(w:World):PySem.KeyKind prog w Key where
 is:=zqS
 hash:=keyH w
 inj:=λv a b ha hb=>by
  rcases zc8 ha with ⟨i,t,rfl,rfl⟩ | ⟨x,t,rfl,rfl⟩
  ·rcases zc8 hb with ⟨j,u,rfl,e⟩ | ⟨y,u,rfl,e⟩
   ·injection e with e1 _; rw[e1]
   ·exact nomatch e
  ·rcases zc8 hb with ⟨j,u,rfl,e⟩ | ⟨y,u,rfl,e⟩
   ·exact nomatch e
   ·injection e with e1 _; rw[e1]
 byValue:=λk v h=>by
  rcases zc8 h with ⟨i,t,rfl,rfl⟩ | ⟨x,t,rfl,rfl⟩ <;> rfl
 pyHash:=λhv h=>by
  rcases zc8 hv with ⟨i,t,rfl,rfl⟩ | ⟨x,t,rfl,rfl⟩
  ·exact wpAny_pyHash_int h
  ·exact wpAny_pyHash_str h
 eqBool:=λhu hv h=>by
  rcases zc8 hu with ⟨i,t,rfl,rfl⟩ | ⟨x,t,rfl,rfl⟩
  ·rcases zc8 hv with ⟨j,u,rfl,rfl⟩ | ⟨y,u,rfl,rfl⟩
   ·rw[zw7] at h; exact wpAny_eqBool_int h
   ·rw[zwK] at h; exact SeqAt.EqAt.int_str i t y u _ _ _ _ h
  ·rcases zc8 hv with ⟨j,u,rfl,rfl⟩ | ⟨y,u,rfl,rfl⟩
   ·rw[zs8] at h; exact SeqAt.EqAt.str_int x t j u _ _ _ _ h
   ·rw[zsz] at h; exact wpAny_eqBool_str h
 «strs»:=λk x t v h=>by
  rcases zc8 h with ⟨i,u,rfl,e⟩ | ⟨y,u,rfl,e⟩
  ·exact nomatch e
  ·injection e with e1 _
   subst e1
   cases v <;> rfl
end L2
namespace L2
open PySem PySem.Spec PyProof.Rows
inductive V where
 | non | bl (b:Bool) | int (i:Int) | str (x:Str) | byt (b:Array UInt8) | flt (b:UInt64) | ref (a:Addr) | ty (n:String)
 deriving DecidableEq
def zay:V→Value→Prop
 | .non,u=>u=Value.none
 | .bl b,u=>u=Value.bool b
 | .int i,u=>∃t,u=Value.int i t
 | .str x,u=>∃t,u=Value.str x t
 | .byt b,u=>∃t,u=Value.bytes b t
 | .flt b,u=>∃t,u=Value.float b t
 | .ref a,u=>u=Value.ref a
 | .ty n,u=>u=Value.type n
abbrev zaA:List V→List Value→Prop:=Paired zay
theorem zaA.length {xs:List V}{us:List Value}(r:zaA xs us):xs.length=us.length:=Paired.length r
theorem zaA.get:∀ {xs:List V} {us:List Value} {i:Nat} {x:V},zaA xs us→xs[i]?=some x→∃u,us[i]?=some u∧zay x u
 | _,_,_,_,.nil,e=>by simp at e
 | _,_,0,_,.cons r _,e=>by simp at e; subst e; exact⟨_,rfl,r⟩
 | _,_,i+1,x,.cons _ t,e=>by
  obtain⟨u,h1,h2⟩:=zaA.get (i:=i) (x:=x) t (by simpa using e)
  exact⟨u,by simpa using h1,h2⟩
theorem zaA.set {x:V}{u:Value}(r:zay x u):∀ {xs:List V} {us:List Value} (i:Nat),zaA xs us→zaA (xs.set i x) (us.set i u)
 | _,_,_,.nil=>.nil
 | _,_,0,.cons _ t=>.cons r t
 | _,_,i+1,.cons q t=>.cons q (zaA.set r i t)
theorem zaA.append:∀ {xs ys:List V} {us ws:List Value},zaA xs us→zaA ys ws→zaA (xs++ys) (us++ws)
 | _,_,_,_,.nil,s=>s
 | _,_,_,_,.cons r t,s=>.cons r (zaA.append t s)
theorem zaA.take:∀ {xs:List V} {us:List Value} (n:Nat),zaA xs us→zaA (xs.take n) (us.take n)
 | _,_,0,_=>.nil
 | _,_,_+1,.nil=>.nil
 | _,_,n+1,.cons r t=>.cons r (zaA.take n t)
theorem zaA.drop:∀ {xs:List V} {us:List Value} (n:Nat),zaA xs us→zaA (xs.drop n) (us.drop n)
 | _,_,0,r=>r
 | _,_,_+1,.nil=>.nil
 | _,_,n+1,.cons _ t=>zaA.drop n t
theorem zaA.none_of:∀ {xs:List V} {us:List Value} {i:Nat},zaA xs us→xs[i]?=none→us[i]?=none:=λ{xs us i} r e=>by
 have h1:=r.length
 have h2:xs.length≤i:=VaC.mp e
 exact VaC.mpr (by omega)
def zbK:Option V→Option Value→Prop
 | some v,some u=>zay v u
 | none,none=>True
 | _,_=>False
def KV {κ:Type}:List (κ×V)→List (κ×Value)→Prop:=Paired λ(p:κ×V) (q:κ×Value)=>p.1=q.1∧zay p.2 q.2
def kV:Key→V
 | .inl i=>.int i
 | .inr x=>.str x
inductive HO where
  | lst (xs:List V)
  | tup (xs:List V)
  | dK (kvs:List (Key×V)) | dT (kvs:List (List Key×V))
  | set (S:Int→Bool) (n:Nat)
  | ins (C dx:Addr) (fs:List (Str×V))
  | own (x:Addr)
  | xd (fs:List (Str×V))
  | met (f x:Addr)
  | rng (lo hi:Int)
  | frz (o:Obj) (u:HO)
  | tbl (ps:Array Value)
  | ext (φ:Heap→Prop)
abbrev Hp:=Addr→Option HO
def upd (H:Hp)(a:Addr)(o:HO):Hp:=λb=>if b=a then some o else H b
theorem zcP {H:Hp}{a:Addr}{o:HO}:upd H a o a=some o:=by unfold upd; rw[if_pos rfl]
theorem zbd {H:Hp}{a b:Addr}{o:HO}(h:b≠a):upd H a o b=H b:=by unfold upd; rw[if_neg h]
theorem zoQ {H:Hp}{a b:Addr}{o u:HO}(h:H a=some o)(h':H b=some u)(d:o≠u):a≠b:=by
 intro e; subst e; rw[h] at h'; exact d (Option.some.inj h')
theorem zdy {H:Hp}{a b:Addr}{o:HO}(h:H a=some o)(h':H b=none):a≠b:=by
 intro e; subst e; rw[h] at h'; cases h'
section
variable (P:Program)(w:World)
def zbu (H:Hp)(h:Heap)(a:Addr):HO→Prop
 | .lst xs=>xs.length≤sizeLine∧∃(its:List Value) (n:Nat),zaA xs its∧h.get? a=some { cls:=.type "list",data:=.seq its.toArray n }
 | .tup xs=>xs.length≤sizeLine∧∃its:List Value,zaA xs its∧IsTup h a its.toArray
 | .dK kvs=>kvs.length≤sizeLine∧(a==sysModules)=false∧∃vs,KV kvs vs∧h.DictOf (zri P w) a vs
 | .dT kvs=>kvs.length≤sizeLine∧(a==sysModules)=false∧∃xs:List (List Key×Addr×Value),
   Paired (λ(p:List Key×V) (q:List Key×Addr×Value)=>p.1=q.1∧H q.2.1=some (.tup (p.1.map kV))∧zay p.2 q.2.2) kvs xs∧
   ∃o es ep,h.get? a=some o∧o.ExactDict∧o.data=.dict es ep∧es.toList=xs.map (entryOfKey (tupleKind (zri P w)))∧(xs.map (·.1)).Nodup
 | .set S n=>h.SetOf (intKind P w) a S n
 | .ins C dx fs=>H dx=some (.own a)∧fs.length≤1000∧dx≠a∧h.get? a=some (PySem.W.instObj C dx)∧
   ∃mA,h.Ns1 dx mA∧(∀f,zbK (fs.lookup f) (mA f))∧PySem.Within mA (fs.map (·.1))
 | .own _=>∃o,h.get? a=some o
 | .xd fs=>∃mA,h.Ns1 a mA∧∀f,zbK (fs.lookup f) (mA f)
 | .rng lo hi=>∃t u v,h.get? a=some { cls:=.type "range",data:=.fields #[.int lo t,.int hi u,.int 1 v] }
 | .frz o u=>h.get? a=some o∧zbu H h a u
 | .tbl ps=>h.get? a=some { cls:=.none,data:=.fields ps }
 | .met f x=>h.get? a=some (PySem.W.methodObj (.ref f) (.ref x))
 | .ext φ=>φ h∧(∃o,h.get? a=some o)∧∀h1 h2:Heap,φ h1→(∀o,h1.get? a=some o→h2.get? a=some o)→φ h2
def HOk (H:Hp)(h:Heap):Prop:=∀a o,H a=some o→zbu P w H h a o
end
section
variable {P:Program}{w:World}{H H':Hp}{h h':Heap}{a:Addr}{o:HO}
theorem zbu.lt (x:zbu P w H h a o):a<h.objs.size:=by
 cases o with
 | lst xs=>obtain⟨_,_,_,_,e⟩:=x; exact Heap.lt_size e
 | tup xs=>obtain⟨_,_,_,p⟩:=x; exact p.lt
 | dK kvs=>obtain⟨_,_,_,_,o,_,_,e,_⟩:=x; exact Heap.lt_size e
 | dT kvs=>obtain⟨_,_,_,_,o,_,_,e,_⟩:=x; exact Heap.lt_size e
 | set S n=>obtain⟨o,_,_,_,e,_⟩:=x; exact Heap.lt_size e
 | ins C dx fs=>obtain⟨_,_,_,e,_⟩:=x; exact Heap.lt_size e
 | own y=>obtain⟨_,e⟩:=x; exact Heap.lt_size e
 | xd fs=>obtain⟨_,⟨_,_,_,e,_⟩,_⟩:=x; exact Heap.lt_size e
 | rng lo hi=>obtain⟨_,_,_,e⟩:=x; exact Heap.lt_size e
 | frz ob u=>obtain⟨e,_⟩:=x; exact Heap.lt_size e
 | tbl ps=>exact Heap.lt_size (show h.get? a=some _ from x)
 | met f y=>exact Heap.lt_size (show h.get? a=some _ from x)
 | ext φ=>obtain⟨_,⟨_,e⟩,_⟩:=x; exact Heap.lt_size e
theorem Paired.mapP {α β:Type}{F G:α→β→Prop}:∀ {l₁:List α} {l₂:List β},Paired F l₁ l₂→(∀a b,F a b→G a b)→Paired G l₁ l₂
 | _,_,.nil,_=>.nil
 | _,_,.cons r t,f=>.cons (f _ _ r) (Paired.mapP t f)
theorem zbu.stay (x:zbu P w H h a o)(k:∀b u,(b=a∨H b=some (.own a))→h.get? b=some u→h'.get? b=some u)
  (ho:∀b,H b=some (.own a)→H' b=some (.own a))(ht:∀b xs,H b=some (.tup xs)→H' b=some (.tup xs)):zbu P w H' h' a o:=by
 induction o with
 | lst xs=>obtain⟨z,its,n,r,e⟩:=x; exact⟨z,its,n,r,k _ _ (.inl rfl) e⟩
 | tup xs=>obtain⟨z,its,r,ob,e,c⟩:=x; exact⟨z,its,r,ob,k _ _ (.inl rfl) e,c⟩
 | dK kvs=>obtain⟨z,y,vs,r,ob,es,ep,e,c⟩:=x; exact⟨z,y,vs,r,ob,es,ep,k _ _ (.inl rfl) e,c⟩
 | dT kvs=>
  obtain⟨z,y,xs,r,ob,es,ep,e,c⟩:=x
  exact⟨z,y,xs,Paired.mapP r λp q z=>⟨z.1,ht _ _ z.2.1,z.2.2⟩,ob,es,ep,k _ _ (.inl rfl) e,c⟩
 | set S n=>obtain⟨ob,es,ep,t,e,c⟩:=x; exact⟨ob,es,ep,t,k _ _ (.inl rfl) e,c⟩
 | ins C dx fs=>
  obtain⟨d,z,ne,e,mA,⟨od,es,ep,e2,c⟩,r⟩:=x
  exact⟨ho _ d,z,ne,k _ _ (.inl rfl) e,mA,⟨od,es,ep,k _ _ (.inr d) e2,c⟩,r⟩
 | own y=>obtain⟨ob,e⟩:=x; exact⟨ob,k _ _ (.inl rfl) e⟩
 | xd fs=>obtain⟨mA,⟨od,es,ep,e,c⟩,r⟩:=x; exact⟨mA,⟨od,es,ep,k _ _ (.inl rfl) e,c⟩,r⟩
 | rng lo hi=>obtain⟨t,u,v,e⟩:=x; exact⟨t,u,v,k _ _ (.inl rfl) e⟩
 | frz ob u ih=>obtain⟨e,q⟩:=x; exact⟨k _ _ (.inl rfl) e,ih q⟩
 | tbl ps=>
  have e:h.get? a=some { cls:=.none,data:=.fields ps }:=x
  show h'.get? a=some { cls:=.none,data:=.fields ps }
  exact k a _ (.inl rfl) e
 | met f y=>
  have e:h.get? a=some (PySem.W.methodObj (.ref f) (.ref y)):=x
  show h'.get? a=some (PySem.W.methodObj (.ref f) (.ref y))
  exact k a _ (.inl rfl) e
 | ext φ=>obtain⟨p,⟨o,e⟩,st⟩:=x; exact⟨st _ _ p λo q=>k _ _ (.inl rfl) q,⟨o,k _ _ (.inl rfl) e⟩,st⟩
theorem HOk.lt (x:HOk P w H h)(e:H a=some o):a<h.objs.size:=(x a o e).lt
theorem HOk.fresh (x:HOk P w H h)(e:h.objs.size≤a):H a=none:=by
 cases q:H a with
 | none=>rfl
 | some u=>exact absurd (Vap (x.lt q) e) (VaN _)
theorem HOk.kept (x:HOk P w H h)(k:∀b u,h.get? b=some u→h'.get? b=some u):HOk P w H h':=λa o e=>
 (x a o e).stay (λb u _ q=>k b u q) (λ_ q=>q) λ_ _ q=>q
theorem HOk.laid (x:HOk P w H h)(k:∀b u,h.get? b=some u→h'.get? b=some u)(hp:h.objs.size≤a)(new:zbu P w (upd H a o) h' a o):HOk P w (upd H a o) h':=λb u e=>by
 have hn:=x.fresh hp
 by_cases hb:b=a
 ·subst hb; rw[zcP] at e; cases e; exact new
 ·rw[zbd hb] at e
  exact(x b u e).stay (λc v _ q=>k c v q) (λc q=>by rw[zbd (zdy q hn)]; exact q) λc xs q=>by rw[zbd (zdy q hn)]; exact q
end
def Rd (H:Hp)(a:Addr)(u:HO):Prop:=H a=some u∨∃o,H a=some (.frz o u)
theorem Rd.of {H:Hp}{a:Addr}{u:HO}(h:H a=some u):Rd H a u:=.inl h
theorem Rd.ok {P:Program}{w:World}{H:Hp}{h:Heap}{a:Addr}{u:HO}(r:Rd H a u)(x:HOk P w H h):zbu P w H h a u:=by
 rcases r with r | ⟨o,r⟩
 ·exact x a u r
 ·obtain⟨_,q⟩:=x a _ r
  exact q
def Mut:Option HO→Prop
 | some (.lst _)=>True
 | some (.dK _)=>True
 | some (.dT _)=>True
 | some (.set _ _)=>True
 | some (.ins _ _ _)=>True
 | some (.ext _)=>True
 | _=>False
section
variable {P:Program}{w:World}{H:Hp}{h h':Heap}{x e:Addr}{o':HO}
theorem HOk.write (ok:HOk P w H h)(mu:Mut (H x))(he:e=x∨H e=some (.own x))(k:∀b u,b≠e→h.get? b=some u→h'.get? b=some u)(heo:∃u,h'.get? e=some u)
  (new:zbu P w (upd H x o') h' x o'):HOk P w (upd H x o') h':=λb u q=>by
 have nown:∀c y,H c=some (.own y)→c≠x:=λc y r z=>by subst z; rw[r] at mu; exact mu
 have ntup:∀c xs,H c=some (.tup xs)→c≠x:=λc xs r z=>by subst z; rw[r] at mu; exact mu
 by_cases hb:b=x
 ·subst hb; rw[zcP] at q; cases q; exact new
 ·rw[zbd hb] at q
  by_cases hbe:b=e
  ·have q':H b=some (.own x):=by
    rcases he with z | z
    ·exact absurd (hbe.trans z) hb
    ·rw[hbe]; exact z
   rw[q] at q'; cases q'
   obtain⟨v,hv⟩:=heo
   exact⟨v,by rw[hbe]; exact hv⟩
  ·refine(ok b u q).stay (λc v hc r=>k c v ?_ r) (λc r=>by rw[zbd (nown c b r)]; exact r) λc xs r=>by rw[zbd (ntup c xs r)]; exact r
   rcases hc with rfl | hc
   ·exact hbe
   ·rintro rfl
    rcases he with z | z
    ·exact nown c b hc z
    ·rw[hc] at z; cases z; exact hb rfl
end
structure Un (fs ex:List Addr)(H H':Hp)(h h':Heap):Prop where
 keep:∀b o,h.get? b=some o→H b=none→b ∉ fs→b ∉ ex→h'.get? b=some o
 slot:∀b o,h.get? b=some o→H b=none→b∈fs→b ∉ ex→∃sl,h'.get? b=some { o with slots:=sl }
 free:∀b o,h.get? b=some o→H b=none→b ∉ ex→H' b=none
 there:∀b o,h.get? b=some o→b ∉ ex→∃o',h'.get? b=some o'
 tups:∀b xs,H b=some (.tup xs)→H' b=some (.tup xs)
 frzs:∀b o u,H b=some (.frz o u)→H' b=some (.frz o u)
 tbls:∀b ps,H b=some (.tbl ps)→∃more,H' b=some (.tbl (ps++more))
section
variable {fs fs' ex ex':List Addr}{H H1 H2:Hp}{h h1 h2 h':Heap}{a x e:Addr}{o:HO}
theorem Un.any (u:Un fs ex H H1 h h1){b:Addr}{ob:Obj}(q:h.get? b=some ob)(n:H b=none)(hx:b ∉ ex):∃sl,h1.get? b=some { ob with slots:=sl }:=by
 by_cases hb:b∈fs
 ·exact u.slot b ob q n hb hx
 ·exact⟨ob.slots,u.keep b ob q n hb hx⟩
theorem Un.trans (a:Un fs ex H H1 h h1)(b:Un fs ex H1 H2 h1 h2):Un fs ex H H2 h h2 where
 keep:=λc ob q n hc hx=>b.keep c ob (a.keep c ob q n hc hx) (a.free c ob q n hx) hc hx
 slot:=λc ob q n hc hx=>by
  obtain⟨sl,e1⟩:=a.slot c ob q n hc hx
  obtain⟨sl',e2⟩:=b.slot c _ e1 (a.free c ob q n hx) hc hx
  exact⟨sl',e2⟩
 free:=λc ob q n hx=>by
  obtain⟨o',e1⟩:=a.there c ob q hx
  exact b.free c o' e1 (a.free c ob q n hx) hx
 there:=λc ob q hx=>by
  obtain⟨o',e1⟩:=a.there c ob q hx
  exact b.there c o' e1 hx
 tups:=λc xs q=>b.tups c xs (a.tups c xs q)
 frzs:=λc ob xs q=>b.frzs c ob xs (a.frzs c ob xs q)
 tbls:=λc ps q=>by
  obtain⟨m1,e1⟩:=a.tbls c ps q
  obtain⟨m2,e2⟩:=b.tbls c _ e1
  exact⟨m1++m2,by rw[e2,Array.append_assoc]⟩
theorem Un.kept (k:∀b u,h.get? b=some u→h'.get? b=some u):Un fs ex H H h h':=
 ⟨λb ob q _ _ _=>k b ob q,λb ob q _ _ _=>⟨ob.slots,k b ob q⟩,λ_ _ _ n _=>n,λb ob q _=>⟨ob,k b ob q⟩,λ_ _ q=>q,λ_ _ _ q=>q,λ_ ps q=>⟨#[],by rw[q]; simp⟩⟩
theorem Un.refl:Un fs ex H H h h:=Un.kept λ_ _ q=>q
theorem Un.laid (k:∀b u,h.get? b=some u→h'.get? b=some u)(hp:h.objs.size≤a)(hn:H a=none):Un fs ex H (upd H a o) h h' where
 keep:=λb u q _ _ _=>k b u q
 slot:=λb u q _ _ _=>⟨u.slots,k b u q⟩
 free:=λb u q n _=>by rw[zbd (Vaq (Vap (Heap.lt_size q) hp))]; exact n
 there:=λb u q _=>⟨u,k b u q⟩
 tups:=λb xs q=>by rw[zbd (zdy q hn)]; exact q
 frzs:=λb u xs q=>by rw[zbd (zdy q hn)]; exact q
 tbls:=λb ps q=>⟨#[],by rw[zbd (zdy q hn),q]; simp⟩
theorem Un.write (mu:Mut (H x))(he:e=x∨H e=some (.own x))(k:∀b u,b≠e→h.get? b=some u→h'.get? b=some u)(heo:∃u,h'.get? e=some u):Un fs ex H (upd H x o) h h':=by
 have hx:∀b,H b=none→b≠x:=λb n z=>by subst z; rw[n] at mu; exact mu
 have hb:∀b,H b=none→b≠e:=λb n z=>by
  subst z
  rcases he with r | r
  ·exact hx b n r
  ·rw[n] at r; cases r
 have hm:∀b u,H b=some u→¬ Mut (some u)→b≠x:=λb u q nm z=>by subst z; rw[q] at mu; exact nm mu
 refine⟨λb u q n _ _=>k b u (hb b n) q,λb u q n _ _=>⟨u.slots,k b u (hb b n) q⟩,λb u q n _=>by rw[zbd (hx b n)]; exact n,λb u q _=>?_,
  λb xs q=>by rw[zbd (hm b _ q λz=>z)]; exact q,λb u xs q=>by rw[zbd (hm b _ q λz=>z)]; exact q,λb ps q=>⟨#[],by rw[zbd (hm b _ q λz=>z),q]; simp⟩⟩
 by_cases hbe:b=e
 ·subst hbe; exact heo
 ·exact⟨u,k b u hbe q⟩
theorem Un.mono (u:Un fs ex H H1 h h1)(hs:∀b∈fs,b∈fs')(hx:∀b∈ex,b∈ex'):Un fs' ex' H H1 h h1:=
 ⟨λb ob q n hb he=>u.keep b ob q n (λz=>hb (hs b z)) λz=>he (hx b z),λ_ _ q n _ he=>u.any q n λz=>he (hx _ z),λb ob q n he=>u.free b ob q n λz=>he (hx b z),λb ob q he=>u.there b ob q λz=>he (hx b z),u.tups,u.frzs,u.tbls⟩
end
def trk (h:Heap)(H:Hp):List Addr:=(List.range h.objs.size).filter λa=>(H a).isSome
def zdd (h:Heap)(H:Hp):Heap:=PySem.W.hideAll h (trk h H)
theorem zxn (h:Heap)(H:Hp):(zdd h H).objs.size=h.objs.size:=PySem.W.hideAll_size _ _
theorem zvj {h:Heap}{H:Hp}{b:Addr}{o:Obj}(e:h.get? b=some o)(n:H b=none):(zdd h H).get? b=some o:=
 PySem.W.hideAll_get _ e λhm=>by
  have q:(H b).isSome=true:=(List.mem_filter.mp hm).2
  rw[n] at q; simp at q
theorem zyq {h:Heap}{H:Hp}{b:Addr}{o:Obj}(e:(zdd h H).get? b=some o):h.get? b=some o∧H b=none:=by
 have e':h.get? b=some o:=PySem.W.of_hideAll (trk h H) e
 refine⟨e',?_⟩
 cases q:H b with
 | none=>rfl
 | some x=>
  have hm:b∈trk h H:=List.mem_filter.mpr ⟨List.mem_range.mpr (Heap.lt_size e'),by simp[q]⟩
  have z:(zdd h H).get? b=none:=PySem.W.hideAll_none (trk h H) hm
  rw[z] at e; cases e
def zua (g h:Heap)(L:Addr):List (Addr×Obj):=(List.range h.objs.size).filterMap λa=>if a=L∨(g.get? a).isSome=true then none else (h.get? a).map λo=>(a,o)
def zbq (g h:Heap)(L d:Addr):List (Addr×Obj):=(zua g h L).filter λp=>decide (p.1≠d)
end L2
namespace L2
open PySem PySem.Spec PyProof.Rows
structure Mod (K:PySem.W.Frag)(mg:Str→Option Value)(base:Heap):Prop where
 kin:K.In base
 glob:base.Ns mainGlobals mg
 blt:∃mb,base.Ns builtinsNs mb∧∀x:Str,x≠"__name__"→mb x=bootBuiltins x
 nolimit:base.NoLimit
structure Cx where
 prog:Program
 w:World
 K:PySem.W.Frag
 mg:Str→Option Value
 base:Heap
 A:Around
 N:List Str
 s₀:Shared
 H₀:Hp
 env:Env
 outer:List Env
 stack:List Env
 ex:List Addr
 fn:Str→Bool
 calm:Bool
 pn:List (Addr×Obj)
 xe:Value→Shared→Prop
def frs (l:List Env):List Addr:=l.filterMap (·.frame)
abbrev Cx.fs (X:Cx):List Addr:=frs X.outer
def Vis (sc:Scope)(x:Str):Prop:=sc.names.lookup x=some .local∨sc.names.lookup x=some .cell∨sc.names.lookup x=some .free
def Loc (sc:Scope)(x:Str):Prop:=sc.names.lookup x=some .local∨sc.names.lookup x=some .cell
def Look (env:Env)(h:Heap)(m:Str→Option Value)(x:Str)(u:Value):Prop:=
 (env.kindOf x=some .local∧m x=some u)∨((env.kindOf x=some .cell∨env.kindOf x=some .free)∧∃c,env.cells.lookup x=some c∧h.IsCell c (some u))
structure Cx.Ok (X:Cx):Prop where
 mod:Mod X.K X.mg X.base
 kind:X.env.scope.kind=.function
 glob:X.env.globals=mainGlobals
 blt:X.env.builtins=builtinsNs
 above:X.s₀.heap.objs.size≤X.env.locals
 inj:∀x y c,X.env.cells.lookup x=some c→X.env.cells.lookup y=some c→x=y
 has:∀x,(X.env.kindOf x=some .cell∨X.env.kindOf x=some .free)→∃c,X.env.cells.lookup x=some c
 cab:∀x c,X.fn x=true→X.env.cells.lookup x=some c→X.s₀.heap.objs.size≤c
 hd:X.calm=true→X.A.handled=none
 frames:X.A.frames=some X.stack
 stk:X.stack=X.outer∨(X.stack=X.env::X.outer∧X.env.frame=some X.env.locals)
 exf:∀b∈X.ex,b≠X.env.locals∧∀x c,X.env.cells.lookup x=some c→c≠b
 bs:∀b o,X.base.get? b=some o→X.s₀.heap.get? b=some o∧X.H₀ b=none
 bsz:X.base.objs.size≤X.s₀.heap.objs.size
 noex:∀b o,X.base.get? b=some o→b ∉ X.ex
 exfs:∀b∈X.ex,b ∉ X.fs
 funs:X.s₀.heap.FunFrames X.base X.outer
 frf:∀b∈X.fs,X.H₀ b=none
structure Inv (X:Cx)(pins:List (Addr×Obj))(σ:List (Option V))(H:Hp)(s:Shared):Prop where
 ok:X.Ok
 os:s.os=X.s₀.os
 bare:AllBare s.gens
 base:Un X.fs X.ex X.H₀ H X.s₀.heap s.heap
 loc:∃m,s.heap.Ns X.env.locals m∧∀(i:Nat) (x:Str) (v:V),X.N[i]?=some x→σ[i]?=some (some v)→Vis X.env.scope x→∃u,zay v u∧Look X.env s.heap m x u
 cell:∀x c,X.env.cells.lookup x=some c→∃v,s.heap.IsCell c v
 free:H X.env.locals=none
 freeC:∀x c,X.env.cells.lookup x=some c→H c=none
 pin:∀p∈X.pn++pins,s.heap.get? p.1=some p.2∧H p.1=none∧p.1≠X.env.locals∧p.1 ∉ X.fs∧∀v,p.2.data≠.cell v
 hok:HOk X.prog X.w H s.heap
 len:σ.length=X.N.length
section
variable {X:Cx}{pins:List (Addr×Obj)}{σ:List (Option V)}{H H':Hp}{s:Shared}{h':Heap}
theorem Cx.Ok.nofr (ok:X.Ok){b:Addr}{o:Obj}(e:X.base.get? b=some o):b ∉ X.fs:=λhb=>by
 have:=(ok.funs.mem hb).1
 rw[e] at this; cases this
theorem Inv.bs (I:Inv X pins σ H s):∀b o,X.base.get? b=some o→s.heap.get? b=some o∧H b=none:=λb o e=>
 ⟨I.base.keep b o (I.ok.bs b o e).1 (I.ok.bs b o e).2 (I.ok.nofr e) (I.ok.noex b o e),I.base.free b o (I.ok.bs b o e).1 (I.ok.bs b o e).2 (I.ok.noex b o e)⟩
theorem Inv.bk (I:Inv X pins σ H s):∀b o,X.base.get? b=some o→s.heap.get? b=some o:=λb o e=>(I.bs b o e).1
theorem Inv.mod (I:Inv X pins σ H s):Mod X.K X.mg X.base:=I.ok.mod
theorem Inv.kIn (I:Inv X pins σ H s):X.K.In s.heap:=I.ok.mod.kin.keeps I.bk
theorem Inv.nolimit (I:Inv X pins σ H s):s.heap.NoLimit:=I.ok.mod.nolimit.keeps I.bk
theorem Inv.fr (I:Inv X pins σ H s):∃m,Fr X.base X.env.locals s.heap m:=
 let ⟨m,hn,_⟩:=I.loc
 ⟨m,hn,I.bk,VaD I.ok.bsz I.ok.above⟩
theorem Inv.lt (I:Inv X pins σ H s):X.env.locals<s.heap.objs.size:=let ⟨_,hn,_⟩:=I.loc; hn.lt
theorem Inv.sz (I:Inv X pins σ H s):X.s₀.heap.objs.size≤s.heap.objs.size:=VaD I.ok.above (VaY I.lt)
theorem Inv.nofs (I:Inv X pins σ H s){a:Addr}(h:s.heap.objs.size≤a):a ∉ X.fs:=λhb=>by
 obtain⟨_,o,ho,_⟩:=I.ok.funs.mem hb
 exact absurd (Vap (Heap.lt_size ho) (VaD I.sz h)) (VaN _)
theorem Inv.cne (I:Inv X pins σ H s):∀x c,X.env.cells.lookup x=some c→c≠X.env.locals:=λx c e z=>by
 obtain⟨v,o,ho,hd⟩:=I.cell x c e
 obtain⟨m,⟨o',es,ep,ho',hd',_⟩,_⟩:=I.loc
 rw[z,ho'] at ho; cases ho; rw[hd'] at hd; cases hd
theorem Inv.funs (I:Inv X pins σ H s):s.heap.FunFrames X.base X.outer:=by
 have all:∀(l:List Env),(∀b∈frs l,b∈X.fs)→X.s₀.heap.FunFrames X.base l→s.heap.FunFrames X.base l:=by
  intro l
  induction l with
  | nil=>intro _ _; trivial
  | cons env r ih=>
   intro hs hl
   obtain⟨hk,⟨L,o,hf,hn,ho,hd⟩,hr⟩:=hl
   have hL:L∈X.fs:=hs L (by unfold frs; rw[List.filterMap_cons,hf]; exact VaZ)
   obtain⟨sl,e⟩:=I.base.slot L o ho (I.ok.frf L hL) hL λz=>I.ok.exfs L z hL
   exact⟨hk,⟨L,_,hf,hn,e,hd⟩,ih (λb hb=>hs b (by unfold frs; rw[List.filterMap_cons,hf]; exact VaF _ hb)) hr⟩
 exact all X.outer (λ_ hb=>hb) I.ok.funs
theorem Inv.stack (I:Inv X pins σ H s):s.heap.FunFrames X.base X.stack:=by
 rcases I.ok.stk with e | ⟨e,hf⟩
 ·rw[e]; exact I.funs
 ·rw[e]
  obtain⟨m,hn,_⟩:=I.loc
  refine .cons (by rw[I.ok.kind]; decide) hf hn ?_ I.funs
  exact Heap.get?_none_of_le (VaD I.ok.bsz I.ok.above)
theorem Inv.stkSub (I:Inv X pins σ H s):∀b∈frs X.stack,b∈X.env.locals::X.fs:=λb hb=>by
 rcases I.ok.stk with e | ⟨e,hf⟩
 ·rw[e] at hb; exact VaF _ hb
 ·rw[e] at hb
  unfold frs at hb
  rw[List.filterMap_cons,hf] at hb
  exact hb
theorem Inv.stkFree (I:Inv X pins σ H s):∀b∈frs X.stack,H b=none:=λb hb=>by
 rcases Vad.mp (I.stkSub b hb) with e | hb
 ·rw[e]; exact I.free
 ·obtain⟨_,o,ho,_⟩:=I.ok.funs.mem hb
  exact I.base.free b o ho (I.ok.frf b hb) λz=>I.ok.exfs b z hb
theorem Inv.step {g':Array GenState}{t':Nat}{d':Drawn}{ch:List Addr}(I:Inv X pins σ H s)
  (hch:∀b∈ch,(b∈X.ex∨X.s₀.heap.objs.size≤b)∧b≠X.env.locals∧(∀x c,X.env.cells.lookup x=some c→c≠b)∧∀p∈X.pn++pins,p.1≠b)
  (keep:∀b o,b≠X.env.locals→b ∉ X.fs→b ∉ ch→s.heap.get? b=some o→H b=none→h'.get? b=some o)
  (slot:∀b o,b≠X.env.locals→b∈X.fs→b ∉ ch→s.heap.get? b=some o→H b=none→∃sl,h'.get? b=some { o with slots:=sl })(free:∀b o,b ∉ ch→s.heap.get? b=some o→H b=none→H' b=none)
  (there:∀b o,b ∉ ch→s.heap.get? b=some o→∃o',h'.get? b=some o')
  (tups:∀b xs,H b=some (.tup xs)→H' b=some (.tup xs))(frzs:∀b o u,H b=some (.frz o u)→H' b=some (.frz o u))(tbls:∀b ps,H b=some (.tbl ps)→∃more,H' b=some (.tbl (ps++more)))
  (ns:∀m,s.heap.Ns X.env.locals m→h'.Ns X.env.locals m)(hok:HOk X.prog X.w H' h')(hg:AllBare g'):
  Inv X pins σ H' { s with heap:=h',gens:=g',drawn:=d',toks:=t' }:=by
 have neL:∀b o,X.s₀.heap.get? b=some o→b≠X.env.locals:=λb o e=>Vaq (Vap (Heap.lt_size e) I.ok.above)
 have neC:∀b o,X.s₀.heap.get? b=some o→b ∉ X.ex→b ∉ ch:=λb o e hx hb=>by
  rcases (hch b hb).1 with z | z
  ·exact hx z
  ·exact absurd (Vap (Heap.lt_size e) z) (VaN _)
 have cellK:∀x c,X.env.cells.lookup x=some c→∀v,s.heap.IsCell c v→h'.IsCell c v:=λx c e v ⟨o,ho,hd⟩=>by
  have nch:c ∉ ch:=λz=>(hch c z).2.2.1 x c e rfl
  by_cases hc:c∈X.fs
  ·obtain⟨sl,q⟩:=slot c o (I.cne x c e) hc nch ho (I.freeC x c e)
   exact⟨_,q,hd⟩
  ·exact⟨o,keep c o (I.cne x c e) hc nch ho (I.freeC x c e),hd⟩
 refine⟨I.ok,I.os,hg,⟨λb o e n hb hx=>?_,λb o e n hb hx=>?_,λb o e n hx=>?_,λb o e hx=>?_,λb xs e=>tups b xs (I.base.tups b xs e),λb o xs e=>frzs b o xs (I.base.frzs b o xs e),λb ps e=>?_⟩,?_,λx c e=>?_,?_,λx c e=>?_,λp hp=>?_,hok,I.len⟩
 ·exact keep b o (neL b o e) hb (neC b o e hx) (I.base.keep b o e n hb hx) (I.base.free b o e n hx)
 ·obtain⟨sl,e1⟩:=I.base.slot b o e n hb hx
  obtain⟨sl',e2⟩:=slot b _ (neL b o e) hb (neC b o e hx) e1 (I.base.free b o e n hx)
  exact⟨sl',e2⟩
 ·obtain⟨o',e1⟩:=I.base.there b o e hx
  exact free b o' (neC b o e hx) e1 (I.base.free b o e n hx)
 ·obtain⟨o',e1⟩:=I.base.there b o e hx
  exact there b o' (neC b o e hx) e1
 ·obtain⟨m1,e1⟩:=I.base.tbls b ps e
  obtain⟨m2,e2⟩:=tbls b _ e1
  exact⟨m1++m2,by rw[e2,Array.append_assoc]⟩
 ·obtain⟨m,hn,hl⟩:=I.loc
  refine⟨m,ns m hn,λi x v e1 e2 e3=>?_⟩
  obtain⟨u,r,l⟩:=hl i x v e1 e2 e3
  refine⟨u,r,?_⟩
  rcases l with l | ⟨k,c,e,z⟩
  ·exact .inl l
  ·exact .inr ⟨k,c,e,cellK x c e _ z⟩
 ·obtain⟨v,z⟩:=I.cell x c e
  exact⟨v,cellK x c e v z⟩
 ·obtain⟨m,⟨o,_,_,ho,_⟩,_⟩:=I.loc
  exact free _ o (λz=>(hch _ z).2.1 rfl) ho I.free
 ·obtain⟨v,o,ho,hd⟩:=I.cell x c e
  exact free c o (λz=>(hch c z).2.2.1 x c e rfl) ho (I.freeC x c e)
 ·obtain⟨e,n,ne,nf,d⟩:=I.pin p hp
  have nch:p.1 ∉ ch:=λz=>(hch p.1 z).2.2.2 p hp rfl
  exact⟨keep p.1 p.2 ne nf nch e n,free p.1 p.2 nch e n,ne,nf,d⟩
theorem Inv.un {t':Nat}(I:Inv X pins σ H s)(u:Un X.fs [] H H' s.heap h')(hok:HOk X.prog X.w H' h'):Inv X pins σ H' { s with heap:=h',toks:=t' }:=by
 obtain⟨m,⟨o,es,ep,ho,r⟩,_⟩:=id I.loc
 obtain⟨sl,hL⟩:=u.any ho I.free (by simp)
 exact I.step (g':=s.gens) (d':=s.drawn) (ch:=[]) (λ_ z=>nomatch z) (λb o _ hb _ e n=>u.keep b o e n hb (by simp)) (λb o _ hb _ e n=>u.slot b o e n hb (by simp)) (λb o _ e n=>u.free b o e n (by simp)) (λb o _ e=>u.there b o e (by simp)) u.tups u.frzs u.tbls (λm' hm=>by
  obtain⟨o',es',ep',ho',r'⟩:=hm
  rw[ho] at ho'; cases ho'
  exact⟨_,es',ep',hL,r'⟩) hok I.bare
theorem Inv.call {g':Array GenState}{t':Nat}{d':Drawn}{ch:List Addr}(I:Inv X pins σ H s)(u:Un (frs X.stack) ch H H' s.heap h')(hok:HOk X.prog X.w H' h')(hg:AllBare g')
  (hch:∀b∈ch,(b∈X.ex∨X.s₀.heap.objs.size≤b)∧b≠X.env.locals∧(∀x c,X.env.cells.lookup x=some c→c≠b)∧∀p∈X.pn++pins,p.1≠b):
  Inv X pins σ H' { s with heap:=h',gens:=g',drawn:=d',toks:=t' }:=by
 obtain⟨m,⟨o,es,ep,ho,r⟩,_⟩:=id I.loc
 obtain⟨sl,hL⟩:=u.any ho I.free λz=>(hch _ z).2.1 rfl
 exact I.step (ch:=ch) hch (λb o hL hb hc e n=>u.keep b o e n (λz=>(Vad.mp (I.stkSub b z)).elim hL hb) hc) (λb o _ _ hc e n=>u.any e n hc) (λb o hc e n=>u.free b o e n hc) (λb o hc e=>u.there b o e hc) u.tups u.frzs u.tbls (λm' hm=>by
  obtain⟨o',es',ep',ho',r'⟩:=hm
  rw[ho] at ho'; cases ho'
  exact⟨_,es',ep',hL,r'⟩) hok hg
theorem Inv.turned {t':Nat}{it:Addr}(I:Inv X pins σ H s)(k:∀b o,b≠it→s.heap.get? b=some o→h'.get? b=some o)(hn:H it=none)(hL:it≠X.env.locals)
  (h1:it∈X.ex∨X.s₀.heap.objs.size≤it)(h2:∀x c,X.env.cells.lookup x=some c→c≠it)(h3:∀p∈X.pn++pins,p.1≠it):Inv X pins σ H { s with heap:=h',toks:=t' }:=by
 have nit:∀b u,H b=some u→b≠it:=λb u e z=>by rw[z,hn] at e; cases e
 refine I.step (g':=s.gens) (d':=s.drawn) (ch:=[it]) (λb hb=>?_) (λb o _ _ hc e _=>k b o (λz=>hc (by simp[z])) e) (λb o _ _ hc e _=>⟨o.slots,k b o (λz=>hc (by simp[z])) e⟩) (λ_ _ _ _ n=>n)
  (λb o hc e=>⟨o,k b o (λz=>hc (by simp[z])) e⟩) (λ_ _ e=>e) (λ_ _ _ e=>e) (λb ps e=>⟨#[],by rw[e]; simp⟩) (λm hm=>?_) (λb u e=>?_) I.bare
 ·have e:b=it:=by simpa using hb
  subst e
  exact⟨h1,hL,h2,h3⟩
 ·obtain⟨o,es,ep,ho,r⟩:=hm
  exact⟨o,es,ep,k _ o (Ne.symm hL) ho,r⟩
 ·refine(I.hok b u e).stay (λc v hc q=>k c v ?_ q) (λ_ q=>q) λ_ _ q=>q
  rcases hc with z | z
  ·rw[z]; exact nit b u e
  ·exact nit c _ z
theorem Inv.tok (I:Inv X pins σ H s)(t:Nat):Inv X pins σ H { s with toks:=t }:=I.un (h':=s.heap) (t':=t) Un.refl I.hok
theorem Inv.kept {t':Nat}(I:Inv X pins σ H s)(k:∀b u,s.heap.get? b=some u→h'.get? b=some u):Inv X pins σ H { s with heap:=h',toks:=t' }:=I.un (Un.kept k) (I.hok.kept k)
theorem Inv.laid {a:Addr}{o:HO}{t':Nat}(I:Inv X pins σ H s)(k:∀b u,s.heap.get? b=some u→h'.get? b=some u)(hp:s.heap.objs.size≤a)(new:zbu X.prog X.w (upd H a o) h' a o):
  Inv X pins σ (upd H a o) { s with heap:=h',toks:=t' }:=I.un (Un.laid k hp (I.hok.fresh hp)) (I.hok.laid k hp new)
theorem Inv.write {x e:Addr}{o:HO}{t':Nat}(I:Inv X pins σ H s)(mu:Mut (H x))(he:e=x∨H e=some (.own x))(k:∀b u,b≠e→s.heap.get? b=some u→h'.get? b=some u)(heo:∃u,h'.get? e=some u)
  (new:zbu X.prog X.w (upd H x o) h' x o):Inv X pins σ (upd H x o) { s with heap:=h',toks:=t' }:=I.un (Un.write mu he k heo) (I.hok.write mu he k heo new)
theorem Inv.pins_of {pins':List (Addr×Obj)}(I:Inv X pins σ H s)(h:∀p∈pins',s.heap.get? p.1=some p.2∧H p.1=none∧p.1≠X.env.locals∧p.1 ∉ X.fs∧∀v,p.2.data≠.cell v):Inv X pins' σ H s:=
 ⟨I.ok,I.os,I.bare,I.base,I.loc,I.cell,I.free,I.freeC,λp hp=>(VaI.mp hp).elim (λz=>I.pin p (List.mem_append_left _ z)) (h p),I.hok,I.len⟩
theorem zpD {N:List Str}(hN:N.Nodup){i j:Nat}{x:Str}(a:N[i]?=some x)(b:N[j]?=some x):i=j:=by
 obtain⟨h1,e1⟩:=Vac.mp a
 obtain⟨h2,e2⟩:=Vac.mp b
 exact(List.getElem_inj hN).mp (e1.trans e2.symm)
theorem zqZ {M:Model}{A:Around}{E:Value→Shared→Prop}{i:Nat}{x:Str}{v:V}{u:Value}{Q:Unit→Shared→Prop}(I:Inv X pins σ H s)(hN:X.N.Nodup)(hi:X.N[i]?=some x)(hx:Loc X.env.scope x)(r:zay v u)
  (h:∀s',Inv X pins (σ.set i (some v)) H s'→(∃a,Heap.SameBut a s.heap s'.heap∧(a=X.env.locals∨X.env.cells.lookup x=some a))→Q () s')(hf:X.fn x=true∨X.env.scope.names.lookup x=some .local:=by first | exact .inl rfl | exact .inr rfl | assumption):wpAny M A (storeName X.env x u) Q E s:=by
 obtain⟨m,hn,hl⟩:=id I.loc
 have hcls:(X.env.scope.kind==.class||(X.env.scope.kind==.module&&X.env.locals != X.env.globals))=false:=by rw[I.ok.kind]; rfl
 have hiσ:i<σ.length:=by rw[I.len]; exact(Vac.mp hi).1
 have cne:=I.cne
 have tracked:∀ {a:Addr} {h':Heap},(∃o,s.heap.get? a=some o∧H a=none)→Heap.SameBut a s.heap h'→HOk X.prog X.w H h':=λ{a h'} ha hs b ob e=>by
  obtain⟨_,_,hfree⟩:=ha
  refine(I.hok b ob e).stay (λc w' hc q=>(hs.2 c ?_).trans q) (λ_ q=>q) λ_ _ q=>q
  rintro rfl
  rcases hc with rfl | hc
  ·rw[hfree] at e; cases e
  ·rw[hfree] at hc; cases hc
 rcases hx with hk | hk
 ·refine wpAny_storeName_local hk hn (λh' hn' hs=>?_) hcls
  obtain⟨oL,_,_,hoL,_⟩:=id hn
  refine h _ ⟨I.ok,I.os,I.bare,⟨λb o e n hb hx=>?_,λb o e n hb hx=>?_,I.base.free,λb o e hx=>?_,I.base.tups,I.base.frzs,I.base.tbls⟩,⟨_,hn',λj y v' e1 e2 e3=>?_⟩,λy c e=>?_,I.free,I.freeC,λp hp=>?_,tracked ⟨oL,hoL,I.free⟩ hs,by simpa using I.len⟩ ⟨_,hs,.inl rfl⟩
  ·exact(hs.2 b (Vaq (Vap (Heap.lt_size e) I.ok.above))).trans (I.base.keep b o e n hb hx)
  ·obtain⟨sl,e1⟩:=I.base.slot b o e n hb hx
   exact⟨sl,(hs.2 b (Vaq (Vap (Heap.lt_size e) I.ok.above))).trans e1⟩
  ·obtain⟨o',e1⟩:=I.base.there b o e hx
   exact⟨o',(hs.2 b (Vaq (Vap (Heap.lt_size e) I.ok.above))).trans e1⟩
  ·by_cases hj:j=i
   ·subst hj
    rw[hi] at e1; cases e1
    rw[VaQ hiσ] at e2
    cases e2
    exact⟨u,r,.inl ⟨hk,by simp⟩⟩
   ·rw[VaR (Ne.symm hj)] at e2
    obtain⟨u',r',q⟩:=hl j y v' e1 e2 e3
    refine⟨u',r',?_⟩
    rcases q with ⟨k,e⟩ | ⟨k,c,e,z⟩
    ·refine .inl ⟨k,?_⟩
     have:y≠x:=λe=>hj (zpD hN e1 (e ▸ hi))
     simp[this,e]
    ·exact .inr ⟨k,c,e,z.sameBut hs (cne y c e)⟩
  ·obtain⟨w',z⟩:=I.cell y c e
   exact⟨w',z.sameBut hs (cne y c e)⟩
  ·obtain⟨e,n,ne,nf,d⟩:=I.pin p hp
   exact⟨(hs.2 p.1 ne).trans e,n,ne,nf,d⟩
 ·have hfn:X.fn x=true:=by
   rcases hf with z | z
   ·exact z
   ·rw[z] at hk; cases hk
  obtain⟨c,hc⟩:=I.ok.has x (.inl hk)
  obtain⟨w',z⟩:=I.cell x c hc
  refine wpAny_storeName_cell I.ok.kind hk hc z (λh' hc' hs=>?_)
  obtain⟨oc,hoc,hocd⟩:=id z
  refine h { s with heap:=h' } ⟨I.ok,I.os,I.bare,⟨λb o e n hb hx=>?_,λb o e n hb hx=>?_,I.base.free,λb o e hx=>?_,I.base.tups,I.base.frzs,I.base.tbls⟩,⟨m,hn.sameBut hs (Ne.symm (cne x c hc)),λj y v' e1 e2 e3=>?_⟩,λy c' e=>?_,I.free,I.freeC,λp hp=>?_,tracked ⟨oc,hoc,I.freeC x c hc⟩ hs,by simpa using I.len⟩ ⟨c,hs,.inr hc⟩
  ·exact(hs.2 b (Vaq (Vap (Heap.lt_size e) (I.ok.cab x c hfn hc)))).trans (I.base.keep b o e n hb hx)
  ·obtain⟨sl,e1⟩:=I.base.slot b o e n hb hx
   exact⟨sl,(hs.2 b (Vaq (Vap (Heap.lt_size e) (I.ok.cab x c hfn hc)))).trans e1⟩
  ·obtain⟨o',e1⟩:=I.base.there b o e hx
   exact⟨o',(hs.2 b (Vaq (Vap (Heap.lt_size e) (I.ok.cab x c hfn hc)))).trans e1⟩
  ·by_cases hj:j=i
   ·subst hj
    rw[hi] at e1; cases e1
    rw[VaQ hiσ] at e2
    cases e2
    exact⟨u,r,.inr ⟨.inl hk,c,hc,hc'⟩⟩
   ·rw[VaR (Ne.symm hj)] at e2
    obtain⟨u',r',q⟩:=hl j y v' e1 e2 e3
    refine⟨u',r',?_⟩
    rcases q with q | ⟨k,c',e,z'⟩
    ·exact .inl q
    ·refine .inr ⟨k,c',e,z'.sameBut hs ?_⟩
     rintro rfl
     exact hj (zpD hN e1 (I.ok.inj _ _ _ e hc ▸ hi))
  ·by_cases hcc:c'=c
   ·subst hcc; exact⟨_,hc'⟩
   ·obtain⟨w2,z2⟩:=I.cell y c' e
    exact⟨w2,z2.sameBut hs hcc⟩
  ·obtain⟨e,n,ne,nf,d⟩:=I.pin p hp
   refine⟨(hs.2 p.1 ?_).trans e,n,ne,nf,d⟩
   intro q
   rw[q,hoc] at e
   have q':oc=p.2:=Option.some.inj e
   exact d w' (by rw[← q']; exact hocd)
theorem zp4 {M:Model}{A:Around}{E:Value→Shared→Prop}{i:Nat}{x:Str}{v:V}{u:Value}{Q:Unit→Shared→Prop}(I:Inv X pins σ H s)(hN:X.N.Nodup)(hi:X.N[i]?=some x)(hx:Loc X.env.scope x)(r:zay v u)
  (h:∀s',Inv X pins (σ.set i (some v)) H s'→Q () s')(hf:X.fn x=true∨X.env.scope.names.lookup x=some .local:=by first | exact .inl rfl | exact .inr rfl | assumption):wpAny M A (storeName X.env x u) Q E s:=
 zqZ I hN hi hx r (λs' I' _=>h s' I') hf
theorem Inv.call' {s':Shared}{ch:List Addr}(I:Inv X pins σ H s)(ho:s'.os=s.os)(u:Un (frs X.stack) ch H H' s.heap s'.heap)(hok:HOk X.prog X.w H' s'.heap)(hg:AllBare s'.gens)
  (hch:∀b∈ch,(b∈X.ex∨X.s₀.heap.objs.size≤b)∧b≠X.env.locals∧(∀x c,X.env.cells.lookup x=some c→c≠b)∧∀p∈X.pn++pins,p.1≠b):Inv X pins σ H' s':=by
 obtain⟨h',g',d',t',o'⟩:=s'
 have e:o'=s.os:=ho
 subst e
 exact I.call (g':=g') (t':=t') (d':=d') u hok hg hch
end
abbrev XK:=Value→Option Addr→Hp→Prop
abbrev St:=List (Option V)
abbrev VK:=V→Hp→Prop
abbrev TE:=St→Hp→VK→Prop
abbrev TT:=St→Hp→(Bool→Hp→Prop)→Prop
abbrev TA:=St→Hp→(List V→Hp→Prop)→Prop
structure zcW where
 nx:St→Hp→Prop
 rt:VK
 bk:St→Hp→Prop:=λ_ _=>False
 ct:St→Hp→Prop:=λ_ _=>False
abbrev TS:=zcW→St→Hp→Prop
def EP (X:Cx)(pins:List (Addr×Obj))(σ:St)(Q:VK)(u:Value)(s':Shared):Prop:=∃v H',Inv X pins σ H' s'∧zay v u∧Q v H'
def TP (X:Cx)(pins:List (Addr×Obj))(σ:St)(Q:Bool→Hp→Prop)(b:Bool)(s':Shared):Prop:=∃H',Inv X pins σ H' s'∧Q b H'
def AP (X:Cx)(pins:List (Addr×Obj))(σ:St)(Q:List V→Hp→Prop)(us:List Value)(s':Shared):Prop:=∃vs H',Inv X pins σ H' s'∧zaA vs us∧Q vs H'
def SP (X:Cx)(pins:List (Addr×Obj))(D:zcW)(f:Flow)(s':Shared):Prop:=
 match f with
 | .next=>∃σ' H',Inv X pins σ' H' s'∧D.nx σ' H'
 | .brk=>∃σ' H',Inv X pins σ' H' s'∧D.bk σ' H'
 | .cont=>∃σ' H',Inv X pins σ' H' s'∧D.ct σ' H'
 | .ret u=>∃v σ' H',Inv X pins σ' H' s'∧zay v u∧D.rt v H'
def PE (X:Cx)(e:Expr)(t:TE):Prop:=
 ∀(pins:List (Addr×Obj)) (s:Shared) (σ:St) (H:Hp) (Q:VK),Inv X pins σ H s→t σ H Q→wpAny (model X.prog X.w) X.A (eval e X.env) (EP X pins σ Q) X.xe s
def PT (X:Cx)(e:Expr)(t:TT):Prop:=
 ∀(pins:List (Addr×Obj)) (s:Shared) (σ:St) (H:Hp) (Q:Bool→Hp→Prop),Inv X pins σ H s→t σ H Q→wpAny (model X.prog X.w) X.A (isTrue e X.env (eval e X.env)) (TP X pins σ Q) X.xe s
def PW (X:Cx)(e:Expr)(t:TT):Prop:=
 ∀(whole:Sem Value) (pins:List (Addr×Obj)) (s:Shared) (σ:St) (H:Hp) (Q:Bool→Hp→Prop),Inv X pins σ H s→t σ H Q→wpAny (model X.prog X.w) X.A (isTrue e X.env whole) (TP X pins σ Q) X.xe s
theorem PW.pt {X:Cx}{e:Expr}{t:TT}(h:PW X e t):PT X e t:=h _
def PA (X:Cx)(es:List Expr)(t:TA):Prop:=
 ∀(pos:Pos) (pins:List (Addr×Obj)) (s:Shared) (σ:St) (H:Hp) (Q:List V→Hp→Prop),Inv X pins σ H s→t σ H Q→wpAny (model X.prog X.w) X.A (spliced (backTo pos (starEach es X.env))) (AP X pins σ Q) X.xe s
def PS (X:Cx)(st:Stmt)(t:TS):Prop:=
 ∀(pins:List (Addr×Obj)) (s:Shared) (σ:St) (H:Hp) (D:zcW),Inv X pins σ H s→t D σ H→wpAny (model X.prog X.w) X.A (exec st X.env) (SP X pins D) X.xe s
def PSs (X:Cx)(st:List Stmt)(t:TS):Prop:=
 ∀(pins:List (Addr×Obj)) (s:Shared) (σ:St) (H:Hp) (D:zcW),Inv X pins σ H s→t D σ H→wpAny (model X.prog X.w) X.A (execs st X.env) (SP X pins D) X.xe s
theorem thn {α:Type}{t:Sem α}{Q Q':α→Shared→Prop}{M:Model}{A:Around}{E:Value→Shared→Prop}{s:Shared}(h:wpAny M A t Q E s)(hQ:∀a s,Q a s→Q' a s):wpAny M A t Q' E s:=wpAny_mono h hQ λ_ _ x=>x
end L2
namespace L2
open PySem PySem.Spec PyProof.Rows
section
variable {X:Cx}
def tVar (i:Nat):TE:=λσ H Q=>∃v,σ[i]?=some (some v)∧Q v H
def tC (v:V):TE:=λ_ H Q=>Q v H
theorem zp8 {i:Nat}{x:Str}{pos:Pos}(hN:X.N[i]?=some x)(hv:Vis X.env.scope x)(hd:(x==("__debug__":Str))=false:=by decide)(hcd:(x==("__classdict__":Str))=false:=by decide):PE X (.Name x pos) (tVar i):=by
 intro pins s σ H Q I h
 obtain⟨v,e,h⟩:=h
 obtain⟨m,hn,hl⟩:=I.loc
 obtain⟨u,r,l⟩:=hl i x v hN e hv
 have fin:EP X pins σ Q u s:=⟨v,H,I,r,h⟩
 rcases l with ⟨hk,hm⟩ | ⟨hk,c,hc,hcell⟩
 ·exact wpAny_Name (wpAny_loadName_local I.ok.kind hk hn hm fin) hd
 ·rcases hk with hk | hk
  ·exact wpAny_Name (wpAny_loadName_cell I.ok.kind hk hc hcell fin) hd
  ·exact wpAny_Name (wpAny_loadName_free I.ok.kind hk hc hcell fin hcd) hd
theorem zuV {i j pos}:PE X (.Constant (.int i) j pos) (tC (.int i)):=λ_ _ _ H _ I h=>wpAny_Constant_int ⟨.int i,H,I.tok _,⟨_,rfl⟩,h⟩
theorem pe_bl {b j pos}:PE X (.Constant (.bool b) j pos) (tC (.bl b)):=λ_ _ _ H _ I h=>Constant_bool ⟨.bl b,H,I,rfl,h⟩
theorem ztz {j pos}:PE X (.Constant .none j pos) (tC .non):=λ_ _ _ H _ I h=>Constant_none ⟨.non,H,I,rfl,h⟩
theorem zxO {x j pos}:PE X (.Constant (.str x) j pos) (tC (.str x)):=λ_ _ _ H _ I h=>Calls.Constant_str ⟨.str x,H,I.tok _,⟨_,rfl⟩,h⟩
def Gl (X:Cx)(x:Str):Prop:=X.env.kindOf x=some .globalImplicit
theorem zrk {E:Value→Shared→Prop}{pins:List (Addr×Obj)}{s:Shared}{σ:St}{H:Hp}{x:Str}{u:Value}{pos:Pos}{Q:Value→Shared→Prop}(I:Inv X pins σ H s)(hg:Gl X x)(hm:X.mg x=some u)(h:Q u s)
  (hd:(x==("__debug__":Str))=false:=by decide):wpAny (model X.prog X.w) X.A (eval (.Name x pos) X.env) Q E s:=
 Calls.Name_function_global I.ok.kind hg (Calls.loadGlobal_global (by rw[I.ok.glob]; exact I.mod.glob.keeps I.bk) hm h) hd
theorem zfd {E:Value→Shared→Prop}{pins:List (Addr×Obj)}{s:Shared}{σ:St}{H:Hp}{x:Str}{u:Value}{pos:Pos}{Q:Value→Shared→Prop}(I:Inv X pins σ H s)(hg:Gl X x)(hm:X.mg x=none)(hv:bootBuiltins x=some u)(h:Q u s)
  (hn:x≠"__name__":=by decide)(hd:(x==("__debug__":Str))=false:=by decide):wpAny (model X.prog X.w) X.A (eval (.Name x pos) X.env) Q E s:=by
 obtain⟨mb,h1,h2⟩:=I.mod.blt
 exact Calls.Name_function_global I.ok.kind hg (Calls.loadGlobal_builtin (by rw[I.ok.glob]; exact I.mod.glob.keeps I.bk) hm (by rw[I.ok.blt]; exact h1.keeps I.bk) ((h2 x hn).trans hv) h) hd
theorem zqc {x:Str}{v:V}{u:Value}{pos:Pos}(hg:Gl X x)(hm:X.mg x=none)(hv:bootBuiltins x=some u)(r:zay v u)(hn:x≠"__name__":=by decide)(hd:(x==("__debug__":Str))=false:=by decide):PE X (.Name x pos) (tC v):=
 λ_ _ _ H _ I h=>zfd I hg hm hv ⟨v,H,I,r,h⟩ hn hd
variable {a b:Expr}{ta tb:TE}{pos:Pos}
def tB (t:TE):TT:=λσ H Q=>t σ H λx H1=>∃c,x=.bl c∧Q c H1
theorem zti {e:Expr}{t:TE}(h:PE X e t)(he:∀whole,isTrue e X.env whole=(do let v ← whole; standAt e.pos; holding [v] (truthy v)):=by intro _; rfl):PT X e (tB t):=by
 intro pins s σ H Q I hw
 refine isTrue_plain (thn (h pins s σ H _ I hw) λv s1 ⟨x,H1,I1,r1,q1⟩=>?_) (he _)
 obtain⟨d,rfl,q⟩:=q1
 cases r1
 exact wpAny_truthy_bool ⟨H1,I1,q⟩
variable {tA tB':TT}{zbq:List Expr}
def tAnd (t u:TT):TT:=λσ H Q=>t σ H λc H1=>if c=true then u σ H1 Q else Q false H1
def tOr (t u:TT):TT:=λσ H Q=>t σ H λc H1=>if c=true then Q true H1 else u σ H1 Q
def tNot (t:TT):TT:=λσ H Q=>t σ H λc H1=>Q (!c) H1
theorem zuf (ha:PT X a tA):PW X (.BoolOp .And [a] pos) tA:=by
 intro wh pins s σ H Q I h
 refine isTrue_and (thn (ha pins s σ H Q I h) λc s1 e=>?_)
 cases c with
 | true=>exact isTrue_and_nil e
 | false=>exact e
theorem zwn (ha:PT X a tA):PW X (.BoolOp .Or [a] pos) tA:=by
 intro wh pins s σ H Q I h
 refine isTrue_or (thn (ha pins s σ H Q I h) λc s1 e=>?_)
 cases c with
 | false=>exact isTrue_or_nil e
 | true=>exact e
theorem zx5 (ha:PT X a tA)(hb:PW X (.BoolOp .And (b::zbq) pos) tB'):PW X (.BoolOp .And (a::b::zbq) pos) (tAnd tA tB'):=by
 intro wh pins s σ H Q I h
 refine isTrue_and (thn (ha pins s σ H _ I h) λc s1 ⟨H1,I1,q1⟩=>?_)
 cases c with
 | true=>exact hb wh pins s1 σ H1 Q I1 q1
 | false=>exact⟨H1,I1,q1⟩
theorem pw_or (ha:PT X a tA)(hb:PW X (.BoolOp .Or (b::zbq) pos) tB'):PW X (.BoolOp .Or (a::b::zbq) pos) (tOr tA tB'):=by
 intro wh pins s σ H Q I h
 refine isTrue_or (thn (ha pins s σ H _ I h) λc s1 ⟨H1,I1,q1⟩=>?_)
 cases c with
 | true=>exact⟨H1,I1,q1⟩
 | false=>exact hb wh pins s1 σ H1 Q I1 q1
theorem zxT (ha:PT X a tA):PT X (.UnaryOp .Not a pos) (tNot tA):=by
 intro pins s σ H Q I h
 exact isTrue_not (ha pins s σ H (λc H1=>Q (!c) H1) I h)
def tAndV (ta tb:TE):TE:=λσ H Q=>ta σ H λx H1=>∃c,x=.bl c∧if c=true then tb σ H1 Q else Q (.bl false) H1
def tNotV (ta:TE):TE:=λσ H Q=>ta σ H λx H1=>∃c,x=.bl c∧Q (.bl (!c)) H1
theorem zr9 {op}{t:TE}(h:PE X a t):PE X (.BoolOp op [a] pos) t:=λpins s σ H Q I hw=>BoolOp_one (h pins s σ H Q I hw)
theorem zwH (ha:PE X a ta)(hb:PE X (.BoolOp .And (b::zbq) pos) tb):PE X (.BoolOp .And (a::b::zbq) pos) (tAndV ta tb):=by
 intro pins s σ H Q I h
 refine BoolOp_and (thn (ha pins s σ H _ I h) λv s1 ⟨x,H1,I1,r1,q1⟩=>?_)
 obtain⟨c,rfl,q1⟩:=q1
 cases r1
 refine wpAny_truthy_bool ?_
 cases c with
 | true=>exact hb pins s1 σ H1 Q I1 q1
 | false=>exact⟨.bl false,H1,I1,rfl,q1⟩
theorem zr2 (ha:PE X a ta):PE X (.UnaryOp .Not a pos) (tNotV ta):=by
 intro pins s σ H Q I h
 refine UnaryOp_ (thn (ha pins s σ H _ I h) λv s1 ⟨x,H1,I1,r1,q1⟩=>?_)
 obtain⟨c,rfl,q1⟩:=q1
 cases r1
 exact not_of (wpAny_truthy_bool ⟨.bl (!c),H1,I1,rfl,q1⟩)
def tIf (t:TT)(ta tb:TE):TE:=λσ H Q=>t σ H λc H1=>if c=true then ta σ H1 Q else tb σ H1 Q
theorem zvR {c:Expr}(hc:PT X c tA)(ha:PE X a ta)(hb:PE X b tb):PE X (.IfExp c a b pos) (tIf tA ta tb):=by
 intro pins s σ H Q I h
 refine wpAny_IfExp (thn (hc pins s σ H _ I h) λd s1 ⟨H1,I1,q1⟩=>?_)
 cases d with
 | true=>exact ha pins s1 σ H1 Q I1 q1
 | false=>exact hb pins s1 σ H1 Q I1 q1
end
end L2
namespace L2
open PySem PySem.Spec PyProof.Rows
def SqL (K:PySem.W.Frag)(H:Hp)(a:Addr)(xs:List V):Prop:=
 Rd H a (.lst xs)∨
  ∃(o:Obj) (its:Array Value) (n:Nat),K.lookup a=some o∧o.cls=.type "list"∧o.dict=none∧o.data=.seq its n∧its.size≤sizeLine∧zaA xs its.toList
def SqT (K:PySem.W.Frag)(H:Hp)(a:Addr)(xs:List V):Prop:=
 Rd H a (.tup xs)∨
  ∃(o:Obj) (its:Array Value) (n:Nat),K.lookup a=some o∧o.cls=.type "tuple"∧o.data=.seq its n∧its.size≤sizeLine∧zaA xs its.toList
def absV:Value→Option V
 | .none=>some .non
 | .bool b=>some (.bl b)
 | .int i _=>some (.int i)
 | .str x _=>some (.str x)
 | .bytes b _=>some (.byt b)
 | .float b _=>some (.flt b)
 | .ref a=>some (.ref a)
 | .type n=>some (.ty n)
 | _=>none
theorem zay.abs {x:V}{u:Value}(r:zay x u):absV u=some x:=by
 cases x with
 | non=>cases r; rfl
 | bl _=>cases r; rfl
 | int _=>obtain⟨t,rfl⟩:=r; rfl
 | str _=>obtain⟨t,rfl⟩:=r; rfl
 | byt _=>obtain⟨t,rfl⟩:=r; rfl
 | flt _=>obtain⟨t,rfl⟩:=r; rfl
 | ref _=>cases r; rfl
 | ty _=>cases r; rfl
theorem zay.inj {x y:V}{u:Value}(r:zay x u)(q:zay y u):x=y:=Option.some.inj (r.abs.symm.trans q.abs)
theorem zaA.inj:∀ {xs ys:List V} {us:List Value},zaA xs us→zaA ys us→xs=ys
 | _,_,_,.nil,.nil=>rfl
 | _,_,_,.cons r t,.cons r' t'=>by rw[r.inj r',zaA.inj t t']
section
variable {X:Cx}{pins:List (Addr×Obj)}{σ:St}{H:Hp}{s:Shared}{a:Addr}{xs ys:List V}
theorem SqL.of {K:PySem.W.Frag}(h:H a=some (.lst xs)):SqL K H a xs:=.inl (.inl h)
theorem SqT.of {K:PySem.W.Frag}(h:H a=some (.tup xs)):SqT K H a xs:=.inl (.inl h)
theorem Inv.list (I:Inv X pins σ H s)(h:SqL X.K H a xs):∃its:List Value,zaA xs its∧PlainL s.heap a its.toArray∧xs.length≤sizeLine:=by
 rcases h with h | ⟨o,its,n,hk,hc,hd,hs,hz,r⟩
 ·obtain⟨z,its,n,r,e⟩:=h.ok I.hok
  exact⟨its,r,⟨_,n,e,rfl,rfl,rfl⟩,z⟩
 ·refine⟨its.toList,r,⟨o,n,I.kIn a o hk,hc,hd,by simpa using hs⟩,?_⟩
  have e:=r.length
  simp only[Array.length_toList] at e
  omega
theorem Inv.tuple (I:Inv X pins σ H s)(h:SqT X.K H a xs):∃its:List Value,zaA xs its∧IsTup s.heap a its.toArray∧xs.length≤sizeLine:=by
 rcases h with h | ⟨o,its,n,hk,hc,hs,hz,r⟩
 ·obtain⟨z,its,r,p⟩:=h.ok I.hok
  exact⟨its,r,p,z⟩
 ·refine⟨its.toList,r,⟨o,I.kIn a o hk,hc,n,by simpa using hs⟩,?_⟩
  have e:=r.length
  simp only[Array.length_toList] at e
  omega
theorem Inv.list_inj (I:Inv X pins σ H s)(h:SqL X.K H a xs)(h':SqL X.K H a ys):xs=ys:=by
 obtain⟨its,r,⟨o,n,e,_,_,d⟩,_⟩:=I.list h
 obtain⟨its',r',⟨o',n',e',_,_,d'⟩,_⟩:=I.list h'
 rw[e] at e'; cases e'
 rw[d] at d'
 injection d' with d1 _
 have:its=its':=by simpa using congrArg Array.toList d1
 subst this
 exact r.inj r'
end
abbrev Cx.wish (X:Cx)(E:Value→Shared→Prop):Cx:={ X with xe:=E }
abbrev Cx.nox (X:Cx):Cx:=X.wish λ_ _=>False
theorem Cx.Ok.wish {X:Cx}(ok:X.Ok)(E:Value→Shared→Prop):(X.wish E).Ok:=
 ⟨ok.mod,ok.kind,ok.glob,ok.blt,ok.above,ok.inj,ok.has,ok.cab,ok.hd,ok.frames,ok.stk,ok.exf,ok.bs,ok.bsz,ok.noex,ok.exfs,ok.funs,ok.frf⟩
theorem Cx.Ok.unwish {X:Cx}{E:Value→Shared→Prop}(ok:(X.wish E).Ok):X.Ok:=
 ⟨ok.mod,ok.kind,ok.glob,ok.blt,ok.above,ok.inj,ok.has,ok.cab,ok.hd,ok.frames,ok.stk,ok.exf,ok.bs,ok.bsz,ok.noex,ok.exfs,ok.funs,ok.frf⟩
section
variable {X:Cx}{pins:List (Addr×Obj)}{σ:St}{H:Hp}{s:Shared}{E:Value→Shared→Prop}
theorem Inv.wish (I:Inv X pins σ H s)(E:Value→Shared→Prop):Inv (X.wish E) pins σ H s:=⟨I.ok.wish E,I.os,I.bare,I.base,I.loc,I.cell,I.free,I.freeC,I.pin,I.hok,I.len⟩
theorem Inv.unwish (I:Inv (X.wish E) pins σ H s):Inv X pins σ H s:=⟨I.ok.unwish,I.os,I.bare,I.base,I.loc,I.cell,I.free,I.freeC,I.pin,I.hok,I.len⟩
theorem SP.unwish {D:zcW}{f:Flow}{s':Shared}(h:SP (X.wish E) pins D f s'):SP X pins D f s':=by
 cases f with
 | next=>obtain⟨σ',H',I,q⟩:=h; exact⟨σ',H',I.unwish,q⟩
 | brk=>obtain⟨σ',H',I,q⟩:=h; exact⟨σ',H',I.unwish,q⟩
 | cont=>obtain⟨σ',H',I,q⟩:=h; exact⟨σ',H',I.unwish,q⟩
 | ret u=>obtain⟨v,σ',H',I,r,q⟩:=h; exact⟨v,σ',H',I.unwish,r,q⟩
theorem PE.nox {e:Expr}{t:TE}(h:PE X.nox e t):PE X e t:=λpins s σ H Q I hw=>
 wpAny_mono (h pins s σ H Q (I.wish _) hw) (λ_ _ ⟨v,H',I',r,q⟩=>⟨v,H',I'.unwish,r,q⟩) λ_ _ z=>False.elim z
theorem PT.nox {e:Expr}{t:TT}(h:PT X.nox e t):PT X e t:=λpins s σ H Q I hw=>
 wpAny_mono (h pins s σ H Q (I.wish _) hw) (λ_ _ ⟨H',I',q⟩=>⟨H',I'.unwish,q⟩) λ_ _ z=>False.elim z
theorem PSs.nox {st:List Stmt}{t:TS}(h:PSs X.nox st t):PSs X st t:=λpins s σ H D I hw=>
 wpAny_mono (h pins s σ H D (I.wish _) hw) (λ_ _ q=>q.unwish) λ_ _ z=>False.elim z
end
section
variable {X:Cx}{st:Stmt}{zbq:List Stmt}{t u:TS}{e:Expr}{te:TE}{pos:Pos}
def tNext:TS:=λD σ H=>D.nx σ H
def tSeq (t u:TS):TS:=λD σ H=>t { D with nx:=u D } σ H
theorem zu9:PSs X [] tNext:=λ_ _ σ H _ I h=>wpAny_execs_nil ⟨σ,H,I,h⟩
theorem zxN (h1:PS X st t)(h2:PSs X zbq u):PSs X (st::zbq) (tSeq t u):=by
 intro pins s σ H D I h
 refine wpAny_execs_cons (thn (h1 pins s σ H { D with nx:=u D } I h) λf s1 q=>?_)
 cases f with
 | next=>
  obtain⟨σ',H',I',q⟩:=q
  exact h2 pins s1 σ' H' D I' q
 | ret v=>exact q
 | brk=>exact q
 | cont=>exact q
theorem zwp (h1:PS X st t):PSs X [st] t:=by
 intro pins s σ H D I h
 refine wpAny_execs_cons (thn (h1 pins s σ H D I h) λf s1 q=>?_)
 cases f with
 | next=>exact wpAny_execs_nil q
 | ret v=>exact q
 | brk=>exact q
 | cont=>exact q
theorem Inv.quiet {pins:List (Addr×Obj)}{σ:St}{H:Hp}{s:Shared}(I:Inv X pins σ H s):interactive X.env=false:=by simp[interactive,I.ok.kind]
def tDrop (te:TE):TS:=λD σ H=>te σ H λ_ H1=>D.nx σ H1
theorem zsd (he:PE X e te)(hs:swapsWith e none pos.line X.env=pure false:=by rfl):PS X (.Expr e pos) (tDrop te):=by
 intro pins s σ H D I h
 exact wpAny_Expr_any (thn (he pins s σ H _ I h) λv s1 ⟨x,H1,I1,r1,q1⟩=>⟨σ,H1,I1,q1⟩) I.quiet hs
def tRet (te:TE):TS:=λD σ H=>te σ H D.rt
theorem zxh (he:PE X e te):PS X (.Return (some e) pos) (tRet te):=by
 intro pins s σ H D I h
 exact wpAny_Return_some (thn (he pins s σ H _ I h) λv s1 ⟨x,H1,I1,r1,q1⟩=>⟨x,σ,H1,I1,r1,q1⟩)
def tIfS (c:TT)(t u:TS):TS:=λD σ H=>c σ H λb H1=>if b=true then t D σ H1 else u D σ H1
theorem ps_if {c:Expr}{a b:List Stmt}{tc:TT}(hc:PT X c tc)(ha:PSs X a t)(hb:PSs X b u):PS X (.If c a b pos) (tIfS tc t u):=by
 intro pins s σ H D I h
 refine wpAny_If (thn (hc pins s σ H _ I h) λd s1 ⟨H1,I1,q1⟩=>?_)
 cases d with
 | true=>exact ha pins s1 σ H1 D I1 q1
 | false=>exact hb pins s1 σ H1 D I1 q1
def zrP:TS:=λ_ _ _=>False
theorem zsN:PS X st zrP:=λ_ _ _ _ _ _ h=>h.elim
end
abbrev TG:=V→St→Hp→(St→Hp→Prop)→Prop
abbrev TGs:=List V→St→Hp→(St→Hp→Prop)→Prop
def PG (X:Cx)(target:Expr)(t:TG):Prop:=
 ∀(pins:List (Addr×Obj)) (s:Shared) (σ:St) (H:Hp) (v:V) (u:Value) (Q:St→Hp→Prop),Inv X pins σ H s→zay v u→t v σ H Q→
  wpAny (model X.prog X.w) X.A (assign target X.env u) (λ_ s'=>∃σ' H',Inv X pins σ' H' s'∧Q σ' H') X.xe s
def PGs (X:Cx)(ts:List Expr)(t:TGs):Prop:=
 ∀(pins:List (Addr×Obj)) (s:Shared) (σ:St) (H:Hp) (vs:List V) (us:List Value) (Q:St→Hp→Prop),Inv X pins σ H s→zaA vs us→t vs σ H Q→
  wpAny (model X.prog X.w) X.A (assignInOrder ((assignEach ts X.env).map (·.2)) us) (λ_ s'=>∃σ' H',Inv X pins σ' H' s'∧Q σ' H') X.xe s
abbrev TSet:=V→V→V→Hp→(Hp→Prop)→Prop
def PSet (X:Cx)(t:TSet):Prop:=
 ∀(pins:List (Addr×Obj)) (s:Shared) (σ:St) (H:Hp) (o i v:V) (ov iv u:Value) (Q:Hp→Prop),Inv X pins σ H s→zay o ov→zay i iv→zay v u→t o i v H Q→
  wpAny (model X.prog X.w) X.A (setItem ov iv u) (λ_ s'=>∃H',Inv X pins σ H' s'∧Q H') X.xe s
section
variable {X:Cx}{pos:Pos}
def zqg (i:Nat):TG:=λv σ H Q=>Q (σ.set i (some v)) H
theorem zhJ {i:Nat}{x:Str}(hN:X.N.Nodup)(hi:X.N[i]?=some x)(hx:Loc X.env.scope x)(hf:X.fn x=true∨X.env.scope.names.lookup x=some .local:=by first | exact .inl rfl | exact .inr rfl | assumption):PG X (.Name x pos) (zqg i):=by
 intro pins s σ H v u Q I r h
 exact wpAny_assign_Name (zp4 I hN hi hx r (λs' I'=>⟨_,H,I',h⟩) hf)
def gNil:TGs:=λvs σ H Q=>vs=[]∧Q σ H
def gCons (t:TG)(u:TGs):TGs:=λvs σ H Q=>∃v r,vs=v::r∧t v σ H λσ' H'=>u r σ' H' Q
theorem zwr:PGs X [] gNil:=by
 intro pins s σ H vs us Q I r h
 obtain⟨e,h⟩:=h
 subst e
 cases r
 exact assignInOrder_nil ⟨σ,H,I,h⟩
theorem zx4 {e:Expr}{es:List Expr}{t:TG}{u:TGs}(h1:PG X e t)(h2:PGs X es u)
  (hs:(assignEach (e::es) X.env).map (·.2)=assign e X.env::(assignEach es X.env).map (·.2):=by rfl):PGs X (e::es) (gCons t u):=by
 intro pins s σ H vs us Q I r h
 obtain⟨v,vr,e1,h⟩:=h
 subst e1
 cases r with
 | cons r rr=>
  rw[hs]
  refine assignInOrder_cons (thn (h1 pins s σ H _ _ _ I r h) λ_ s1 ⟨σ1,H1,I1,q1⟩=>?_)
  exact h2 pins s1 σ1 H1 _ _ Q I1 rr q1
def gTup (K:PySem.W.Frag)(n:Nat)(t:TGs):TG:=λv σ H Q=>∃a xs,v=.ref a∧SqT K H a xs∧xs.length=n∧t xs σ H Q
theorem zov {es:List Expr}{k:Nat}{t:TGs}{n:Nat}(hc:X.calm=true)(h:PGs X es t)
  (hn:(assignEach es X.env).length=n:=by rfl)(hst:(assignEach es X.env).findIdx? (·.1)=none:=by rfl):PG X (.Tuple es k pos) (gTup X.K n t):=by
 intro pins s σ H v u Q I r hw
 obtain⟨a,xs,e1,hq,hl,hw⟩:=hw
 subst e1
 cases r
 obtain⟨its,rv,ht,hz⟩:=I.tuple hq
 refine assign_Tuple_tuple (I.ok.hd hc) ht (by simp[hn,← hl,rv.length]) hst λh' hx=>?_
 have I1:Inv X pins σ H { s with heap:=h' }:=I.kept (t':=s.toks) λb o e=>hx b o (Vaq (Heap.lt_size e)) e
 exact h pins _ σ H xs _ Q I1 (by simpa using rv) hw
def gSub (to ti:TE)(t:TSet):TG:=λv σ H Q=>to σ H λo H1=>ti σ H1 λi H2=>t o i v H2 λH3=>Q σ H3
theorem zr5 {o i:Expr}{to ti:TE}{t:TSet}(ho:PE X o to)(hi:PE X i ti)(hs:PSet X t)
  (ha:∀v,assign (.Subscript o i pos) X.env v=(do
   let ov ← holding [v] (eval o X.env)
   let iv ← holding [v,ov] (eval i X.env)
   standAt pos
   holding [v,ov,iv] (setItem ov iv v)
   release [v,ov,iv] []):=by intro _; rfl):PG X (.Subscript o i pos) (gSub to ti t):=by
 intro pins s σ H v u Q I r h
 rw[ha]
 refine wpAny_bind (wpAny_holding (thn (ho pins s σ H _ I h) λov s1 ⟨x,H1,I1,r1,q1⟩=>?_))
 refine wpAny_bind (wpAny_holding (thn (hi pins s1 σ H1 _ I1 q1) λiv s2 ⟨y,H2,I2,r2,q2⟩=>?_))
 refine wpAny_bind (wpAny_standAt (wpAny_bind (wpAny_holding (thn (hs pins s2 σ H2 x y v ov iv u _ I2 r1 r2 r q2) λ_ s3 ⟨H3,I3,q3⟩=>?_))))
 exact wpAny_release ⟨σ,H3,I3,q3⟩
def tAsg (te:TE)(g:TG):TS:=λD σ H=>te σ H λx H1=>g x σ H1 D.nx
theorem zpu {tg e:Expr}{te:TE}{g:TG}(he:PE X e te)(hg:PG X tg g)(hs:swapsWithSole [tg] e pos.line X.env=pure false:=by rfl)(hw:swappedStores [tg] e X.env=pure none:=by rfl)
  (h1:(assignEach [tg] X.env).map (·.2)=[assign tg X.env]:=by rfl):PS X (.Assign [tg] e pos) (tAsg te g):=by
 intro pins s σ H D I h
 refine wpAny_Assign_stores (thn (he pins s σ H _ I h) λv s1 ⟨x,H1,I1,r1,q1⟩=>?_) hs hw
 rw[h1]
 exact thn (hg pins s1 σ H1 x v _ I1 r1 q1) λ_ s2 q=>q
theorem ztk {i:Nat}{x:Str}{e:Expr}{te:TE}{pos':Pos}(hN:X.N.Nodup)(hi:X.N[i]?=some x)(hx:Loc X.env.scope x)(he:PE X e te)(hs:swapsWith e (some (.Name x pos')) pos.line X.env=pure false:=by rfl)(hf:X.fn x=true∨X.env.scope.names.lookup x=some .local:=by first | exact .inl rfl | exact .inr rfl | assumption):
  PS X (.Assign [.Name x pos'] e pos) (tAsg te (zqg i)):=by
 intro pins s σ H D I h
 refine wpAny_Assign_Name (thn (he pins s σ H _ I h) λv s1 ⟨y,H1,I1,r1,q1⟩=>?_) hs
 exact zp4 I1 hN hi hx r1 (λs2 I2=>⟨_,H1,I2,q1⟩) hf
end
section
variable {X:Cx}{pos:Pos}
def zwW (c:TT)(tb:TS):TS:=λD σ H=>∃W:Nat→St→Hp→Prop,(∃m,W m σ H)∧∀m σ H,W m σ H→
 c σ H λb H1=>if b=true then ∃N:St→Hp→Prop,(∀σ' H',N σ' H'→∃m',m'<m∧W m' σ' H')∧tb { D with nx:=N,ct:=N,bk:=D.nx } σ H1 else D.nx σ H1
theorem zvm {c:Expr}{body:List Stmt}{tc:TT}{tb:TS}(hp:PassesOwn (model X.prog X.w) X.A X.env X.xe)(hc:PT X c tc)(hb:PSs X body tb):PS X (.While c body [] pos) (zwW tc tb):=by
 intro pins s σ H D I h
 obtain⟨W,⟨m0,w0⟩,turn⟩:=h
 refine wpAny_While (codeAny_whileLoop (λn s'=>∃σ' H',Inv X pins σ' H' s'∧W n σ' H') ?_ m0 ⟨σ,H,I,w0⟩)
 rintro n s1 ⟨σ1,H1,I1,w1⟩
 refine wpAny_passesOwn hp (thn (hc pins s1 σ1 H1 _ I1 (turn n σ1 H1 w1)) λb s2 ⟨H2,I2,q2⟩=>?_)
 cases b with
 | true=>
  obtain⟨N,hN,q2⟩:=q2
  rw[if_pos rfl]
  refine wpAny_passesOwn hp (thn (hb pins s2 σ1 H2 _ I2 q2) λf s3 q3=>?_)
  cases f with
  | next=>
   obtain⟨σ3,H3,I3,n3⟩:=q3
   obtain⟨m',hm,w3⟩:=hN σ3 H3 n3
   exact⟨m',hm,σ3,H3,I3,w3⟩
  | cont=>
   obtain⟨σ3,H3,I3,n3⟩:=q3
   obtain⟨m',hm,w3⟩:=hN σ3 H3 n3
   exact⟨m',hm,σ3,H3,I3,w3⟩
  | brk=>exact q3
  | ret v=>exact q3
 | false=>
  rw[if_neg Val]
  exact wpAny_execs_nil ⟨σ1,H2,I2,q2⟩
end
structure It where
 go:Nat→Hp→Prop
 yld:Nat→Hp→V→Hp→Prop
 stop:Nat→Hp→Prop
def zco (X:Cx)(pins:List (Addr×Obj))(H:Hp)(b:Addr):Prop:=
 H b=none∧b≠X.env.locals∧b ∉ X.fs∧(b∈X.ex∨X.s₀.heap.objs.size≤b)∧(∀x c,X.env.cells.lookup x=some c→c≠b)∧∀p∈X.pn++pins,p.1≠b
theorem Inv.fpOk {X:Cx}{pins:List (Addr×Obj)}{σ:St}{H H':Hp}{s:Shared}{b:Addr}(I:Inv X pins σ H s)(hb:s.heap.objs.size≤b)(hn:H' b=none):zco X pins H' b:=by
 refine⟨hn,Nat.ne_of_gt (Vap I.lt hb),I.nofs hb,.inr (VaD I.sz hb),λx c e z=>?_,λp hp z=>?_⟩
 ·obtain⟨v,q⟩:=I.cell x c e
  exact absurd (Vap q.lt (by rw[z]; exact hb)) (VaN _)
 ·exact absurd (Vap (Heap.lt_size (I.pin p hp).1) (by rw[z]; exact hb)) (VaN _)
structure zh5 (P:Program)(w:World)(K:PySem.W.Frag)(tg:Expr)(J:It)(fp:List Addr)(it:Addr)(tn:Nat→Heap→Prop):Prop where
 mem:it∈fp
 obj:∀i h,tn i h→∀b∈fp,∃o,h.get? b=some o∧∀v,o.data≠.cell v
 keep:∀i h h',tn i h→(∀b∈fp,∀o,h.get? b=some o→h'.get? b=some o)→tn i h'
 item:∀(X:Cx),X.prog=P→X.w=w→X.K=K→X.calm=true→∀(i:Nat) (pins:List (Addr×Obj)) (s:Shared) (σ:St) (H:Hp) (E:Value→Shared→Prop),Inv X pins σ H s→(∀b∈fp,zco X pins H b)→tn i s.heap→J.go i H→
  wpAny (model P w) X.A (pyNext (.ref it)) (λr s1=>∃u,r=some u∧
   wpAny (model P w) X.A (letOwnedTupleGo tg (.ref it) u) (λ_ s2=>∃x H',Inv X pins σ H' s2∧zay x u∧J.yld i H x H'∧tn (i+1) s2.heap∧∀b∈fp,H' b=none) E s1) E s
 done:∀(X:Cx),X.prog=P→X.w=w→X.K=K→X.calm=true→∀(i:Nat) (pins:List (Addr×Obj)) (s:Shared) (σ:St) (H:Hp) (E:Value→Shared→Prop),Inv X pins σ H s→(∀b∈fp,zco X pins H b)→tn i s.heap→J.stop i H→
  wpAny (model P w) X.A (pyNext (.ref it)) (λr s1=>r=none∧Inv X pins σ H s1) E s
 self:∀(A:Around) (i:Nat) (s:Shared) (Q:Value→Shared→Prop) (E:Value→Shared→Prop),tn i s.heap→Q (.ref it) s→wpAny (model P w) A (pyIter (.ref it)) Q E s
abbrev TI:=St→Hp→(It→Hp→Prop)→Prop
def PIE (X:Cx)(pins:List (Addr×Obj))(σ:St)(tg:Expr)(R:It→Hp→Prop)(itv:Value)(s2:Shared):Prop:=
 ∃(it:Addr) (fp:List Addr) (tn:Nat→Heap→Prop) (J:It) (H':Hp),itv=.ref it∧Inv X pins σ H' s2∧zh5 X.prog X.w X.K tg J fp it tn∧tn 0 s2.heap∧(∀b∈fp,zco X pins H' b)∧R J H'
def PI (X:Cx)(tg iter:Expr)(wi:TI):Prop:=
 ∀(pins:List (Addr×Obj)) (s:Shared) (σ:St) (H:Hp) (R:It→Hp→Prop),Inv X pins σ H s→wi σ H R→
  wpAny (model X.prog X.w) X.A (eval iter X.env) (λv s1=>wpAny (model X.prog X.w) X.A (pyIter v) (PIE X pins σ tg R) X.xe s1) X.xe s
theorem zoL {M:Model}{A:Around}{E:Value→Shared→Prop}{s:Shared}{tg:Expr}{it:Addr}{u:Value}{o:Obj}{n:String}{vs:Array Value}{Q:Unit→Shared→Prop}(ho:s.heap.get? it=some o)(hc:o.cls=.type n)(hd:o.data=.fields vs)
    (hn:["enumerate","zip","dict_itemiterator","dict_reverseitemiterator","odict_iterator","itertools.zip_longest","itertools.pairwise"].contains n=false)(hQ:Q () s):wpAny M A (letOwnedTupleGo tg (.ref it) u) Q E s:=by
  unfold letOwnedTupleGo
  cases tg <;> first
    | exact wpAny_pure hQ
    | (cases u <;> first
        | exact wpAny_pure hQ
        | (refine wpAny_bind (wpAny_load ho ?_)
           rw[hc,hd]
           show wpAny M A (if (["enumerate","zip","dict_itemiterator","dict_reverseitemiterator","odict_iterator","itertools.zip_longest","itertools.pairwise"].contains n&&vs[0]?==some (rawInt _))=true then _ else _) Q E s
           rw[if_neg (by intro h; rw[hn,Bool.false_and] at h; cases h)]
           exact wpAny_pure hQ))
def Itl (K:PySem.W.Frag)(a:Addr):It:=
 ⟨λi H=>∃xs x,SqL K H a xs∧xs[i]?=some x,λi H x H'=>H'=H∧∀xs,SqL K H a xs→xs[i]?=some x,λi H=>∃xs,SqL K H a xs∧xs.length≤i⟩
def Itr (lo:Int)(n:Nat):It:=⟨λi _=>i<n,λi H x H'=>H'=H∧x=.int (lo+i),λi _=>n≤i⟩
theorem zry {P:Program}{w:World}{K:PySem.W.Frag}{tg:Expr}(a it:Addr):zh5 P w K tg (Itl K a) [it] it (λi h=>h.IsListIter it a i) where
 mem:=by simp
 obj:=λi h st b hb=>by
  have e:b=it:=by simpa using hb
  subst e
  obtain⟨o,e,c,d⟩:=st
  exact⟨o,e,λv z=>by rw[d] at z; cases z⟩
 keep:=λi h h' st k=>st.at λo e=>k it (by simp) o e
 item:=by
  intro X hP hw hK hc i pins s σ H E I hf st hg
  subst hP hw hK
  obtain⟨xs,x,hq,hx⟩:=hg
  obtain⟨its,rv,p,hz⟩:=I.list hq
  obtain⟨u,hu,ru⟩:=rv.get hx
  obtain⟨f0,f1,f2,f3,f4,f5⟩:=hf it (by simp)
  refine wpAny_pyNext_list_item st p.isList (x:=u) (by simpa using hu) λh' st' sb=>?_
  have I1:Inv X pins σ H { s with heap:=h' }:=I.turned (t':=s.toks) (λb o hb e=>(sb.2 b hb).trans e) f0 f1 f3 f4 f5
  obtain⟨o,e,c,d⟩:=id st'
  exact⟨u,rfl,zoL (s:={ s with heap:=h' }) e c d (by decide) ⟨x,H,I1,ru,⟨rfl,λys hy=>by rw[I.list_inj hy hq]; exact hx⟩,st',λb hb=>(hf b hb).1⟩⟩
 done:=by
  intro X hP hw hK hc i pins s σ H E I hf st hg
  subst hP hw hK
  obtain⟨xs,hq,hx⟩:=hg
  obtain⟨its,rv,p,hz⟩:=I.list hq
  obtain⟨f0,f1,f2,f3,f4,f5⟩:=hf it (by simp)
  have hl:=rv.length
  exact wpAny_pyNext_list_end (I.ok.hd hc) st p.isList (by simp; omega) λh' eb=>⟨rfl,I.turned (t':=s.toks) (λb o hb e=>eb b o hb e) f0 f1 f3 f4 f5⟩
 self:=λ_ _ _ _ _ st h=>wpAny_pyIter_listiter st h
theorem zum {P:Program}{w:World}{K:PySem.W.Frag}{tg:Expr}(it:Addr)(lo:Int)(n:Nat):zh5 P w K tg (Itr lo n) [it] it (λi h=>IsRangeIter h it (lo+(i:Nat)*1) ((n:Int)-(i:Nat)) 1) where
 mem:=by simp
 obj:=λi h st b hb=>by
  have e:b=it:=by simpa using hb
  subst e
  exact⟨_,st,λv z=>by
   have z':Data.fields _=Data.cell v:=z
   cases z'⟩
 keep:=λi h h' st k=>k it (by simp) _ st
 item:=by
  intro X hP hw hK hc i pins s σ H E I hf st hg
  subst hP hw hK
  obtain⟨f0,f1,f2,f3,f4,f5⟩:=hf it (by simp)
  have W:=Walks.range (prog:=X.prog) (w:=X.w) (I.ok.hd hc) it lo 1 n
  refine W.item i s _ _ hg st λv h' tk hv st' kk=>?_
  obtain⟨t,rfl⟩:=hv
  have I1:Inv X pins σ H { s with heap:=h',toks:=tk }:=I.turned (λb o hb e=>kk b o (by simpa using hb) e) f0 f1 f3 f4 f5
  refine⟨_,rfl,zoL (s:={ s with heap:=h',toks:=tk }) (n:="range_iterator") st' rfl rfl (by decide) ⟨.int (lo+i),H,I1,⟨t,?_⟩,⟨rfl,rfl⟩,st',λb hb=>(hf b hb).1⟩⟩
  rw[Int.mul_one]
 done:=by
  intro X hP hw hK hc i pins s σ H E I hf st hg
  subst hP hw hK
  obtain⟨f0,f1,f2,f3,f4,f5⟩:=hf it (by simp)
  exact wpAny_pyNext_range_end (I.ok.hd hc) st (by have:n≤i:=hg; omega) λh' eb=>⟨rfl,I.turned (t':=s.toks) (λb o hb e=>eb b o hb e) f0 f1 f3 f4 f5⟩
 self:=λ_ _ _ _ _ st h=>wpAny_pyIter_rangeiter st h
end L2
namespace L2
open PySem PySem.Spec PyProof.Rows
section
variable {X:Cx}{tg:Expr}
def zpR (K:PySem.W.Frag)(tl:TE):TI:=λσ H R=>tl σ H λx H1=>∃a,x=.ref a∧(∃xs,SqL K H1 a xs)∧R (Itl K a) H1
theorem znb {l:Expr}{tl:TE}(hl:PE X l tl):PI X tg l (zpR X.K tl):=by
 intro pins s σ H R I h
 refine thn (hl pins s σ H _ I h) λv s1 ⟨x,H1,I1,r1,q1⟩=>?_
 obtain⟨a,e,⟨xs,hq⟩,q⟩:=q1
 subst e
 cases r1
 obtain⟨its,rv,p,hz⟩:=I1.list hq
 refine wpAny_pyIter_list p.isList ?_
 refine⟨s1.heap.objs.size,[s1.heap.objs.size],_,_,H1,rfl,I1.kept (t':=s1.toks) λb o e=>Heap.get?_push_of_some _ e,zry a _,⟨_,Heap.get?_push_size _ rfl,rfl,rfl⟩,λb hb=>?_,q⟩
 have e:b=s1.heap.objs.size:=by simpa using hb
 subst e
 exact I1.fpOk (Vab _) (I1.hok.fresh (Vab _))
theorem zxD {pins:List (Addr×Obj)}{σ:St}{H:Hp}{s:Shared}{R:It→Hp→Prop}{E:Value→Shared→Prop}{lo hi:Int}{t u v:Tok}{tk:Nat}(I:Inv X pins σ H s)(h1:-(2^62)≤lo)(h2:lo<2^62)(h3:-(2^62)≤hi)(h4:hi<2^62)
  (q:R (Itr lo (hi-lo).toNat) H):wpAny (model X.prog X.w) X.A (pyIter (.ref s.heap.objs.size)) (PIE X pins σ tg R) E { s with heap:=s.heap.push { cls:=.type "range",data:=.fields #[.int lo t,.int hi u,.int 1 v] },toks:=tk }:=by
 refine wpAny_pyIter_range (IsRange.new ..) (small_one h1 h2 h3 h4) ?_
 have I1:Inv X pins σ H { s with heap:=s.heap.push { cls:=.type "range",data:=.fields #[.int lo t,.int hi u,.int 1 v] },toks:=tk }:=I.kept λb o e=>Heap.get?_push_of_some _ e
 refine⟨(s.heap.push { cls:=.type "range",data:=.fields #[.int lo t,.int hi u,.int 1 v] }).objs.size,[(s.heap.push { cls:=.type "range",data:=.fields #[.int lo t,.int hi u,.int 1 v] }).objs.size],_,_,H,rfl,
  I1.kept (t':=tk) λb o e=>Heap.get?_push_of_some _ e,zum _ lo (hi-lo).toNat,?_,λb hb=>?_,q⟩
 ·have e1:lo+((0:Nat):Int)*1=lo:=by simp
  have e2:(((hi-lo).toNat:Nat):Int)-((0:Nat):Int)=Builtin.Range.rangeSize lo hi 1:=by rw[rangeSize_one]; split <;> omega
  show IsRangeIter _ _ (lo+((0:Nat):Int)*1) ((((hi-lo).toNat:Nat):Int)-((0:Nat):Int)) 1
  rw[e1,e2]
  exact Heap.get?_push_size _ rfl
 ·have e:b=(s.heap.push { cls:=.type "range",data:=.fields #[.int lo t,.int hi u,.int 1 v] }).objs.size:=by simpa using hb
  subst e
  exact I1.fpOk (Vab _) (I1.hok.fresh (Vab _))
def zpq (ta:TA):TI:=λσ H R=>ta σ H λvs H1=>∃j:Int,vs=[.int j]∧-(2^62)≤j∧j<2^62∧R (Itr 0 j.toNat) H1
theorem zqJ {a:Expr}{ta:TA}{p pos:Pos}(hg:Gl X "range")(hm:X.mg "range"=none)(ha:PA X [a] ta)(hs:starEach [a] X.env=[(false,eval a X.env)]:=by rfl):PI X tg (.Call (.Name "range" p) [a] [] pos) (zpq ta):=by
 intro pins s σ H R I h
 refine Call_ (zfd I hg hm boot_range (PyProof.Rows.callWith_type1 (thn (ha pos pins s σ H _ I h) λus s1 ⟨vs,H1,I1,r1,q1⟩=>?_) hs rfl))
 obtain⟨j,e,q1,q2,q⟩:=q1
 subst e
 cases r1 with
 | cons r rr=>
  cases rr
  obtain⟨t,rfl⟩:=r
  exact call_range_1 (zxD I1 (by omega) (by omega) q1 q2 (by simpa using q))
def tFor (wi:TI)(g:TG)(tb:TS):TS:=λD σ H=>wi σ H λJ H1=>∃W:Nat→Nat→St→Hp→Prop,(∃m,W 0 m σ H1)∧∀i m σ H,W i m σ H→
 (J.stop i H∧D.nx σ H)∨(J.go i H∧∃N:St→Hp→Prop,(∀σ' H',N σ' H'→∃m',m'<m∧W (i+1) m' σ' H')∧∀x H',J.yld i H x H'→g x σ H' λσ2 H2=>tb { D with nx:=N,ct:=N,bk:=D.nx } σ2 H2)
def zid (fp:List Addr)(h:Heap):List (Addr×Obj):=fp.filterMap λb=>(h.get? b).map λo=>(b,o)
theorem zjA {fp:List Addr}{h:Heap}{b:Addr}{o:Obj}(hb:b∈fp)(e:h.get? b=some o):(b,o)∈zid fp h:=List.mem_filterMap.mpr ⟨b,hb,by rw[e]; rfl⟩
theorem zvg {fp:List Addr}{h:Heap}{p:Addr×Obj}(hp:p∈zid fp h):p.1∈fp∧h.get? p.1=some p.2:=by
 obtain⟨b,hb,e⟩:=List.mem_filterMap.mp hp
 cases q:h.get? b with
 | none=>rw[q] at e; cases e
 | some o=>
  rw[q] at e
  have e':(b,o)=p:=Option.some.inj e
  subst e'
  exact⟨hb,q⟩
theorem Inv.pinned {pins:List (Addr×Obj)}{σ:St}{H:Hp}{s:Shared}{fp:List Addr}(I:Inv X pins σ H s)(hf:∀b∈fp,zco X pins H b)(ho:∀b∈fp,∃o,s.heap.get? b=some o∧∀v,o.data≠.cell v):Inv X (pins++zid fp s.heap) σ H s:=
 I.pins_of λp hp=>(VaI.mp hp).elim (λz=>I.pin p (VaJ _ z)) λz=>by
  obtain⟨hb,e⟩:=zvg z
  obtain⟨f0,f1,f2,_⟩:=hf p.1 hb
  obtain⟨o,e',d⟩:=ho p.1 hb
  rw[e] at e'; cases e'
  exact⟨e,f0,f1,f2,d⟩
theorem Inv.unpinned {pins pl:List (Addr×Obj)}{σ:St}{H:Hp}{s:Shared}(I:Inv X (pins++pl) σ H s):Inv X pins σ H s:=I.pins_of λp hp=>I.pin p (VaJ _ (List.mem_append_left _ hp))
theorem zg4 {iter:Expr}{body:List Stmt}{wi:TI}{g:TG}{tb:TS}{pos:Pos}(hp:PassesOwn (model X.prog X.w) X.A X.env X.xe)(hc:X.calm=true)(hi:PI X tg iter wi)(hg:PG X tg g)(hb:PSs X body tb)
  (hs:∀x,foldedSetIterable iter X.env x=pure x:=by intro _; rfl):PS X (.For tg iter body [] pos) (tFor wi g tb):=by
 intro pins s σ H D I h
 refine wpAny_For (thn (hi pins s σ H _ I h) λv s1 h1=>thn h1 λitv s2 h2=>?_) hs
 obtain⟨it,fp,tn,J,H2,e,I2,T,st2,f2,W,⟨m0,w0⟩,turn⟩:=h2
 subst e
 have stat:∀ {H':Hp},(∀b∈fp,H' b=none)→∀b∈fp,zco X pins H' b:=λhn b hb=>⟨hn b hb,(f2 b hb).2⟩
 refine codeAny_forLoop_any (λn s'=>∃i σ' H',Inv X pins σ' H' s'∧tn i s'.heap∧(∀b∈fp,H' b=none)∧W i n σ' H') ?_ m0 ⟨0,σ,H2,I2,st2,λb hb=>(f2 b hb).1,w0⟩
 rintro n s3 ⟨i,σ3,H3,I3,st3,fr3,w3⟩
 rcases turn i n σ3 H3 w3 with ⟨stop,qn⟩ | ⟨go,N,hN,step⟩
 ·refine wpAny_passesOwn hp (thn (T.done X rfl rfl rfl hc i pins s3 σ3 H3 X.xe I3 (stat fr3) st3 stop) λr s4 ⟨hr,I4⟩=>?_)
  subst hr
  exact wpAny_execs_nil ⟨σ3,H3,I4,qn⟩
 ·refine wpAny_passesOwn hp (thn (T.item X rfl rfl rfl hc i pins s3 σ3 H3 X.xe I3 (stat fr3) st3 go) λr s4 ⟨u,hr,h4⟩=>?_)
  subst hr
  refine wpAny_passesOwn hp (thn h4 λ_ s5 ⟨x,H5,I5,r5,y5,st5,fr5⟩=>?_)
  have I5':=I5.pinned (stat fr5) (T.obj _ _ st5)
  refine wpAny_passesOwn hp (thn (hg _ s5 σ3 H5 x u _ I5' r5 (step x H5 y5)) λ_ s6 ⟨σ6,H6,I6,q6⟩=>?_)
  refine wpAny_passesOwn hp (thn (hb _ s6 σ6 H6 _ I6 q6) λf s7 q7=>?_)
  have again:∀ {σ7:St} {H7:Hp},Inv X (pins++zid fp s5.heap) σ7 H7 s7→N σ7 H7→∃m,m<n∧∃i σ' H',Inv X pins σ' H' s7∧tn i s7.heap∧(∀b∈fp,H' b=none)∧W i m σ' H':=λ{σ7 H7} I7 n7=>by
   obtain⟨m',hm,w7⟩:=hN σ7 H7 n7
   refine⟨m',hm,i+1,σ7,H7,I7.unpinned,T.keep _ _ _ st5 λb hb o e=>(I7.pin (b,o) (VaJ _ (VaJ _ (zjA hb e)))).1,λb hb=>?_,w7⟩
   obtain⟨o,e,d⟩:=T.obj _ _ st5 b hb
   exact(I7.pin (b,o) (VaJ _ (VaJ _ (zjA hb e)))).2.1
  cases f with
  | next=>obtain⟨σ7,H7,I7,n7⟩:=q7; exact again I7 n7
  | cont=>obtain⟨σ7,H7,I7,n7⟩:=q7; exact again I7 n7
  | brk=>obtain⟨σ7,H7,I7,q7⟩:=q7; exact⟨σ7,H7,I7.unpinned,q7⟩
  | ret v=>obtain⟨x7,σ7,H7,I7,r7,q7⟩:=q7; exact⟨x7,σ7,H7,I7.unpinned,r7,q7⟩
end
end L2
namespace L2
open PySem PySem.Spec PyProof.Rows
abbrev R2:=V→V→Hp→VK→Prop
def OpR (X:Cx)(f:Value→Value→Sem Value)(r:R2):Prop:=
 ∀(pins:List (Addr×Obj)) (s:Shared) (σ:St) (H:Hp) (x y:V) (v u:Value) (Q:VK),Inv X pins σ H s→zay x v→zay y u→r x y H Q→
  wpAny (model X.prog X.w) X.A (f v u) (EP X pins σ Q) X.xe s
def UnR (X:Cx)(f:Value→Sem Value)(r:V→Hp→VK→Prop):Prop:=
 ∀(pins:List (Addr×Obj)) (s:Shared) (σ:St) (H:Hp) (x:V) (v:Value) (Q:VK),Inv X pins σ H s→zay x v→r x H Q→
  wpAny (model X.prog X.w) X.A (f v) (EP X pins σ Q) X.xe s
def zbl (X:Cx)(f:Value)(r:List V→Hp→VK→Prop):Prop:=
 ∀(pins:List (Addr×Obj)) (s:Shared) (σ:St) (H:Hp) (xs:List V) (us:List Value) (Q:VK),Inv X pins σ H s→zaA xs us→r xs H Q→
  wpAny (model X.prog X.w) X.A (call f us) (EP X pins σ Q) X.xe s
def tOp (r:R2)(ta tb:TE):TE:=λσ H Q=>ta σ H λx H1=>tb σ H1 λy H2=>r x y H2 Q
def tUn (r:V→Hp→VK→Prop)(ta:TE):TE:=λσ H Q=>ta σ H λx H1=>r x H1 Q
def rI (C:Int→Int→Prop)(g:Int→Int→V):R2:=λx y H Q=>∃i j,x=.int i∧y=.int j∧C i j∧Q (g i j) H
def rI0 (g:Int→Int→V):R2:=λx y H Q=>∃i j,x=.int i∧y=.int j∧Q (g i j) H
def rU (g:Int→V):V→Hp→VK→Prop:=λx H Q=>∃i,x=.int i∧Q (g i) H
section
variable {X:Cx}{a b c:Expr}{ta tb tc:TE}{pos:Pos}
theorem binT (ha:PE X a ta)(hb:PE X b tb){pins:List (Addr×Obj)}{s:Shared}{σ:St}{H:Hp}{R:V→V→Hp→Prop}(I:Inv X pins σ H s)
  (h:ta σ H λx H1=>tb σ H1 λy H2=>R x y H2){Q:Value→Shared→Prop}{f:Value→Value→Sem Value}
  (hf:∀v u s2 x y H2,Inv X pins σ H2 s2→zay x v→zay y u→R x y H2→wpAny (model X.prog X.w) X.A (f v u) Q X.xe s2):
  wpAny (model X.prog X.w) X.A (eval a X.env) (λv s₁=>wpAny (model X.prog X.w) X.A (eval b X.env) (λu s₂=>wpAny (model X.prog X.w) X.A (f v u) Q X.xe s₂) X.xe s₁) X.xe s:=by
 refine thn (ha pins s σ H _ I h) λv s1 ⟨x,H1,I1,r1,q1⟩=>?_
 refine thn (hb pins s1 σ H1 _ I1 q1) λu s2 ⟨y,H2,I2,r2,q2⟩=>?_
 exact hf v u s2 x y H2 I2 r1 r2 q2
theorem pe_op {op:Operator}{r:R2}(ho:OpR X (binaryOp op) r)(ha:PE X a ta)(hb:PE X b tb):PE X (.BinOp a op b pos) (tOp r ta tb):=by
 intro pins s σ H Q I h
 exact wpAny_BinOp (binT ha hb I h λv u s2 x y H2 I2 rx ry q=>ho pins s2 σ H2 x y v u Q I2 rx ry q)
theorem pe_un {op:UnaryOp}{r:V→Hp→VK→Prop}(ho:UnR X (unaryOp op) r)(ha:PE X a ta):PE X (.UnaryOp op a pos) (tUn r ta):=by
 intro pins s σ H Q I h
 exact UnaryOp_ (thn (ha pins s σ H _ I h) λv s1 ⟨x,H1,I1,r1,q1⟩=>ho pins s1 σ H1 x v Q I1 r1 q1)
theorem opI {f:Value→Value→Sem Value}{C:Int→Int→Prop}{g:Int→Int→Int}
  (rule:∀(i j:Int) (t u:Tok) (s:Shared) (Q:Value→Shared→Prop) (E:Value→Shared→Prop),C i j→Q (.int (g i j) s.toks) { s with toks:=s.toks+1 }→wpAny (model X.prog X.w) X.A (f (.int i t) (.int j u)) Q E s):
  OpR X f (rI C λi j=>.int (g i j)):=by
 intro pins s σ H x y v u Q I rx ry h
 obtain⟨i,j,rfl,rfl,hc,q⟩:=h
 obtain⟨t,rfl⟩:=rx
 obtain⟨t',rfl⟩:=ry
 exact rule i j t t' s _ _ hc ⟨.int (g i j),H,I.tok _,⟨_,rfl⟩,q⟩
theorem opI0 {f:Value→Value→Sem Value}{g:Int→Int→Int}
  (rule:∀(i j:Int) (t u:Tok) (s:Shared) (Q:Value→Shared→Prop) (E:Value→Shared→Prop),Q (.int (g i j) s.toks) { s with toks:=s.toks+1 }→wpAny (model X.prog X.w) X.A (f (.int i t) (.int j u)) Q E s):
  OpR X f (rI0 λi j=>.int (g i j)):=by
 intro pins s σ H x y v u Q I rx ry h
 obtain⟨i,j,rfl,rfl,q⟩:=h
 obtain⟨t,rfl⟩:=rx
 obtain⟨t',rfl⟩:=ry
 exact rule i j t t' s _ _ ⟨.int (g i j),H,I.tok _,⟨_,rfl⟩,q⟩
theorem ziX {f:Value→Value→Sem Value}{g:Int→Int→Bool}
  (rule:∀(i j:Int) (t u:Tok) (s:Shared) (Q:Value→Shared→Prop) (E:Value→Shared→Prop),Q (.bool (g i j)) s→wpAny (model X.prog X.w) X.A (f (.int i t) (.int j u)) Q E s):
  OpR X f (rI0 λi j=>.bl (g i j)):=by
 intro pins s σ H x y v u Q I rx ry h
 obtain⟨i,j,rfl,rfl,q⟩:=h
 obtain⟨t,rfl⟩:=rx
 obtain⟨t',rfl⟩:=ry
 exact rule i j t t' s _ _ ⟨.bl (g i j),H,I,rfl,q⟩
def zla (i j:Int):Prop:=0≤j∧j≤1000000∧i.natAbs<2^64
def CMul (i j:Int):Prop:=(-(2^64)<i∧i<2^64)∨(-(2^64)<j∧j<2^64)
theorem CMul.ok {i j:Int}(h:CMul i j):IntMulOk i j:=by
 rcases h with ⟨h1,h2⟩ | ⟨h1,h2⟩
 ·exact .of_left (intBits_le_64 h1 h2)
 ·exact .of_right (intBits_le_64 h1 h2)
theorem zvf:OpR X (binaryOp .Add) (rI0 λi j=>.int (i+j)):=opI0 λ_ _ _ _ _ _ _ q=>add_int q
theorem zvi:OpR X (binaryOp .Sub) (rI0 λi j=>.int (i-j)):=opI0 λ_ _ _ _ _ _ _ q=>sub_int q
theorem ztO:OpR X (binaryOp .Mod) (rI (λ_ j=>0<j) λi j=>.int (i%j)):=opI λi j _ _ _ _ _ hc q=>by
 have h1:(0:Int)<j:=hc
 exact mod_int' (by omega) (by rw[Int.fmod_eq_emod_of_nonneg i (by omega)]; exact q)
theorem zsF:OpR X (binaryOp .Pow) (rI zla λi j=>.int (i^j.toNat)):=opI λ_ _ _ _ _ _ _ hc q=>pow_int_small hc.1 hc.2.1 hc.2.2 q
theorem zwD:OpR X (binaryOp .LShift) (rI zla λi j=>.int (i*2^j.toNat)):=opI λ_ _ _ _ _ _ _ hc q=>lshift_int_small hc.1 hc.2.1 hc.2.2 q
theorem unI {f:Value→Sem Value}{g:Int→Int}
  (rule:∀(i:Int) (t:Tok) (s:Shared) (Q:Value→Shared→Prop) (E:Value→Shared→Prop),Q (.int (g i) s.toks) { s with toks:=s.toks+1 }→wpAny (model X.prog X.w) X.A (f (.int i t)) Q E s):
  UnR X f (rU λi=>.int (g i)):=by
 intro pins s σ H x v Q I rx h
 obtain⟨i,rfl,q⟩:=h
 obtain⟨t,rfl⟩:=rx
 exact rule i t s _ _ ⟨.int (g i),H,I.tok _,⟨_,rfl⟩,q⟩
theorem zyh:UnR X (unaryOp .USub) (rU λi=>.int (-i)):=unI λ_ _ _ _ _ q=>neg_int q
end
def ziR:V→V→Bool
 | .non,.non=>true | .non,.int _=>true | .int _,.non=>true | .non,.bl _=>true | .bl _,.non=>true | .non,.str _=>true | .str _,.non=>true
 | .int _,.int _=>true | .bl _,.bl _=>true | .str _,.str _=>true | .byt _,.byt _=>true
 | .int _,.str _=>true | .str _,.int _=>true | .bl _,.str _=>true | .str _,.bl _=>true
 | _,_=>false
def rEq:R2:=λx y H Q=>ziR x y=true∧Q (.bl (decide (x=y))) H
def rNe:R2:=λx y H Q=>ziR x y=true∧Q (.bl (!decide (x=y))) H
theorem zqX {i j:Int}:decide (V.int i=V.int j)=(i==j):=by
 rw[Bool.eq_iff_iff]
 simp
theorem zpt {i j:Bool}:decide (V.bl i=V.bl j)=(i==j):=by
 rw[Bool.eq_iff_iff]
 simp
theorem zqh {i j:Str}:decide (V.str i=V.str j)=(i==j):=by
 rw[Bool.eq_iff_iff]
 simp
theorem zqx {i j:Array UInt8}:decide (V.byt i=V.byt j)=(i.toList==j.toList):=by
 rw[Bool.eq_iff_iff]
 cases i
 cases j
 simp
section
variable {X:Cx}{a b c:Expr}{ta tb tc:TE}{pos:Pos}
theorem za4 {pins:List (Addr×Obj)}{σ:St}{H:Hp}{s:Shared}{Q:VK}{k k':Bool}(I:Inv X pins σ H s)(q:Q (.bl k) H)(e:k=k'):EP X pins σ Q (.bool k') s:=by
 subst e
 exact⟨.bl k,H,I,rfl,q⟩
theorem zn0:OpR X (compareOp .Eq) rEq:=by
 intro pins s σ H x y v u Q I rx ry h
 obtain⟨hs,q⟩:=h
 cases x with
 | non=>
  cases rx
  cases y with
  | non=>cases ry; exact PySem.EqNone.eq_none_none (za4 I q (by simp))
  | bl j=>cases ry; exact PySem.EqNone.eq_none_bool (za4 I q (by simp))
  | int j=>obtain⟨t',rfl⟩:=ry; exact PySem.EqNone.eq_none_int (za4 I q (by simp))
  | str j=>obtain⟨t',rfl⟩:=ry; exact PySem.EqNone.eq_none_str (za4 I q (by simp))
  | _=>exact absurd (show false=true from hs) Val
 | bl i=>
  cases rx
  cases y with
  | non=>cases ry; exact PySem.EqNone.eq_bool_none (za4 I q (by simp))
  | bl j=>cases ry; exact eq_bool (za4 I q zpt)
  | str j=>obtain⟨t',rfl⟩:=ry; exact PySem.EqMixed.eq_bool_str (za4 I q (by simp))
  | _=>exact absurd (show false=true from hs) Val
 | int i=>
  obtain⟨t,rfl⟩:=rx
  cases y with
  | non=>cases ry; exact PySem.EqNone.eq_int_none (za4 I q (by simp))
  | int j=>obtain⟨t',rfl⟩:=ry; exact eq_int (za4 I q zqX)
  | str j=>obtain⟨t',rfl⟩:=ry; exact PySem.EqMixed.eq_int_str (za4 I q (by simp))
  | _=>exact absurd (show false=true from hs) Val
 | str i=>
  obtain⟨t,rfl⟩:=rx
  cases y with
  | non=>cases ry; exact PySem.EqNone.eq_str_none (za4 I q (by simp))
  | bl j=>cases ry; exact PySem.EqMixed.eq_str_bool (za4 I q (by simp))
  | int j=>obtain⟨t',rfl⟩:=ry; exact PySem.EqMixed.eq_str_int (za4 I q (by simp))
  | str j=>obtain⟨t',rfl⟩:=ry; exact eq_str (za4 I q zqh)
  | _=>exact absurd (show false=true from hs) Val
 | byt i=>
  obtain⟨t,rfl⟩:=rx
  cases y with
  | byt j=>obtain⟨t',rfl⟩:=ry; exact PySem.W.eq_bytes (za4 I q zqx)
  | _=>exact absurd (show false=true from hs) Val
 | _=>cases y <;> exact absurd (show false=true from hs) Val
theorem op_ne:OpR X (compareOp .NotEq) rNe:=by
 intro pins s σ H x y v u Q I rx ry h
 obtain⟨hs,q⟩:=h
 cases x with
 | non=>
  cases rx
  cases y with
  | non=>cases ry; exact PySem.EqNone.ne_none_none (za4 I q (by simp))
  | bl j=>cases ry; exact PySem.EqNone.ne_none_bool (za4 I q (by simp))
  | int j=>obtain⟨t',rfl⟩:=ry; exact PySem.EqNone.ne_none_int (za4 I q (by simp))
  | str j=>obtain⟨t',rfl⟩:=ry; exact PySem.EqNone.ne_none_str (za4 I q (by simp))
  | _=>exact absurd (show false=true from hs) Val
 | bl i=>
  cases rx
  cases y with
  | non=>cases ry; exact PySem.EqNone.ne_bool_none (za4 I q (by simp))
  | bl j=>cases ry; exact ne_bool (za4 I q (congrArg not zpt))
  | str j=>obtain⟨t',rfl⟩:=ry; exact PySem.EqMixed.ne_bool_str (za4 I q (by simp))
  | _=>exact absurd (show false=true from hs) Val
 | int i=>
  obtain⟨t,rfl⟩:=rx
  cases y with
  | non=>cases ry; exact PySem.EqNone.ne_int_none (za4 I q (by simp))
  | int j=>obtain⟨t',rfl⟩:=ry; exact ne_int (za4 I q (congrArg not zqX))
  | str j=>obtain⟨t',rfl⟩:=ry; exact PySem.EqMixed.ne_int_str (za4 I q (by simp))
  | _=>exact absurd (show false=true from hs) Val
 | str i=>
  obtain⟨t,rfl⟩:=rx
  cases y with
  | non=>cases ry; exact PySem.EqNone.ne_str_none (za4 I q (by simp))
  | bl j=>cases ry; exact PySem.EqMixed.ne_str_bool (za4 I q (by simp))
  | int j=>obtain⟨t',rfl⟩:=ry; exact PySem.EqMixed.ne_str_int (za4 I q (by simp))
  | str j=>obtain⟨t',rfl⟩:=ry; exact ne_str (za4 I q (congrArg not zqh))
  | _=>exact absurd (show false=true from hs) Val
 | byt i=>
  obtain⟨t,rfl⟩:=rx
  cases y with
  | byt j=>obtain⟨t',rfl⟩:=ry; exact PySem.W.ne_bytes (za4 I q (congrArg not zqx))
  | _=>exact absurd (show false=true from hs) Val
 | _=>cases y <;> exact absurd (show false=true from hs) Val
theorem op_lt:OpR X (compareOp .Lt) (rI0 λi j=>.bl (decide (i<j))):=ziX λ_ _ _ _ _ _ _ q=>lt_int q
theorem op_le:OpR X (compareOp .LtE) (rI0 λi j=>.bl (decide (i≤j))):=ziX λ_ _ _ _ _ _ _ q=>le_int q
theorem op_gt:OpR X (compareOp .Gt) (rI0 λi j=>.bl (decide (j<i))):=ziX λ_ _ _ _ _ _ _ q=>gt_int q
theorem op_ge:OpR X (compareOp .GtE) (rI0 λi j=>.bl (decide (j≤i))):=ziX λ_ _ _ _ _ _ _ q=>ge_int q
theorem zrO:OpR X (compareOp .Is) (λx y H Q=>y=.non∧Q (.bl (decide (x=.non))) H):=by
 intro pins s σ H x y v u Q I rx ry h
 obtain⟨rfl,q⟩:=h
 cases ry
 refine is_none_gen (za4 I q ?_)
 cases x <;> first
  | (cases rx; rfl)
  | (obtain⟨t,rfl⟩:=rx; rfl)
theorem zuQ:OpR X (compareOp .IsNot) (λx y H Q=>y=.non∧Q (.bl (!decide (x=.non))) H):=by
 intro pins s σ H x y v u Q I rx ry h
 obtain⟨rfl,q⟩:=h
 cases ry
 refine isnot_none_gen (za4 I q ?_)
 cases x <;> first
  | (cases rx; rfl)
  | (obtain⟨t,rfl⟩:=rx; rfl)
theorem OpR.or {f:Value→Value→Sem Value}{r r':R2}(h:OpR X f r)(h':OpR X f r'):OpR X f (λx y H Q=>r x y H Q∨r' x y H Q):=by
 intro pins s σ H x y v u Q I rx ry q
 rcases q with q | q
 ·exact h pins s σ H x y v u Q I rx ry q
 ·exact h' pins s σ H x y v u Q I rx ry q
theorem zap (b:Expr){op:CmpOp}(h:op≠.In:=by decide)(h2:op≠.NotIn:=by decide):behindInMarks op b=false:=by
 have e1:(op==CmpOp.In)=false:=by cases op <;> first | rfl | exact absurd rfl h
 have e2:(op==CmpOp.NotIn)=false:=by cases op <;> first | rfl | exact absurd rfl h2
 cases b <;> simp[behindInMarks,e1,e2]
theorem zu8 {op:CmpOp}{r:R2}(ho:OpR X (compareOp op) r)(ha:PE X a ta)(hb:PE X b tb)(hm:behindInMarks op b=false):PE X (.Compare a [op] [b] pos) (tOp r ta tb):=by
 intro pins s σ H Q I h
 exact wpAny_Compare1 (binT ha hb I h λv u s2 x y H2 I2 rx ry q=>ho pins s2 σ H2 x y v u Q I2 rx ry q) hm
def zpy (t:TE):TT:=λσ H Q=>t σ H λx H'=>∃k,x=.bl k∧Q k H'
theorem zyy {op:CmpOp}{r:R2}(ho:OpR X (compareOp op) r)(ha:PE X a ta)(hb:PE X b tb)(hm:behindInMarks op b=false):PT X (.Compare a [op] [b] pos) (zpy (tOp r ta tb)):=by
 intro pins s σ H Q I h
 refine wpAny_isTrue_Compare1 (thn (ha pins s σ H _ I h) λv s1 ⟨x,H1,I1,r1,q1⟩=>thn (hb pins s1 σ H1 _ I1 q1) λu s2 ⟨y,H2,I2,r2,q2⟩=>
  thn (ho pins s2 σ H2 x y v u _ I2 r1 r2 q2) λc s3 ⟨z,H3,I3,r3,k,e,q3⟩=>?_) hm
 subst e
 cases r3
 exact wpAny_truthy_bool ⟨H3,I3,q3⟩
def zpg (r r':R2)(ta tb tc:TE):TE:=λσ H Q=>ta σ H λx H1=>tb σ H1 λy H2=>r x y H2 λz H3=>∃k,z=.bl k∧
 (if k=true then tc σ H3 λw' H4=>r' y w' H4 Q else Q (.bl false) H3)
theorem zwU {op op':CmpOp}{r r':R2}(ho:OpR X (compareOp op) r)(ho':OpR X (compareOp op') r')(ha:PE X a ta)(hb:PE X b tb)(hc:PE X c tc)
  (hm:lastMarks [op,op'] [b,c]=false:=by with_unfolding_all rfl):PE X (.Compare a [op,op'] [b,c] pos) (zpg r r' ta tb tc):=by
 intro pins s σ H Q I h
 refine Compare_chain (thn (ha pins s σ H _ I h) λv s1 ⟨x,H1,I1,r1,q1⟩=>chain_link (thn (hb pins s1 σ H1 _ I1 q1) λu s2 ⟨y,H2,I2,r2,q2⟩=>
  thn (ho pins s2 σ H2 x y v u _ I2 r1 r2 q2) λd s3 ⟨z,H3,I3,r3,k,e,q3⟩=>?_)) hm
 subst e
 cases r3
 refine wpAny_truthy_bool ?_
 cases k with
 | false=>exact ite_ff ⟨.bl false,H3,I3,rfl,q3⟩
 | true=>exact ite_tt (chain_last (thn (hc pins s3 σ H3 _ I3 q3) λw' s4 ⟨z',H4,I4,r4,q4⟩=>ho' pins s4 σ H4 y z' u w' Q I4 r2 r4 q4))
theorem ztx {op op':CmpOp}{r r':R2}(ho:OpR X (compareOp op) r)(ho':OpR X (compareOp op') r')(ha:PE X a ta)(hb:PE X b tb)(hc:PE X c tc)
  (hm:lastMarks [op,op'] [b,c]=false:=by with_unfolding_all rfl):PT X (.Compare a [op,op'] [b,c] pos) (zpy (zpg r r' ta tb tc)):=by
 intro pins s σ H Q I h
 refine isTrue_chain (thn (ha pins s σ H _ I h) λv s1 ⟨x,H1,I1,r1,q1⟩=>test_link (thn (hb pins s1 σ H1 _ I1 q1) λu s2 ⟨y,H2,I2,r2,q2⟩=>
  thn (ho pins s2 σ H2 x y v u _ I2 r1 r2 q2) λd s3 ⟨z,H3,I3,r3,k,e,q3⟩=>?_)) hm
 subst e
 cases r3
 refine wpAny_truthy_bool ?_
 cases k with
 | false=>
  obtain⟨k',e',q'⟩:=q3
  cases e'
  exact ite_ff ⟨H3,I3,q'⟩
 | true=>
  refine ite_tt (test_last (thn (hc pins s3 σ H3 _ I3 q3) λw' s4 ⟨z',H4,I4,r4,q4⟩=>thn (ho' pins s4 σ H4 y z' u w' _ I4 r2 r4 q4) λd' s5 ⟨z2,H5,I5,r5,k2,e2,q5⟩=>?_))
  subst e2
  cases r5
  exact wpAny_truthy_bool ⟨H5,I5,q5⟩
theorem zhp:(sizeLine:Nat)<2^63:=by rw[sizeLine_eq]; decide
theorem zfy {x:V}{us:List Value}(r:zaA [x] us):∃u,us=[u]∧zay x u:=by
 cases r with
 | cons r1 r2=>cases r2; exact⟨_,rfl,r1⟩
theorem zn5 {x y:V}{us:List Value}(r:zaA [x,y] us):∃u w',us=[u,w']∧zay x u∧zay y w':=by
 cases r with
 | cons r1 r2=>
  cases r2 with
  | cons r3 r4=>cases r4; exact⟨_,_,rfl,r1,r3⟩
theorem zuR:zbl X (.builtin "abs") (λxs H Q=>∃i,xs=[.int i]∧Q (.int (if i<0 then -i else i)) H):=by
 intro pins s σ H xs us Q I r h
 obtain⟨i,rfl,q⟩:=h
 obtain⟨u,rfl,t,rfl⟩:=zfy r
 exact call_abs_int λu tk=>⟨.int (if i<0 then -i else i),H,I.tok _,⟨_,rfl⟩,q⟩
theorem zr1 (hc:X.calm=true):zbl X (.builtin "max") (λxs H Q=>∃i j,xs=[.int i,.int j]∧Q (.int (if j > i then j else i)) H):=by
 intro pins s σ H xs us Q I r h
 obtain⟨i,j,rfl,q⟩:=h
 obtain⟨u,w',rfl,⟨t,rfl⟩,⟨t',rfl⟩⟩:=zn5 r
 refine max_two_ints (I.ok.hd hc) λh' tk k=>⟨_,H,I.kept k,?_,q⟩
 by_cases hj:j > i
 ·rw[if_pos hj,if_pos hj]; exact⟨_,rfl⟩
 ·rw[if_neg hj,if_neg hj]; exact⟨_,rfl⟩
theorem zyv (hc:X.calm=true):zbl X (.builtin "min") (λxs H Q=>∃i j,xs=[.int i,.int j]∧Q (.int (if j<i then j else i)) H):=by
 intro pins s σ H xs us Q I r h
 obtain⟨i,j,rfl,q⟩:=h
 obtain⟨u,w',rfl,⟨t,rfl⟩,⟨t',rfl⟩⟩:=zn5 r
 refine min_two_ints (I.ok.hd hc) λh' tk k=>⟨_,H,I.kept k,?_,q⟩
 by_cases hj:j<i
 ·rw[if_pos hj,if_pos hj]; exact⟨_,rfl⟩
 ·rw[if_neg hj,if_neg hj]; exact⟨_,rfl⟩
end
end L2
namespace L2
open PySem PySem.Spec PyProof.Rows
structure zei (h:Heap)(x dx C:Addr)(mA:Str→Option Value):Prop where
 obj:h.get? x=some (PySem.W.instObj C dx)
 ns:h.Ns1 dx mA
 ne:dx≠x
theorem zub {h:Heap}{dx:Addr}{mA:Str→Option Value}(n:h.Ns1 dx mA):∃od,h.get? dx=some od∧∀name,PySem.W.lookIn name od=some (mA name):=by
 obtain⟨o,es,ep,ho,hd,hk,_,hm⟩:=n
 refine⟨o,ho,λname=>?_⟩
 have e:=hm name
 unfold nsFind findBy at e
 rw[← Array.find?_toList] at e
 unfold PySem.W.lookIn
 rw[hd]
 dsimp only
 split
 ·rename_i y q
  rw[q] at e
  exact congrArg some e
 ·rename_i q
  rw[q] at e
  have a:es.toList.any (·.refKey)=false:=by
   rw[List.any_eq_false]
   intro y hy
   obtain⟨z,t,hkey⟩:=hk y (Array.mem_toList_iff.mp hy)
   simp[DictEntry.refKey,hkey]
  have a':¬ es.toList.any (·.refKey)=true:=by rw[a]; exact Val
  rw[if_neg a']
  exact congrArg some e
theorem zei.look {h:Heap}{x dx C:Addr}{mA:Str→Option Value}(I:zei h x dx C mA):∃od,PySem.W.InstAt h x (PySem.W.instObj C dx) C (some od)∧∀name,PySem.W.lookIn name od=some (mA name):=
 let ⟨od,ho,hl⟩:=zub I.ns
 ⟨od,⟨I.obj,rfl,rfl,ho⟩,hl⟩
section
variable {prog:Program}{w:World}{A:Around}{E:Value→Shared→Prop}{s:Shared}{K:PySem.W.Frag}{x dx C f:Addr}{mA:Str→Option Value}{name:Str}{v:Value}
theorem zxt {expr:Bool}{Q:Value→Shared→Prop}(X:K.In s.heap)(I:zei s.heap x dx C mA)(hg:PySem.W.plainGet K C name=true)(hh:PySem.W.hasDictIn K C=true)
  (ha:PySem.W.findIn K (.ref C) name=some none)(hv:mA name=some v)(hv':PySem.W.handedIn v=true)(h:Q v { s with toks:=s.toks+1 }):
  wpAny (model prog w) A (getAttr (.ref x) name expr) Q E s:=by
 obtain⟨od,J,hl⟩:=I.look
 exact PySem.W.get_value X J (PySem.W.plainGet_of hg).1 (PySem.W.findObj_own hh ha rfl (by rw[hl,hv])) hv' h
theorem zsx {pl:Sem Bool}{Q:Value×List Value→Shared→Prop}(X:K.In s.heap)(I:zei s.heap x dx C mA)(hg:PySem.W.plainGet K C name=true)
  (hf:PySem.W.findIn K (.ref C) name=some (some (.ref f)))(ht:PySem.W.isFn K (.ref f)=true)(hv:mA name=none)(h:Q (.ref f,[.ref x]) s):
  wpAny (model prog w) A (getMethod (.ref x) name pl) Q E s:=by
 obtain⟨od,J,hl⟩:=I.look
 exact PySem.W.method_fn X J (PySem.W.plainGet_of hg).1 (PySem.W.plainGet_of hg).2 hf (beq_iff_eq.mp ht) (by show (PySem.W.lookIn name od).map (·.isSome)=some false; rw[hl,hv]; rfl) h
theorem zui {ns:List Str}{Q:Unit→Shared→Prop}(X:K.In s.heap)(I:zei s.heap x dx C mA)
  (hs:PySem.W.findIn K (.ref C) "__setattr__"=some (some (.builtin "object.__setattr__")))(hp:PySem.W.plainOver K C=true)(ht:PySem.W.takerIn K C name=some none)(hh:PySem.W.hasDictIn K C=true)
  (hw:PySem.Within mA ns)(hsz:ns.length≤sizeLine)
  (h:∀h',zei h' x dx C (λy=>if y=name then some v else mA y)→Heap.SameBut dx s.heap h'→Q () { s with heap:=h',toks:=s.toks+2 }):
  wpAny (model prog w) A (setAttr (.ref x) name v) Q E s:=by
 obtain⟨od,J,hl⟩:=I.look
 refine PySem.W.set_plain X J hs (PySem.W.osa_open (s:={ s with toks:=s.toks+1 }) (r:=none) X J hp ht λb=>?_)
 obtain⟨cd,hc,hd'⟩:=PySem.W.any_some hh
 have hx:s.heap.get? x=some ⟨.ref C,some dx,.plain,#[]⟩:=I.obj
 refine wpAny_bind (wpAny_pure (wpAny_bind (wpAny_bind (wpAny_loadPart hx (wpAny_bind (PySem.W.Looks.here (s:={ s with toks:=s.toks+1 }) (PySem.W.looks_clsIn X hc) ?_))))))
 rw[hd']
 refine wpAny_pure (a:=some dx) (wpAny_bind (wpAny_pure (wpAny_bind ?_)))
 refine wpAny_nsSet1 (s:={ s with toks:=s.toks+1 }) I.ns λh' hn2 hs2=>?_
 obtain⟨oD,esD,epD,hoD,hdD,hcD⟩:=hn2.count (PySem.Within.cons name v hw)
 refine wpAny_bind (wpAny_lookBehind hoD (by rw[hdD]; exact pastItsLine_dict (VaD hcD (by rw[VaK]; omega))) ?_)
 exact wpAny_pure (h _ ⟨(hs2.2 _ (Ne.symm I.ne)).trans I.obj,hn2,I.ne⟩ hs2)
theorem zwO {R:Result→Shared→Prop}{vs:List Value}{kw:List (Str×Value)}(X:K.In s.heap)(hm:PySem.W.makesIn K C=true)
  (hi:PySem.W.findIn K (.ref C) "__init__"=some (some (.ref f)))(hf:PySem.W.typeIn K (.ref f)=some (.type "function"))
  (h:codeAny (model prog w) (A.under (.builtin "type.__call__" ⟨.ref C::vs,kw⟩)) (.call (.ref f) ⟨.ref (s.heap.objs.size+1)::vs,kw⟩) (PySem.W.InitBack (s.heap.objs.size+1) R)
   { s with heap:=(s.heap.push PySem.W.emptyDict).push (PySem.W.instObj C s.heap.objs.size) }):
  codeAny (model prog w) A (.call (.ref C) ⟨vs,kw⟩) R s:=by
 obtain⟨hh,g,d,t,os⟩:=s
 exact PySem.W.make_core (PySem.W.makes_of X hm) (PySem.W.looks_findIn X hi) (λself=>PySem.W.bind_fn X self hf) (.inl rfl) h
end
def zbw (f:Str)(v:V):List (Str×V)→List (Str×V)
 | []=>[(f,v)]
 | (g,x)::r=>if g=f then (g,v)::r else (g,x)::zbw f v r
theorem zqn (f g:Str)(v:V):∀fs:List (Str×V),(zbw f v fs).lookup g=if g=f then some v else fs.lookup g
 | []=>by
  show List.lookup g [(f,v)]=_
  by_cases h:g=f
  ·have hb:(g==f)=true:=beq_iff_eq.mpr h
   simp only[List.lookup,hb,if_pos h]
  ·have hb:(g==f)=false:=beq_eq_false_iff_ne.mpr h
   simp only[List.lookup,hb,if_neg h]
 | (k,x)::r=>by
  have ih:=zqn f g v r
  rw[show zbw f v ((k,x)::r)=(if k=f then (k,v)::r else (k,x)::zbw f v r) from rfl]
  by_cases hk:k=f
  ·rw[if_pos hk]
   by_cases h:g=k
   ·have hb:(g==k)=true:=beq_iff_eq.mpr h
    simp only[List.lookup,hb,if_pos (h.trans hk)]
   ·have hb:(g==k)=false:=beq_eq_false_iff_ne.mpr h
    simp only[List.lookup,hb,if_neg (λe:g=f=>h (e.trans hk.symm))]
  ·rw[if_neg hk]
   by_cases h:g=k
   ·have hb:(g==k)=true:=beq_iff_eq.mpr h
    simp only[List.lookup,hb,if_neg (λe:g=f=>hk (h.symm.trans e))]
   ·have hb:(g==k)=false:=beq_eq_false_iff_ne.mpr h
    simp only[List.lookup,hb]
    exact ih
theorem znZ (f:Str)(v:V):∀fs:List (Str×V),f∈(zbw f v fs).map (·.1)∧∀g,g∈fs.map (·.1)→g∈(zbw f v fs).map (·.1)
 | []=>⟨by simp[zbw],λg h=>by simp at h⟩
 | (k,x)::r=>by
  obtain⟨i1,i2⟩:=znZ f v r
  rw[show zbw f v ((k,x)::r)=(if k=f then (k,v)::r else (k,x)::zbw f v r) from rfl]
  by_cases hk:k=f
  ·rw[if_pos hk]
   subst hk
   exact⟨by simp,λg h=>by simpa using h⟩
  ·rw[if_neg hk]
   refine⟨?_,λg h=>?_⟩
   ·rw[Vam]
    exact VaF _ i1
   ·rw[Vam] at h ⊢
    rcases Vad.mp h with e | e
    ·exact Vad.mpr (.inl e)
    ·exact VaF _ (i2 g e)
theorem zrg (f:Str)(v:V):∀fs:List (Str×V),(zbw f v fs).length≤fs.length+1
 | []=>by simp[zbw]
 | (k,x)::r=>by
  have ih:=zrg f v r
  rw[show zbw f v ((k,x)::r)=(if k=f then (k,v)::r else (k,x)::zbw f v r) from rfl]
  by_cases hk:k=f
  ·rw[if_pos hk,VaK,VaK]; omega
  ·rw[if_neg hk,VaK,VaK]; omega
theorem zbK.some_of {v:V}{o:Option Value}(r:zbK (some v) o):∃u,o=some u∧zay v u:=by
 cases o with
 | none=>exact(show False from r).elim
 | some u=>exact⟨u,rfl,r⟩
theorem zbK.none_of {o:Option Value}(r:zbK none o):o=none:=by
 cases o with
 | none=>rfl
 | some u=>exact(show False from r).elim
theorem zyl {v:V}{u:Value}(r:zay v u):PySem.W.handedIn u=true:=by
 cases v with
 | non=>cases (show u=Value.none from r); rfl
 | bl b=>cases (show u=Value.bool b from r); rfl
 | int i=>obtain⟨t,e⟩:=(show ∃t,u=Value.int i t from r); cases e; rfl
 | str x=>obtain⟨t,e⟩:=(show ∃t,u=Value.str x t from r); cases e; rfl
 | byt b=>obtain⟨t,e⟩:=(show ∃t,u=Value.bytes b t from r); cases e; rfl
 | flt b=>obtain⟨t,e⟩:=(show ∃t,u=Value.float b t from r); cases e; rfl
 | ref a=>cases (show u=Value.ref a from r); rfl
 | ty n=>cases (show u=Value.type n from r); rfl
section
variable {P:Program}{w:World}{H H':Hp}{h h':Heap}{a C dx:Addr}{fs fs':List (Str×V)}
theorem zil (hok:HOk P w H h)(e:H a=some (.ins C dx fs)):∃mA,zei h a dx C mA∧(∀f,zbK (fs.lookup f) (mA f))∧PySem.Within mA (fs.map (·.1))∧fs.length≤1000∧H dx=some (.own a):=by
 obtain⟨d,z,ne,ob,mA,n,r,q⟩:=(show zbu P w H h a (.ins C dx fs) from hok a _ e)
 exact⟨mA,⟨ob,n,ne⟩,r,q,z,d⟩
end
structure Cls (K:PySem.W.Frag)(C:Addr):Prop where
 pg:PySem.W.plainGet K C Str.empty=true
 hd:PySem.W.hasDictIn K C=true
 po:PySem.W.plainOver K C=true
 sa:PySem.W.findIn K (.ref C) "__setattr__"=some (some (.builtin "object.__setattr__"))
theorem Cls.get {K:PySem.W.Frag}{C:Addr}(c:Cls K C)(f:Str):PySem.W.plainGet K C f=true:=c.pg
def zbs (K:PySem.W.Frag)(C:Addr)(f:Str):Prop:=PySem.W.findIn K (.ref C) f=some none
theorem zbs.taker {K:PySem.W.Frag}{C:Addr}{f:Str}(n:zbs K C f):PySem.W.takerIn K C f=some none:=by
 unfold PySem.W.takerIn
 rw[show PySem.W.findIn K (.ref C) f=some none from n]
 rfl
structure Con (K:PySem.W.Frag)(C:Addr)(f:Str)(v:V)(u:Value):Prop where
 at_:PySem.W.findIn K (.ref C) f=some (some u)
 rel:zay v u
 get:PySem.W.specialIn K u "__get__"=some none
 cp:PySem.W.copiedNames.contains f=false
structure zeO (K:PySem.W.Frag)(C:Addr)(m:Str)(f:Addr):Prop where
 at_:PySem.W.findIn K (.ref C) m=some (some (.ref f))
 fn:PySem.W.isFn K (.ref f)=true
 kp:PySem.W.keepIn K (.ref f)=true
section
variable {X:Cx}{pins:List (Addr×Obj)}{σ:St}{H:Hp}{s:Shared}{a C dx:Addr}{fs:List (Str×V)}{f:Str}{v:V}{A:Around}{E:Value→Shared→Prop}
theorem zr7 {b:Bool}{Q:Value→Shared→Prop}(I:Inv X pins σ H s)(e:H a=some (.ins C dx fs))(c:Cls X.K C)(n:zbs X.K C f)(l:fs.lookup f=some v)
  (h:∀u s',Inv X pins σ H s'→zay v u→Q u s'):wpAny (model X.prog X.w) A (getAttr (.ref a) f b) Q E s:=by
 obtain⟨mA,O,r,_,_,_⟩:=zil I.hok e
 obtain⟨u,hu,ru⟩:=zbK.some_of (v:=v) (o:=mA f) (by rw[← l]; exact r f)
 exact zxt I.kIn O (c.get f) c.hd n hu (zyl ru) (h u _ (I.tok _) ru)
theorem zrn {m:Str}{g:Addr}{pl:Sem Bool}{Q:Value×List Value→Shared→Prop}(I:Inv X pins σ H s)(e:H a=some (.ins C dx fs))(c:Cls X.K C)(k:zeO X.K C m g)(l:fs.lookup m=none)
  (h:Q (.ref g,[.ref a]) s):wpAny (model X.prog X.w) A (getMethod (.ref a) m pl) Q E s:=by
 obtain⟨mA,O,r,_,_,_⟩:=zil I.hok e
 have hn:mA m=none:=zbK.none_of (by rw[← l]; exact r m)
 exact zsx I.kIn O (c.get m) k.at_ k.fn hn h
theorem zxY {y:V}{u:Value}{Q:Unit→Shared→Prop}(I:Inv X pins σ H s)(e:H a=some (.ins C dx fs))(c:Cls X.K C)(n:zbs X.K C f)(hl:fs.length<1000)(ry:zay y u)
  (h:∀s',Inv X pins σ (upd H a (.ins C dx (zbw f y fs))) s'→Q () s'):wpAny (model X.prog X.w) A (setAttr (.ref a) f u) Q E s:=by
 obtain⟨mA,O,r,wi,_,ho⟩:=zil I.hok e
 have hz:(fs.map (·.1)).length≤sizeLine:=by rw[Vaa,sizeLine_eq]; omega
 refine zui I.kIn O c.sa c.po n.taker c.hd wi hz λh' O' sb=>h _ ?_
 have hd:∃o,h'.get? dx=some o:=let ⟨o,_,_,e',_⟩:=O'.ns; ⟨o,e'⟩
 refine I.write (x:=a) (e:=dx) (by rw[e]; exact True.intro) (.inr ho) (λb q hb z=>(sb.2 b hb).trans z) hd ?_
 refine⟨by rw[zbd O.ne]; exact ho,?_,O.ne,O'.obj,_,O'.ns,λg=>?_,λg hg=>?_⟩
 ·have:=zrg f y fs; omega
 ·show zbK ((zbw f y fs).lookup g) (if g=f then some u else mA g)
  rw[zqn]
  by_cases q:g=f
  ·rw[if_pos q,if_pos q]; exact ry
  ·rw[if_neg q,if_neg q]; exact r g
 ·by_cases q:g=f
  ·rw[q]; exact(znZ f y fs).1
  ·refine(znZ f y fs).2 g (wi g λz=>hg ?_)
   show (if g=f then some u else mA g)=none
   rw[if_neg q]; exact z
theorem Inv.made (I:Inv X pins σ H s):Inv X pins σ (upd (upd H s.heap.objs.size (.own (s.heap.objs.size+1))) (s.heap.objs.size+1) (.ins C s.heap.objs.size []))
  { s with heap:=(s.heap.push PySem.W.emptyDict).push (PySem.W.instObj C s.heap.objs.size) }:=by
 have e1:(s.heap.push PySem.W.emptyDict).get? s.heap.objs.size=some PySem.W.emptyDict:=Heap.get?_push_size s.heap rfl
 have e2:((s.heap.push PySem.W.emptyDict).push (PySem.W.instObj C s.heap.objs.size)).get? (s.heap.objs.size+1)=some (PySem.W.instObj C s.heap.objs.size):=by
  have:=Heap.get?_push_size (s.heap.push PySem.W.emptyDict) (o:=PySem.W.instObj C s.heap.objs.size) rfl
  rwa [Heap.size_push] at this
 have e3:(s.heap.push PySem.W.emptyDict).Ns s.heap.objs.size (λ_=>none):=⟨PySem.W.emptyDict,#[],_,e1,rfl,(λe he=>absurd he (by simp)),λ_=>rfl⟩
 have I1:=I.laid (a:=s.heap.objs.size) (o:=.own (s.heap.objs.size+1)) (h':=s.heap.push PySem.W.emptyDict) (t':=s.toks) (λb u q=>Heap.get?_push_of_some _ q) (Vab _) ⟨_,e1⟩
 refine I1.laid (a:=s.heap.objs.size+1) (o:=.ins C s.heap.objs.size []) (t':=s.toks) (λb u q=>Heap.get?_push_of_some _ q) (Nat.le_of_eq (Heap.size_push _ _)) ?_
 have ne:s.heap.objs.size≠s.heap.objs.size+1:=Vaq (Nat.lt_succ_self _)
 refine⟨by rw[zbd ne,zcP],Vax _,ne,e2,λ_=>none,(Heap.Ns1.of_empty e3).at λo q=>Heap.get?_push_of_some _ q,λ_=>True.intro,λy hy=>absurd rfl hy⟩
theorem zug {prog:Program}{w:World}{env:Env}{e:Expr}{f:Str}{pos:Pos}{s:Shared}{Q:Value→Shared→Prop}(hb:attributeBase e f env (eval e env)=eval e env)
  (h:wpAny (model prog w) A (eval e env) (λo s₁=>wpAny (model prog w) A (getAttr o f true) Q E s₁) E s):wpAny (model prog w) A (eval (.Attribute e f pos) env) Q E s:=
 Attribute_any_ h (by rw[arm_eval_Attribute,hb])
end
def tFld (K:PySem.W.Frag)(ta:TE)(f:Str):TE:=λσ H Q=>ta σ H λx H1=>∃a C dx fs v,x=.ref a∧H1 a=some (.ins C dx fs)∧Cls K C∧zbs K C f∧fs.lookup f=some v∧Q v H1
def sFld (K:PySem.W.Frag)(ta tv:TE)(f:Str):TS:=λD σ H=>tv σ H λy H1=>ta σ H1 λx H2=>∃a C dx fs,x=.ref a∧H2 a=some (.ins C dx fs)∧Cls K C∧zbs K C f∧fs.length<1000∧
 D.nx σ (upd H2 a (.ins C dx (zbw f y fs)))
section
variable {X:Cx}{o e value:Expr}{f:Str}{pos pos' tpos:Pos}{ta tv:TE}
theorem zux (he:PE X e ta)(hb:attributeBase e f X.env (eval e X.env)=eval e X.env):PE X (.Attribute e f pos) (tFld X.K ta f):=by
 intro pins s σ H Q I h
 refine zug hb (thn (he pins s σ H _ I h) λu s1 ⟨x,H1,I1,rx,a,C,dx,fs,v,ex,ea,c,n,l,q⟩=>?_)
 subst ex
 obtain rfl:u=Value.ref a:=rx
 exact zr7 I1 ea c n l λu' s2 I2 ru=>⟨v,H1,I2,ru,q⟩
theorem zse (ha:PE X o ta)(hv:PE X value tv)(hs:swapsWith value (some (.Attribute o f pos')) pos.line X.env=pure false):PS X (.Assign [.Attribute o f pos'] value pos) (sFld X.K ta tv f):=by
 intro pins s σ H D I h
 refine plainObj_wpAny_Assign_Attribute (thn (hv pins s σ H _ I h) λu s1 ⟨y,H1,I1,ry,q⟩=>thn (ha pins s1 σ H1 _ I1 q) λov s2 ⟨x,H2,I2,rx,a,C,dx,fs,ex,ea,c,n,l,q2⟩=>?_) hs
 subst ex
 obtain rfl:ov=Value.ref a:=rx
 exact zxY I2 ea c n l ry λs3 I3=>⟨σ,_,I3,q2⟩
end
section
variable {X:Cx}{pins:List (Addr×Obj)}{σ:St}{H:Hp}{s:Shared}{A:Around}{E:Value→Shared→Prop}{Q:Value→Shared→Prop}{c:Value}{b:Bool}
inductive zcf (K:PySem.W.Frag)(H:Hp):V→Value→Prop where
 | non:zcf K H .non (.type "NoneType")
 | bl (x:Bool):zcf K H (.bl x) (.type "bool")
 | int (i:Int):zcf K H (.int i) (.type "int")
 | str (x:Str):zcf K H (.str x) (.type "str")
 | flt (x:UInt64):zcf K H (.flt x) (.type "float")
 | lst {a:Addr} {xs:List V} (e:H a=some (.lst xs)):zcf K H (.ref a) (.type "list")
 | frz {a:Addr} {o:Obj} {xs:List V} (e:H a=some (.frz o (.lst xs))):zcf K H (.ref a) (.type "list")
 | tup {a:Addr} {xs:List V} (e:H a=some (.tup xs)):zcf K H (.ref a) (.type "tuple")
 | dK {a:Addr} {kvs:List (Key×V)} (e:H a=some (.dK kvs)):zcf K H (.ref a) (.type "dict")
 | dT {a:Addr} {kvs:List (List Key×V)} (e:H a=some (.dT kvs)):zcf K H (.ref a) (.type "dict")
 | ins {a C dx:Addr} {fs:List (Str×V)} (e:H a=some (.ins C dx fs)) (cl:Cls K C) (ha:PySem.W.findIn K (.ref C) "__class__"=some (some (.builtin "object.__class__")))
   (hn:PySem.W.specialIn K (.builtin "object.__class__") "__get__"=some (some (.builtin "getset_descriptor.__get__"))) (htk:PySem.W.takesIn K (.builtin "object.__class__")=some true)
   (hm:PySem.W.mroIn K C (.type "object")=some true):zcf K H (.ref a) (.ref C)
theorem zu4 {x:V}{u t:Value}(I:Inv X pins σ H s)(rx:zay x u)(ty:zcf X.K H x t)(e:PySem.W.kitOne X.K t c=some b)(h:∀tk,Q (.bool b) { s with toks:=tk }):
  wpAny (model X.prog X.w) A (call (.builtin "isinstance") [u,c]) Q E s:=by
 cases ty with
 | non=>cases (show u=Value.none from rx); exact PySem.W.kia_one PySem.W.kitx_none I.kIn True.intro e (λz=>nomatch z) h
 | bl y=>cases (show u=Value.bool y from rx); exact PySem.W.kia_one PySem.W.kitx_bool I.kIn True.intro e (λz=>nomatch z) h
 | int i=>obtain⟨t,q⟩:=(show ∃t,u=Value.int i t from rx); cases q; exact PySem.W.kia_one PySem.W.kitx_int I.kIn True.intro e (λz=>nomatch z) h
 | str y=>obtain⟨t,q⟩:=(show ∃t,u=Value.str y t from rx); cases q; exact PySem.W.kia_one PySem.W.kitx_str I.kIn True.intro e (λz=>nomatch z) h
 | flt y=>obtain⟨t,q⟩:=(show ∃t,u=Value.float y t from rx); cases q; exact PySem.W.kia_one PySem.W.kitx_float I.kIn True.intro e (λz=>nomatch z) h
 | @lst a xs ea=>
  cases (show u=Value.ref a from rx)
  obtain⟨_,_,n,_,h1⟩:=(show zbu X.prog X.w H s.heap a (.lst xs) from I.hok a _ ea)
  exact PySem.W.kia_one PySem.W.kitx_list I.kIn ⟨_,h1,rfl⟩ e (λz=>nomatch z) h
 | @frz a ob xs ea=>
  cases (show u=Value.ref a from rx)
  obtain⟨_,_,_,n,_,h1⟩:=(show zbu X.prog X.w H s.heap a (.frz ob (.lst xs)) from I.hok a _ ea)
  exact PySem.W.kia_one PySem.W.kitx_list I.kIn ⟨_,h1,rfl⟩ e (λz=>nomatch z) h
 | @tup a xs ea=>
  cases (show u=Value.ref a from rx)
  obtain⟨_,_,_,p⟩:=(show zbu X.prog X.w H s.heap a (.tup xs) from I.hok a _ ea)
  obtain⟨o,h1,h2,_⟩:=p
  exact PySem.W.kia_one PySem.W.kitx_tuple I.kIn ⟨o,h1,h2⟩ e (λz=>nomatch z) h
 | @dK a kvs ea=>
  cases (show u=Value.ref a from rx)
  obtain⟨_,_,vs,_,p⟩:=(show zbu X.prog X.w H s.heap a (.dK kvs) from I.hok a _ ea)
  obtain⟨o,es,ep,h1,h2,_⟩:=p
  exact PySem.W.kia_one PySem.W.kitx_dict I.kIn ⟨o,h1,h2.1⟩ e (λz=>nomatch z) h
 | @dT a kvs ea=>
  cases (show u=Value.ref a from rx)
  obtain⟨_,_,xs,_,o,es,ep,h1,h2,_⟩:=(show zbu X.prog X.w H s.heap a (.dT kvs) from I.hok a _ ea)
  exact PySem.W.kia_one PySem.W.kitx_dict I.kIn ⟨o,h1,h2.1⟩ e (λz=>nomatch z) h
 | @ins a C dx fs ea cl ha hn htk hm=>
  cases (show u=Value.ref a from rx)
  obtain⟨mA,O,_⟩:=zil I.hok ea
  obtain⟨od,J,_⟩:=O.look
  exact PySem.W.kia_one (PySem.W.kitx_own (cl.get _) cl.hd ha hn htk hm) I.kIn J e (λz=>nomatch z) h
end
end L2
namespace L2
open PySem PySem.Spec PyProof.Rows
structure zaO (k:Nat)(A:Around):Prop where
 hd:A.handled=none
 dp:A.depth+3*k+5<recursionLimit
 un:A.units+16*k+200<cLine
theorem zaO.mono {j k:Nat}{A:Around}(r:zaO k A)(h:j≤k):zaO j A:=⟨r.hd,by have:=r.dp; omega,by have:=r.un; omega⟩
theorem zaO.deeper {k:Nat}{A:Around}(r:zaO (k+1) A)(env:Env):zaO k (A.deeper env):=
 ⟨r.hd,by have:=r.dp; show A.depth+1+3*k+5<_; omega,by have:=r.un; show A.units+3+16*k+200<_; omega⟩
theorem zaO.in1 {k:Nat}{A:Around}(r:zaO (k+1) A):zaO k A.in1:=
 ⟨r.hd,by have:=r.dp; show A.depth+3*k+5<_; omega,by have:=r.un; show A.units+1+16*k+200<_; omega⟩
theorem zwt {A:Around}{C:Addr}{us:List Value}{kw:List (Str×Value)}:(A.under (.builtin "type.__call__" ⟨.ref C::us,kw⟩)).depth=A.depth+1:=by
 first | rfl | simp[Around.under,Code.weight,Code.isCreation,Code.isGuard,Code.isCaller,Code.frames,Code.isFrame,guardIds]
theorem zuG {A:Around}{C:Addr}{us:List Value}{kw:List (Str×Value)}:(A.under (.builtin "type.__call__" ⟨.ref C::us,kw⟩)).units=A.units+1:=by
 first | rfl | simp[Around.under,Code.cUnits,Code.frames,Code.isFrame]
theorem zaO.make {k:Nat}{A:Around}(r:zaO (k+1) A)(C:Addr)(us:List Value)(kw:List (Str×Value)):zaO k (A.under (.builtin "type.__call__" ⟨.ref C::us,kw⟩)):=
 ⟨r.hd,by have:=r.dp; rw[zwt]; omega,by have:=r.un; rw[zuG]; omega⟩
theorem zaO.depth {k:Nat}{A:Around}(r:zaO k A):A.depth<recursionLimit:=by have:=r.dp; omega
theorem zaO.units {k:Nat}{A:Around}(r:zaO k A):A.units+64<cLine:=by have:=r.un; omega
def tNil:TA:=λ_ H Q=>Q [] H
def tCons (ta:TE)(tr:TA):TA:=λσ H Q=>ta σ H λx H1=>tr σ H1 λxs H2=>Q (x::xs) H2
section
variable {X:Cx}{e:Expr}{es:List Expr}{te:TE}{t:TA}{pos:Pos}
theorem zmX:PA X [] tNil:=λ_ _ _ _ H Q I h=>Calls.spliced_nil ⟨[],H,I,.nil,h⟩
theorem zfe (ha:PE X e te)(hr:PA X es t)(hs:starEach (e::es) X.env=(false,eval e X.env)::starEach es X.env:=by rfl):PA X (e::es) (tCons te t):=by
 intro pos pins s σ H Q I h
 rw[hs]
 show wpAny _ _ (spliced ((false,eval e X.env)::backTo pos (starEach es X.env))) _ _ s
 refine Calls.spliced_cons (thn (ha pins s σ H _ I h) λu s1 ⟨x,H1,I1,r1,q1⟩=>?_)
 exact thn (hr pos pins s1 σ H1 _ I1 q1) λus s2 ⟨xs,H2,I2,r2,q2⟩=>⟨x::xs,H2,I2,.cons r1 r2,q2⟩
def tTup (t:TA):TE:=λσ H Q=>t σ H λxs H1=>xs.length≤sizeLine∧∀p,H1 p=none→Q (.ref p) (upd H1 p (.tup xs))
def tLst (t:TA):TE:=λσ H Q=>t σ H λxs H1=>xs.length≤sizeLine∧∀p,H1 p=none→Q (.ref p) (upd H1 p (.lst xs))
theorem zxe {x1}(h:PA X es t):PE X (.Tuple es x1 pos) (tTup t):=by
 intro pins s σ H Q I hq
 refine wpAny_Tuple_spliced (thn (h pos pins s σ H _ I hq) λus s1 ⟨xs,H1,I1,r,z,q⟩=>⟨by rw[← r.length]; exact z,?_⟩)
 have hf:H1 s1.heap.objs.size=none:=I1.hok.fresh (Vab _)
 refine⟨.ref s1.heap.objs.size,upd H1 s1.heap.objs.size (.tup xs),I1.laid (t':=s1.toks) (λb u e=>Heap.get?_push_of_some _ e) (Vab _) ?_,rfl,q _ hf⟩
 exact⟨z,us,r,⟨_,Heap.get?_push_size _ rfl,rfl,_,rfl⟩⟩
theorem zv9 (h:PA X es t):PE X (.List es pos) (tLst t):=by
 intro pins s σ H Q I hq
 refine wpAny_List_spliced (thn (h pos pins s σ H _ I hq) λus s1 ⟨xs,H1,I1,r,z,q⟩=>⟨by rw[← r.length]; exact z,?_⟩)
 have hf:H1 s1.heap.objs.size=none:=I1.hok.fresh (Vab _)
 refine⟨.ref s1.heap.objs.size,upd H1 s1.heap.objs.size (.lst xs),I1.laid (t':=s1.toks) (λb u e=>Heap.get?_push_of_some _ e) (Vab _) ?_,rfl,q _ hf⟩
 exact⟨z,us,0,r,Heap.get?_push_size _ rfl⟩
end
abbrev Sp:=List V→Hp→VK→XK→Prop
abbrev CXT:=List Env→Hp→Shared→XK→Value→Shared→Prop
structure zcB (P:Program)(w:World)(K:PySem.W.Frag)(mg:Str→Option Value)(base:Heap)(A:Around)(outer:List Env)(s:Shared)(H:Hp):Prop where
 frames:A.frames=some outer
 mod:Mod K mg base
 bs:∀b o,base.get? b=some o→s.heap.get? b=some o∧H b=none
 bsz:base.objs.size≤s.heap.objs.size
 funs:s.heap.FunFrames base outer
 frf:∀b∈frs outer,H b=none
 hok:HOk P w H s.heap
 bare:AllBare s.gens
def CE (outer:List Env)(P:Program)(w:World)(H:Hp)(s:Shared)(Q:VK)(u:Value)(s':Shared):Prop:=
 ∃v H',s'.os=s.os∧AllBare s'.gens∧Un (frs outer) [] H H' s.heap s'.heap∧HOk P w H' s'.heap∧zay v u∧Q v H'
def CR (CX:CXT)(outer:List Env)(P:Program)(w:World)(H:Hp)(s:Shared)(Q:VK)(E:XK)(r:Result)(s':Shared):Prop:=
 match r with
 | .ok (.ret u)=>CE outer P w H s Q u s'
 | .ok _=>False
 | .error e=>CX outer H s E e s'
structure zbc (P:Program)(w:World)(K:PySem.W.Frag)(mg:Str→Option Value)(base:Heap)(CX:CXT)(k:Nat)(f:Addr)(fd:FuncData)(ps:List Str)(sp:Sp):Prop where
 len:∀vs H Q E,sp vs H Q E→vs.length=ps.length
 run:∀(A:Around) (outer:List Env) (s:Shared) (H:Hp) (args:Args) (us:List Value) (vs:List V) (Q:VK) (E:XK),zaO k A→zcB P w K mg base A outer s H→BindsTo s fd args (ps.zip us)→zaA vs us→sp vs H Q E→
  codeAny (model P w) A (.call (.ref f) args) (CR CX outer P w H s Q E) s
theorem zbc.mono {P:Program}{w:World}{K:PySem.W.Frag}{mg:Str→Option Value}{base:Heap}{CX:CXT}{j k:Nat}{f:Addr}{fd:FuncData}{ps:List Str}{sp:Sp}(F:zbc P w K mg base CX j f fd ps sp)(h:j≤k):
  zbc P w K mg base CX k f fd ps sp:=⟨F.len,λA outer s H args us vs Q E hr=>F.run A outer s H args us vs Q E (hr.mono h)⟩
theorem zbc.imp {P:Program}{w:World}{K:PySem.W.Frag}{mg:Str→Option Value}{base:Heap}{CX:CXT}{k:Nat}{f:Addr}{fd:FuncData}{ps:List Str}{sp sp':Sp}(F:zbc P w K mg base CX k f fd ps sp)
  (h:∀vs H Q E,sp' vs H Q E→sp vs H Q E):zbc P w K mg base CX k f fd ps sp':=
 ⟨λvs H Q E q=>F.len vs H Q E (h _ _ _ _ q),λA outer s H args us vs Q E hr he hb hv hs=>F.run A outer s H args us vs Q E hr he hb hv (h _ _ _ _ hs)⟩
theorem zcB.make {P:Program}{w:World}{K:PySem.W.Frag}{mg:Str→Option Value}{base:Heap}{A:Around}{outer:List Env}{s:Shared}{H:Hp}(e:zcB P w K mg base A outer s H)(C:Addr)(us:List Value)(kw:List (Str×Value)):
  zcB P w K mg base (A.under (.builtin "type.__call__" ⟨.ref C::us,kw⟩)) outer s H:=⟨by first | exact e.frames | (simpa [Around.under,Code.envs,Code.isFrame,pushEnvs] using e.frames),e.mod,e.bs,e.bsz,e.funs,e.frf,e.hok,e.bare⟩
theorem zcB.in1 {P:Program}{w:World}{K:PySem.W.Frag}{mg:Str→Option Value}{base:Heap}{A:Around}{outer:List Env}{s:Shared}{H:Hp}(e:zcB P w K mg base A outer s H):
  zcB P w K mg base A.in1 outer s H:=⟨e.frames,e.mod,e.bs,e.bsz,e.funs,e.frf,e.hok,e.bare⟩
section
variable {X:Cx}{pins:List (Addr×Obj)}{σ:St}{H:Hp}{s s':Shared}
theorem Inv.env0 (I:Inv X pins σ H s):zcB X.prog X.w X.K X.mg X.base X.A X.stack s H:=
 ⟨I.ok.frames,I.ok.mod,I.bs,VaD I.ok.bsz I.sz,I.stack,I.stkFree,I.hok,I.bare⟩
theorem Inv.after {Q:VK}{u:Value}(I:Inv X pins σ H s)(h:CE X.stack X.prog X.w H s Q u s'):EP X pins σ Q u s':=by
 obtain⟨v,H',os,bare,un,hok,r,q⟩:=h
 obtain⟨hh,g,d,t,os'⟩:=s'
 obtain rfl:os'=s.os:=os
 exact⟨v,H',I.call (h':=hh) (g':=g) (d':=d) (t':=t) (ch:=[]) un hok bare (λb z=>absurd z (by simp)),r,q⟩
end
def tMake (C:Addr)(sp:Sp)(dvs:List V)(E:XK)(t:TA):TE:=λσ H Q=>t σ H λvs H1=>∀x dx,H1 x=none→H1 dx=none→dx≠x→
 sp (.ref x::(vs++dvs)) (upd (upd H1 dx (.own x)) x (.ins C dx [])) (λv H2=>v=.non∧Q (.ref x) H2) E
def zbF (K:PySem.W.Frag)(fd:FuncData)(ps:List Str)(ds:List Value):Prop:=
 ∀(s:Shared) (us:List Value),K.In s.heap→(us++ds).length=ps.length→BindsTo s fd ⟨us,[]⟩ (ps.zip (us++ds))
theorem zbF.all {K:PySem.W.Frag}{fd:FuncData}{ps:List Str}(h:∀us:List Value,us.length=ps.length→bindArgs fd ⟨us,[]⟩=pure (ps.zip us)):zbF K fd ps []:=λs us _ hl=>by
 rw[VaS] at hl ⊢
 exact .of_eq (h us hl)
def ziN (CX:CXT)(X:Cx)(E:XK):Prop:=∀(pins:List (Addr×Obj)) (σ:St) (H:Hp) (s:Shared) (e:Value) (s':Shared),Inv X pins σ H s→CX X.stack H s E e s'→X.xe e s'
section
variable {X:Cx}{CX:CXT}{k:Nat}{f C:Addr}{fd:FuncData}{ps:List Str}{sp:Sp}{dvs:List V}{ds:List Value}{E:XK}{x m:Str}{p pos apos:Pos}{e o:Expr}{es:List Expr}{ta:TE}{t:TA}
structure Mk (K:PySem.W.Frag)(C f:Addr):Prop where
 makes:PySem.W.makesIn K C=true
 init:PySem.W.findIn K (.ref C) "__init__"=some (some (.ref f))
 fn:PySem.W.isFn K (.ref f)=true
 kp:PySem.W.keepIn K (.ref C)=true
theorem zsE {pins:List (Addr×Obj)}{σ:St}{H:Hp}{s:Shared}{Q:VK}{us:List Value}{vs:List V}(M:Mk X.K C f)(F:zbc X.prog X.w X.K X.mg X.base CX k f fd ps sp)(hr:zaO (k+1) X.A)(hb:zbF X.K fd ps ds)(hd:zaA dvs ds)
  (hx:ziN CX X E)(I:Inv X pins σ H s)(r:zaA vs us)
  (h:∀x dx,H x=none→H dx=none→dx≠x→sp (.ref x::(vs++dvs)) (upd (upd H dx (.own x)) x (.ins C dx [])) (λv H2=>v=.non∧Q (.ref x) H2) E):
  wpAny (model X.prog X.w) X.A (call (.ref C) us) (EP X pins σ Q) X.xe s:=by
 have hq:=h (s.heap.objs.size+1) s.heap.objs.size (I.hok.fresh (Nat.le_succ _)) (I.hok.fresh (Vab _)) (Vaq (Nat.lt_succ_self _))
 have I2:=Inv.made (C:=C) I
 have r2:zaA (V.ref (s.heap.objs.size+1)::(vs++dvs)) (Value.ref (s.heap.objs.size+1)::(us++ds)):=.cons rfl (r.append hd)
 have hl:(Value.ref (s.heap.objs.size+1)::us++ds).length=ps.length:=by
  have e:=r2.length
  rw[F.len _ _ _ _ hq] at e
  exact e.symm
 refine wpAny_call (zwO (f:=f) I.kIn M.makes M.init (beq_iff_eq.mp M.fn) (codeAny_mono (F.run _ X.stack _ _ ⟨Value.ref (s.heap.objs.size+1)::us,[]⟩ (Value.ref (s.heap.objs.size+1)::(us++ds)) _ _ E (hr.make C us [])
  (I2.env0.make C us []) (hb _ (Value.ref (s.heap.objs.size+1)::us) I2.kIn hl) r2 hq) λr s' hq'=>?_))
 cases r with
 | error e=>exact hx pins σ _ _ e s' I2 hq'
 | ok fl=>
  cases fl with
  | ret u=>
   obtain⟨v,H',I3,rv,ev,q3⟩:=I2.after hq'
   subst ev
   exact⟨rv,⟨V.ref (s.heap.objs.size+1),H',I3,rfl,q3⟩⟩
  | next=>exact False.elim hq'
  | brk=>exact False.elim hq'
  | cont=>exact False.elim hq'
theorem zsS (M:Mk X.K C f)(F:zbc X.prog X.w X.K X.mg X.base CX k f fd ps sp)(hr:zaO (k+1) X.A)(hg:Gl X x)(hm:X.mg x=some (.ref C))(hb:zbF X.K fd ps ds)(hd:zaA dvs ds)(hx:ziN CX X E)
  (ha:PA X (e::es) t)(hdb:(x==("__debug__":Str))=false:=by decide)(he:starEach (e::es) X.env=(false,eval e X.env)::starEach es X.env:=by rfl)(hpl:(backTo pos (starEach es X.env)).any (·.1)=false:=by rfl):
  PE X (.Call (.Name x p) (e::es) [] pos) (tMake C sp dvs E t):=by
 intro pins s σ H Q I h
 refine wpAny_Call_Name_kw (zrk I hg hm ?_ hdb)
 refine PySem.W.callWith_K (h₀:=X.base) I.ok.mod.kin M.kp (thn (ha pos pins s σ H _ I h) λus s1 ⟨vs,H1,I1,r,q⟩=>⟨I1.kIn,?_⟩) he hpl
 exact zsE M F hr hb hd hx I1 r q
end
section
variable {X:Cx}{CX:CXT}{k:Nat}{f C:Addr}{fd:FuncData}{ps ks:List Str}{sp:Sp}{E:XK}{x m:Str}{p pos apos kpos:Pos}{e o:Expr}{es:List Expr}{kws:List Keyword}{te ta:TE}{t tk:TA}{nm:Option Str}
structure KBinds (K:PySem.W.Frag)(fd:FuncData)(ps ks:List Str)(g:List Value→List Value→List Value)(gV:List V→List V→List V):Prop where
 to:∀(s:Shared) (us ws:List Value),K.In s.heap→(g us ws).length=ps.length→BindsTo s fd ⟨us,ks.zip ws⟩ (ps.zip (g us ws))
 rel:∀ {vs:List V} {us:List Value} {zs:List V} {ws:List Value},zaA vs us→zaA zs ws→zaA (gV vs zs) (g us ws)
variable {g:List Value→List Value→List Value}{gV:List V→List V→List V}
end
structure zaw (N P:List Str)(sc:Scope):Prop where
 kind:sc.kind=.function
 co:sc.isCoroutine=false
 gen:sc.isGenerator=false
 nd:N.Nodup
 pre:N.take P.length=P
 par:∀x∈P,sc.names.lookup x=some .local∨sc.names.lookup x=some .cell
 nofree:∀y∈sc.names,y.2≠.free
theorem zqQ {kindOf:Str→Option NameKind}{x:Str}:∀ {binds:List (Str×Value)} {m:Str→Option Value},(∀v,(x,v) ∉ binds)→bindL kindOf binds m x=m x
 | [],_,_=>rfl
 | (n,v)::r,m,h=>by
  unfold bindL
  rw[zqQ λw hw=>h w (VaF _ hw)]
  split
  ·have:x≠n:=by rintro rfl; exact h v VaZ
   simp[this]
  ·rfl
theorem zq3 {kindOf:Str→Option NameKind}{x:Str}:∀ {binds:List (Str×Value)} {m:Str→Option Value},(∀v,(x,v) ∉ binds)→bindC kindOf binds m x=m x
 | [],_,_=>rfl
 | (n,v)::r,m,h=>by
  unfold bindC
  rw[zq3 λw hw=>h w (VaF _ hw)]
  split
  ·rfl
  ·have:x≠n:=by rintro rfl; exact h v VaZ
   simp[this]
theorem zpU {kindOf:Str→Option NameKind}{x:Str}{v:Value}:∀ {P:List Str} {vs:List Value} {i:Nat} {m:Str→Option Value},P.Nodup→P[i]?=some x→vs[i]?=some v→kindOf x=some .local→
  bindL kindOf (P.zip vs) m x=some v
 | [],_,_,_,_,h,_,_=>by simp at h
 | _::_,[],_,_,_,_,h,_=>by simp at h
 | p::P,w::vs,0,m,nd,h1,h2,hk=>by
  simp at h1 h2; subst h1; subst h2
  show bindL kindOf ((p,w)::P.zip vs) m p=_
  unfold bindL
  rw[zqQ λv hv=>(List.nodup_cons.mp nd).1 (List.of_mem_zip hv).1,if_pos hk]
  simp
 | p::P,w::vs,i+1,m,nd,h1,h2,hk=>by
  show bindL kindOf ((p,w)::P.zip vs) m x=_
  unfold bindL
  exact zpU (i:=i) (List.nodup_cons.mp nd).2 (by simpa using h1) (by simpa using h2) hk
theorem zq2 {kindOf:Str→Option NameKind}{x:Str}{v:Value}:∀ {P:List Str} {vs:List Value} {i:Nat} {m:Str→Option Value},P.Nodup→P[i]?=some x→vs[i]?=some v→kindOf x≠some .local→
  bindC kindOf (P.zip vs) m x=some v
 | [],_,_,_,_,h,_,_=>by simp at h
 | _::_,[],_,_,_,_,h,_=>by simp at h
 | p::P,w::vs,0,m,nd,h1,h2,hk=>by
  simp at h1 h2; subst h1; subst h2
  show bindC kindOf ((p,w)::P.zip vs) m p=_
  unfold bindC
  rw[zq3 λv hv=>(List.nodup_cons.mp nd).1 (List.of_mem_zip hv).1,if_neg hk]
  simp
 | p::P,w::vs,i+1,m,nd,h1,h2,hk=>by
  show bindC kindOf ((p,w)::P.zip vs) m x=_
  unfold bindC
  exact zq2 (i:=i) (List.nodup_cons.mp nd).2 (by simpa using h1) (by simpa using h2) hk
def zcH (N:List Str)(vs:List V):St:=vs.map some++List.replicate (N.length-vs.length) none
def zek (CX:CXT)(P:Program)(w:World)(K:PySem.W.Frag)(mg:Str→Option Value)(base:Heap)(N:List Str)(qual:Str)(scope:Scope)(f:Addr)(cd:Value)(A:Around)(outer:List Env)(s:Shared)(H:Hp)(E:XK):Cx where
 prog:=P
 w:=w
 K:=K
 mg:=mg
 base:=base
 A:=A.deeper (envOfC qual scope s.heap.objs.size f cd)
 N:=N
 s₀:=s
 H₀:=H
 env:=envOfC qual scope s.heap.objs.size f cd
 outer:=outer
 stack:=envOfC qual scope s.heap.objs.size f cd::outer
 ex:=[]
 calm:=true
 fn:=λ_=>true
 pn:=[]
 xe:=λe s'=>wpAny (model P w) (A.deeper (envOfC qual scope s.heap.objs.size f cd)) (leaving (envOfC qual scope s.heap.objs.size f cd) e) (λ_ s''=>CX outer H s E e s'') (λe' s''=>CX outer H s E e' s'') s'
theorem zpQ {sc:Scope}{n:Nat}{x:Str}(h:sc.names.lookup x=some .cell):∃c,(cellsFrom n sc.names []).lookup x=some c:=by
 have q:=PySem.W.cellsFrom_some sc.names n [] (.inl h)
 exact Va2.mp q
theorem zxx {CX:CXT}{P:Program}{w:World}{K:PySem.W.Frag}{mg:Str→Option Value}{base:Heap}{N ps:List Str}{qual:Str}{scope:Scope}{f:Addr}{cd:Value}{A:Around}{outer:List Env}{s s1:Shared}{H:Hp}{E:XK}{us:List Value}{vs:List V}
  (S:zaw N ps scope)(hd:A.handled=none)(e0:zcB P w K mg base A outer s H)(hl:vs.length=ps.length)(r:zaA vs us)
  (x:InCallC s s.heap.objs.size (bindL (envOfC qual scope s.heap.objs.size f cd).kindOf (ps.zip us) λ_=>none) (cellsFrom (s.heap.objs.size+1) scope.names []) (bindC (envOfC qual scope s.heap.objs.size f cd).kindOf (ps.zip us) λ_=>none) s1):
  Inv (zek CX P w K mg base N qual scope f cd A outer s H E) [] (zcH N vs) H s1:=by
 have hpl:ps.length≤N.length:=by have:=congrArg List.length S.pre; rw[Vau] at this; omega
 obtain⟨h1,tk,rfl,hk⟩:=x.done
 have noA:∀b:Addr,b ∉ (zek CX P w K mg base N qual scope f cd A outer s H E).ex:=λb z=>absurd (show b∈([]:List Addr) from z) (by simp)
 refine⟨⟨e0.mod,S.kind,rfl,rfl,Vab _,λy z c h1 h2=>?_,λy hy=>?_,λy c _ h=>?_,λ_=>hd,Around.frames_deeper e0.frames,.inr ⟨rfl,rfl⟩,λb z=>absurd z (noA b),e0.bs,e0.bsz,λb _ _=>noA b,λb z=>absurd z (noA b),e0.funs,e0.frf⟩,
  rfl,e0.bare,Un.kept hk,⟨_,x.toInCall.ns,λi y v h1 h2 h3=>?_⟩,λy c h=>⟨_,x.cell y c h⟩,e0.hok.fresh (Vab _),λy c h=>?_,λp hp=>absurd (show p∈([]:List (Addr×Obj)) from hp) (by simp),e0.hok.kept hk,?_⟩
 ·exact name_of_addr x.apart (PySem.mem_of_lookup h1) (PySem.mem_of_lookup h2)
 ·have hy:scope.names.lookup y=some .cell∨scope.names.lookup y=some .free:=hy
  rcases hy with hy | hy
  ·exact zpQ hy
  ·exact absurd rfl (S.nofree _ (PySem.mem_of_lookup hy))
 ·exact VaY (x.above y c (PySem.mem_of_lookup h))
 ·have hi:i<vs.length:=by
   unfold zcH at h2
   by_cases hi:i<vs.length
   ·exact hi
   ·rw[VaT (by simpa using hi)] at h2
    rw[List.getElem?_replicate] at h2
    split at h2 <;> cases h2
  have ha:vs[i]?=some v:=by
   unfold zcH at h2
   rw[Vao (by simpa using hi),Vae] at h2
   cases e:vs[i]? with
   | none=>rw[e] at h2; cases h2
   | some a=>rw[e] at h2; cases h2; rfl
  obtain⟨u,hu,rv⟩:=r.get ha
  have hp:ps[i]?=some y:=by
   rw[← S.pre,List.getElem?_take_of_lt (by omega)]; exact h1
  have ndP:ps.Nodup:=by rw[← S.pre]; exact S.nd.sublist (List.take_sublist _ _)
  refine⟨u,rv,?_⟩
  rcases S.par y (Vak hp) with k | k
  ·exact .inl ⟨k,zpU ndP hp hu k⟩
  ·obtain⟨c,e⟩:=zpQ (n:=s.heap.objs.size+1) k
   refine .inr ⟨.inl k,c,e,?_⟩
   have q:=x.cell y c e
   rw[zq2 ndP hp hu (by show scope.names.lookup y≠_; rw[k]; decide)] at q
   exact q
 ·exact e0.hok.fresh (VaY (x.above y c (PySem.mem_of_lookup h)))
 ·unfold zcH
  show _=N.length
  rw[Vay,Vaa,List.length_replicate]
  omega
theorem zre {CX:CXT}{P:Program}{w:World}{K:PySem.W.Frag}{mg:Str→Option Value}{base:Heap}{k:Nat}{f:Addr}{name qual:Str}{params:Arguments}{body:List Stmt}{scope:Scope}{dV kV doc pm cdv ct oc:Value}{an od:Option Addr}
  {osl:Array (Option Value)}{N ps:List Str}{sp:Sp}(lk:K.lookup f=some ⟨oc,od,.func (PySem.W.fnOf name qual params body scope dV kV doc pm an cdv ct),osl⟩)(hcd:PySem.W.codeIn K cdv qual=true)(S:zaw N ps scope)
  (len:∀vs H Q E,sp vs H Q E→vs.length=ps.length)
  (hbody:∀(A:Around) (outer:List Env) (s:Shared) (H:Hp) (vs:List V) (Q:VK) (E:XK),zaO k (A.deeper (envOfC qual scope s.heap.objs.size f cdv))→sp vs H Q E→
   ∃t,PSs (zek CX P w K mg base N qual scope f cdv A outer s H E) body t∧t { nx:=λ_ H'=>Q .non H',rt:=Q } (zcH N vs) H):
  zbc P w K mg base CX (k+1) f (PySem.W.fnOf name qual params body scope dV kV doc pm an cdv ct) ps sp:=by
 refine⟨len,λA outer s H args us vs Q E hr e0 hb r hsp=>?_⟩
 have hl:=len _ _ _ _ hsp
 have KX:K.In s.heap:=e0.mod.kin.keeps λb o e=>(e0.bs b o e).1
 have lim:s.heap.NoLimit:=e0.mod.nolimit.keeps λb o e=>(e0.bs b o e).1
 have hkind:∀y∈ps.zip us,scope.names.lookup y.1=some .local∨(scope.names.lookup y.1=some .cell∧((cellsFrom (s.heap.objs.size+1) scope.names []).lookup y.1).isSome=true):=λ⟨n,v⟩ hy=>by
  rcases S.par n (List.of_mem_zip hy).1 with q | q
  ·exact .inl q
  ·exact .inr ⟨q,PySem.W.cellsFrom_some _ _ _ (.inl q)⟩
 refine codeAny_call_function hr.depth (KX _ _ lk) rfl S.co S.gen rfl (PySem.W.codeRec_of KX hcd) (hb _ _ _ _ ?_)
 refine wpAny_newFunctionEnv_cells S.kind hkind λenv he s1 x=>?_
 subst he
 refine⟨lim.keeps x.toInCall.keep,codeAny_func ?_⟩
 obtain⟨t,ht,hq⟩:=hbody A outer s H vs Q E (hr.deeper _) hsp
 have I:Inv (zek CX P w K mg base N qual scope f cdv A outer s H E) [] (zcH N vs) H s1:=zxx S hr.hd e0 hl r x
 refine wpAny_mono (ht [] s1 (zcH N vs) H _ I hq) (λfl s' hs=>?_) λe s' hs=>hs
 have fin:∀ {σ':St} {H':Hp} {v:V} {u:Value},Inv (zek CX P w K mg base N qual scope f cdv A outer s H E) [] σ' H' s'→zay v u→Q v H'→CE outer P w H s Q u s':=
  λ{σ' H' v u} J rv q=>⟨v,H',J.os,J.bare,J.base,J.hok,rv,q⟩
 cases fl with
 | ret u=>
  obtain⟨v,σ',H',J,rv,q⟩:=hs
  exact fin J rv q
 | next=>
  obtain⟨σ',H',J,q⟩:=hs
  exact fin (v:=V.non) (u:=Value.none) J rfl q
 | brk=>
  obtain⟨_,_,_,q⟩:=hs
  exact False.elim q
 | cont=>
  obtain⟨_,_,_,q⟩:=hs
  exact False.elim q
end L2
namespace L2
open PySem PySem.Spec PyProof.Rows
section
variable {X:Cx}{x:Str}{p pos:Pos}{e:Expr}{es:List Expr}{t:TA}{id T:String}{r:List V→Hp→VK→Prop}
def tCB (r:List V→Hp→VK→Prop)(t:TA):TE:=λσ H Q=>t σ H λvs H1=>r vs H1 Q
theorem znq (hc:zbl X (.builtin id) r)(hg:Gl X x)(hm:X.mg x=none)(hv:bootBuiltins x=some (.builtin id))(ha:PA X (e::es) t)(hn:x≠"__name__":=by decide)(hdb:(x==("__debug__":Str))=false:=by decide)
  (he:starEach (e::es) X.env=(false,eval e X.env)::starEach es X.env:=by rfl)(hpl:(backTo pos (starEach es X.env)).any (·.1)=false:=by rfl):PE X (.Call (.Name x p) (e::es) [] pos) (tCB r t):=by
 intro pins s σ H Q I h
 refine wpAny_Call_Name_kw (zfd I hg hm hv ?_ hn hdb)
 exact PyProof.Rows.callWith_builtin1 (thn (ha pos pins s σ H _ I h) λus s1 ⟨vs,H1,I1,r1,q1⟩=>hc pins s1 σ H1 vs us Q I1 r1 q1) he hpl
theorem zvY (hc:zbl X (.type T) r)(hg:Gl X x)(hm:X.mg x=none)(hv:bootBuiltins x=some (.type T))(ha:PA X (e::es) t)(hn:x≠"__name__":=by decide)(hdb:(x==("__debug__":Str))=false:=by decide)
  (he:starEach (e::es) X.env=(false,eval e X.env)::starEach es X.env:=by rfl)(hpl:(backTo pos (starEach es X.env)).any (·.1)=false:=by rfl):PE X (.Call (.Name x p) (e::es) [] pos) (tCB r t):=by
 intro pins s σ H Q I h
 refine wpAny_Call_Name_kw (zfd I hg hm hv ?_ hn hdb)
 exact PyProof.Rows.callWith_type1 (thn (ha pos pins s σ H _ I h) λus s1 ⟨vs,H1,I1,r1,q1⟩=>hc pins s1 σ H1 vs us Q I1 r1 q1) he hpl
end
end L2
namespace HT
open PySem PyProof.Rows
section
open PySem.SeqAt
open PySem.AutoSeq1 (wpAny_loadPart')
open PySem.MeetsSeq PySem.MeetsSeq2 PySem.MeetsSeq3
end
section
variable {prog:Program}{w:World}{A:Around}{E:Value→Shared→Prop}{s:Shared}
def sIx (n d:Nat):Option Int→Nat
 | none=>d
 | some v=>if v<0 then (v+(n:Int)).toNat else min v.toNat n
theorem sIx_none (n d:Nat):sIx n d none=d:=rfl
theorem sIx_nat (n d k:Nat):sIx n d (some (k:Int))=min k n:=by
 show (if (k:Int)<0 then ((k:Int)+(n:Int)).toNat else min (k:Int).toNat n)=min k n
 rw[if_neg (by omega),Vav]
end
end HT
namespace L2
open PySem PySem.Spec PyProof.Rows
abbrev TO:=St→Hp→(Option Int→Hp→Prop)→Prop
def PO (X:Cx)(e:Option Expr)(t:TO):Prop:=
 ∀(pins:List (Addr×Obj)) (s:Shared) (σ:St) (H:Hp) (Q:Option Int→Hp→Prop),Inv X pins σ H s→t σ H Q→
  wpAny (model X.prog X.w) X.A (evalPart e X.env) (λu s'=>∃o H',Inv X pins σ H' s'∧IsPart u o∧Q o H') X.xe s
def ztX:TO:=λ_ H Q=>Q none H
def tPart (t:TE):TO:=λσ H Q=>t σ H λx H1=>∃i,x=.int i∧Q (some i) H1
section
variable {X:Cx}{e:Expr}{te:TE}{lo hi:Option Expr}{tl th:TO}{pos p2:Pos}
theorem zwj:PO X none ztX:=by
 intro pins s σ H Q I h
 rw[evalPart_none]
 exact wpAny_pure ⟨none,H,I,.none,h⟩
theorem zyo (h:PE X e te):PO X (some e) (tPart te):=by
 intro pins s σ H Q I hw
 rw[evalPart_some]
 refine thn (h pins s σ H _ I hw) λu s1 ⟨x,H1,I1,r1,q1⟩=>?_
 obtain⟨i,rfl,q⟩:=q1
 obtain⟨t,rfl⟩:=r1
 exact⟨some i,H1,I1,.int i t,q⟩
def SlR (X:Cx)(r:V→Option Int→Option Int→Hp→VK→Prop):Prop:=
 ∀(pins:List (Addr×Obj)) (s:Shared) (σ:St) (H:Hp) (x:V) (v vl vu:Value) (lo hi:Option Int) (sl:Addr) (Q:VK),Inv X pins σ H s→zay x v→s.heap.IsSliceOf sl vl vu .none→IsPart vl lo→IsPart vu hi→r x lo hi H Q→
  ∃T id,typeLookup (.type T) "__getitem__"=pure (some (.builtin id))∧s.TypeIs v T∧wpAny (model X.prog X.w) X.A (getItem v (.ref sl)) (EP X pins σ Q) X.xe s
theorem SlR.or {r r':V→Option Int→Option Int→Hp→VK→Prop}(h:SlR X r)(h':SlR X r'):SlR X (λx lo hi H Q=>r x lo hi H Q∨r' x lo hi H Q):=by
 intro pins s σ H x v vl vu lo hi sl Q I rx hs pl pu q
 rcases q with q | q
 ·exact h pins s σ H x v vl vu lo hi sl Q I rx hs pl pu q
 ·exact h' pins s σ H x v vl vu lo hi sl Q I rx hs pl pu q
def tSl (r:V→Option Int→Option Int→Hp→VK→Prop)(te:TE)(tl th:TO):TE:=λσ H Q=>te σ H λx H1=>tl σ H1 λl H2=>th σ H2 λu H3=>r x l u H3 Q
theorem zrK {r:V→Option Int→Option Int→Hp→VK→Prop}(hr:SlR X r)(he:PE X e te)(hl:PO X lo tl)(hu:PO X hi th):PE X (.Subscript e (.Slice lo hi none p2) pos) (tSl r te tl th):=by
 intro pins s σ H Q I h
 refine Subscript_ (thn (he pins s σ H _ I h) λv s1 ⟨x,H1,I1,r1,q1⟩=>?_)
 refine wpAny_Slice (thn (hl pins s1 σ H1 _ I1 q1) λvl s2 ⟨l,H2,I2,pl,q2⟩=>thn (hu pins s2 σ H2 _ I2 q2) λvu s3 ⟨u,H3,I3,pu,q3⟩=>?_)
 rw[evalPart_none]
 refine wpAny_pure ?_
 have I4:Inv X pins σ H3 { s3 with heap:=s3.heap.push { cls:=.type "slice",data:=.fields #[vl,vu,.none] } }:=I3.kept (t':=s3.toks) λb ob q=>Heap.get?_push_of_some _ q
 obtain⟨T,id,hT,ht,hg⟩:=hr pins { s3 with heap:=s3.heap.push { cls:=.type "slice",data:=.fields #[vl,vu,.none] } } σ H3 x v vl vu l u s3.heap.objs.size Q I4 r1 (Heap.IsSliceOf.new ..) pl pu q3
 show wpAny (model X.prog X.w) X.A (subscriptTail e (.Slice lo hi none p2) v (.ref s3.heap.objs.size)) (EP X pins σ Q) X.xe { s3 with heap:=s3.heap.push { cls:=.type "slice",data:=.fields #[vl,vu,.none] } }
 exact tail_any (ops:=[.ref s3.heap.objs.size,v]) ht hT hg (by with_unfolding_all rfl)
def ze4 (xs:List V)(lo hi:Option Int):List V:=(xs.drop (HT.sIx xs.length 0 lo)).take (HT.sIx xs.length xs.length hi-HT.sIx xs.length 0 lo)
theorem zwx (xs:List V)(lo hi:Option Int):(ze4 xs lo hi).length≤xs.length:=by
 unfold ze4
 rw[Vau,List.length_drop]
 omega
end
end L2
namespace L2
open PySem PySem.Spec PyProof.Rows
def ixN (n:Nat)(i:Int):Option Nat:=if 0≤i then (if i<n then some i.toNat else none) else if -(n:Int)≤i then some (i+n).toNat else none
def atI {α:Type}(xs:List α)(i:Int):Option α:=(ixN xs.length i).bind λj=>xs[j]?
theorem zpT {n:Nat}{i:Int}{j:Nat}(h:ixN n i=some j):seqIndex? i n=some j∧j<n∧-(n:Int)≤i∧i<n:=by
 unfold ixN at h
 by_cases h0:0≤i
 ·rw[if_pos h0] at h
  by_cases h1:i<n
  ·rw[if_pos h1] at h
   have e:i.toNat=j:=Option.some.inj h
   exact⟨by rw[seqIndex_of h0 h1,e],by omega,by omega,h1⟩
  ·rw[if_neg h1] at h; cases h
 ·rw[if_neg h0] at h
  by_cases h1:-(n:Int)≤i
  ·rw[if_pos h1] at h
   have e:(i+n).toNat=j:=Option.some.inj h
   exact⟨by rw[seqIndex_neg (by omega) h1,e],by omega,h1,by omega⟩
  ·rw[if_neg h1] at h; cases h
theorem zqd {α:Type}{xs:List α}{i:Int}{v:α}(h:atI xs i=some v):∃j,seqIndex? i xs.length=some j∧xs[j]?=some v∧j<xs.length∧-(xs.length:Int)≤i∧i<xs.length:=by
 unfold atI at h
 cases e:ixN xs.length i with
 | none=>rw[e] at h; cases h
 | some j=>
  rw[e] at h
  obtain⟨h1,h2,h3,h4⟩:=zpT e
  exact⟨j,h1,h,h2,h3,h4⟩
theorem zdH {α:Type}{xs:List α}{j:Nat}{v:α}(h:xs[j]?=some v):atI xs (j:Int)=some v:=by
 have hj:j<xs.length:=(Vac.mp h).1
 have e:ixN xs.length (j:Int)=some j:=by
  unfold ixN
  rw[if_pos (by omega),if_pos (by omega)]; simp
 unfold atI; rw[e]; exact h
def znp (b:Expr):Prop:=∀o i,subscripted b false o i=operate [o,i] (getItem o i)
def IxR (X:Cx)(r:R2):Prop:=
 ∀(value slice:Expr) (pins:List (Addr×Obj)) (s:Shared) (σ:St) (H:Hp) (x y:V) (v u:Value) (Q:VK),Inv X pins σ H s→zay x v→zay y u→r x y H Q→
  subscripted slice false v u=operate [v,u] (getItem v u)→wpAny (model X.prog X.w) X.A (subscriptTail value slice v u) (EP X pins σ Q) X.xe s
def MtR (X:Cx)(id:String)(r:V→List V→Hp→VK→Prop):Prop:=
 ∀(pins:List (Addr×Obj)) (s:Shared) (σ:St) (H:Hp) (x:V) (xs:List V) (v:Value) (us:List Value) (Q:VK),Inv X pins σ H s→zay x v→zaA xs us→r x xs H Q→
  wpAny (model X.prog X.w) X.A (call (.builtin id) (v::us)) (EP X pins σ Q) X.xe s
section
variable {X:Cx}{a b:Expr}{ta tb:TE}{pos:Pos}
theorem IxR.or {r r':R2}(h:IxR X r)(h':IxR X r'):IxR X (λx y H Q=>r x y H Q∨r' x y H Q):=by
 intro value slice pins s σ H x y v u Q I rx ry q hs
 rcases q with q | q
 ·exact h value slice pins s σ H x y v u Q I rx ry q hs
 ·exact h' value slice pins s σ H x y v u Q I rx ry q hs
theorem MtR.or {id:String}{r r':V→List V→Hp→VK→Prop}(h:MtR X id r)(h':MtR X id r'):MtR X id (λx xs H Q=>r x xs H Q∨r' x xs H Q):=by
 intro pins s σ H x xs v us Q I rx rs q
 rcases q with q | q
 ·exact h pins s σ H x xs v us Q I rx rs q
 ·exact h' pins s σ H x xs v us Q I rx rs q
theorem pe_ix {r:R2}(hr:IxR X r)(ha:PE X a ta)(hb:PE X b tb)(hs:znp b):PE X (.Subscript a b pos) (tOp r ta tb):=by
 intro pins s σ H Q I h
 exact Subscript_ (binT ha hb I h λv u s2 x y H2 I2 rx ry q=>hr a b pins s2 σ H2 x y v u Q I2 rx ry q (hs _ _))
def rIxL (K:PySem.W.Frag):R2:=λx y H Q=>∃p xs i v,x=.ref p∧y=.int i∧SqL K H p xs∧atI xs i=some v∧Q v H
def rIxT (K:PySem.W.Frag):R2:=λx y H Q=>∃p xs i v,x=.ref p∧y=.int i∧SqT K H p xs∧atI xs i=some v∧Q v H
theorem zxa:IxR X (rIxL X.K):=by
 intro value slice pins s σ H x y v u Q I rx ry h hs
 obtain⟨p,xs,i,z,rfl,rfl,hq,he,q⟩:=h
 cases rx
 obtain⟨t,rfl⟩:=ry
 obtain⟨its,r,pl,hz⟩:=I.list hq
 obtain⟨j,h1,h2,h3,h4,h5⟩:=zqd he
 obtain⟨w,ew,rw'⟩:=r.get h2
 have hl:=r.length
 have hn:=zhp
 have fin:EP X pins σ Q w s:=⟨z,H,I,rw',q⟩
 by_cases h0:0≤i
 ·have hj:i.toNat=j:=by
   rw[seqIndex_of h0 h5] at h1
   exact Option.some.inj h1
  exact item_listR pl.isList h0 (by omega) (by rw[hj]; simpa using ew) fin hs
 ·have hj:(i+(its.toArray.size:Int)).toNat=j:=by
   rw[seqIndex_neg (by omega) h4] at h1
   rw[Van,← hl]
   exact Option.some.inj h1
  exact subscriptTail_builtinR (x:=w) pl.isList.typeIs slot_list_getitem.lookup
   (wpAny_getItem_list_neg (Q:=λr s'=>r=w∧EP X pins σ Q r s') pl.isList (by omega) (by rw[Van] <;> omega) (by omega) (by rw[hj]; simpa using ew) ⟨rfl,fin⟩) hs
theorem zvn:IxR X (rIxT X.K):=by
 intro value slice pins s σ H x y v u Q I rx ry h hs
 obtain⟨p,xs,i,z,rfl,rfl,hq,he,q⟩:=h
 cases rx
 obtain⟨t,rfl⟩:=ry
 obtain⟨its,r,pl,hz⟩:=I.tuple hq
 obtain⟨j,h1,h2,h3,h4,h5⟩:=zqd he
 obtain⟨w,ew,rw'⟩:=r.get h2
 have hl:=r.length
 have hn:=zhp
 have fin:EP X pins σ Q w s:=⟨z,H,I,rw',q⟩
 exact subscriptTail_builtinR (x:=w) pl.typeIs slot_tuple_getitem.lookup
  (getItem_tuple (j:=j) (Q:=λr s'=>r=w∧EP X pins σ Q r s') pl (by omega) (by omega) (by rw[Van,← hl]; exact h1) (by simpa using ew) ⟨rfl,fin⟩) hs
theorem zt7 (its:List Value)(n j:Nat)(u:Value):Obj.mapSeq (·.setIfInBounds j u) { cls:=.type "list",data:=.seq its.toArray n }={ cls:=.type "list",data:=.seq (its.set j u).toArray n }:=by
 simp[Obj.mapSeq]
theorem Inv.lst {pins:List (Addr×Obj)}{σ:St}{H:Hp}{s:Shared}{p:Addr}{xs:List V}(I:Inv X pins σ H s)(h:H p=some (.lst xs)):
  ∃(its:List Value) (n:Nat),zaA xs its∧s.heap.get? p=some { cls:=.type "list",data:=.seq its.toArray n }∧xs.length≤sizeLine:=by
 obtain⟨z,its,n,r,e⟩:=I.hok p _ h
 exact⟨its,n,r,e,z⟩
theorem Inv.lstUpd {pins:List (Addr×Obj)}{σ:St}{H:Hp}{s:Shared}{p:Addr}{xs ys:List V}{its its':List Value}{n n':Nat}{f:Obj→Obj}(I:Inv X pins σ H s)(h:H p=some (.lst xs))
  (ho:s.heap.get? p=some { cls:=.type "list",data:=.seq its.toArray n })(hf:f { cls:=.type "list",data:=.seq its.toArray n }={ cls:=.type "list",data:=.seq its'.toArray n' })(r:zaA ys its')(hz:ys.length≤sizeLine)(t:Nat):
  Inv X pins σ (upd H p (.lst ys)) { s with heap:=s.heap.update p f,toks:=t }:=by
 have e:(s.heap.update p f).get? p=some { cls:=.type "list",data:=.seq its'.toArray n' }:=by
  rw[Heap.get?_update_self f ho (by rw[hf] <;> rfl),hf]
 refine I.write (x:=p) (e:=p) (by rw[h]; trivial) (.inl rfl) (λb u hb q=>(Heap.get?_update_other _ _ (Ne.symm hb)).trans q) ⟨_,e⟩ ?_
 exact⟨hz,its',n',r,e⟩
def rSetL:V→V→V→Hp→(Hp→Prop)→Prop:=λo i v H Q=>∃p xs k j,o=.ref p∧i=.int k∧H p=some (.lst xs)∧ixN xs.length k=some j∧Q (upd H p (.lst (xs.set j v)))
theorem zv7:PSet X rSetL:=by
 intro pins s σ H o i v ov iv u Q I ro ri rv h
 obtain⟨p,xs,k,j,rfl,rfl,hp,hj,q⟩:=h
 cases ro
 obtain⟨t,rfl⟩:=ri
 obtain⟨its,n,r,ho,hz⟩:=I.lst hp
 obtain⟨h1,h2,h3,h4⟩:=zpT hj
 have hl:=r.length
 have hn:=zhp
 have I':Inv X pins σ (upd H p (.lst (xs.set j v))) { s with heap:=s.heap.update p (Obj.mapSeq (·.setIfInBounds j u)) }:=
  I.lstUpd hp ho (zt7 its n j u) (r.set rv j) (by rw[VaG]; exact hz) s.toks
 by_cases h0:0≤k
 ·have hk:k.toNat=j:=by
   rw[seqIndex_of h0 h4] at h1
   exact Option.some.inj h1
  exact PySem.W.ki_setAt ho h0 (by omega) (by rw[Van,← hl]; exact h4) (by rw[hk]; exact⟨_,I',q⟩)
 ·have hk:(k+(its.toArray.size:Int)).toNat=j:=by
   rw[seqIndex_neg (by omega) h3] at h1
   rw[Van,← hl]
   exact Option.some.inj h1
  exact PySem.W.ki_setBack ho (by omega) (by rw[Van,← hl]; exact h3) (by omega) (by rw[hk]; exact⟨_,I',q⟩)
theorem zsA (lo hi:Option Int)(n:Nat):(sliceBounds lo hi none n).1=((HT.sIx n 0 lo:Nat):Int)∧(sliceBounds lo hi none n).2.1=((HT.sIx n n hi:Nat):Int)∧(sliceBounds lo hi none n).2.2=1:=by
 refine⟨?_,?_,rfl⟩
 ·cases lo with
  | none=>simp[sliceBounds,HT.sIx]
  | some i=>
   simp only[sliceBounds,HT.sIx,Option.getD_none,show (1:Int) > 0 by decide,if_true]
   by_cases h:i<0
   ·simp only[h,if_true] <;> omega
   ·simp only[h,if_false] <;> omega
 ·cases hi with
  | none=>simp[sliceBounds,HT.sIx]
  | some i=>
   simp only[sliceBounds,HT.sIx,Option.getD_none,show (1:Int) > 0 by decide,if_true]
   by_cases h:i<0
   ·simp only[h,if_true] <;> omega
   ·simp only[h,if_false] <;> omega
theorem ztQ (its:List Value)(lo hi:Option Int):slicePick its.toArray lo hi none=((its.drop (HT.sIx its.length 0 lo)).take (HT.sIx its.length its.length hi-HT.sIx its.length 0 lo)).toArray:=by
 obtain⟨h1,h2,h3⟩:=zsA lo hi its.toArray.size
 unfold slicePick
 rw[h1,h2,h3]
 simp only[sliceRange_one,pick_run,Van] <;> rfl
def rSlL (K:PySem.W.Frag):V→Option Int→Option Int→Hp→VK→Prop:=λx lo hi H Q=>∃a xs,x=.ref a∧SqL K H a xs∧∀p,H p=none→Q (.ref p) (upd H p (.lst (ze4 xs lo hi)))
theorem zss:SlR X (rSlL X.K):=by
 intro pins s σ H x v vl vu lo hi sl Q I rx hs pl pu h
 obtain⟨a,xs,rfl,hx,q⟩:=h
 cases rx
 obtain⟨its,r,ht,hz⟩:=I.list hx
 have hlen:=r.length
 refine⟨"list",_,slot_list_getitem.lookup,ht.isList.typeIs,?_⟩
 refine wpAny_getItem_list_slice ht.isList hs pl pu .none (by simp) ?_ (by rw[Van] <;> omega)
 rw[ztQ,← hlen]
 refine⟨.ref s.heap.objs.size,_,I.laid (t':=s.toks) (o:=.lst (ze4 xs lo hi)) (λb ob q=>Heap.get?_push_of_some _ q) (Vab _) ?_,rfl,q _ (I.hok.fresh (Vab _))⟩
 exact⟨VaD (zwx xs lo hi) hz,_,0,(r.drop (HT.sIx xs.length 0 lo)).take (HT.sIx xs.length xs.length hi-HT.sIx xs.length 0 lo),Heap.get?_push_size _ rfl⟩
def zl6:V→Bool
 | .non=>true
 | .bl _=>true
 | .int _=>true
 | .str _=>true
 | _=>false
def eqV:V→V→Bool
 | .non,.non=>true
 | .bl a,.bl b=>a==b
 | .bl a,.int b=>(if a then 1 else 0)==b
 | .int a,.bl b=>a==(if b then 1 else 0)
 | .int a,.int b=>a==b
 | .str a,.str b=>a==b
 | _,_=>false
theorem zxC {A:Around}{s:Shared}{y x:V}{u v:Value}(ry:zay y u)(rx:zay x v)(fy:zl6 y=true)(fx:zl6 x=true):SeqAt.EqAt A s u v (eqV y x):=by
 cases y with
 | non=>
  cases ry
  cases x with
  | non=>cases rx; exact SeqAt.EqAt.same _
  | bl b=>cases rx; exact SeqAt.EqAt.none_bool b
  | int b=>obtain⟨t,rfl⟩:=rx; exact SeqAt.EqAt.none_int b t
  | str b=>obtain⟨t,rfl⟩:=rx; exact SeqAt.EqAt.none_str b t
  | _=>exact absurd (show false=true from fx) Val
 | bl a=>
  cases ry
  cases x with
  | non=>cases rx; exact SeqAt.EqAt.bool_none a
  | bl b=>cases rx; exact SeqAt.EqAt.bool_bool a b
  | int b=>obtain⟨t,rfl⟩:=rx; exact SeqAt.EqAt.bool_int a b t
  | str b=>obtain⟨t,rfl⟩:=rx; exact SeqAt.EqAt.bool_str a b t
  | _=>exact absurd (show false=true from fx) Val
 | int a=>
  obtain⟨t',rfl⟩:=ry
  cases x with
  | non=>cases rx; exact SeqAt.EqAt.int_none a t'
  | bl b=>cases rx; exact SeqAt.EqAt.int_bool a t' b
  | int b=>obtain⟨t,rfl⟩:=rx; exact SeqAt.EqAt.int_int a t' b t
  | str b=>obtain⟨t,rfl⟩:=rx; exact SeqAt.EqAt.int_str a t' b t
  | _=>exact absurd (show false=true from fx) Val
 | str a=>
  obtain⟨t',rfl⟩:=ry
  cases x with
  | non=>cases rx; exact SeqAt.EqAt.str_none a t'
  | bl b=>cases rx; exact SeqAt.EqAt.str_bool a t' b
  | int b=>obtain⟨t,rfl⟩:=rx; exact SeqAt.EqAt.str_int a t' b t
  | str b=>obtain⟨t,rfl⟩:=rx; exact SeqAt.EqAt.str_str a t' b t
  | _=>exact absurd (show false=true from fx) Val
 | _=>exact absurd (show false=true from fy) Val
theorem zxF:zbl X (.builtin "len") (λxs H Q=>∃p ys,xs=[.ref p]∧(SqL X.K H p ys∨SqT X.K H p ys)∧Q (.int ys.length) H):=by
 intro pins s σ H xs us Q I r h
 obtain⟨p,ys,rfl,hq,q⟩:=h
 obtain⟨u,rfl,rx⟩:=zfy r
 cases rx
 have hn:=zhp
 rcases hq with hq | hq
 ·obtain⟨its,r',pl,hz⟩:=I.list hq
  have hlen:=r'.length
  exact Calls.call_len_list pl.isList (by simp only[Van] <;> omega) ⟨.int ys.length,H,I.tok _,⟨s.toks+1,by rw[Van,hlen]⟩,q⟩
 ·obtain⟨its,r',pl,hz⟩:=I.tuple hq
  have hlen:=r'.length
  exact len_tuple pl (by simp only[Van] <;> omega) ⟨.int ys.length,H,I.tok _,⟨s.toks+1,by rw[Van,hlen]⟩,q⟩
theorem zbl.or {f:Value}{r r':List V→Hp→VK→Prop}(h:zbl X f r)(h':zbl X f r'):zbl X f (λxs H Q=>r xs H Q∨r' xs H Q):=by
 intro pins s σ H xs us Q I rs q
 rcases q with q | q
 ·exact h pins s σ H xs us Q I rs q
 ·exact h' pins s σ H xs us Q I rs q
theorem zsY:zbl X (.type "list") (λxs H Q=>∃p ys,xs=[.ref p]∧(SqL X.K H p ys∨SqT X.K H p ys)∧∀l,H l=none→Q (.ref l) (upd H l (.lst ys))):=by
 intro pins s σ H xs us Q I r h
 obtain⟨p,ys,rfl,hq,q⟩:=h
 obtain⟨u,rfl,rx⟩:=zfy r
 cases rx
 have fin:∀(its:List Value),zaA ys its→ys.length≤sizeLine→∀(h':Heap) (c':Nat),(∀b o',s.heap.get? b=some o'→h'.get? b=some o')→
   h'.get? s.heap.objs.size=some { cls:=.type "list",dict:=none,data:=.seq its.toArray c',slots:=#[] }→EP X pins σ Q (.ref s.heap.objs.size) { s with heap:=h' }:=λits r' hz h' c' kp e=>
  ⟨.ref s.heap.objs.size,_,I.laid (t':=s.toks) kp (Vab _) (show zbu X.prog X.w _ h' _ (.lst ys) from ⟨hz,its,c',r',e⟩),rfl,q _ (I.hok.fresh (Vab _))⟩
 rcases hq with hq | hq
 ·obtain⟨its,r',pl,hz⟩:=I.list hq
  have hlen:=r'.length
  obtain⟨o,ho,hc,n,hd⟩:=pl.isList
  exact call_list_seq p (.inl rfl) ho hc hd (λh' c' kp e=>fin its r' hz h' c' kp e) (by simp only[Van] <;> omega)
 ·obtain⟨its,r',pl,hz⟩:=I.tuple hq
  have hlen:=r'.length
  obtain⟨o,ho,hc,n,hd⟩:=pl
  exact call_list_seq p (.inr rfl) ho hc hd (λh' c' kp e=>fin its r' hz h' c' kp e) (by simp only[Van] <;> omega)
def tyV (K:PySem.W.Frag)(T:String)(x:V)(H:Hp):Prop:=match x with
 | .str _=>T="str"
 | .int _=>T="int"
 | .ref p=>(T="list"∧∃xs,SqL K H p xs)∨(T="tuple"∧∃o,K.lookup p=some o∧o.cls=.type "tuple"∧o.dict=none)∨
   (T="dict"∧((∃kvs,H p=some (.dK kvs))∨∃kvs,H p=some (.dT kvs)))∨(T="set"∧∃S n,H p=some (.set S n))
 | _=>False
theorem zqA {pins:List (Addr×Obj)}{σ:St}{H:Hp}{s:Shared}{T:String}{x:V}{v:Value}(I:Inv X pins σ H s)(r:zay x v)(ty:tyV X.K T x H):
  s.TypeIs v T∧∀a,v=.ref a→∃ob,s.heap.get? a=some ob∧ob.dict=none:=by
 cases x with
 | str z=>
  obtain⟨t,rfl⟩:=r
  cases (show T="str" from ty)
  exact⟨typeIs_str s z t,λ_ e=>nomatch e⟩
 | int i=>
  obtain⟨t,rfl⟩:=r
  cases (show T="int" from ty)
  exact⟨typeIs_int s i t,λ_ e=>nomatch e⟩
 | ref p=>
  cases r
  rcases ty with ⟨rfl,xs,hq⟩ | ⟨rfl,o,hk,hc,hd⟩ | ⟨rfl,hk⟩ | ⟨rfl,S,n,hk⟩
  ·obtain⟨its,_,pl,_⟩:=I.list hq
   refine⟨pl.isList.typeIs,λa e=>?_⟩
   cases e
   obtain⟨o,n,e,c,hd,_⟩:=pl
   exact⟨o,e,hd⟩
  ·refine⟨⟨o,I.kIn p o hk,hc⟩,λa e=>?_⟩
   cases e
   exact⟨o,I.kIn _ o hk,hd⟩
  ·have z:∃o,s.heap.get? p=some o∧o.ExactDict:=by
    rcases hk with ⟨kvs,hk⟩ | ⟨kvs,hk⟩
    ·obtain⟨_,_,_,_,o,_,_,e,ex,_⟩:=I.hok p _ hk
     exact⟨o,e,ex⟩
    ·obtain⟨_,_,_,_,o,_,_,e,ex,_⟩:=I.hok p _ hk
     exact⟨o,e,ex⟩
   obtain⟨o,e,ex⟩:=z
   refine⟨⟨o,e,ex.1⟩,λa e2=>?_⟩
   cases e2
   exact⟨o,e,ex.2.1⟩
  ·obtain⟨o,_,_,_,e,ex,_⟩:=I.hok p _ hk
   refine⟨⟨o,e,ex.1⟩,λa e2=>?_⟩
   cases e2
   exact⟨o,e,ex.2.1⟩
 | _=>exact False.elim ty
def tBM0 (K:PySem.W.Frag)(T:String)(r:V→List V→Hp→VK→Prop)(to:TE):TE:=λσ H Q=>to σ H λx H1=>tyV K T x H1∧r x [] H1 Q
def tBM (K:PySem.W.Frag)(T:String)(r:V→List V→Hp→VK→Prop)(to:TE)(t:TA):TE:=λσ H Q=>to σ H λx H1=>tyV K T x H1∧t σ H1 λxs H2=>r x xs H2 Q
variable {o e:Expr}{es:List Expr}{to:TE}{t:TA}{name:Str}{apos cpos:Pos}{T id:String}{r:V→List V→Hp→VK→Prop}
theorem zth (pa:PlainAttrs T)(slot:Slot T name id)(hty:typeOf (.builtin id)=pure (.type "method_descriptor"))(hm:MtR X id r)(ho:PE X o to)
  (hbase:attributeBase o name X.env (eval o X.env)=eval o X.env:=by rfl)(hline:(apos.endLine==cpos.line)=true:=by rfl):PE X (.Call (.Attribute o name apos) [] [] cpos) (tBM0 X.K T r to):=by
 intro pins s σ H Q I h
 refine wpAny_Call_method0_late hbase hline (thn (ho pins s σ H _ I h) λv s1 ⟨x,H1,I1,r1,ty,q1⟩=>?_)
 obtain⟨h1,h2⟩:=zqA I1 r1 ty
 exact⟨T,id,pa,slot,hty,h1,h2,Calls.callWith_builtin rfl (PySem.evalArgs_none (hm pins s1 σ H1 x [] v [] Q I1 r1 .nil q1))⟩
theorem zqE (pa:PlainAttrs T)(slot:Slot T name id)(hty:typeOf (.builtin id)=pure (.type "method_descriptor"))(hm:MtR X id r)(ho:PE X o to)(ha:PA X (e::es) t)
  (hbase:attributeBase o name X.env (eval o X.env)=eval o X.env:=by rfl)
  (hfew:((backTo cpos (starEach (e::es) X.env)).all (λx=>!x.1)&&(backToKw cpos (keywordEach [] X.env)).all (λx=>x.1.isSome)
  &&decide ((e::es).length+([]:List Keyword).length+(if ([]:List Keyword).isEmpty then 0 else 1)<30))=true:=by rfl)
  (hline:(apos.endLine==cpos.line)=true:=by rfl)(hs:starEach (e::es) X.env=(false,eval e X.env)::starEach es X.env:=by rfl)(hplain:(backTo cpos (starEach es X.env)).any (·.1)=false:=by rfl):
  PE X (.Call (.Attribute o name apos) (e::es) [] cpos) (tBM X.K T r to t):=by
 intro pins s σ H Q I h
 refine wpAny_Call_method_late hbase hfew hline rfl (thn (ho pins s σ H _ I h) λv s1 ⟨x,H1,I1,r1,ty,q1⟩=>?_)
 obtain⟨h1,h2⟩:=zqA I1 r1 ty
 refine⟨T,id,pa,slot,hty,h1,h2,?_⟩
 have hA:=ha cpos pins s1 σ H1 _ I1 q1
 rw[hs] at hA ⊢
 refine Calls.callWith_builtin (by show (false||(backTo cpos (starEach es X.env)).any (·.1))=false; rw[hplain] <;> rfl) (Calls.evalArgs_plain ?_)
 exact thn hA λus s2 ⟨vs,H2,I2,r2,q2⟩=>hm pins s2 σ H2 x vs v us Q I2 r1 r2 q2
end
end L2
namespace L2
open PySem PySem.Spec PyProof.Rows
def MtM (X:Cx)(id:String)(r:V→List V→Hp→VK→Prop):Prop:=
 ∀(pins:List (Addr×Obj)) (s:Shared) (σ:St) (H:Hp) (x:V) (xs:List V) (v:Value) (us:List Value) (Q:VK),Inv X pins σ H s→zay x v→zaA xs us→r x xs H Q→
  wpAny (model X.prog X.w) X.A (call (.builtin id) (v::us)) (EP X pins σ Q) X.xe s
theorem zaA.one:∀ {x:V} {us:List Value},zaA [x] us→∃u,us=[u]∧zay x u
 | _,_,.cons r .nil=>⟨_,rfl,r⟩
theorem zaA.two:∀ {x y:V} {us:List Value},zaA [x,y] us→∃u v,us=[u,v]∧zay x u∧zay y v
 | _,_,_,.cons r (.cons q .nil)=>⟨_,_,rfl,r,q⟩
theorem zaA.zero:∀ {us:List Value},zaA [] us→us=[]
 | _,.nil=>rfl
section
variable {X:Cx}{pins:List (Addr×Obj)}{σ:St}{H:Hp}{s:Shared}{l b:Addr}{xs ys zs:List V}
theorem Inv.lset {its its':List Value}{n:Nat}{f:Array Value→Array Value}{t':Nat}(I:Inv X pins σ H s)(hH:H l=some (.lst xs))
  (e:s.heap.get? l=some { cls:=.type "list",data:=.seq its.toArray n })(hf:f its.toArray=its'.toArray)(hv:zaA ys its')(hz:ys.length≤sizeLine):
  Inv X pins σ (upd H l (.lst ys)) { s with heap:=s.heap.update l (Obj.mapSeq f),toks:=t' }:=by
 have q:=PySem.IsL.update e f
 rw[hf] at q
 refine I.write (x:=l) (e:=l) (by rw[hH]; exact trivial) (.inl rfl) (λb' u hb hu=>(Heap.get?_update_other s.heap (Obj.mapSeq f) (Ne.symm hb)).trans hu) ⟨_,q⟩ ?_
 exact⟨hz,its',_,hv,q⟩
theorem Inv.lnew {its:List Value}{t':Nat}(I:Inv X pins σ H s)(hv:zaA ys its)(hz:ys.length≤sizeLine):
  Inv X pins σ (upd H s.heap.objs.size (.lst ys)) { s with heap:=s.heap.push { cls:=.type "list",data:=.seq its.toArray },toks:=t' }:=
 I.laid (λ_ _ q=>Heap.get?_push_of_some _ q) (Vab _) ⟨hz,its,0,hv,Heap.get?_push_size _ rfl⟩
theorem Inv.fresh (I:Inv X pins σ H s):H s.heap.objs.size=none:=I.hok.fresh (Vab _)
theorem Inv.lstM (I:Inv X pins σ H s)(hH:H l=some (.lst xs)):xs.length≤sizeLine∧∃(its:List Value) (n:Nat),zaA xs its∧xs.length=its.length∧s.heap.get? l=some { cls:=.type "list",data:=.seq its.toArray n }:=by
 obtain⟨z,its,n,r,e⟩:=I.hok l _ hH
 exact⟨z,its,n,r,r.length,e⟩
end
section
variable {X:Cx}
def zvk:V→List V→Hp→VK→Prop:=λx vs H Q=>∃l xs y,x=.ref l∧vs=[y]∧H l=some (.lst xs)∧xs.length<sizeLine∧Q .non (upd H l (.lst (xs++[y])))
theorem zpG:MtM X "list.append" zvk:=by
 intro pins s σ H x vs v us Q I rx rv h
 obtain⟨l,xs,y,rfl,rfl,hH,hz,q⟩:=h
 cases rx
 obtain⟨u,rfl,ru⟩:=rv.one
 obtain⟨z,its,n,r,hl,e⟩:=I.lstM hH
 refine call_meets F.slot_list_append ⟨_,e,rfl⟩ F.entry_list_append (F.args_list_append_2 _ _) (PySem.list_append l its.toArray n u (by rw[Van]; omega)) ⟨e,?_⟩
 refine⟨.non,_,I.lset (its':=its++[u]) hH e (by simp) (r.append (.cons ru .nil)) ?_,rfl,q⟩
 rw[Vay,List.length_singleton]
 omega
def rCat:R2:=λx y H Q=>∃l b xs zs,x=.ref l∧y=.ref b∧H l=some (.lst xs)∧H b=some (.lst zs)∧xs.length+zs.length≤sizeLine∧∀p,H p=none→Q (.ref p) (upd H p (.lst (xs++zs)))
theorem zwM:OpR X (binaryOp .Add) rCat:=by
 intro pins s σ H x y v u Q I rx ry h
 obtain⟨l,b,xs,zs,rfl,rfl,hH,hB,hz,q⟩:=h
 cases rx
 cases ry
 obtain⟨z,its,n,r,hl,e⟩:=I.lstM hH
 obtain⟨z2,its2,n2,r2,hl2,e2⟩:=I.lstM hB
 refine PySem.P.add_list e e2 ?_ (by rw[Van,Van]; omega)
 have ea:its.toArray++its2.toArray=(its++its2).toArray:=by simp
 rw[ea]
 exact⟨.ref _,_,I.lnew (t':=s.toks) (r.append r2) (by rw[Vay]; omega),rfl,q _ I.fresh⟩
end
section
variable {prog:Program}{w:World}{A:Around}{E:Value→Shared→Prop}{s:Shared}
set_option maxRecDepth 100000 in
end
section
variable {X:Cx}
end
end L2
namespace Att
open PySem PySem.W PySem.Calls PyProof.Rows
theorem zu2 {P:Params}{h:Heap}:∀(ns:List Int) (vs:List Value),WellAll P h vs (ns.map WData.int)→IntsAre vs ns:=by
 intro ns
 induction ns with
 | nil=>
  intro vs w
  rw[List.map_nil] at w
  cases w
  exact .nil
 | cons n ns ih=>
  intro vs w
  rw[Vam] at w
  cases w with
  | cons a b=>
   cases a
   exact .cons _ _ (ih _ b)
theorem zxW {l:OpenLaw}{n:Nat}(hn:l.most=some n){P:Params}{h:Heap}{args:List WData}{vals:List Value}
  (hpre:l.row.toRowW.claim.pre args=true)(hwl:WellAll P h vals args):
  ∃a vs ns,vals=[Value.ref a]∧args=[WData.list (ns.map WData.int)]∧h.get? a=some { cls:=.type "list",data:=.seq vs.toArray }∧IntsAre vs ns∧ns.length≤n:=by
 have hsh:WShape.hasAll [] args [.list .int]=true:=(pre_splitW hpre).1
 have hc:l.pre.holds [] { args:=args }=true:=(pre_splitW hpre).2
 obtain⟨d,r,rfl,h1,h2⟩:=hasAllW_cons hsh
 obtain rfl:=hasAllW_nil h2
 obtain⟨xs,rfl,h3⟩:=hasW_list h1
 obtain⟨ns,rfl⟩:=items_int h3
 have hlen:ns.length≤n:=by
  unfold OpenLaw.pre at hc
  have h4:(WTm.not (.lt (.lit (.int (n:Int))) (.len (.arg 0)))).holds [] { args:=[.list (ns.map .int)] }=true:=by
   have h4:=(holds_andW hc).1
   rw[hn] at h4
   exact h4
  have h5:=condW_of h4 (w_not (w_lt w_lit (w_len_list (w_arg rfl))))
  rw[Vaa] at h5
  refine Nat.le_of_not_lt λq=>?_
  have q':(n:Int)<((ns.length:Nat):Int):=by omega
  first
   | (rw[decide_eq_true q'] at h5; exact absurd h5 (by decide))
   | (simp at h5; omega)
 cases hwl with
 | cons w1 w2=>
  cases w2
  cases w1 with
  | list ho hall=>exact⟨_,_,ns,rfl,rfl,ho,zu2 ns _ hall,hlen⟩
theorem zws (l:OpenLaw)(args:List WData):l.row.toRowW.claim.post args (.bool true) args=true:=
 postW_of (r:=l.row.toRowW) (X:=(true==true))
  (show WShape.has [] (.bool true) .bool=true by first | rfl | decide | simp[WShape.has,WShape.arms,WShape.armsAll])
  (show (WTm.eq .res (.lit (.bool true))).value [] { args:=args,res:=some (.bool true),after:=args }=some (.bool (true==true)) from w_eq_bool (w_res rfl) w_lit) rfl
theorem attach_call {l:OpenLaw}{n:Nat}{q:Program}{loose:List Str}{XP:(Str→Option Value)→Heap→Prop}{YP:World→Heap→Prop}{d:DefRec}
  (hn:l.most=some n)(hdf:d.params.defaults=[])
  (call:∀(w:World) (s₀ s₁:Shared) (mg mb:Str→Option Value) (fa:Addr) (o:Obj) (pm cd doc:Value) (a:Addr) (vs:List Value) (ns:List Int),
   Ground q loose [] XP w s₀ mg mb s₁.heap→YP w s₁.heap→
   s₁.heap.get? fa=some o→o.data=.func (docDef d.name d.params d.body d.scope pm cd doc)→s₁.heap.CodeRec cd d.name→mg d.name=some (.ref fa)→
   s₁.heap.get? a=some { cls:=.type "list",data:=.seq vs.toArray }→IntsAre vs ns→ns.length≤n→s₁.gens=#[]→
   codeAny (model l.prog w) callerA (.call (.ref fa) ⟨[.ref a],[]⟩) (λr s'=>r=.ok (.ret (.bool true))∧OldK s₁.heap s'.heap∧s'.os=s₁.os∧AllBare s'.gens) s₁):
  WalkO q loose XP YP l.row.toRowW d [] (λf vs=>PySem.call f vs):=by
 intro w s₀ s₁ mg mb G Y fa o pm cd doc dV kV ho hd hcd hD hmg hg args vals as hpre hlay hrd hwl hlo
 obtain rfl:dV=.none:=Dflts.none hD hdf
 obtain rfl:kV=.none:=Dflts.noKw hD
 obtain⟨a,vs,ns,rfl,rfl,hobj,hints,hlen⟩:=zxW hn hpre hwl
 refine enter_call (codeAny_mono (call w s₀ s₁ mg mb fa o pm cd doc a vs ns G Y ho (fd_plain hd) hcd hmg hobj hints hlen hg) λr s' hq=>?_)
 obtain⟨rfl,h2,h3,h4⟩:=hq
 exact⟨.inl ⟨.bool true,.bool true,[],rfl,λ_=>rfl,.bool true,zws l _,λ_=>⟨List.Pairwise.nil,λ_ hm=>(nomatch hm)⟩⟩,h2,h3,h4⟩
section
variable {prog:Program}{w:World}{A:Around}{E:Value→Shared→Prop}{s:Shared}{K:Frag}
def ledger (h:Heap)(L d:Addr):List (Addr×Obj):=(List.range h.objs.size).filterMap λa=>if a=L∨a=d then none else (h.get? a).map λo=>(a,o)
end
end Att
namespace L2
open PySem PySem.Spec PyProof.Rows
theorem zlm:∀ {vs:List Value} {ns:List Int},IntsAre vs ns→zaA (ns.map V.int) vs
 | _,_,.nil=>.nil
 | _,_,.cons n t h=>.cons ⟨t,rfl⟩ (zlm h)
def zij (H:Hp):Prop:=∀b,H b=none∨∃o xs,H b=some (.frz o (.lst xs))
theorem zwE {P:Program}{w:World}{K:PySem.W.Frag}{mg mb:Str→Option Value}{CX:CXT}{k:Nat}{fa a:Addr}{fd:FuncData}{x:Str}{sp:Sp}{s₁:Shared}{vs:List Value}{ns:List Int}
  (KX:K.In s₁.heap)(hns:s₁.heap.Ns mainGlobals mg)(hb:s₁.heap.Ns builtinsNs mb)(hbb:∀x:Str,x≠"__name__"→mb x=bootBuiltins x)(hlim:s₁.heap.NoLimit)(hg:s₁.gens=#[])
  (ha:s₁.heap.get? a=some { cls:=.type "list",data:=.seq vs.toArray })(hi:IntsAre vs ns)(hl:ns.length≤sizeLine)(hr:zaO k callerA)
  (F:∀base:Heap,K.In base→base.Ns mainGlobals mg→zbc P w K mg base CX k fa fd [x] sp)(hbind:∀(s:Shared) (u:Value),BindsTo s fd ⟨[u],[]⟩ [(x,u)])
  (hsp:∀H:Hp,zij H→SqL K H a (ns.map V.int)→sp [.ref a] H (λv _=>v=.bl true) λ_ _ _=>False)
  (hCX:∀H e s',CX [] H s₁ (λ_ _ _=>False) e s'→False):
  codeAny (model P w) callerA (.call (.ref fa) ⟨[.ref a],[]⟩) (λr s'=>r=.ok (.ret (.bool true))∧OldK s₁.heap s'.heap∧s'.os=s₁.os∧AllBare s'.gens) s₁:=by
 have rv:=zlm hi
 have lenV:=hi.length
 have core:∀H:Hp,zij H→SqL K H a (ns.map V.int)→HOk P w H s₁.heap→(∀b,H b≠none→b=a)→(H a≠none→K.lookup a=none)→
   codeAny (model P w) callerA (.call (.ref fa) ⟨[.ref a],[]⟩) (λr s'=>r=.ok (.ret (.bool true))∧OldK s₁.heap s'.heap∧s'.os=s₁.os∧AllBare s'.gens) s₁:=by
  intro H hO hS hok hA hK
  have base_of:∀ {b:Addr} {o:Obj},s₁.heap.get? b=some o→H b=none→(zdd s₁.heap H).get? b=some o:=λe n=>zvj e n
  have noA:∀ {b:Addr} {o:Obj} {es:Array DictEntry} {ep:Nat},s₁.heap.get? b=some o→o.data=.dict es ep→H b=none:=λ{b o es ep} e d=>by
   cases q:H b with
   | none=>rfl
   | some u=>
    have e':b=a:=hA b (by rw[q]; simp)
    subst e'
    rw[ha] at e; cases e
    have d':Data.seq vs.toArray _=Data.dict es ep:=d
    cases d'
  have nsK:∀ {b:Addr} {m:Str→Option Value},s₁.heap.Ns b m→(zdd s₁.heap H).Ns b m:=λ{b m} ⟨o,es,ep,e,d,r⟩=>⟨o,es,ep,base_of e (noA e d),d,r⟩
  have hKb:K.In (zdd s₁.heap H):=λb o e=>base_of (KX b o e) (by
   cases q:H b with
   | none=>rfl
   | some u=>
    have e':b=a:=hA b (by rw[q]; simp)
    subst e'
    rw[hK (by rw[q]; simp)] at e; cases e)
  have hM:Mod K mg (zdd s₁.heap H):=⟨hKb,nsK hns,⟨mb,nsK hb,hbb⟩,let ⟨mc,h1,h2⟩:=hlim; ⟨mc,nsK h1,h2⟩⟩
  have e0:zcB P w K mg (zdd s₁.heap H) callerA [] s₁ H:=⟨rfl,hM,λb o e=>zyq e,Nat.le_of_eq (zxn _ _),trivial,λb hb=>absurd (show b∈([]:List Addr) from hb) (by simp),hok,.of_eq hg⟩
  refine codeAny_mono ((F _ hKb (nsK hns)).run callerA [] s₁ H ⟨[.ref a],[]⟩ [.ref a] [.ref a] _ _ hr e0 (hbind s₁ (.ref a)) (.cons rfl .nil) (hsp H hO hS)) λr s' h=>?_
  cases r with
  | error e=>exact(hCX H e s' h).elim
  | ok fl=>
   cases fl with
   | next=>exact False.elim h
   | brk=>exact False.elim h
   | cont=>exact False.elim h
   | ret u=>
    obtain⟨v,H',os,bare,un,hok',r',q⟩:=h
    have q':v=.bl true:=q
    subst q'
    obtain rfl:u=Value.bool true:=r'
    refine⟨rfl,OldK.of_keep λb o e=>?_,os,bare⟩
    cases q:H b with
    | none=>exact un.keep b o e q (by intro z; exact absurd (show b∈([]:List Addr) from z) (by simp)) (by simp)
    | some u=>
     rcases hO b with z | ⟨ob,xs,z⟩
     ·rw[q] at z; cases z
     ·have z2:=un.frzs b ob _ z
      obtain⟨e1,_⟩:=hok b _ z
      obtain⟨e2,_⟩:=hok' b _ z2
      rw[e] at e1; cases e1
      exact e2
 cases hk:K.lookup a with
 | some o=>
  have e:=KX a o hk
  rw[ha] at e
  cases e
  refine core (λ_=>none) (λ_=>.inl rfl) (.inr ⟨_,vs.toArray,_,hk,rfl,rfl,rfl,by rw[Van,lenV]; exact hl,by simpa using rv⟩) (λb u z=>by have z':(none:Option HO)=some u:=z; cases z') (λb z=>absurd rfl z) λz=>absurd rfl z
 | none=>
  refine core (λb=>if b=a then some (.frz { cls:=.type "list",data:=.seq vs.toArray } (.lst (ns.map V.int))) else none) (λb=>?_) (.inl (.inr ⟨{ cls:=.type "list",data:=.seq vs.toArray },if_pos rfl⟩)) (λb u z=>?_) (λb z=>?_) λ_=>hk
  ·by_cases hb:b=a
   ·exact .inr ⟨_,_,if_pos hb⟩
   ·exact .inl (if_neg hb)
  ·by_cases hb:b=a
   ·have z':=(if_pos hb).symm.trans z
    cases z'
    subst hb
    exact⟨ha,by rw[Vaa]; exact hl,vs,_,rv,ha⟩
   ·have z':=(if_neg hb).symm.trans z
    cases z'
  ·by_cases hb:b=a
   ·exact hb
   ·exact absurd (if_neg hb) z
end L2
namespace L2
open PySem PySem.Spec PyProof.Rows
theorem zu6 {l:PySem.W.OpenLaw}{n k:Nat}{q:Program}{loose:List Str}{XP:(Str→Option Value)→Heap→Prop}{YP:World→Heap→Prop}{d:DefRec}{K:Params→PySem.W.Frag}{CX:World→CXT}{sp:World→Sp}{x:Str}
  (hn:l.most=some n)(hn2:n≤sizeLine)(hdf:d.params.defaults=[])(hr:zaO k callerA)
  (hY:∀(w:World) (h:Heap),YP w h→(K w.params).In h)
  (F:∀(w:World) (mg:Str→Option Value) (fa:Addr) (h:Heap),(K w.params).In h→h.Ns mainGlobals mg→mg d.name=some (.ref fa)→
   ∃fd:FuncData,(∀(s:Shared) (u:Value),BindsTo s fd ⟨[u],[]⟩ [(x,u)])∧
    ∀base:Heap,(K w.params).In base→base.Ns mainGlobals mg→zbc l.prog w (K w.params) mg base (CX w) k fa fd [x] (sp w))
  (hsp:∀(w:World) (H:Hp) (a:Addr) (ns:List Int),ns.length≤n→zij H→SqL (K w.params) H a (ns.map V.int)→sp w [.ref a] H (λv _=>v=.bl true) λ_ _ _=>False)
  (hCX:∀(w:World) (H:Hp) (s:Shared) (e:Value) (s':Shared),CX w [] H s (λ_ _ _=>False) e s'→False):
  PySem.W.WalkO q loose XP YP l.row.toRowW d [] (λf vs=>PySem.call f vs):=by
 refine Att.attach_call hn hdf λw s₀ s₁ mg mb fa o pm cd doc a vs ns G Y ho hd hcd hmg hobj hints hlen hg=>?_
 have KX:=hY w _ Y
 obtain⟨fd,hb,hF⟩:=F w mg fa _ KX G.T.g hmg
 exact zwE KX G.T.g G.T.b G.T.builtins G.T.nolimit hg hobj hints (VaD hlen hn2) hr hF hb (λH hO hS=>hsp w H a ns hlen hO hS) λH e s'=>hCX w H s₁ e s'
end L2
namespace L2
open PySem PySem.Spec PyProof.Rows
abbrev CX0:CXT:=λ_ _ _ _ _ _=>False
structure Fun (K:PySem.W.Frag)(x qual:Str)(st:Stmt)(f:Addr)(fd:FuncData):Prop where
 ex:∃(oc:Value) (od:Option Addr) (kV doc pm:Value) (an:Option Addr) (cdv ct:Value) (osl:Array (Option Value)),
  fd=PySem.W.fnOf x qual (zeh st) (zc0 st) (zas st) .none kV doc pm an cdv ct∧K.lookup f=some ⟨oc,od,.func fd,osl⟩∧PySem.W.codeIn K cdv qual=true
 kp:PySem.W.keepIn K (.ref f)=true
section
variable {P:Program}{w:World}{K:PySem.W.Frag}{mg:Str→Option Value}{base:Heap}
theorem Fun.ok {x qual:Str}{st:Stmt}{f:Addr}{fd:FuncData}{N ps:List Str}{k:Nat}{sp:Sp}(F:Fun K x qual st f fd)(S:zaw N ps (zas st))(len:∀vs H Q E,sp vs H Q E→vs.length=ps.length)
  (hbody:∀(cdv:Value) (A:Around) (outer:List Env) (s:Shared) (H:Hp) (vs:List V) (Q:VK) (E:XK),zaO k (A.deeper (envOfC qual (zas st) s.heap.objs.size f cdv))→sp vs H Q E→
   ∃t,PSs (zek CX0 P w K mg base N qual (zas st) f cdv A outer s H E).nox (zc0 st) t∧t { nx:=λ_ H'=>Q .non H',rt:=Q } (zcH N vs) H):zbc P w K mg base CX0 (k+1) f fd ps sp:=by
 obtain⟨oc,od,kV,doc,pm,an,cdv,ct,osl,rfl,lk,hcd⟩:=F.ex
 refine zre lk hcd S len λA outer s H vs Q E hr hsp=>?_
 obtain⟨t,h,q⟩:=hbody cdv A outer s H vs Q E hr hsp
 exact⟨t,h.nox,q⟩
theorem Fun.binds {x qual:Str}{st:Stmt}{f:Addr}{fd:FuncData}{ps:List Str}(F:Fun K x qual st f fd)
  (h:∀(kV doc pm:Value) (an:Option Addr) (cdv ct:Value) (us:List Value),us.length=ps.length→bindArgs (PySem.W.fnOf x qual (zeh st) (zc0 st) (zas st) .none kV doc pm an cdv ct) ⟨us,[]⟩=pure (ps.zip us)):zbF K fd ps []:=by
 obtain⟨oc,od,kV,doc,pm,an,cdv,ct,osl,rfl,lk,hcd⟩:=F.ex
 exact .all (h kV doc pm an cdv ct)
theorem zkq {x qual:Str}{st:Stmt}{f:Addr}{oc:Value}{od an:Option Addr}{osl:Array (Option Value)}{kV doc pm cdv ct:Value}(l:K.lookup f=some ⟨oc,od,.func (PySem.W.fnOf x qual (zeh st) (zc0 st) (zas st) .none kV doc pm an cdv ct),osl⟩)
  (c:PySem.W.codeIn K cdv qual=true)(k:PySem.W.keepIn K (.ref f)=true):Fun K x qual st f (PySem.W.fnOf x qual (zeh st) (zc0 st) (zas st) .none kV doc pm an cdv ct):=⟨⟨oc,od,kV,doc,pm,an,cdv,ct,osl,rfl,l,c⟩,k⟩
end
theorem zoB {n:Nat}(h:n≤1000):n<sizeLine:=Nat.lt_of_le_of_lt h (by decide)
section
variable {X:Cx}
theorem pv (i:Nat){x:Str}{pos:Pos}(hN:X.N[i]?=some x:=by rfl)(hv:Vis X.env.scope x:=by first | exact Or.inl rfl | exact Or.inr (Or.inl rfl) | exact Or.inr (Or.inr rfl))(hd:(x==("__debug__":Str))=false:=by decide)
  (hcd:(x==("__classdict__":Str))=false:=by decide):PE X (.Name x pos) (tVar i):=zp8 hN hv hd hcd
end
theorem zbM {A B:Prop}(h:B):if false=true then A else B:=by
 rw[if_neg Val]
 exact h
theorem zcc {A B:Prop}(h:A):if true=true then A else B:=by
 rw[if_pos rfl]
 exact h
theorem zeG {c A B:Prop} [Decidable c] (h1:c→A)(h2:¬ c→B):if c then A else B:=by
 by_cases h:c
 ·rw[if_pos h]
  exact h1 h
 ·rw[if_neg h]
  exact h2 h
def zcQ (H H':Hp):Prop:=∀b o,H b=some o→H' b=some o
theorem zcQ.refl (H:Hp):zcQ H H:=λ_ _ h=>h
theorem zcQ.trans {H H1 H2:Hp}(a:zcQ H H1)(b:zcQ H1 H2):zcQ H H2:=λc o h=>b c o (a c o h)
theorem zcQ.free {H H':Hp}(e:zcQ H H'){l:Addr}(h:H' l=Option.none):H l=Option.none:=by
 cases q:H l with
 | none=>rfl
 | some o=>
  rw[e l o q] at h
  cases h
theorem zcQ.seq {K:PySem.W.Frag}{H H':Hp}{a:Addr}{xs:List V}(e:zcQ H H')(h:SqL K H a xs):SqL K H' a xs:=by
 rcases h with (h | ⟨o,h⟩) | h
 ·exact .inl (.inl (e _ _ h))
 ·exact .inl (.inr ⟨o,e _ _ h⟩)
 ·exact .inr h
end L2
namespace L2
open PySem PySem.Spec PyProof.Rows
section
variable {κ:Type} [DecidableEq κ]
def zbX (kvs:List (κ×V))(k:κ):Option V:=(kvs.find? λkv=>decide (kv.1=k)).map (·.2)
def putK (kvs:List (κ×V))(k:κ)(v:V):List (κ×V):=
 if (kvs.any λkv=>decide (kv.1=k))=true then kvs.map (λkv=>if kv.1=k then (kv.1,v) else kv) else kvs++[(k,v)]
def zpL (kvs:List (κ×V))(k:κ):List (κ×V):=kvs.filter λkv=>decide (kv.1≠k)
theorem zin {p:κ×V}{r:List (κ×V)}{k:κ}(e:p.1=k):zbX (p::r) k=some p.2:=by simp[zbX,VaU,e]
theorem zje {p:κ×V}{r:List (κ×V)}{k:κ}(e:¬ p.1=k):zbX (p::r) k=zbX r k:=by simp[zbX,VaU,e]
theorem zq0 (k:κ):∀kvs:List (κ×V),(kvs.any λkv=>decide (kv.1=k))=(zbX kvs k).isSome
 | []=>rfl
 | p::r=>by
  rw[List.any_cons]
  by_cases e:p.1=k
  ·simp only[zin e,decide_eq_true e,Bool.true_or,Option.isSome_some]
  ·rw[zje e,decide_eq_false e,Bool.false_or]; exact zq0 k r
theorem zbK.isSome_eq {o:Option V}{u:Option Value}(r:zbK o u):o.isSome=u.isSome:=by
 cases o with
 | none=>cases u with
  | none=>rfl
  | some _=>exact(show False from r).elim
 | some _=>cases u with
  | none=>exact(show False from r).elim
  | some _=>rfl
theorem zbK.getD {o:Option V}{u:Option Value}{d:V}{d':Value}(r:zbK o u)(rd:zay d d'):zay (o.getD d) (u.getD d'):=by
 cases o with
 | none=>cases u with
  | none=>exact rd
  | some _=>exact(show False from r).elim
 | some _=>cases u with
  | none=>exact(show False from r).elim
  | some _=>exact r
theorem KV.val {kvs:List (κ×V)}{vs:List (κ×Value)}(r:KV kvs vs)(k:κ):zbK (zbX kvs k) (valueAt vs k):=by
 unfold KV at r
 induction r with
 | nil=>exact True.intro
 | @cons p q ps qs h t ih=>
  obtain⟨h1,h2⟩:=h
  by_cases e:p.1=k
  ·have e':q.1=k:=h1.symm.trans e
   have b:valueAt (q::qs) k=some q.2:=by simp[valueAt,VaU,e']
   rw[zin e,b]; exact h2
  ·have e':¬ q.1=k:=λz=>e (h1.trans z)
   have b:valueAt (q::qs) k=valueAt qs k:=by simp[valueAt,VaU,e']
   rw[zje e,b]; exact ih
theorem KV.any {kvs:List (κ×V)}{vs:List (κ×Value)}(r:KV kvs vs)(k:κ):(kvs.any λkv=>decide (kv.1=k))=vs.any λkv=>decide (kv.1=k):=by
 unfold KV at r
 induction r with
 | nil=>rfl
 | cons h t ih=>rw[List.any_cons,List.any_cons,ih,h.1]
theorem KV.repl {kvs:List (κ×V)}{vs:List (κ×Value)}(r:KV kvs vs)(k:κ){y:V}{u:Value}(ry:zay y u):
  KV (kvs.map λkv=>if kv.1=k then (kv.1,y) else kv) (vs.map λkv=>if kv.1=k then (kv.1,u) else kv):=by
 unfold KV at r ⊢
 induction r with
 | nil=>exact .nil
 | @cons p q ps qs h t ih=>
  rw[Vam,Vam]
  refine .cons ?_ ih
  obtain⟨h1,h2⟩:=h
  by_cases e:p.1=k
  ·rw[if_pos e,if_pos (h1.symm.trans e)]; exact⟨h1,ry⟩
  ·rw[if_neg e,if_neg (λz=>e (h1.trans z))]; exact⟨h1,h2⟩
theorem KV.put {kvs:List (κ×V)}{vs:List (κ×Value)}(r:KV kvs vs)(k:κ){y:V}{u:Value}(ry:zay y u):KV (putK kvs k y) (stored vs k u):=by
 unfold putK stored
 rw[r.any k]
 by_cases e:(vs.any λkv=>decide (kv.1=k))=true
 ·rw[if_pos e,if_pos e]; exact r.repl k ry
 ·rw[if_neg e,if_neg e]; exact Paired.snoc r ⟨rfl,ry⟩
theorem KV.drop {kvs:List (κ×V)}{vs:List (κ×Value)}(r:KV kvs vs)(k:κ):KV (zpL kvs k) (without vs k):=by
 unfold KV at r ⊢
 unfold zpL without
 induction r with
 | nil=>exact .nil
 | @cons p q ps qs h t ih=>
  obtain⟨h1,h2⟩:=h
  rw[List.filter_cons,List.filter_cons]
  by_cases e:p.1=k
  ·have a:¬ decide (p.1≠k)=true:=by simp[e]
   have b:¬ decide (q.1≠k)=true:=by simp[h1.symm.trans e]
   rw[if_neg a,if_neg b]; exact ih
  ·have e':¬ q.1=k:=λz=>e (h1.trans z)
   have a:decide (p.1≠k)=true:=by simp[e]
   have b:decide (q.1≠k)=true:=by simp[e']
   rw[if_pos a,if_pos b]; exact .cons ⟨h1,h2⟩ ih
theorem KV.keys {kvs:List (κ×V)}{vs:List (κ×Value)}(r:KV kvs vs):kvs.map (·.1)=vs.map (·.1):=by
 unfold KV at r
 induction r with
 | nil=>rfl
 | cons h t ih=>rw[Vam,Vam,ih,h.1]
theorem KV.length {kvs:List (κ×V)}{vs:List (κ×Value)}(r:KV kvs vs):kvs.length=vs.length:=Paired.length r
end
abbrev KT (H:Hp):List (List Key×V)→List (List Key×Addr×Value)→Prop:=Paired λp q=>p.1=q.1∧H q.2.1=some (.tup (p.1.map kV))∧zay p.2 q.2.2
theorem KT.val {H:Hp}{kvs:List (List Key×V)}{xs:List (List Key×Addr×Value)}(r:KT H kvs xs)(k:List Key):zbK (zbX kvs k) ((atKey xs k).map (·.2)):=by
 induction r with
 | nil=>exact True.intro
 | @cons p q ps qs h t ih=>
  obtain⟨h1,_,h2⟩:=h
  by_cases e:p.1=k
  ·have e':q.1=k:=h1.symm.trans e
   have b:atKey (q::qs) k=some q.2:=by simp[atKey,VaU,e']
   rw[zin e,b]; exact h2
  ·have e':¬ q.1=k:=λz=>e (h1.trans z)
   have b:atKey (q::qs) k=atKey qs k:=by simp[atKey,VaU,e']
   rw[zje e,b]; exact ih
theorem KT.repl {H:Hp}{kvs:List (List Key×V)}{xs:List (List Key×Addr×Value)}(r:KT H kvs xs)(k:List Key){y:V}{u:Value}(ry:zay y u):
  KT H (kvs.map λkv=>if kv.1=k then (kv.1,y) else kv) (xs.map (putAt k u)):=by
 induction r with
 | nil=>exact .nil
 | @cons p q ps qs h t ih=>
  rw[Vam,Vam]
  refine .cons ?_ ih
  obtain⟨h1,h2,h3⟩:=h
  unfold putAt
  by_cases e:p.1=k
  ·rw[if_pos e,if_pos (h1.symm.trans e)]; exact⟨h1,h2,ry⟩
  ·rw[if_neg e,if_neg (λz=>e (h1.trans z))]; exact⟨h1,h2,h3⟩
theorem KT.put {H:Hp}{kvs:List (List Key×V)}{xs:List (List Key×Addr×Value)}(r:KT H kvs xs)(k:List Key){b:Addr}{y:V}{u:Value}(hb:H b=some (.tup (k.map kV)))(ry:zay y u):
  KT H (putK kvs k y) (storedH xs k b u):=by
 have e:(kvs.any λkv=>decide (kv.1=k))=(atKey xs k).isSome:=by
  rw[zq0,(r.val k).isSome_eq,Option.isSome_map]
 unfold putK storedH
 rw[e]
 by_cases q:(atKey xs k).isSome=true
 ·rw[if_pos q,if_pos q]; exact r.repl k ry
 ·rw[if_neg q,if_neg q]; exact Paired.snoc r ⟨rfl,hb,ry⟩
theorem KT.keeps {H H':Hp}{kvs:List (List Key×V)}{xs:List (List Key×Addr×Value)}(r:KT H kvs xs)(ht:∀b ys,H b=some (.tup ys)→H' b=some (.tup ys)):KT H' kvs xs:=
 Paired.mapP r λ_ _ z=>⟨z.1,ht _ _ z.2.1,z.2.2⟩
section
variable {P:Program}{w:World}{H:Hp}{h:Heap}{a:Addr}
end
def ziO (H:Hp)(a:Addr)(y:V)(r:Option V):Prop:=
 (∃kvs k,Rd H a (.dK kvs)∧y=kV k∧r=zbX kvs k)∨∃kvs k b,Rd H a (.dT kvs)∧y=.ref b∧H b=some (.tup (k.map kV))∧r=zbX kvs k
def zjf (H:Hp)(a:Addr)(y v:V)(H':Hp):Prop:=
 (∃kvs k,H a=some (.dK kvs)∧y=kV k∧kvs.length<sizeLine∧H'=upd H a (.dK (putK kvs k v)))∨
 ∃kvs k b,H a=some (.dT kvs)∧y=.ref b∧H b=some (.tup (k.map kV))∧kvs.length<sizeLine∧H'=upd H a (.dT (putK kvs k v))
theorem ziO.k {H:Hp}{a:Addr}{kvs:List (Key×V)}{k:Key}(e:H a=some (.dK kvs)):ziO H a (kV k) (zbX kvs k):=.inl ⟨kvs,k,.inl e,rfl,rfl⟩
theorem ziO.t {H:Hp}{a b:Addr}{kvs:List (List Key×V)}{k:List Key}(e:H a=some (.dT kvs))(eb:H b=some (.tup (k.map kV))):ziO H a (.ref b) (zbX kvs k):=.inr ⟨kvs,k,b,.inl e,rfl,eb,rfl⟩
theorem zjf.k {H:Hp}{a:Addr}{kvs:List (Key×V)}{k:Key}{v:V}(e:H a=some (.dK kvs))(hl:kvs.length<sizeLine):zjf H a (kV k) v (upd H a (.dK (putK kvs k v))):=.inl ⟨kvs,k,e,rfl,hl,rfl⟩
theorem zjf.t {H:Hp}{a b:Addr}{kvs:List (List Key×V)}{k:List Key}{v:V}(e:H a=some (.dT kvs))(eb:H b=some (.tup (k.map kV)))(hl:kvs.length<sizeLine):
  zjf H a (.ref b) v (upd H a (.dT (putK kvs k v))):=.inr ⟨kvs,k,b,e,rfl,eb,hl,rfl⟩
section
variable {X:Cx}{pins:List (Addr×Obj)}{σ:St}{H:Hp}{s:Shared}{a:Addr}{y v:V}{u r:Value}{o:Option V}{A:Around}{E:Value→Shared→Prop}
theorem Inv.big (I:Inv X pins σ H s):sysModules<s.heap.objs.size:=by
 have h:mainGlobals<s.heap.objs.size:=(I.mod.glob.keeps I.bk).lt
 exact Nat.lt_trans (by decide) h
end
section
variable {X:Cx}{pins:List (Addr×Obj)}{σ:St}{H:Hp}{s:Shared}{a:Addr}{kvs:List (Key×V)}{k:Key}{u:Value}{A:Around}{E:Value→Shared→Prop}
end
section
variable {X:Cx}{o i e value:Expr}{pos pos' tpos:Pos}{td ty tv:TE}
end
section
variable {X:Cx}{pos:Pos}
end
structure M1 (X:Cx)(o:Expr)(m:Str)(apos:Pos)(e:Expr)(cpos:Pos):Prop where
 base:attributeBase o m X.env (eval o X.env)=eval o X.env
 few:((backTo cpos (starEach [e] X.env)).all (λx=>!x.1)&&(backToKw cpos (keywordEach [] X.env)).all (λx=>x.1.isSome)
 &&decide (([e]:List Expr).length+([]:List Keyword).length+(if ([]:List Keyword).isEmpty then 0 else 1)<30))=true
 line:(apos.endLine==cpos.line)=true
 trees:backTo cpos (starEach [e] X.env)=[(false,eval e X.env)]
structure M2 (X:Cx)(o:Expr)(m:Str)(apos:Pos)(e f:Expr)(cpos:Pos):Prop where
 base:attributeBase o m X.env (eval o X.env)=eval o X.env
 few:((backTo cpos (starEach [e,f] X.env)).all (λx=>!x.1)&&(backToKw cpos (keywordEach [] X.env)).all (λx=>x.1.isSome)
 &&decide (([e,f]:List Expr).length+([]:List Keyword).length+(if ([]:List Keyword).isEmpty then 0 else 1)<30))=true
 line:(apos.endLine==cpos.line)=true
 trees:backTo cpos (starEach [e,f] X.env)=[(false,eval e X.env),(false,eval f X.env)]
section
variable {X:Cx}{pins:List (Addr×Obj)}{σ:St}{H:Hp}{s:Shared}{a:Addr}{y d:V}{u r:Value}{o:Option V}{A:Around}{E:Value→Shared→Prop}
end
section
variable {X:Cx}{o e f:Expr}{apos cpos:Pos}{td ty tx:TE}
end
section
variable {X:Cx}{pins:List (Addr×Obj)}{σ:St}{H:Hp}{s:Shared}{a:Addr}{kvs:List (Key×V)}{A:Around}{E:Value→Shared→Prop}
end
section
variable {X:Cx}{pins:List (Addr×Obj)}{σ:St}{H:Hp}{s:Shared}{a:Addr}{y:V}{u:Value}{A:Around}{E:Value→Shared→Prop}
end
end L2
namespace L3
open PySem PySem.Spec PyProof.Rows L2
abbrev St:=L2.St
inductive D where
 | non | bl (b:Bool) | int (i:Int) | str (x:Str) | tup (xs:List D) | ref (n:Nat) | exc (c:Addr)
inductive Ob where
 | lst (xs:List D) | frz (xs:List D)
  | ins (C:Addr) (fs:List (Str×D))
  | dct (kvs:List (List Key×D))
abbrev Sto:=List Ob
abbrev Ev:=List (Option D)
abbrev DK:=D→Sto→Prop
abbrev TDE:=Ev→Sto→DK→Prop
abbrev TDT:=Ev→Sto→(Bool→Sto→Prop)→Prop
abbrev TDA:=Ev→Sto→(List D→Sto→Prop)→Prop
structure zcE where
 nx:Ev→Sto→Prop
 rt:DK
 bk:Ev→Sto→Prop:=λ_ _=>False
 ct:Ev→Sto→Prop:=λ_ _=>False
abbrev TDS:=zcE→Ev→Sto→Prop
def isX (a c:Addr):HO:=.ext λh=>∃o,h.get? a=some o∧o.cls=.ref c
inductive Rp (r:List Addr)(H:Hp):D→V→Prop
 | non:Rp r H .non .non
 | bl (b:Bool):Rp r H (.bl b) (.bl b)
 | int (i:Int):Rp r H (.int i) (.int i)
 | str (x:Str):Rp r H (.str x) (.str x)
 | tup {ds:List D} {xs:List V} {a:Addr}:H a=some (.tup xs)→ds.length=xs.length→(∀(i:Nat) (d:D) (v:V),ds[i]?=some d→xs[i]?=some v→Rp r H d v)→Rp r H (.tup ds) (.ref a)
 | ref {n:Nat} {a:Addr}:r[n]?=some a→Rp r H (.ref n) (.ref a)
 | exc {c a:Addr}:H a=some (isX a c)→Rp r H (.exc c) (.ref a)
def Rps (r:List Addr)(H:Hp)(ds:List D)(vs:List V):Prop:=ds.length=vs.length∧∀(i:Nat) (d:D) (v:V),ds[i]?=some d→vs[i]?=some v→Rp r H d v
structure Ext (r r':List Addr)(H H':Hp):Prop where
 adr:∀(n:Nat) (a:Addr),r[n]?=some a→r'[n]?=some a
 tup:∀a xs,H a=some (.tup xs)→H' a=some (.tup xs)
 xc:∀a c,H a=some (isX a c)→H' a=some (isX a c)
section
variable {r r' r2:List Addr}{H H' H2:Hp}{d:D}{v:V}{ds:List D}{vs:List V}
theorem Ext.refl:Ext r r H H:=⟨λ_ _ h=>h,λ_ _ h=>h,λ_ _ h=>h⟩
theorem Ext.trans (a:Ext r r' H H')(b:Ext r' r2 H' H2):Ext r r2 H H2:=⟨λn x h=>b.adr n x (a.adr n x h),λx y h=>b.tup x y (a.tup x y h),λx y h=>b.xc x y (a.xc x y h)⟩
theorem Rp.ext (h:Rp r H d v)(e:Ext r r' H H'):Rp r' H' d v:=by
 induction h with
 | non=>exact .non
 | bl b=>exact .bl b
 | int i=>exact .int i
 | str x=>exact .str x
 | tup h l _ ih=>exact .tup (e.tup _ _ h) l ih
 | ref h=>exact .ref (e.adr _ _ h)
 | exc h=>exact .exc (e.xc _ _ h)
theorem Rps.ext (h:Rps r H ds vs)(e:Ext r r' H H'):Rps r' H' ds vs:=⟨h.1,λi d v h1 h2=>(h.2 i d v h1 h2).ext e⟩
theorem Rps.nil:Rps r H [] []:=⟨rfl,λi d v h=>by simp at h⟩
theorem Rps.cons (h:Rp r H d v)(t:Rps r H ds vs):Rps r H (d::ds) (v::vs):=by
 refine⟨by simp[t.1],λi x y h1 h2=>?_⟩
 cases i with
 | zero=>
  simp at h1 h2
  subst h1; subst h2
  exact h
 | succ i=>exact t.2 i x y (by simpa using h1) (by simpa using h2)
theorem Rps.tail {y:V}(h:Rps r H (d::ds) (y::vs)):Rp r H d y∧Rps r H ds vs:=
 ⟨h.2 0 d y rfl rfl,by simpa using h.1,λi a b h1 h2=>h.2 (i+1) a b (by simpa using h1) (by simpa using h2)⟩
theorem Rps.uncons (h:Rps r H (d::ds) vs):∃v vs',vs=v::vs'∧Rp r H d v∧Rps r H ds vs':=by
 cases vs with
 | nil=>exact absurd h.1 (by simp)
 | cons v vs'=>exact⟨v,vs',rfl,h.tail⟩
theorem Rps.unnil (h:Rps r H [] vs):vs=[]:=by
 cases vs with
 | nil=>rfl
 | cons v vs'=>exact absurd h.1 (by simp)
theorem Rps.get {i:Nat}(h:Rps r H ds vs)(e:ds[i]?=some d):∃v,vs[i]?=some v∧Rp r H d v:=by
 have hi:i<ds.length:=(Vac.mp e).1
 have hv:i<vs.length:=by rw[← h.1]; exact hi
 exact⟨vs[i],by simp[hv],h.2 i d vs[i] e (by simp[hv])⟩
theorem Rps.get' {i:Nat}(h:Rps r H ds vs)(e:vs[i]?=some v):∃d,ds[i]?=some d∧Rp r H d v:=by
 have hv:i<vs.length:=(Vac.mp e).1
 have hi:i<ds.length:=by rw[h.1]; exact hv
 exact⟨ds[i],by simp[hi],h.2 i ds[i] v (by simp[hi]) e⟩
theorem Rps.snoc (h:Rps r H ds vs)(t:Rp r H d v):Rps r H (ds++[d]) (vs++[v]):=by
 refine⟨by simp[h.1],λi x y h1 h2=>?_⟩
 by_cases hi:i<ds.length
 ·rw[Vao hi] at h1
  rw[Vao (by rw[← h.1]; exact hi)] at h2
  exact h.2 i x y h1 h2
 ·have hl:i<(ds++[d]).length:=(Vac.mp h1).1
  have e:i=ds.length:=by simp at hl; omega
  subst e
  rw[VaT (Vab _)] at h1
  rw[h.1,VaT (Vab _)] at h2
  simp at h1 h2
  subst h1; subst h2
  exact t
theorem Rps.tupR {a:Addr}(h:Rps r H ds vs)(e:H a=some (.tup vs)):Rp r H (.tup ds) (.ref a):=.tup e h.1 h.2
theorem Rp.untup {vs:V}(h:Rp r H (.tup ds) vs):∃a xs,vs=.ref a∧H a=some (.tup xs)∧Rps r H ds xs:=by
 cases h with
 | tup e l f=>exact⟨_,_,rfl,e,l,f⟩
end
def SqF (K:PySem.W.Frag)(H:Hp)(a:Addr)(xs:List V):Prop:=
 (∃o,H a=some (.frz o (.lst xs)))∨
  ∃(o:Obj) (its:Array Value) (n:Nat),K.lookup a=some o∧o.cls=.type "list"∧o.dict=none∧o.data=.seq its n∧its.size≤sizeLine∧zaA xs its.toList
theorem SqF.sql {K:PySem.W.Frag}{H:Hp}{a:Addr}{xs:List V}(h:SqF K H a xs):SqL K H a xs:=by
 rcases h with ⟨o,h⟩ | h
 ·exact .inl (.inr ⟨o,h⟩)
 ·exact .inr h
def FR {α:Type}(r:List Addr)(H:Hp)(fs:List (α×D))(fs':List (α×V)):Prop:=fs.map (·.1)=fs'.map (·.1)∧Rps r H (fs.map (·.2)) (fs'.map (·.2))
theorem FR.ext {α:Type}{r r':List Addr}{H H':Hp}{fs:List (α×D)}{fs':List (α×V)}(h:FR r H fs fs')(e:Ext r r' H H'):FR r' H' fs fs':=⟨h.1,h.2.ext e⟩
theorem FR.nil {α:Type}{r:List Addr}{H:Hp}:FR (α:=α) r H [] []:=⟨rfl,Rps.nil⟩
def ObR (K:PySem.W.Frag)(r:List Addr)(H:Hp)(a:Addr):Ob→Prop
 | .lst ds=>∃xs,H a=some (.lst xs)∧Rps r H ds xs
 | .frz ds=>∃xs,SqF K H a xs∧Rps r H ds xs
 | .ins C fs=>∃dx fs',H a=some (.ins C dx fs')∧FR r H fs fs'
 | .dct kvs=>∃kvs',H a=some (.dT kvs')∧FR r H kvs kvs'
def zdn:Ob→Bool
 | .frz _=>false
 | _=>true
structure za5 (K:PySem.W.Frag)(r:List Addr)(S:Sto)(H:Hp):Prop where
 len:r.length=S.length
 ob:∀(n:Nat) (a:Addr) (o:Ob),r[n]?=some a→S[n]?=some o→ObR K r H a o
 nd:∀(n m:Nat) (a:Addr) (o u:Ob),r[n]?=some a→r[m]?=some a→S[n]?=some o→S[m]?=some u→zdn o=true→zdn u=true→n=m
def zat:Ob→List D
 | .lst ds=>ds
 | .frz ds=>ds
 | _=>[.exc 0]
def zb3:Ob→Option Ob
 | .lst ds=>some (.lst ds)
 | .frz ds=>some (.frz ds)
 | _=>none
def lAt (S:Sto)(n:Nat):Option Ob:=(S[n]?).bind zb3
theorem zr8 {o u:Ob}(h:zb3 o=some u):u=o:=by
 cases o <;> simp[zb3] at h <;> exact h.symm
theorem zbL {S:Sto}{n:Nat}{o:Ob}(h:lAt S n=some o):S[n]?=some o∧zb3 o=some o:=by
  unfold lAt at h
  cases q:S[n]? with
  | none=>
   rw[q] at h
   cases h
  | some u=>
    rw[q] at h
    have h':zb3 u=some o:=h
    have e:=zr8 h'
    subst e
    exact⟨rfl,h'⟩
theorem za9 {S:Sto}{n:Nat}{o:Ob}(h:S[n]?=some o)(hL:zb3 o=some o):lAt S n=some o:=by
 unfold lAt
 rw[h]
 exact hL
section
variable {K:PySem.W.Frag}{r r':List Addr}{S:Sto}{H H':Hp}{n:Nat}{a p:Addr}
theorem za5.at {o:Ob}(h:za5 K r S H)(e:S[n]?=some o):∃a,r[n]?=some a∧ObR K r H a o:=by
 have hn:n<S.length:=(Vac.mp e).1
 have hr:n<r.length:=by rw[h.len]; exact hn
 exact⟨r[n],by simp[hr],h.ob n r[n] o (by simp[hr]) e⟩
theorem ObR.list {o:Ob}(h:ObR K r H a o)(hL:zb3 o=some o):∃xs,SqL K H a xs∧Rps r H (zat o) xs:=by
 cases o with
 | lst ds=>obtain⟨xs,e,q⟩:=h; exact⟨xs,SqL.of e,q⟩
 | frz ds=>obtain⟨xs,e,q⟩:=h; exact⟨xs,e.sql,q⟩
 | ins C fs=>cases hL
 | dct kvs=>cases hL
theorem ObR.keep {o:Ob}(q:ObR K r H a o)(x:Ext r r' H H')(ha:∀u,H a=some u→H' a=some u):ObR K r' H' a o:=by
 cases o with
 | lst ds=>obtain⟨xs,h3,h4⟩:=q; exact⟨xs,ha _ h3,h4.ext x⟩
 | frz ds=>
  obtain⟨xs,h3,h4⟩:=q
  refine⟨xs,?_,h4.ext x⟩
  rcases h3 with ⟨o,h3⟩ | h3
  ·exact .inl ⟨o,ha _ h3⟩
  ·exact .inr h3
 | ins C fs=>obtain⟨dx,fs',h3,h4⟩:=q; exact⟨dx,fs',ha _ h3,h4.ext x⟩
 | dct kvs=>obtain⟨ks,h3,h4⟩:=q; exact⟨ks,ha _ h3,h4.ext x⟩
theorem ObR.own {o:Ob}(q:ObR K r H a o)(h:zdn o=true):∃u,H a=some u∧(∀xs,u≠HO.tup xs)∧(∀b c,u≠isX b c)∧∀z y,u≠HO.frz z y:=by
 cases o with
 | lst ds=>obtain⟨xs,h3,h4⟩:=q; exact⟨_,h3,(λ_ z=>by cases z),(λ_ _ z=>by cases z),(λ_ _ z=>by cases z)⟩
 | frz ds=>cases h
 | ins C fs=>obtain⟨dx,fs',h3,h4⟩:=q; exact⟨_,h3,(λ_ z=>by cases z),(λ_ _ z=>by cases z),(λ_ _ z=>by cases z)⟩
 | dct kvs=>obtain⟨ks,h3,h4⟩:=q; exact⟨_,h3,(λ_ z=>by cases z),(λ_ _ z=>by cases z),(λ_ _ z=>by cases z)⟩
theorem za5.same (h:za5 K r S H)(e:∀b o,H b=some o→H' b=some o):za5 K r S H':=
 ⟨h.len,λn a o h1 h2=>(h.ob n a o h1 h2).keep ⟨λ_ _ q=>q,λa xs q=>e _ _ q,λa c q=>e _ _ q⟩ (e a),h.nd⟩
theorem zdN {o:HO}(h:H p=none):∀b u,H b=some u→(upd H p o) b=some u:=λb u q=>by rw[zbd (zdy q h)]; exact q
theorem zi0 {n:Nat}{b:Addr}(e:(r++[p])[n]?=some b):(n<r.length∧r[n]?=some b)∨(n=r.length∧b=p):=by
 by_cases hn:n<r.length
 ·rw[Vao hn] at e; exact .inl ⟨hn,e⟩
 ·have hl:n<(r++[p]).length:=(Vac.mp e).1
  have en:n=r.length:=by simp at hl; omega
  subst en
  rw[VaT (Vab _)] at e
  simp at e
  exact .inr ⟨rfl,e.symm⟩
theorem za5.pushO {o:Ob}(h:za5 K r S H)(hp:H p=none)(keep:∀b u,H b=some u→H' b=some u)(q:Ext r (r++[p]) H H'→ObR K (r++[p]) H' p o):za5 K (r++[p]) (S++[o]) H'∧Ext r (r++[p]) H H':=by
 have x:Ext r (r++[p]) H H':=⟨λn a e=>by
  have hn:n<r.length:=(Vac.mp e).1
  rw[Vao hn]; exact e,λa ys e=>keep _ _ e,λa c e=>keep _ _ e⟩
 have sS:∀ {n:Nat} {u:Ob},n<r.length→(S++[o])[n]?=some u→S[n]?=some u:=λ{n u} hn e=>by
  rw[Vao (by rw[← h.len]; exact hn)] at e; exact e
 refine⟨⟨by simp[h.len],λn a u h1 h2=>?_,λn m a u w h1 h2 h3 h4 o1 o2=>?_⟩,x⟩
 ·rcases zi0 h1 with ⟨hn,e⟩ | ⟨rfl,rfl⟩
  ·exact(h.ob n a u e (sS hn h2)).keep x (keep a)
  ·rw[h.len,VaT (Vab _)] at h2
   simp at h2
   subst h2
   exact q x
 ·rcases zi0 h1 with ⟨hn,e⟩ | ⟨rfl,rfl⟩
  ·rcases zi0 h2 with ⟨hm,e'⟩ | ⟨rfl,rfl⟩
   ·exact h.nd n m a u w e e' (sS hn h3) (sS hm h4) o1 o2
   ·obtain⟨zs,h5,_⟩:=(h.ob n _ _ e (sS hn h3)).own o1
    rw[hp] at h5; cases h5
  ·rcases zi0 h2 with ⟨hm,e'⟩ | ⟨rfl,_⟩
   ·obtain⟨zs,h5,_⟩:=(h.ob m _ _ e' (sS hm h4)).own o2
    rw[hp] at h5; cases h5
   ·rfl
theorem za5.push {ds:List D}{xs:List V}(h:za5 K r S H)(hp:H p=none)(q:Rps r H ds xs):za5 K (r++[p]) (S++[.lst ds]) (upd H p (.lst xs))∧Ext r (r++[p]) H (upd H p (.lst xs)):=
 h.pushO hp (zdN hp) λx=>⟨xs,zcP,q.ext x⟩
theorem za5.setO {o o':Ob}{u:HO}(h:za5 K r S H)(hn:r[n]?=some a)(hS:S[n]?=some o)(ho:zdn o=true)(ho':zdn o'=true)(q:Ext r r H (upd H a u)→ObR K r (upd H a u) a o'):za5 K r (S.set n o') (upd H a u)∧Ext r r H (upd H a u):=by
 obtain⟨u0,h0,t1,t2,t3⟩:=(h.ob n a _ hn hS).own ho
 have x:Ext r r H (upd H a u):=⟨λ_ _ e=>e,λb zs e=>by
  rw[zbd (zoQ e h0 (λz=>t1 zs z.symm))]; exact e,λb c e=>by
  rw[zbd (zoQ e h0 (λz=>t2 b c z.symm))]; exact e⟩
 have hlt:n<S.length:=(Vac.mp hS).1
 have off:∀ {m:Nat} {w:Ob},m≠n→(S.set n o')[m]?=some w→S[m]?=some w:=λ{m w} hm e=>by
  rw[VaR (Ne.symm hm)] at e; exact e
 refine⟨⟨by simp[h.len],λm b w h1 h2=>?_,λm k b w y h1 h2 h3 h4 o1 o2=>?_⟩,x⟩
 ·by_cases hm:m=n
  ·subst hm
   rw[hn] at h1; cases h1
   rw[VaQ hlt] at h2
   cases h2
   exact q x
  ·have h2':=off hm h2
   have q':=h.ob m b w h1 h2'
   by_cases hw:zdn w=true
   ·have hb:b≠a:=λz=>hm (by subst z; exact h.nd m n b w o h1 hn h2' hS hw ho)
    exact q'.keep x λz e=>by rw[zbd hb]; exact e
   ·cases w with
    | frz es=>
     obtain⟨zs,h3,h4⟩:=q'
     refine⟨zs,?_,h4.ext x⟩
     rcases h3 with ⟨z,h3⟩ | h3
     ·exact .inl ⟨z,by rw[zbd (zoQ h3 h0 (λy=>t3 _ _ y.symm))]; exact h3⟩
     ·exact .inr h3
    | _=>exact absurd rfl hw
 ·have back:∀ {j:Nat} {w:Ob},(S.set n o')[j]?=some w→zdn w=true→∃y,S[j]?=some y∧zdn y=true:=λ{j w} e ow=>by
   by_cases hj:j=n
   ·subst hj; exact⟨o,hS,ho⟩
   ·exact⟨w,off hj e,ow⟩
  obtain⟨us',h3',q3⟩:=back h3 o1
  obtain⟨ws',h4',q4⟩:=back h4 o2
  exact h.nd m k b us' ws' h1 h2 h3' h4' q3 q4
theorem za5.set {ds ds':List D}{xs:List V}(h:za5 K r S H)(hn:r[n]?=some a)(hS:S[n]?=some (.lst ds))(q:Rps r H ds' xs):za5 K r (S.set n (.lst ds')) (upd H a (.lst xs))∧Ext r r H (upd H a (.lst xs)):=
 h.setO hn hS rfl rfl λx=>⟨xs,zcP,q.ext x⟩
end
def Rs (r:List Addr)(H:Hp)(dl:Ev)(σ:St):Prop:=dl.length=σ.length∧∀(i:Nat) (d:D),dl[i]?=some (some d)→∃v,σ[i]?=some (some v)∧Rp r H d v
theorem Rs.ext {r r':List Addr}{H H':Hp}{dl:Ev}{σ:St}(h:Rs r H dl σ)(e:Ext r r' H H'):Rs r' H' dl σ:=⟨h.1,λi d q=>by
 obtain⟨v,h1,h2⟩:=h.2 i d q
 exact⟨v,h1,h2.ext e⟩⟩
theorem Rs.set {r:List Addr}{H:Hp}{dl:Ev}{σ:St}{d:D}{v:V}(i:Nat)(h:Rs r H dl σ)(q:Rp r H d v):Rs r H (dl.set i (some d)) (σ.set i (some v)):=by
 refine⟨by simp[h.1],λj e hj=>?_⟩
 by_cases hij:i=j
 ·subst hij
  have hl:i<dl.length:=by
   have:=(Vac.mp hj).1
   simpa using this
  rw[VaQ hl] at hj
  cases hj
  exact⟨v,by rw[VaQ (by rw[← h.1]; exact hl)],q⟩
 ·rw[VaR hij] at hj
  obtain⟨v',h1,h2⟩:=h.2 j e hj
  exact⟨v',by rw[VaR hij]; exact h1,h2⟩
structure Zx where
 ex:Ev→Addr→Sto→Prop
 w:St→XK
abbrev Zc (ex:Addr→Sto→Prop)(E:XK):Zx:=⟨λ_=>ex,λ_=>E⟩
def zdY (K:PySem.W.Frag)(Z:Zx)(r:List Addr)(H:Hp):Prop:=∀(dl:Ev) (σ:St) (c:Addr) (H':Hp) (r':List Addr) (S':Sto),Ext r r' H H'→Rs r' H' dl σ→za5 K r' S' H'→Z.ex dl c S'→Z.w σ (.ref c) none H'
theorem zdY.ext {K:PySem.W.Frag}{Z:Zx}{r r':List Addr}{H H':Hp}(h:zdY K Z r H)(e:Ext r r' H H'):zdY K Z r' H':=λdl σ c H2 r2 S2 x=>h dl σ c H2 r2 S2 (e.trans x)
structure Rel (K:PySem.W.Frag)(Z:Zx)(r:List Addr)(S:Sto)(H:Hp):Prop where
 b:za5 K r S H
 xw:zdY K Z r H
section
variable {K:PySem.W.Frag}{Z:Zx}{r r':List Addr}{S:Sto}{H H':Hp}{n:Nat}{a p:Addr}
theorem Rel.len (h:Rel K Z r S H):r.length=S.length:=h.b.len
theorem Rel.at {o:Ob}(h:Rel K Z r S H)(e:S[n]?=some o):∃a,r[n]?=some a∧ObR K r H a o:=h.b.at e
theorem Rel.same (h:Rel K Z r S H)(e:∀b o,H b=some o→H' b=some o):Rel K Z r S H':=⟨h.b.same e,h.xw.ext ⟨λ_ _ q=>q,λa xs q=>e _ _ q,λa c q=>e _ _ q⟩⟩
theorem Rel.push {ds:List D}{xs:List V}(h:Rel K Z r S H)(hp:H p=none)(q:Rps r H ds xs):Rel K Z (r++[p]) (S++[.lst ds]) (upd H p (.lst xs))∧Ext r (r++[p]) H (upd H p (.lst xs)):=by
 obtain⟨h1,h2⟩:=h.b.push hp q
 exact⟨⟨h1,h.xw.ext h2⟩,h2⟩
theorem Rel.set {ds ds':List D}{xs:List V}(h:Rel K Z r S H)(hn:r[n]?=some a)(hS:S[n]?=some (.lst ds))(q:Rps r H ds' xs):Rel K Z r (S.set n (.lst ds')) (upd H a (.lst xs))∧Ext r r H (upd H a (.lst xs)):=by
 obtain⟨h1,h2⟩:=h.b.set hn hS q
 exact⟨⟨h1,h.xw.ext h2⟩,h2⟩
end
def Ret (K:PySem.W.Frag)(Z:Zx)(r:List Addr)(H:Hp)(Q:DK)(Qv:VK):Prop:=∀v H' r' d S',Ext r r' H H'→Rel K Z r' S' H'→Rp r' H' d v→Q d S'→Qv v H'
theorem Ret.ext {K:PySem.W.Frag}{Z:Zx}{r r':List Addr}{H H':Hp}{Q:DK}{Qv:VK}(h:Ret K Z r H Q Qv)(e:Ext r r' H H'):Ret K Z r' H' Q Qv:=λv H2 r2 d S2 x=>h v H2 r2 d S2 (e.trans x)
def up (K:PySem.W.Frag)(Z:Zx)(t:TDE):TE:=λσ H Qv=>∃r dl S Q,Rs r H dl σ∧Rel K Z r S H∧t dl S Q∧Ret K Z r H Q Qv
def upT (K:PySem.W.Frag)(Z:Zx)(t:TDT):TT:=λσ H Qb=>∃r dl S Q,Rs r H dl σ∧Rel K Z r S H∧t dl S Q∧∀b H' r' S',Ext r r' H H'→Rel K Z r' S' H'→Q b S'→Qb b H'
def upA (K:PySem.W.Frag)(Z:Zx)(t:TDA):TA:=λσ H Qv=>∃r dl S Q,Rs r H dl σ∧Rel K Z r S H∧t dl S Q∧∀vs H' r' ds S',Ext r r' H H'→Rel K Z r' S' H'→Rps r' H' ds vs→Q ds S'→Qv vs H'
structure zmd (K:PySem.W.Frag)(Z:Zx)(r:List Addr)(H:Hp)(E:zcE)(F:zcW):Prop where
 nx:∀σ' H' r' dl' S',Ext r r' H H'→Rs r' H' dl' σ'→Rel K Z r' S' H'→E.nx dl' S'→F.nx σ' H'
 bk:∀σ' H' r' dl' S',Ext r r' H H'→Rs r' H' dl' σ'→Rel K Z r' S' H'→E.bk dl' S'→F.bk σ' H'
 ct:∀σ' H' r' dl' S',Ext r r' H H'→Rs r' H' dl' σ'→Rel K Z r' S' H'→E.ct dl' S'→F.ct σ' H'
 rt:Ret K Z r H E.rt F.rt
theorem zmd.ext {K:PySem.W.Frag}{Z:Zx}{r r':List Addr}{H H':Hp}{E:zcE}{F:zcW}(h:zmd K Z r H E F)(e:Ext r r' H H'):zmd K Z r' H' E F:=
 ⟨λa b c d f x=>h.nx a b c d f (e.trans x),λa b c d f x=>h.bk a b c d f (e.trans x),λa b c d f x=>h.ct a b c d f (e.trans x),h.rt.ext e⟩
def upS (K:PySem.W.Frag)(Z:Zx)(t:TDS):TS:=λF σ H=>∃r dl S E,Rs r H dl σ∧Rel K Z r S H∧t E dl S∧zmd K Z r H E F
def PD (X:Cx)(Z:Zx)(e:Expr)(t:TDE):Prop:=PE X e (up X.K Z t)
def PDT (X:Cx)(Z:Zx)(e:Expr)(t:TDT):Prop:=PT X e (upT X.K Z t)
def PDW (X:Cx)(Z:Zx)(e:Expr)(t:TDT):Prop:=PW X e (upT X.K Z t)
def PDA (X:Cx)(Z:Zx)(es:List Expr)(t:TDA):Prop:=PA X es (upA X.K Z t)
def PDS (X:Cx)(Z:Zx)(st:Stmt)(t:TDS):Prop:=PS X st (upS X.K Z t)
def zch (X:Cx)(Z:Zx)(st:List Stmt)(t:TDS):Prop:=PSs X st (upS X.K Z t)
section
variable {X:Cx}{Z:Zx}
theorem zbg {e:Expr}{t t':TE}(h:PE X e t)(f:∀σ H Q,t' σ H Q→t σ H Q):PE X e t':=λpins s σ H Q I q=>h pins s σ H Q I (f σ H Q q)
theorem zmI {e:Expr}{t t':TT}(h:PT X e t)(f:∀σ H Q,t' σ H Q→t σ H Q):PT X e t':=λpins s σ H Q I q=>h pins s σ H Q I (f σ H Q q)
theorem zqt {e:Expr}{t t':TT}(h:PW X e t)(f:∀σ H Q,t' σ H Q→t σ H Q):PW X e t':=λwh pins s σ H Q I q=>h wh pins s σ H Q I (f σ H Q q)
theorem zq8 {e:List Expr}{t t':TA}(h:PA X e t)(f:∀σ H Q,t' σ H Q→t σ H Q):PA X e t':=λpos pins s σ H Q I q=>h pos pins s σ H Q I (f σ H Q q)
theorem zbO {e:Stmt}{t t':TS}(h:PS X e t)(f:∀F σ H,t' F σ H→t F σ H):PS X e t':=λpins s σ H F I q=>h pins s σ H F I (f F σ H q)
theorem zpl {e:List Stmt}{t t':TS}(h:PSs X e t)(f:∀F σ H,t' F σ H→t F σ H):PSs X e t':=λpins s σ H F I q=>h pins s σ H F I (f F σ H q)
theorem PDW.pt {e:Expr}{t:TDT}(h:PDW X Z e t):PDT X Z e t:=PW.pt h
def zkj (i:Nat):TDE:=λdl S Q=>match dl[i]? with
 | some (some d)=>Q d S
 | _=>False
def dC (d:D):TDE:=λ_ S Q=>Q d S
theorem zwa {e:Expr}{i:Nat}(h:PE X e (tVar i)):PD X Z e (zkj i):=zbg h λσ H Qv ⟨r,dl,S,Q,rs,rel,q,ret⟩=>by
 unfold zkj at q
 split at q
 ·rename_i d e
  obtain⟨v,h1,h2⟩:=rs.2 i d e
  exact⟨v,h1,ret v H r d S Ext.refl rel h2 q⟩
 ·exact q.elim
theorem dv (i:Nat){x:Str}{pos:Pos}(hN:X.N[i]?=some x:=by rfl)(hv:Vis X.env.scope x:=by first | exact Or.inl rfl | exact Or.inr (Or.inl rfl) | exact Or.inr (Or.inr rfl))(hd:(x==("__debug__":Str))=false:=by decide)
  (hcd:(x==("__classdict__":Str))=false:=by decide):PD X Z (.Name x pos) (zkj i):=zwa (zp8 hN hv hd hcd)
theorem zjt {e:Expr}{d:D}{v:V}(h:PE X e (tC v))(q:∀r H,Rp r H d v):PD X Z e (dC d):=zbg h λσ H Qv ⟨r,dl,S,Q,rs,rel,h,ret⟩=>ret v H r d S Ext.refl rel (q r H) h
theorem zab {i j pos}:PD X Z (.Constant (.int i) j pos) (dC (.int i)):=zjt zuV λ_ _=>.int i
theorem zdw {b j pos}:PD X Z (.Constant (.bool b) j pos) (dC (.bl b)):=zjt pe_bl λ_ _=>.bl b
theorem zaK {j pos}:PD X Z (.Constant .none j pos) (dC .non):=zjt ztz λ_ _=>.non
theorem zaL {x j pos}:PD X Z (.Constant (.str x) j pos) (dC (.str x)):=zjt zxO λ_ _=>.str x
abbrev W2:=D→D→Sto→DK→Prop
abbrev W1:=D→Sto→DK→Prop
def upO (K:PySem.W.Frag)(Z:Zx)(w:W2):R2:=λx y H Qv=>∃r S dx dy Q,Rel K Z r S H∧Rp r H dx x∧Rp r H dy y∧w dx dy S Q∧Ret K Z r H Q Qv
def upU (K:PySem.W.Frag)(Z:Zx)(w:W1):V→Hp→VK→Prop:=λx H Qv=>∃r S dx Q,Rel K Z r S H∧Rp r H dx x∧w dx S Q∧Ret K Z r H Q Qv
def dOp (w:W2)(ta tb:TDE):TDE:=λdl S Q=>ta dl S λx S1=>tb dl S1 λy S2=>w x y S2 Q
def dUn (w:W1)(ta:TDE):TDE:=λdl S Q=>ta dl S λx S1=>w x S1 Q
variable {a b c:Expr}{ta tb tc:TDE}{pos:Pos}
theorem zkd {w:W2}{σ:St}{H:Hp}{Qv:VK}(h:up X.K Z (dOp w ta tb) σ H Qv):tOp (upO X.K Z w) (up X.K Z ta) (up X.K Z tb) σ H Qv:=by
 obtain⟨r,dl,S,Q,rs,rel,h,ret⟩:=h
 exact⟨r,dl,S,_,rs,rel,h,λv H1 r1 dx S1 e1 rel1 p1 h1=>⟨r1,dl,S1,_,rs.ext e1,rel1,h1,λv2 H2 r2 dy S2 e2 rel2 p2 h2=>⟨r2,S2,dx,dy,Q,rel2,p1.ext e2,p2,h2,ret.ext (e1.trans e2)⟩⟩⟩
theorem zaf {op:Operator}{w:W2}(ho:OpR X (binaryOp op) (upO X.K Z w))(ha:PD X Z a ta)(hb:PD X Z b tb):PD X Z (.BinOp a op b pos) (dOp w ta tb):=zbg (pe_op ho ha hb) λ_ _ _ h=>zkd h
theorem zaZ {op:UnaryOp}{w:W1}(ho:UnR X (unaryOp op) (upU X.K Z w))(ha:PD X Z a ta):PD X Z (.UnaryOp op a pos) (dUn w ta):=zbg (pe_un ho ha) λσ H Qv ⟨r,dl,S,Q,rs,rel,h,ret⟩=>
 ⟨r,dl,S,_,rs,rel,h,λv H1 r1 dx S1 e1 rel1 p1 h1=>⟨r1,S1,dx,Q,rel1,p1,h1,ret.ext e1⟩⟩
theorem zeg {op:CmpOp}{w:W2}(ho:OpR X (compareOp op) (upO X.K Z w))(ha:PD X Z a ta)(hb:PD X Z b tb)(hm:behindInMarks op b=false):PD X Z (.Compare a [op] [b] pos) (dOp w ta tb):=zbg (zu8 ho ha hb hm) λ_ _ _ h=>zkd h
theorem zfF {f:Value→Value→Sem Value}{r r':R2}(h:OpR X f r)(g:∀x y H Q,r' x y H Q→r x y H Q):OpR X f r':=λpins s σ H x y v u Q I rx ry q=>h pins s σ H x y v u Q I rx ry (g x y H Q q)
theorem zu1 {f:Value→Sem Value}{r r':V→Hp→VK→Prop}(h:UnR X f r)(g:∀x H Q,r' x H Q→r x H Q):UnR X f r':=λpins s σ H x v Q I rx q=>h pins s σ H x v Q I rx (g x H Q q)
theorem zoK {f:Value}{r r':List V→Hp→VK→Prop}(h:zbl X f r)(g:∀x H Q,r' x H Q→r x H Q):zbl X f r':=λpins s σ H xs us Q I rx q=>h pins s σ H xs us Q I rx (g xs H Q q)
def wI (C:Int→Int→Prop)(g:Int→Int→D):W2:=λx y S Q=>match x,y with
 | .int i,.int j=>C i j∧Q (g i j) S
 | _,_=>False
def wI0 (g:Int→Int→D):W2:=λx y S Q=>match x,y with
 | .int i,.int j=>Q (g i j) S
 | _,_=>False
theorem opD {f:Value→Value→Sem Value}{C:Int→Int→Prop}{g:Int→Int→V}{g':Int→Int→D}(h:OpR X f (rI C g))(hg:∀r H i j,Rp r H (g' i j) (g i j)):OpR X f (upO X.K Z (wI C g')):=
 zfF h λx y H Qv ⟨r,S,dx,dy,Q,rel,px,py,q,ret⟩=>by
  cases px <;> cases py <;> first
   | exact⟨_,_,rfl,rfl,q.1,ret _ _ _ _ _ Ext.refl rel (hg _ _ _ _) q.2⟩
   | exact(show False from q).elim
theorem zfO {f:Value→Value→Sem Value}{g:Int→Int→V}{g':Int→Int→D}(h:OpR X f (rI0 g))(hg:∀r H i j,Rp r H (g' i j) (g i j)):OpR X f (upO X.K Z (wI0 g')):=
 zfF h λx y H Qv ⟨r,S,dx,dy,Q,rel,px,py,q,ret⟩=>by
  cases px <;> cases py <;> first
   | exact⟨_,_,rfl,rfl,ret _ _ _ _ _ Ext.refl rel (hg _ _ _ _) q⟩
   | exact(show False from q).elim
abbrev wAdd:W2:=wI0 λi j=>.int (i+j)
abbrev wSub:W2:=wI0 λi j=>.int (i-j)
abbrev wMul:W2:=wI IntMulOk λi j=>.int (i*j)
def CFd (_ j:Int):Prop:=0<j∧j.natAbs.log2<9000
abbrev wFdiv:W2:=wI CFd λi j=>.int (i/j)
abbrev wMod:W2:=wI (λ_ j=>0<j) λi j=>.int (i%j)
abbrev wPow:W2:=wI zla λi j=>.int (i^j.toNat)
theorem zaV:OpR X (binaryOp .Add) (upO X.K Z wAdd):=zfO zvf λ_ _ _ _=>.int _
theorem zbf:OpR X (binaryOp .Sub) (upO X.K Z wSub):=zfO zvi λ_ _ _ _=>.int _
theorem zaP:OpR X (binaryOp .Mult) (upO X.K Z wMul):=opD (opI λ_ _ _ _ _ _ _ hc q=>mul_int q hc) λ_ _ _ _=>.int _
theorem zbj:OpR X (binaryOp .FloorDiv) (upO X.K Z wFdiv):=opD (opI λi j _ _ _ _ _ hc q=>floordiv_int (by have h:0<j:=hc.1; omega) (by have h:0<j:=hc.1; rw[Int.fdiv_eq_ediv_of_nonneg i (by omega)]; exact q) (.inl (PyProof.noPylong_of_log2 hc.2))) λ_ _ _ _=>.int _
theorem zba:OpR X (binaryOp .Mod) (upO X.K Z wMod):=opD ztO λ_ _ _ _=>.int _
theorem zw5:OpR X (binaryOp .Pow) (upO X.K Z wPow):=opD zsF λ_ _ _ _=>.int _
abbrev wLt:W2:=wI0 λi j=>.bl (decide (i<j))
abbrev wLe:W2:=wI0 λi j=>.bl (decide (i≤j))
abbrev wGt:W2:=wI0 λi j=>.bl (decide (j<i))
abbrev wGe:W2:=wI0 λi j=>.bl (decide (j≤i))
theorem zbp:OpR X (compareOp .Lt) (upO X.K Z wLt):=zfO op_lt λ_ _ _ _=>.bl _
theorem zcy:OpR X (compareOp .LtE) (upO X.K Z wLe):=zfO op_le λ_ _ _ _=>.bl _
theorem zb8:OpR X (compareOp .Gt) (upO X.K Z wGt):=zfO op_gt λ_ _ _ _=>.bl _
theorem zoF:OpR X (compareOp .GtE) (upO X.K Z wGe):=zfO op_ge λ_ _ _ _=>.bl _
def wNeg:W1:=λx S Q=>match x with
 | .int i=>Q (.int (-i)) S
 | _=>False
theorem za0:UnR X (unaryOp .USub) (upU X.K Z wNeg):=zu1 zyh λx H Qv ⟨r,S,dx,Q,rel,px,q,ret⟩=>by
 cases px <;> first
  | exact⟨_,rfl,ret _ _ _ _ _ Ext.refl rel (.int _) q⟩
  | exact(show False from q).elim
end
def eqF:D→D→Option Bool
 | .non,.non=>some true
 | .bl i,.bl j=>some (i==j)
 | .int i,.int j=>some (decide (i=j))
 | .str i,.str j=>some (decide (i=j))
 | .non,.int _=>some false | .int _,.non=>some false | .non,.bl _=>some false | .bl _,.non=>some false | .non,.str _=>some false | .str _,.non=>some false
 | .int _,.str _=>some false | .str _,.int _=>some false | .bl _,.str _=>some false | .str _,.bl _=>some false
 | _,_=>none
def eqL (f:D→D→Option Bool):List D→List D→Option Bool
 | [],[]=>some true
 | x::xs,y::ys=>match f x y,eqL f xs ys with
  | some b,some c=>some (b&&c)
  | _,_=>none
 | _,_=>some false
def eqT (f:D→D→Option Bool):D→D→Option Bool
 | .tup xs,.tup ys=>eqL f xs ys
 | x,y=>eqF x y
abbrev eq1:D→D→Option Bool:=eqT eqF
abbrev eq2:D→D→Option Bool:=eqT eq1
def zdK (n:Nat)(f:D→D→Option Bool):Prop:=∀(X:Cx) (pins:List (Addr×Obj)) (σ:St) (H:Hp) (s:Shared) (r:List Addr) (A:Around) (dx dy:D) (x y:V) (u v:Value) (b:Bool),
 Inv X pins σ H s→A.units+n<cLine→Rp r H dx x→Rp r H dy y→zay x u→zay y v→f dx dy=some b→SeqAt.EqAt A s u v b
def zeQ (f:D→D→Option Bool):Prop:=∀(r:List Addr) (H:Hp) (dx dy:D) (x:V) (b:Bool),Rp r H dx x→Rp r H dy x→f dx dy=some b→b=true
theorem zfa:zeQ eqF:=by
 intro r H dx dy x b px py e
 cases px <;> cases py <;> simp[eqF] at e <;> first | exact e.symm | exact e
theorem zpA {f:D→D→Option Bool}(hf:zeQ f){r:List Addr}{H:Hp}:∀ {xs ys:List D} {vs:List V} {b:Bool},Rps r H xs vs→Rps r H ys vs→eqL f xs ys=some b→b=true
 | [],[],_,b,_,_,e=>by simp[eqL] at e; exact e
 | [],y::ys,vs,b,p,q,e=>by
  have h1:=p.unnil
  subst h1
  exact absurd q.1 (by simp)
 | x::xs,[],vs,b,p,q,e=>by
  have h1:=q.unnil
  subst h1
  exact absurd p.1 (by simp)
 | x::xs,y::ys,vs,b,p,q,e=>by
  obtain⟨v,vs',rfl,p1,p2⟩:=p.uncons
  obtain⟨q1,q2⟩:=q.tail
  unfold eqL at e
  split at e
  ·rename_i b1 c1 e1 e2
   have h1:=hf r H x y v b1 p1 q1 e1
   have h2:=zpA hf p2 q2 e2
   subst h1; subst h2
   simp at e
   exact e
  ·cases e
theorem zqU {f:D→D→Option Bool}(hf:zeQ f):zeQ (eqT f):=by
 intro r H dx dy x b px py e
 cases px with
 | tup e1 l1 f1=>
  cases py with
  | tup e2 l2 f2=>
   rw[e1] at e2; cases e2
   exact zpA hf ⟨l1,f1⟩ ⟨l2,f2⟩ e
  | ref h=>simp[eqT,eqF] at e
  | exc h=>simp[eqT,eqF] at e
 | non=>exact zfa r H _ _ _ b .non py (by cases py <;> exact e)
 | bl i=>exact zfa r H _ _ _ b (.bl i) py (by cases py <;> exact e)
 | int i=>exact zfa r H _ _ _ b (.int i) py (by cases py <;> exact e)
 | str i=>exact zfa r H _ _ _ b (.str i) py (by cases py <;> exact e)
 | ref h=>cases py <;> simp[eqT,eqF] at e
 | exc h=>cases py <;> simp[eqT,eqF] at e
theorem znH (n:Nat):zdK n eqF:=by
 intro X pins σ H s r A dx dy x y u v b I hu px py rx ry e
 have fin:∀ {x y:V},zay x u→zay y v→zl6 x=true→zl6 y=true→eqV x y=b→SeqAt.EqAt A s u v b:=λrx ry fx fy e'=>by
  subst e'; exact zxC rx ry fx fy
 cases px <;> cases py <;> simp[eqF] at e <;> refine fin rx ry rfl rfl ?_ <;> simp[eqV,e] <;> first | exact e | (subst e; simp) | skip
theorem zfi {X:Cx}{pins:List (Addr×Obj)}{σ:St}{H:Hp}{s:Shared}{a:Addr}{xs:List V}(I:Inv X pins σ H s)(h:H a=some (.tup xs)):∃its:List Value,zaA xs its∧IsTup s.heap a its.toArray∧xs.length≤sizeLine:=I.tuple (SqT.of h)
def zcq (f:D→D→Option Bool)(xs ys:List D)(j:Nat):Bool:=match xs[j]?,ys[j]? with
 | some x,some y=>(f x y).getD false
 | _,_=>false
theorem zqu {f:D→D→Option Bool}:∀ {xs ys:List D} {b:Bool},eqL f xs ys=some b→(∀(j:Nat) (x y:D),xs[j]?=some x→ys[j]?=some y→∃c,f x y=some c)∧((List.range (min xs.length ys.length)).all (zcq f xs ys)&&xs.length==ys.length)=b
 | [],[],b,e=>by simp[eqL] at e; subst e; simp
 | [],y::ys,b,e=>by simp[eqL] at e; subst e; simp
 | x::xs,[],b,e=>by simp[eqL] at e; subst e; simp
 | x::xs,y::ys,b,e=>by
  unfold eqL at e
  split at e
  ·rename_i b1 c1 e1 e2
   obtain⟨h1,h2⟩:=zqu e2
   refine⟨λj p q hp hq=>?_,?_⟩
   ·cases j with
    | zero=>simp at hp hq; subst hp; subst hq; exact⟨b1,e1⟩
    | succ j=>exact h1 j p q (by simpa using hp) (by simpa using hq)
   ·have z:min (x::xs).length (y::ys).length=min xs.length ys.length+1:=by simp[Nat.succ_min_succ]
    rw[z,List.range_succ_eq_map,List.all_cons,List.all_map]
    have e0:zcq f (x::xs) (y::ys) 0=b1:=by simp[zcq,e1]
    have es:(zcq f (x::xs) (y::ys) ∘ Nat.succ)=zcq f xs ys:=by funext j; simp[zcq]
    rw[e0,es]
    have e3:((x::xs).length==(y::ys).length)=(xs.length==ys.length):=by simp
    rw[e3,Bool.and_assoc,h2]
    simp at e
    exact e
  ·cases e
theorem zfW {n:Nat}{f:D→D→Option Bool}(hf:zdK n f){X:Cx}{pins:List (Addr×Obj)}{σ:St}{H:Hp}{s:Shared}{r:List Addr}{A:Around}{xs ys:List D}{us vs:List V}{is js:List Value}{b:Bool}
  (I:Inv X pins σ H s)(hu:A.units+n<cLine)(p:Rps r H xs us)(q:Rps r H ys vs)(ri:zaA us is)(rj:zaA vs js)(e:eqL f xs ys=some b):
  (∀j (h1:j<is.toArray.size) (h2:j<js.toArray.size),SeqAt.EqAt A s is.toArray[j] js.toArray[j] (zcq f xs ys j))∧((List.range (min is.toArray.size js.toArray.size)).all (zcq f xs ys)&&is.toArray.size==js.toArray.size)=b:=by
 obtain⟨h1,h2⟩:=zqu e
 have l1:is.toArray.size=xs.length:=by rw[Van,← ri.length,p.1]
 have l2:js.toArray.size=ys.length:=by rw[Van,← rj.length,q.1]
 refine⟨λj hj1 hj2=>?_,by rw[l1,l2]; exact h2⟩
 have k1:j<xs.length:=by omega
 have k2:j<ys.length:=by omega
 have g1:xs[j]?=some xs[j]:=by simp[k1]
 have g2:ys[j]?=some ys[j]:=by simp[k2]
 obtain⟨x,gx,px⟩:=p.get g1
 obtain⟨y,gy,py⟩:=q.get g2
 obtain⟨u,gu,ru⟩:=ri.get gx
 obtain⟨v,gv,rv⟩:=rj.get gy
 obtain⟨c,hc⟩:=h1 j _ _ g1 g2
 have eu:is.toArray[j]=u:=by
  have z:=Vac.mp gu
  simpa using z.2
 have ev:js.toArray[j]=v:=by
  have z:=Vac.mp gv
  simpa using z.2
 have ec:zcq f xs ys j=c:=by simp[zcq,g1,g2,hc]
 rw[eu,ev,ec]
 exact hf X pins σ H s r A _ _ x y u v c I hu px py ru rv hc
theorem zpm {n:Nat}{f:D→D→Option Bool}(hf:zdK n f)(hs:zeQ f):zdK (n+1) (eqT f):=by
 intro X pins σ H s r A dx dy x y u v b I hu px py rx ry e
 have zaS:∀ {dx dy:D} {x y:V},Rp r H dx x→Rp r H dy y→zay x u→zay y v→eqF dx dy=some b→SeqAt.EqAt A s u v b:=λpx py rx ry e=>znH (n+1) X pins σ H s r A _ _ _ _ u v b I hu px py rx ry e
 cases px with
 | @tup ds xs a e1 l1 f1=>
  cases py with
  | @tup es ys a' e2 l2 f2=>
   cases rx
   cases ry
   by_cases z:a=a'
   ·subst z
    have hb:=zqU hs r H _ _ _ b (.tup e1 l1 f1) (.tup e2 l2 f2) e
    subst hb
    exact SeqAt.EqAt.same _
   ·obtain⟨is,ri,ti,_⟩:=zfi I e1
    obtain⟨js,rj,tj,_⟩:=zfi I e2
    obtain⟨g1,g2⟩:=zfW (A:=A.in1) hf I (by show A.units+1+n<_; omega) ⟨l1,f1⟩ ⟨l2,f2⟩ ri rj e
    have q:=SeqAt.RcAt.tuples (A:=A) ti tj (by omega) g1
    rw[g2] at q
    exact SeqAt.EqAt.of_refs z q
  | ref h=>simp[eqT,eqF] at e
  | _=>simp[eqT,eqF] at e
 | non=>exact zaS .non py rx ry (by cases py <;> exact e)
 | bl i=>exact zaS (.bl i) py rx ry (by cases py <;> exact e)
 | int i=>exact zaS (.int i) py rx ry (by cases py <;> exact e)
 | str i=>exact zaS (.str i) py rx ry (by cases py <;> exact e)
 | ref h=>cases py <;> simp[eqT,eqF] at e
 | exc h=>cases py <;> simp[eqT,eqF] at e
theorem zpZ (n:Nat):zdK (n+1) eq1:=zpm (znH n) zfa
def wEq (f:D→D→Option Bool):W2:=λx y S Q=>match f x y with
 | some b=>Q (.bl b) S
 | none=>False
def wNe (f:D→D→Option Bool):W2:=λx y S Q=>match f x y with
 | some b=>Q (.bl (!b)) S
 | none=>False
section
variable {X:Cx}{Z:Zx}
theorem zpS {r:List Addr}{H:Hp}{dx dy:D}{x y:V}{b:Bool}(px:Rp r H dx x)(py:Rp r H dy y)(e:eqF dx dy=some b):ziR x y=true∧decide (x=y)=b:=by
 cases px <;> cases py <;> simp[eqF] at e <;> simp[ziR] <;> first | exact e | (subst e; simp) | skip
theorem zpM {n:Nat}{f:D→D→Option Bool}(hf:zdK n f)(hu:X.A.units+1+n<cLine):OpR X (compareOp .Eq) (upO X.K Z (wEq (eqT f))):=by
 intro pins s σ H x y v u Qv I rx ry h
 obtain⟨r,S,dx,dy,Q,rel,px,py,q,ret⟩:=h
 unfold wEq at q
 split at q
 ·rename_i b e
  have zaS:∀ {dx dy:D} {x y:V},Rp r H dx x→Rp r H dy y→zay x v→zay y u→eqF dx dy=some b→wpAny (model X.prog X.w) X.A (compareOp .Eq v u) (EP X pins σ Qv) X.xe s:=λpx py rx ry e=>by
   obtain⟨h1,h2⟩:=zpS px py e
   refine zn0 pins s σ H _ _ v u Qv I rx ry ⟨h1,?_⟩
   rw[h2]
   exact ret _ _ _ _ _ Ext.refl rel (.bl b) q
  cases px with
  | @tup ds xs a e1 l1 f1=>
   cases py with
   | @tup es ys a' e2 l2 f2=>
    cases rx
    cases ry
    obtain⟨is,ri,ti,_⟩:=zfi I e1
    obtain⟨js,rj,tj,_⟩:=zfi I e2
    obtain⟨g1,g2⟩:=zfW (A:=X.A.in1) hf I (by show X.A.units+1+n<_; omega) ⟨l1,f1⟩ ⟨l2,f2⟩ ri rj e
    refine SeqAt.eq_tupleAt (A:=X.A) ti tj (by omega) g1 ?_
    rw[g2]
    exact⟨.bl b,H,I,rfl,ret _ _ _ _ _ Ext.refl rel (.bl b) q⟩
   | _=>simp[eqT,eqF] at e
  | non=>exact zaS .non py rx ry (by cases py <;> exact e)
  | bl i=>exact zaS (.bl i) py rx ry (by cases py <;> exact e)
  | int i=>exact zaS (.int i) py rx ry (by cases py <;> exact e)
  | str i=>exact zaS (.str i) py rx ry (by cases py <;> exact e)
  | ref h=>cases py <;> simp[eqT,eqF] at e
  | exc h=>cases py <;> simp[eqT,eqF] at e
 ·exact q.elim
theorem zpJ {n:Nat}{f:D→D→Option Bool}(hf:zdK n f)(hu:X.A.units+1+n<cLine):OpR X (compareOp .NotEq) (upO X.K Z (wNe (eqT f))):=by
 intro pins s σ H x y v u Qv I rx ry h
 obtain⟨r,S,dx,dy,Q,rel,px,py,q,ret⟩:=h
 unfold wNe at q
 split at q
 ·rename_i b e
  have zaS:∀ {dx dy:D} {x y:V},Rp r H dx x→Rp r H dy y→zay x v→zay y u→eqF dx dy=some b→wpAny (model X.prog X.w) X.A (compareOp .NotEq v u) (EP X pins σ Qv) X.xe s:=λpx py rx ry e=>by
   obtain⟨h1,h2⟩:=zpS px py e
   refine op_ne pins s σ H _ _ v u Qv I rx ry ⟨h1,?_⟩
   rw[h2]
   exact ret _ _ _ _ _ Ext.refl rel (.bl (!b)) q
  cases px with
  | @tup ds xs a e1 l1 f1=>
   cases py with
   | @tup es ys a' e2 l2 f2=>
    cases rx
    cases ry
    obtain⟨is,ri,ti,_⟩:=zfi I e1
    obtain⟨js,rj,tj,_⟩:=zfi I e2
    obtain⟨g1,g2⟩:=zfW (A:=X.A.in1) hf I (by show X.A.units+1+n<_; omega) ⟨l1,f1⟩ ⟨l2,f2⟩ ri rj e
    refine SeqAt.RcNeAt.tuples (A:=X.A) ti tj (by omega) g1 X.prog X.w _ _ ?_
    rw[g2]
    exact⟨.bl (!b),H,I,rfl,ret _ _ _ _ _ Ext.refl rel (.bl (!b)) q⟩
   | _=>simp[eqT,eqF] at e
  | non=>exact zaS .non py rx ry (by cases py <;> exact e)
  | bl i=>exact zaS (.bl i) py rx ry (by cases py <;> exact e)
  | int i=>exact zaS (.int i) py rx ry (by cases py <;> exact e)
  | str i=>exact zaS (.str i) py rx ry (by cases py <;> exact e)
  | ref h=>cases py <;> simp[eqT,eqF] at e
  | exc h=>cases py <;> simp[eqT,eqF] at e
 ·exact q.elim
theorem zaI {k:Nat}(hr:zaO k X.A):OpR X (compareOp .Eq) (upO X.K Z (wEq eq2)):=zpM (zpZ 0) (by have:=hr.un; omega)
theorem zlN {k:Nat}(hr:zaO k X.A):OpR X (compareOp .NotEq) (upO X.K Z (wNe eq2)):=zpJ (zpZ 0) (by have:=hr.un; omega)
end
section
variable {X:Cx}{Z:Zx}{a b c:Expr}{ta tb tc:TDE}{pos:Pos}{zbq:List Expr}
def zmB (t:TDE):TDT:=λdl S Q=>t dl S λd S'=>match d with
 | .bl k=>Q k S'
 | _=>False
theorem znK {K:PySem.W.Frag}{Z:Zx}{r:List Addr}{H:Hp}{Q:Bool→Sto→Prop}{Qb:Bool→Hp→Prop}(h:∀b H' r' S',Ext r r' H H'→Rel K Z r' S' H'→Q b S'→Qb b H'):
  Ret K Z r H (λd S'=>match d with | .bl k=>Q k S' | _=>False) (λx H'=>∃k,x=.bl k∧Qb k H'):=λv H' r' d S' e rel p q=>by
 cases p with
 | bl k=>exact⟨k,rfl,h k H' r' S' e rel q⟩
 | _=>exact(show False from q).elim
theorem zar {op:CmpOp}{w:W2}(ho:OpR X (compareOp op) (upO X.K Z w))(ha:PD X Z a ta)(hb:PD X Z b tb)(hm:behindInMarks op b=false):PDT X Z (.Compare a [op] [b] pos) (zmB (dOp w ta tb)):=
 zmI (zyy ho ha hb hm) λσ H Qb ⟨r,dl,S,Q,rs,rel,h,ret⟩=>zkd ⟨r,dl,S,_,rs,rel,h,znK ret⟩
theorem zc1 {e:Expr}{t:TDE}(h:PD X Z e t)(he:∀whole,isTrue e X.env whole=(do let v ← whole; standAt e.pos; holding [v] (truthy v)):=by intro _; rfl):PDT X Z e (zmB t):=
 zmI (zti h he) λσ H Qb ⟨r,dl,S,Q,rs,rel,h,ret⟩=>⟨r,dl,S,_,rs,rel,h,znK ret⟩
def dNot (t:TDT):TDT:=λdl S Q=>t dl S λk S'=>Q (!k) S'
theorem zmv {t:TDT}(ha:PDT X Z a t):PDT X Z (.UnaryOp .Not a pos) (dNot t):=
 zmI (zxT ha) λσ H Qb ⟨r,dl,S,Q,rs,rel,h,ret⟩=>⟨r,dl,S,_,rs,rel,h,λk H' r' S' e rel' q=>ret (!k) H' r' S' e rel' q⟩
def dAnd (t u:TDT):TDT:=λdl S Q=>t dl S λk S1=>if k=true then u dl S1 Q else Q false S1
def dOr (t u:TDT):TDT:=λdl S Q=>t dl S λk S1=>if k=true then Q true S1 else u dl S1 Q
theorem zd9 {t:TDT}(ha:PDT X Z a t):PDW X Z (.BoolOp .And [a] pos) t:=zuf ha
theorem zcU {t:TDT}(ha:PDT X Z a t):PDW X Z (.BoolOp .Or [a] pos) t:=zwn ha
theorem zcY {t u:TDT}(ha:PDT X Z a t)(hb:PDW X Z (.BoolOp .And (b::zbq) pos) u):PDW X Z (.BoolOp .And (a::b::zbq) pos) (dAnd t u):=
 zqt (zx5 ha hb) λσ H Qb ⟨r,dl,S,Q,rs,rel,h,ret⟩=>⟨r,dl,S,_,rs,rel,h,λk H1 r1 S1 e1 rel1 q1=>by
  cases k with
  | true=>exact zcc ⟨r1,dl,S1,Q,rs.ext e1,rel1,(by simpa using q1),λk' H2 r2 S2 e2=>ret k' H2 r2 S2 (e1.trans e2)⟩
  | false=>exact zbM (ret false H1 r1 S1 e1 rel1 (by simpa using q1))⟩
theorem zcG {t u:TDT}(ha:PDT X Z a t)(hb:PDW X Z (.BoolOp .Or (b::zbq) pos) u):PDW X Z (.BoolOp .Or (a::b::zbq) pos) (dOr t u):=
 zqt (pw_or ha hb) λσ H Qb ⟨r,dl,S,Q,rs,rel,h,ret⟩=>⟨r,dl,S,_,rs,rel,h,λk H1 r1 S1 e1 rel1 q1=>by
  cases k with
  | true=>exact zcc (ret true H1 r1 S1 e1 rel1 (by simpa using q1))
  | false=>exact zbM ⟨r1,dl,S1,Q,rs.ext e1,rel1,(by simpa using q1),λk' H2 r2 S2 e2=>ret k' H2 r2 S2 (e1.trans e2)⟩⟩
def zqH (ta tb:TDE):TDE:=λdl S Q=>ta dl S λx S1=>match x with
 | .bl k=>if k=true then tb dl S1 Q else Q (.bl false) S1
 | _=>False
def dOrV (ta tb:TDE):TDE:=λdl S Q=>ta dl S λx S1=>match x with
 | .bl k=>if k=true then Q (.bl true) S1 else tb dl S1 Q
 | _=>False
def zpK (ta:TDE):TDE:=λdl S Q=>ta dl S λx S1=>match x with
 | .bl k=>Q (.bl (!k)) S1
 | _=>False
theorem zoc {op}{t:TDE}(h:PD X Z a t):PD X Z (.BoolOp op [a] pos) t:=zr9 h
theorem zk4 (ha:PD X Z a ta)(hb:PD X Z (.BoolOp .And (b::zbq) pos) tb):PD X Z (.BoolOp .And (a::b::zbq) pos) (zqH ta tb):=
 zbg (zwH ha hb) λσ H Qv ⟨r,dl,S,Q,rs,rel,h,ret⟩=>⟨r,dl,S,_,rs,rel,h,λv H1 r1 d S1 e1 rel1 p q1=>by
  cases p with
  | bl k=>
   refine⟨k,rfl,?_⟩
   cases k with
   | true=>exact zcc ⟨r1,dl,S1,Q,rs.ext e1,rel1,(by simpa using q1),ret.ext e1⟩
   | false=>exact zbM (ret _ H1 r1 (.bl false) S1 e1 rel1 (.bl false) (by simpa using q1))
  | _=>exact(show False from q1).elim⟩
theorem zsw (ha:PD X Z a ta):PD X Z (.UnaryOp .Not a pos) (zpK ta):=
 zbg (zr2 ha) λσ H Qv ⟨r,dl,S,Q,rs,rel,h,ret⟩=>⟨r,dl,S,_,rs,rel,h,λv H1 r1 d S1 e1 rel1 p q1=>by
  cases p with
  | bl k=>exact⟨k,rfl,ret _ H1 r1 (.bl (!k)) S1 e1 rel1 (.bl (!k)) q1⟩
  | _=>exact(show False from q1).elim⟩
def dIfE (t:TDT)(ta tb:TDE):TDE:=λdl S Q=>t dl S λk S1=>if k=true then ta dl S1 Q else tb dl S1 Q
theorem zcK {t:TDT}(hc:PDT X Z c t)(ha:PD X Z a ta)(hb:PD X Z b tb):PD X Z (.IfExp c a b pos) (dIfE t ta tb):=
 zbg (zvR hc ha hb) λσ H Qv ⟨r,dl,S,Q,rs,rel,h,ret⟩=>⟨r,dl,S,_,rs,rel,h,λk H1 r1 S1 e1 rel1 q1=>by
  cases k with
  | true=>exact zcc ⟨r1,dl,S1,Q,rs.ext e1,rel1,(by simpa using q1),ret.ext e1⟩
  | false=>exact zbM ⟨r1,dl,S1,Q,rs.ext e1,rel1,(by simpa using q1),ret.ext e1⟩⟩
def zkf (w w':W2)(ta tb tc:TDE):TDE:=λdl S Q=>ta dl S λx S1=>tb dl S1 λy S2=>w x y S2 λz S3=>match z with
 | .bl k=>if k=true then tc dl S3 λu S4=>w' y u S4 Q else Q (.bl false) S3
 | _=>False
theorem zrh {w w':W2}{σ:St}{H:Hp}{Qv:VK}(h:up X.K Z (zkf w w' ta tb tc) σ H Qv):zpg (upO X.K Z w) (upO X.K Z w') (up X.K Z ta) (up X.K Z tb) (up X.K Z tc) σ H Qv:=by
 obtain⟨r,dl,S,Q,rs,rel,h,ret⟩:=h
 refine⟨r,dl,S,_,rs,rel,h,λv H1 r1 dx S1 e1 rel1 p1 h1=>⟨r1,dl,S1,_,rs.ext e1,rel1,h1,λv2 H2 r2 dy S2 e2 rel2 p2 h2=>⟨r2,S2,dx,dy,_,rel2,p1.ext e2,p2,h2,λv3 H3 r3 dz S3 e3 rel3 p3 h3=>?_⟩⟩⟩
 cases p3 with
 | bl k=>
  refine⟨k,rfl,?_⟩
  cases k with
  | true=>exact zcc ⟨r3,dl,S3,_,rs.ext (e1.trans (e2.trans e3)),rel3,(by simpa using h3),λv4 H4 r4 du S4 e4 rel4 p4 h4=>⟨r4,S4,dy,du,Q,rel4,(p2.ext e3).ext e4,p4,h4,ret.ext (e1.trans (e2.trans (e3.trans e4)))⟩⟩
  | false=>exact zbM (ret _ H3 r3 (.bl false) S3 (e1.trans (e2.trans e3)) rel3 (.bl false) (by simpa using h3))
 | _=>exact(show False from h3).elim
theorem ztt {op op':CmpOp}{w w':W2}(ho:OpR X (compareOp op) (upO X.K Z w))(ho':OpR X (compareOp op') (upO X.K Z w'))(ha:PD X Z a ta)(hb:PD X Z b tb)(hc:PD X Z c tc)
  (hm:lastMarks [op,op'] [b,c]=false:=by with_unfolding_all rfl):PD X Z (.Compare a [op,op'] [b,c] pos) (zkf w w' ta tb tc):=zbg (zwU ho ho' ha hb hc hm) λ_ _ _ h=>zrh h
theorem zmm {op op':CmpOp}{w w':W2}(ho:OpR X (compareOp op) (upO X.K Z w))(ho':OpR X (compareOp op') (upO X.K Z w'))(ha:PD X Z a ta)(hb:PD X Z b tb)(hc:PD X Z c tc)
  (hm:lastMarks [op,op'] [b,c]=false:=by with_unfolding_all rfl):PDT X Z (.Compare a [op,op'] [b,c] pos) (zmB (zkf w w' ta tb tc)):=
 zmI (ztx ho ho' ha hb hc hm) λσ H Qb ⟨r,dl,S,Q,rs,rel,h,ret⟩=>zrh ⟨r,dl,S,_,rs,rel,h,znK ret⟩
def zm2:D→Bool
 | .non=>true
 | _=>false
def wIsN:W2:=λx y S Q=>match y with
 | .non=>Q (.bl (zm2 x)) S
 | _=>False
def zqk:W2:=λx y S Q=>match y with
 | .non=>Q (.bl (!zm2 x)) S
 | _=>False
theorem zrl {r:List Addr}{H:Hp}{d:D}{x:V}(p:Rp r H d x):decide (x=.non)=zm2 d:=by
 cases p <;> simp[zm2]
theorem zbB:OpR X (compareOp .Is) (upO X.K Z wIsN):=zfF zrO λx y H Qv ⟨r,S,dx,dy,Q,rel,px,py,q,ret⟩=>by
 cases py with
 | non=>exact⟨rfl,by rw[zrl px]; exact ret _ _ _ _ _ Ext.refl rel (.bl _) q⟩
 | _=>exact(show False from q).elim
theorem zg3:OpR X (compareOp .IsNot) (upO X.K Z zqk):=zfF zuQ λx y H Qv ⟨r,S,dx,dy,Q,rel,px,py,q,ret⟩=>by
 cases py with
 | non=>exact⟨rfl,by rw[zrl px]; exact ret _ _ _ _ _ Ext.refl rel (.bl _) q⟩
 | _=>exact(show False from q).elim
variable {e:Expr}{es:List Expr}
def dNil:TDA:=λ_ S Q=>Q [] S
def zqT (ta:TDE)(tr:TDA):TDA:=λdl S Q=>ta dl S λx S1=>tr dl S1 λxs S2=>Q (x::xs) S2
theorem zac:PDA X Z [] dNil:=zq8 zmX λσ H Qv ⟨r,dl,S,Q,rs,rel,h,ret⟩=>ret [] H r [] S Ext.refl rel Rps.nil h
theorem zaa {te:TDE}{t:TDA}(ha:PD X Z e te)(hr:PDA X Z es t)(hs:starEach (e::es) X.env=(false,eval e X.env)::starEach es X.env:=by rfl):PDA X Z (e::es) (zqT te t):=
 zq8 (zfe ha hr hs) λσ H Qv ⟨r,dl,S,Q,rs,rel,h,ret⟩=>⟨r,dl,S,_,rs,rel,h,λv H1 r1 d S1 e1 rel1 p1 h1=>⟨r1,dl,S1,_,rs.ext e1,rel1,h1,λvs H2 r2 ds S2 e2 rel2 p2 h2=>
  ret (v::vs) H2 r2 (d::ds) S2 (e1.trans e2) rel2 (Rps.cons (p1.ext e2) p2) h2⟩⟩
def dTup (t:TDA):TDE:=λdl S Q=>t dl S λds S1=>if ds.length≤1000 then Q (.tup ds) S1 else False
def dLst (t:TDA):TDE:=λdl S Q=>t dl S λds S1=>if ds.length≤1000 then Q (.ref S1.length) (S1++[.lst ds]) else False
theorem zj4 {A:Prop}{p:Prop} [Decidable p] (h:if p then A else False):p∧A:=by
 split at h
 ·exact⟨by assumption,h⟩
 ·exact h.elim
theorem zmw {n:Nat}(h:n≤1000):n≤sizeLine:=VaY (zoB h)
theorem zaz {x1}{t:TDA}(h:PDA X Z es t):PD X Z (.Tuple es x1 pos) (dTup t):=
 zbg (zxe h) λσ H Qv ⟨r,dl,S,Q,rs,rel,h,ret⟩=>⟨r,dl,S,_,rs,rel,h,λvs H1 r1 ds S1 e1 rel1 p1 h1=>by
  obtain⟨hl,h1⟩:=zj4 h1
  refine⟨by rw[← p1.1]; exact zmw hl,λp hp=>?_⟩
  have x:Ext r1 r1 H1 (upd H1 p (.tup vs)):=⟨λ_ _ q=>q,λa xs q=>zdN hp _ _ q,λa c q=>zdN hp _ _ q⟩
  exact ret _ _ r1 (.tup ds) S1 (e1.trans x) (rel1.same (zdN hp)) ((p1.ext x).tupR zcP) h1⟩
theorem zfL {r:List Addr}{p:Addr}{H:Hp}{n:Nat}(h:r.length=n):Rp (r++[p]) H (.ref n) (.ref p):=.ref (by subst h; simp)
theorem za6 {t:TDA}(h:PDA X Z es t):PD X Z (.List es pos) (dLst t):=
 zbg (zv9 h) λσ H Qv ⟨r,dl,S,Q,rs,rel,h,ret⟩=>⟨r,dl,S,_,rs,rel,h,λvs H1 r1 ds S1 e1 rel1 p1 h1=>by
  obtain⟨hl,h1⟩:=zj4 h1
  refine⟨by rw[← p1.1]; exact zmw hl,λp hp=>?_⟩
  obtain⟨rel2,x⟩:=rel1.push hp p1
  exact ret _ _ _ (.ref S1.length) _ (e1.trans x) rel2 (zfL rel1.len) h1⟩
def wIx:W2:=λx y S Q=>match x,y with
 | .tup xs,.int i=>match atI xs i with
  | some d=>Q d S
  | none=>False
 | .ref n,.int i=>match lAt S n with
  | some o=>match atI (zat o) i with
   | some d=>Q d S
   | none=>False
  | none=>False
 | _,_=>False
theorem zrm {r:List Addr}{H:Hp}{ds:List D}{vs:List V}{i:Int}{d:D}(h:Rps r H ds vs)(e:atI ds i=some d):∃v,atI vs i=some v∧Rp r H d v:=by
  unfold atI at e ⊢
  rw[← h.1]
  cases q:ixN ds.length i with
  | none=>
   rw[q] at e
   cases e
  | some j=>
    rw[q] at e
    exact h.get e
theorem do_ix:IxR X (upO X.K Z wIx):=by
 intro value slice pins s σ H x y v u Qv I rx ry h hs
 obtain⟨r,S,dx,dy,Q,rel,px,py,q,ret⟩:=h
 cases px with
 | @tup ds xs a e1 l1 f1=>
  cases py with
  | int i=>
   have q':(match atI ds i with | some d=>Q d S | none=>False):=q
   split at q'
   ·rename_i d e
    obtain⟨w,hw,pw⟩:=zrm ⟨l1,f1⟩ e
    exact zvn value slice pins s σ H _ _ v u Qv I rx ry ⟨a,xs,i,w,rfl,rfl,SqT.of e1,hw,ret w H r d S Ext.refl rel pw q'⟩ hs
   ·exact q'.elim
  | _=>exact(show False from q).elim
 | @ref n a e1=>
  cases py with
  | int i=>
   have q':(match lAt S n with | some o=>(match atI (zat o) i with | some d=>Q d S | none=>False) | none=>False):=q
   split at q'
   ·rename_i o eo
    obtain⟨eo,eL⟩:=zbL eo
    obtain⟨a',ha,ob⟩:=rel.at eo
    rw[e1] at ha; cases ha
    obtain⟨xs,sq,pr⟩:=ob.list eL
    split at q'
    ·rename_i d e
     obtain⟨w,hw,pw⟩:=zrm pr e
     exact zxa value slice pins s σ H _ _ v u Qv I rx ry ⟨a,xs,i,w,rfl,rfl,sq,hw,ret w H r d S Ext.refl rel pw q'⟩ hs
    ·exact q'.elim
   ·exact q'.elim
  | _=>exact(show False from q).elim
 | _=>exact(show False from q).elim
theorem zad (ha:PD X Z a ta)(hb:PD X Z b tb)(hs:znp b):PD X Z (.Subscript a b pos) (dOp wIx ta tb):=zbg (pe_ix do_ix ha hb hs) λ_ _ _ h=>zkd h
end
structure Bk (fs:List Addr)(H H':Hp)(B h:Heap)(ea:Addr):Prop where
 trk:∀b u,H' b=some u→∃o,B.get? b=some o
 old:∀b o,h.get? b=some o→H b=none→b ∉ fs→B.get? b=some o
 all:∀b o,h.get? b=some o→b ∉ fs→∃o',B.get? b=some o'
 new:H' ea=none
def CXE (P:Program)(w:World):CXT:=λouter H s E e s'=>∃(ea c:Addr) (a0:Value) (B:Heap) (H':Hp),e=.ref ea∧s'.os=s.os∧AllBare s'.gens∧Un (frs outer) [] H H' s.heap s'.heap∧HOk P w H' s'.heap∧
 Heap.FlyingW B outer ea (.ref c) a0 s'.heap∧Bk (frs outer) H H' B s.heap ea∧E (.ref c) none H'
section
variable {X:Cx}{pins:List (Addr×Obj)}{σ:St}{H:Hp}{s:Shared}
end
section
variable {P:Program}{w:World}{K:PySem.W.Frag}{mg:Str→Option Value}{base:Heap}{N:List Str}{qual:Str}{scope:Scope}{f:Addr}{cdv:Value}{A:Around}{outer:List Env}{s0:Shared}{H0:Hp}{E:XK}
end
structure Xc (K:PySem.W.Frag)(mg:Str→Option Value)(x:Str)(C:Addr)(bm:List Value)(nid:String):Prop where
 bound:mg x=some (.ref C)
 ex:PySem.W.excIn K C bm nid=true
abbrev WC:=List D→Sto→DK→Prop
abbrev Sd:=List D→Sto→DK→(Addr→Sto→Prop)→Prop
def upC (K:PySem.W.Frag)(Z:Zx)(w:WC):List V→Hp→VK→Prop:=λxs H Qv=>∃r S ds Q,Rel K Z r S H∧Rps r H ds xs∧w ds S Q∧Ret K Z r H Q Qv
def upF (K:PySem.W.Frag)(sd:Sd):Sp:=λvs H Qv E=>∃ex:Addr→Sto→Prop,upC K (Zc ex E) (λds S Q=>sd ds S Q ex) vs H Qv
def ziF (w:WC)(t:TDA):TDE:=λdl S Q=>t dl S λds S1=>w ds S1 Q
def ziL (ex:Ev→Addr→Sto→Prop)(sd:Sd)(t:TDA):TDE:=λdl S Q=>t dl S λds S1=>sd ds S1 Q (ex dl)
def zc5 (X:Cx)(W:St→XK):Prop:=∀(pins:List (Addr×Obj)) (σ:St) (H:Hp) (s:Shared) (e:Value) (s':Shared),Inv X pins σ H s→CXE X.prog X.w X.stack H s (W σ) e s'→X.xe e s'
section
variable {X:Cx}{k:Nat}{f:Addr}{fd:FuncData}{ps:List Str}{sp:Sp}{W:St→XK}{x:Str}{p pos:Pos}{e:Expr}{es:List Expr}{t:TA}
theorem zoJ {pins:List (Addr×Obj)}{σ:St}{H:Hp}{s:Shared}{Q:VK}{us:List Value}{vs:List V}(F:zbc X.prog X.w X.K X.mg X.base (CXE X.prog X.w) k f fd ps sp)(hr:zaO k X.A)(hb:zbF X.K fd ps [])(hx:zc5 X W)
  (I:Inv X pins σ H s)(r:zaA vs us)(h:sp vs H Q (W σ)):wpAny (model X.prog X.w) X.A (call (.ref f) us) (EP X pins σ Q) X.xe s:=by
 have hl:us.length=ps.length:=by rw[← r.length]; exact F.len _ _ _ _ h
 have hb':=hb s us I.kIn (by rw[VaS]; exact hl)
 rw[VaS] at hb'
 refine wpAny_call (codeAny_mono (F.run X.A X.stack s H ⟨us,[]⟩ us vs Q (W σ) hr I.env0 hb' r h) λz s' hq=>?_)
 cases z with
 | error ev=>exact hx pins σ H s ev s' I hq
 | ok fl=>
  cases fl with
  | ret u=>exact I.after hq
  | _=>exact False.elim hq
theorem zu3 (F:zbc X.prog X.w X.K X.mg X.base (CXE X.prog X.w) k f fd ps sp)(hr:zaO k X.A)(hg:Gl X x)(hm:X.mg x=some (.ref f))(hk:PySem.W.keepIn X.K (.ref f)=true)(hb:zbF X.K fd ps [])(hx:zc5 X W)
  (ha:PA X (e::es) t)(hdb:(x==("__debug__":Str))=false)(he:starEach (e::es) X.env=(false,eval e X.env)::starEach es X.env)(hpl:(backTo pos (starEach es X.env)).any (·.1)=false):
  PE X (.Call (.Name x p) (e::es) [] pos) (λσ H Q=>t σ H λvs H1=>sp vs H1 Q (W σ)):=by
 intro pins s σ H Q I h
 refine wpAny_Call_Name_kw (zrk I hg hm ?_ hdb)
 exact PySem.W.callWith_K (h₀:=X.base) I.ok.mod.kin hk (thn (ha pos pins s σ H _ I h) λus s1 ⟨vs,H1,I1,r,q⟩=>⟨I1.kIn,zoJ F hr hb hx I1 r q⟩) he hpl
end
section
variable {X:Cx}{Z:Zx}{x:Str}{p pos:Pos}{e:Expr}{es:List Expr}{t:TDA}{id T:String}{w:WC}
theorem zpx {σ:St}{H:Hp}{Qv:VK}(h:up X.K Z (ziF w t) σ H Qv):upA X.K Z t σ H λvs H1=>upC X.K Z w vs H1 Qv:=by
 obtain⟨r,dl,S,Q,rs,rel,h,ret⟩:=h
 exact⟨r,dl,S,_,rs,rel,h,λvs H1 r1 ds S1 e1 rel1 p1 h1=>⟨r1,S1,ds,Q,rel1,p1,h1,ret.ext e1⟩⟩
theorem zaG (hc:zbl X (.builtin id) (upC X.K Z w))(hg:Gl X x)(hm:X.mg x=none)(hv:bootBuiltins x=some (.builtin id))(ha:PDA X Z (e::es) t)(hn:x≠"__name__":=by decide)(hdb:(x==("__debug__":Str))=false:=by decide)
  (he:starEach (e::es) X.env=(false,eval e X.env)::starEach es X.env:=by rfl)(hpl:(backTo pos (starEach es X.env)).any (·.1)=false:=by rfl):PD X Z (.Call (.Name x p) (e::es) [] pos) (ziF w t):=
 zbg (znq hc hg hm hv ha hn hdb he hpl) λ_ _ _ h=>zpx h
theorem zjL (hc:zbl X (.type T) (upC X.K Z w))(hg:Gl X x)(hm:X.mg x=none)(hv:bootBuiltins x=some (.type T))(ha:PDA X Z (e::es) t)(hn:x≠"__name__":=by decide)(hdb:(x==("__debug__":Str))=false:=by decide)
  (he:starEach (e::es) X.env=(false,eval e X.env)::starEach es X.env:=by rfl)(hpl:(backTo pos (starEach es X.env)).any (·.1)=false:=by rfl):PD X Z (.Call (.Name x p) (e::es) [] pos) (ziF w t):=
 zbg (zvY hc hg hm hv ha hn hdb he hpl) λ_ _ _ h=>zpx h
theorem zn9 {sd:Sd}{r:List Addr}{S:Sto}{H:Hp}{dl:Ev}{σ:St}{ds:List D}{vs:List V}{Q:DK}{Qv:VK}(rs:Rs r H dl σ)(rel:Rel X.K Z r S H)(p:Rps r H ds vs)(h:sd ds S Q (Z.ex dl))(ret:Ret X.K Z r H Q Qv):upF X.K sd vs H Qv (Z.w σ):=
 ⟨Z.ex dl,r,S,ds,Q,⟨rel.b,λ_ _ c H' r' S' x _ rb q=>rel.xw dl σ c H' r' S' x (rs.ext x) rb q⟩,p,h,λv H' r' d S' x rel' pv q=>ret v H' r' d S' x ⟨rel'.b,rel.xw.ext x⟩ pv q⟩
theorem zyw {k:Nat}{f:Addr}{fd:FuncData}{ps:List Str}{sd:Sd}(F:zbc X.prog X.w X.K X.mg X.base (CXE X.prog X.w) k f fd ps (upF X.K sd))(hr:zaO k X.A)(hg:Gl X x)(hm:X.mg x=some (.ref f))(hk:PySem.W.keepIn X.K (.ref f)=true)
  {ex:Ev→Addr→Sto→Prop}{W:St→XK}(hb:zbF X.K fd ps [])(hx:zc5 X W)(ha:PDA X ⟨ex,W⟩ (e::es) t)(hdb:(x==("__debug__":Str))=false:=by decide)(he:starEach (e::es) X.env=(false,eval e X.env)::starEach es X.env:=by rfl)
  (hpl:(backTo pos (starEach es X.env)).any (·.1)=false:=by rfl):PD X ⟨ex,W⟩ (.Call (.Name x p) (e::es) [] pos) (ziL ex sd t):=
 zbg (zu3 F hr hg hm hk hb hx ha hdb he hpl) λσ H Qv ⟨r,dl,S,Q,rs,rel,h,ret⟩=>⟨r,dl,S,_,rs,rel,h,λvs H1 r1 ds S1 e1 rel1 p1 h1=>zn9 (Z:=⟨ex,W⟩) (rs.ext e1) rel1 p1 h1 (ret.ext e1)⟩
def wAbs:WC:=λds S Q=>match ds with
 | [.int i]=>Q (.int (if i<0 then -i else i)) S
 | _=>False
theorem zdh:zbl X (.builtin "abs") (upC X.K Z wAbs):=zoK zuR λxs H Qv ⟨r,S,ds,Q,rel,ps,q,ret⟩=>by
 unfold wAbs at q
 split at q
 ·rename_i i
  obtain⟨v,vs,rfl,p1,p2⟩:=ps.uncons
  have z:=p2.unnil
  subst z
  cases p1
  exact⟨i,rfl,ret _ _ _ _ _ Ext.refl rel (.int _) q⟩
 ·exact q.elim
def zcV:List D→Option (List Int)
 | []=>some []
 | .int i::r=>(zcV r).map (i::·)
 | _::_=>none
def zej (le:Int→Int→Prop)(two:Int→Int→Int):WC:=λds S Q=>match ds with
 | [.int i,.int j]=>Q (.int (two i j)) S
 | [.ref n]=>match lAt S n with
  | some o=>match zcV (zat o) with
   | some xs=>xs≠[]∧∀m,m∈xs→(∀y∈xs,le y m)→Q (.int m) S
   | none=>False
  | none=>False
 | _=>False
abbrev wMax:WC:=zej (λy m=>y≤m) λi j=>if j > i then j else i
abbrev wMin:WC:=zej (λy m=>m≤y) λi j=>if j<i then j else i
theorem znL {r:List Addr}{H:Hp}:∀ {ds:List D} {ns:List Int} {vs:List V} {us:List Value},zcV ds=some ns→Rps r H ds vs→zaA vs us→∃xs:List (Int×Tok),us.toArray=intItems xs.toArray∧xs.map (·.1)=ns
 | [],ns,vs,us,e,p,q=>by
  have z:=p.unnil
  subst z
  cases q
  simp[zcV] at e
  subst e
  exact⟨[],by simp[intItems],rfl⟩
 | d::ds,ns,vs,us,e,p,q=>by
  obtain⟨v,vs',rfl,p1,p2⟩:=p.uncons
  cases d with
  | int i=>
   cases p1
   cases q with
   | cons q1 q2=>
    obtain⟨t,rfl⟩:=q1
    simp only[zcV,Vai] at e
    obtain⟨ms,e1,rfl⟩:=e
    obtain⟨xs,h1,h2⟩:=znL e1 p2 q2
    refine⟨(i,t)::xs,?_,by simp[h2]⟩
    simp[intItems] at h1 ⊢
    exact h1
  | _=>simp[zcV] at e
theorem zra (f:Nat→Int):∀k j,j≤k→f j≤f (argBest (λi j=>decide (f i > f j)) k)
 | 0,j,h=>by
  have z:j=0:=by omega
  subst z
  exact VaE _
 | k+1,j,h=>by
  have ih:=zra f k
  unfold argBest
  split
  ·rename_i hb
   have hb':f (k+1) > f (argBest (λi j=>decide (f i > f j)) k):=of_decide_eq_true hb
   by_cases z:j=k+1
   ·subst z; exact VaE _
   ·have:=ih j (by omega); omega
  ·rename_i hb
   have hb':¬ f (k+1) > f (argBest (λi j=>decide (f i > f j)) k):=λq=>hb (decide_eq_true q)
   by_cases z:j=k+1
   ·subst z; omega
   ·exact ih j (by omega)
theorem zqm (f:Nat→Int):∀k j,j≤k→f (argBest (λi j=>decide (f i<f j)) k)≤f j
 | 0,j,h=>by
  have z:j=0:=by omega
  subst z
  exact VaE _
 | k+1,j,h=>by
  have ih:=zqm f k
  unfold argBest
  split
  ·rename_i hb
   have hb':f (k+1)<f (argBest (λi j=>decide (f i<f j)) k):=of_decide_eq_true hb
   by_cases z:j=k+1
   ·subst z; exact VaE _
   ·have:=ih j (by omega); omega
  ·rename_i hb
   have hb':¬ f (k+1)<f (argBest (λi j=>decide (f i<f j)) k):=λq=>hb (decide_eq_true q)
   by_cases z:j=k+1
   ·subst z; omega
   ·exact ih j (by omega)
theorem znV (bt:Nat→Nat→Bool):∀k,argBest bt k≤k
 | 0=>Vab _
 | k+1=>by
  unfold argBest
  split
  ·exact Vab _
  ·exact Nat.le_succ_of_le (znV bt k)
theorem zoC {xs:List (Int×Tok)}{ns:List Int}(h:xs.map (·.1)=ns){j:Nat}{y:Int}(e:ns[j]?=some y):numAt xs.toArray j=y:=by
  subst h
  unfold numAt
  rw[Vae] at e
  simp only[List.getElem?_toArray]
  cases q:xs[j]? with
  | none=>
   rw[q] at e
   cases e
  | some z=>rw[q] at e; simpa using e
theorem zpv {xs:List (Int×Tok)}{ns:List Int}(h:xs.map (·.1)=ns){j:Nat}(hj:j<ns.length):numAt xs.toArray j∈ns:=by
 have e:ns[j]?=some ns[j]:=by simp[hj]
 rw[zoC h e]
 exact List.getElem_mem hj
theorem zbn (hc:X.calm=true):zbl X (.builtin "max") (upC X.K Z wMax):=by
 intro pins s σ H xs us Qv I rv h
 obtain⟨r,S,ds,Q,rel,ps,q,ret⟩:=h
 unfold wMax zej at q
 split at q
 ·rename_i i j
  obtain⟨v,vs,rfl,p1,p2⟩:=ps.uncons
  obtain⟨v2,vs2,rfl,p3,p4⟩:=p2.uncons
  have z:=p4.unnil
  subst z
  cases p1
  cases p3
  exact zr1 hc pins s σ H _ us Qv I rv ⟨i,j,rfl,ret _ _ _ _ _ Ext.refl rel (.int _) q⟩
 ·rename_i n
  obtain⟨v,vs,rfl,p1,p2⟩:=ps.uncons
  have z:=p2.unnil
  subst z
  split at q
  ·rename_i o eo
   split at q
   ·rename_i ns en
    obtain⟨hne,q⟩:=q
    obtain⟨eo,eL⟩:=zbL eo
    obtain⟨a,ha,ob⟩:=rel.at eo
    cases p1 with
    | ref h1=>
     rw[h1] at ha; cases ha
     obtain⟨ys,sq,pr⟩:=ob.list eL
     obtain⟨u,rfl,ru⟩:=zfy rv
     cases ru
     obtain⟨its,ri,pl,hz⟩:=I.list sq
     obtain⟨zs,hz1,hz2⟩:=znL en pr ri
     have hl:zs.length=ns.length:=by rw[← hz2,Vaa]
     have hpos:0<ns.length:=List.length_pos_iff.mpr hne
     have isl:=pl.isList
     rw[hz1] at isl
     refine max_intList (I.ok.hd hc) isl (by simp; omega) λv h' tk hv hk=>?_
     have hvi:=intItems_at hv
     obtain⟨t,rfl⟩:=hvi
     have hb:=znV (λi j=>decide (numAt zs.toArray i > numAt zs.toArray j)) (zs.toArray.size-1)
     have hsz:zs.toArray.size=ns.length:=by simp[hl]
     refine⟨.int _,H,I.kept hk,⟨_,rfl⟩,ret _ _ _ _ _ Ext.refl rel (.int _) (q _ (zpv hz2 (by omega)) λy hy=>?_)⟩
     obtain⟨j,hj,ej⟩:=VaL.mp hy
     have e1:=zoC hz2 (show ns[j]?=some y by simp[hj,ej])
     rw[← e1]
     exact zra _ _ j (by omega)
   ·exact q.elim
  ·exact q.elim
 ·exact q.elim
theorem zcn (hc:X.calm=true):zbl X (.builtin "min") (upC X.K Z wMin):=by
 intro pins s σ H xs us Qv I rv h
 obtain⟨r,S,ds,Q,rel,ps,q,ret⟩:=h
 unfold wMin zej at q
 split at q
 ·rename_i i j
  obtain⟨v,vs,rfl,p1,p2⟩:=ps.uncons
  obtain⟨v2,vs2,rfl,p3,p4⟩:=p2.uncons
  have z:=p4.unnil
  subst z
  cases p1
  cases p3
  exact zyv hc pins s σ H _ us Qv I rv ⟨i,j,rfl,ret _ _ _ _ _ Ext.refl rel (.int _) q⟩
 ·rename_i n
  obtain⟨v,vs,rfl,p1,p2⟩:=ps.uncons
  have z:=p2.unnil
  subst z
  split at q
  ·rename_i o eo
   split at q
   ·rename_i ns en
    obtain⟨hne,q⟩:=q
    obtain⟨eo,eL⟩:=zbL eo
    obtain⟨a,ha,ob⟩:=rel.at eo
    cases p1 with
    | ref h1=>
     rw[h1] at ha; cases ha
     obtain⟨ys,sq,pr⟩:=ob.list eL
     obtain⟨u,rfl,ru⟩:=zfy rv
     cases ru
     obtain⟨its,ri,pl,hz⟩:=I.list sq
     obtain⟨zs,hz1,hz2⟩:=znL en pr ri
     have hl:zs.length=ns.length:=by rw[← hz2,Vaa]
     have hpos:0<ns.length:=List.length_pos_iff.mpr hne
     have isl:=pl.isList
     rw[hz1] at isl
     refine min_intList (I.ok.hd hc) isl (by simp; omega) λv h' tk hv hk=>?_
     have hvi:=intItems_at hv
     obtain⟨t,rfl⟩:=hvi
     have hb:=znV (λi j=>decide (numAt zs.toArray i<numAt zs.toArray j)) (zs.toArray.size-1)
     have hsz:zs.toArray.size=ns.length:=by simp[hl]
     refine⟨.int _,H,I.kept hk,⟨_,rfl⟩,ret _ _ _ _ _ Ext.refl rel (.int _) (q _ (zpv hz2 (by omega)) λy hy=>?_)⟩
     obtain⟨j,hj,ej⟩:=VaL.mp hy
     have e1:=zoC hz2 (show ns[j]?=some y by simp[hj,ej])
     rw[← e1]
     exact zqm _ _ j (by omega)
   ·exact q.elim
  ·exact q.elim
 ·exact q.elim
def zhU:WC:=λds S Q=>match ds with
 | [.tup xs]=>Q (.int xs.length) S
 | [.ref n]=>match lAt S n with
  | some o=>Q (.int (zat o).length) S
  | none=>False
 | _=>False
theorem zcp:zbl X (.builtin "len") (upC X.K Z zhU):=zoK zxF λxs H Qv ⟨r,S,ds,Q,rel,ps,q,ret⟩=>by
 unfold zhU at q
 split at q
 ·rename_i ys
  obtain⟨v,vs,rfl,p1,p2⟩:=ps.uncons
  have z:=p2.unnil
  subst z
  obtain⟨a,zs,rfl,h1,h2⟩:=p1.untup
  exact⟨a,zs,rfl,.inr (SqT.of h1),by rw[← h2.1]; exact ret _ _ _ _ _ Ext.refl rel (.int _) q⟩
 ·rename_i n
  obtain⟨v,vs,rfl,p1,p2⟩:=ps.uncons
  have z:=p2.unnil
  subst z
  split at q
  ·rename_i o eo
   obtain⟨eo,eL⟩:=zbL eo
   obtain⟨a,ha,ob⟩:=rel.at eo
   cases p1 with
   | ref h1=>
    rw[h1] at ha; cases ha
    obtain⟨ys,sq,pr⟩:=ob.list eL
    exact⟨_,ys,rfl,.inl sq,by rw[← pr.1]; exact ret _ _ _ _ _ Ext.refl rel (.int _) q⟩
  ·exact q.elim
 ·exact q.elim
def zc4 (t T:String):Bool:=t==T||(t == "bool"&&T == "int")
def zqC (T:String)(te:TDE):TDE:=λdl S Q=>te dl S λd S1=>match d with
 | .ref _=>False
 | .exc _=>False
 | .non=>Q (.bl (zc4 "NoneType" T)) S1
 | .bl _=>Q (.bl (zc4 "bool" T)) S1
 | .int _=>Q (.bl (zc4 "int" T)) S1
 | .str _=>Q (.bl (zc4 "str" T)) S1
 | .tup _=>Q (.bl (zc4 "tuple" T)) S1
def Kit (K:PySem.W.Frag)(T:String):Prop:=∀t∈["NoneType","bool","int","str","tuple"],PySem.W.kitOne K (.type t) (.type T)=some (zc4 t T)
def rInst (K:PySem.W.Frag):List V→Hp→VK→Prop:=λxs H Qv=>∃x T t b,xs=[x,.ty T]∧zcf K H x t∧PySem.W.kitOne K t (.type T)=some b∧Qv (.bl b) H
theorem zqf:zbl X (.builtin "isinstance") (rInst X.K):=by
 intro pins s σ H xs us Q I r h
 obtain⟨x,T,t,b,rfl,ty,e,q⟩:=h
 obtain⟨u,w',rfl,r1,r2⟩:=zn5 r
 cases r2
 exact zu4 I r1 ty e λtk=>⟨.bl b,H,I.tok tk,rfl,q⟩
theorem zn3 {T:String}{te:TDE}{y:Str}{p2:Pos}(KT:Kit X.K T)(hg:Gl X "isinstance")(hm:X.mg "isinstance"=none)(hg2:Gl X y)(hm2:X.mg y=none)(hv2:bootBuiltins y=some (.type T))(ha:PD X Z e te)
  (hv:bootBuiltins "isinstance"=some (.builtin "isinstance"):=by exact PyProof.Rows.Boot.«isinstance»)
  (hn2:y≠"__name__":=by decide)(hd2:(y==("__debug__":Str))=false:=by decide)(he2:starEach [e,.Name y p2] X.env=(false,eval e X.env)::starEach [.Name y p2] X.env:=by rfl)
  (he3:starEach [.Name y p2] X.env=(false,eval (.Name y p2) X.env)::starEach [] X.env:=by rfl)(hpl:(backTo pos (starEach [.Name y p2] X.env)).any (·.1)=false:=by rfl):
  PD X Z (.Call (.Name "isinstance" p) [e,.Name y p2] [] pos) (zqC T te):=
 zbg (znq zqf hg hm hv (zfe ha (zfe (zqc (v:=.ty T) hg2 hm2 hv2 rfl hn2 hd2) zmX he3) he2) (by decide) (by decide) he2 hpl) λσ H Qv ⟨r,dl,S,Q,rs,rel,h,ret⟩=>
  ⟨r,dl,S,_,rs,rel,h,λv H1 r1 d S1 e1 rel1 p1 h1=>by
   cases p1 with
   | non=>exact⟨_,T,_,_,rfl,.non,KT _ (by simp),ret _ _ _ _ _ e1 rel1 (.bl _) h1⟩
   | bl b=>exact⟨_,T,_,_,rfl,.bl b,KT _ (by simp),ret _ _ _ _ _ e1 rel1 (.bl _) h1⟩
   | int b=>exact⟨_,T,_,_,rfl,.int b,KT _ (by simp),ret _ _ _ _ _ e1 rel1 (.bl _) h1⟩
   | str b=>exact⟨_,T,_,_,rfl,.str b,KT _ (by simp),ret _ _ _ _ _ e1 rel1 (.bl _) h1⟩
   | tup e2 _ _=>exact⟨_,T,_,_,rfl,.tup e2,KT _ (by simp),ret _ _ _ _ _ e1 rel1 (.bl _) h1⟩
   | ref _=>exact(show False from h1).elim
   | exc _=>exact(show False from h1).elim⟩
end
section
variable {X:Cx}{Z:Zx}{st:Stmt}{zbq:List Stmt}{t u:TDS}{e:Expr}{te:TDE}{pos:Pos}
def zmi:TDS:=λE dl S=>E.nx dl S
def zcF (t u:TDS):TDS:=λE dl S=>t { nx:=λdl' S'=>u E dl' S',rt:=E.rt,bk:=E.bk,ct:=E.ct } dl S
theorem zav:zch X Z [] zmi:=zpl zu9 λF σ H ⟨r,dl,S,E,rs,rel,h,ret⟩=>ret.nx σ H r dl S Ext.refl rs rel h
theorem zae (h1:PDS X Z st t)(h2:zch X Z zbq u):zch X Z (st::zbq) (zcF t u):=
 zpl (zxN h1 h2) λF σ H ⟨r,dl,S,E,rs,rel,h,ret⟩=>⟨r,dl,S,_,rs,rel,h,λσ' H' r' dl' S' x rs' rel' q=>⟨r',dl',S',E,rs',rel',q,ret.ext x⟩,ret.bk,ret.ct,ret.rt⟩
theorem zag (h1:PDS X Z st t):zch X Z [st] t:=zwp h1
def zqL (te:TDE):TDS:=λE dl S=>te dl S λ_ S1=>E.nx dl S1
theorem zb6 (he:PD X Z e te)(hs:swapsWith e none pos.line X.env=pure false:=by rfl):PDS X Z (.Expr e pos) (zqL te):=
 zbO (zsd he hs) λF σ H ⟨r,dl,S,E,rs,rel,h,ret⟩=>⟨r,dl,S,_,rs,rel,h,λv H1 r1 d S1 x rel1 p q=>ret.nx σ H1 r1 dl S1 x (rs.ext x) rel1 q⟩
def dRet (te:TDE):TDS:=λE dl S=>te dl S E.rt
theorem zak (he:PD X Z e te):PDS X Z (.Return (some e) pos) (dRet te):=
 zbO (zxh he) λF σ H ⟨r,dl,S,E,rs,rel,h,ret⟩=>⟨r,dl,S,_,rs,rel,h,ret.rt⟩
def dRetN:TDS:=λE _ S=>E.rt .non S
def dIf (c:TDT)(t u:TDS):TDS:=λE dl S=>c dl S λk S1=>if k=true then t E dl S1 else u E dl S1
theorem zau {c:Expr}{a b:List Stmt}{tc:TDT}(hc:PDT X Z c tc)(ha:zch X Z a t)(hb:zch X Z b u):PDS X Z (.If c a b pos) (dIf tc t u):=
 zbO (ps_if hc ha hb) λF σ H ⟨r,dl,S,E,rs,rel,h,ret⟩=>⟨r,dl,S,_,rs,rel,h,λk H1 r1 S1 x rel1 q=>by
  cases k with
  | true=>exact zcc ⟨r1,dl,S1,E,rs.ext x,rel1,(by simpa using q),ret.ext x⟩
  | false=>exact zbM ⟨r1,dl,S1,E,rs.ext x,rel1,(by simpa using q),ret.ext x⟩⟩
def zlp (i:Nat)(te:TDE):TDS:=λE dl S=>te dl S λd S1=>E.nx (dl.set i (some d)) S1
theorem zal {i:Nat}{x:Str}{pos':Pos}(hN:X.N.Nodup)(hi:X.N[i]?=some x)(hx:Loc X.env.scope x)(he:PD X Z e te)(hs:swapsWith e (some (.Name x pos')) pos.line X.env=pure false:=by rfl)
  (hf:X.fn x=true∨X.env.scope.names.lookup x=some .local:=by first | exact .inl rfl | exact .inr rfl | assumption):PDS X Z (.Assign [.Name x pos'] e pos) (zlp i te):=
 zbO (ztk hN hi hx he hs hf) λF σ H ⟨r,dl,S,E,rs,rel,h,ret⟩=>⟨r,dl,S,_,rs,rel,h,λv H1 r1 d S1 x rel1 p q=>ret.nx _ H1 r1 _ S1 x ((rs.ext x).set i p) rel1 q⟩
def zuY (c:TDT)(tb:TDS):TDS:=λE dl S=>∃W:Nat→Ev→Sto→Prop,(∃m,W m dl S)∧∀m dl S,W m dl S→
 c dl S λk S1=>if k=true then tb { nx:=λdl' S'=>∃m',m'<m∧W m' dl' S',rt:=E.rt,bk:=E.nx,ct:=λdl' S'=>∃m',m'<m∧W m' dl' S' } dl S1 else E.nx dl S1
theorem zoD {c:Expr}{body:List Stmt}{tc:TDT}{tb:TDS}(hp:PassesOwn (model X.prog X.w) X.A X.env X.xe)(hc:PDT X Z c tc)(hb:zch X Z body tb):PDS X Z (.While c body [] pos) (zuY tc tb):=
 zbO (zvm hp hc hb) λF σ H ⟨r,dl,S,E,rs,rel,⟨W,⟨m0,w0⟩,turn⟩,ret⟩=>by
  refine⟨λm σ' H'=>∃r' dl' S',Ext r r' H H'∧Rs r' H' dl' σ'∧Rel X.K Z r' S' H'∧W m dl' S',⟨m0,r,dl,S,Ext.refl,rs,rel,w0⟩,?_⟩
  rintro m σ1 H1 ⟨r1,dl1,S1,x1,rs1,rel1,w1⟩
  refine⟨r1,dl1,S1,_,rs1,rel1,turn m dl1 S1 w1,λk H2 r2 S2 x2 rel2 q2=>?_⟩
  cases k with
  | true=>
   refine zcc ⟨λσ' H'=>∃m',m'<m∧∃r' dl' S',Ext r r' H H'∧Rs r' H' dl' σ'∧Rel X.K Z r' S' H'∧W m' dl' S',λ_ _ z=>z,r2,dl1,S2,_,rs1.ext x2,rel2,(by simpa using q2),?_⟩
   have go:∀σ' H' r' dl' S',Ext r2 r' H2 H'→Rs r' H' dl' σ'→Rel X.K Z r' S' H'→(∃m',m'<m∧W m' dl' S')→∃m',m'<m∧∃r' dl' S',Ext r r' H H'∧Rs r' H' dl' σ'∧Rel X.K Z r' S' H'∧W m' dl' S':=
    λσ' H' r' dl' S' x rs' rel' ⟨m',hm,w'⟩=>⟨m',hm,r',dl',S',x1.trans (x2.trans x),rs',rel',w'⟩
   exact⟨go,λσ' H' r' dl' S' x rs' rel' q=>ret.nx σ' H' r' dl' S' (x1.trans (x2.trans x)) rs' rel' q,go,ret.rt.ext (x1.trans x2)⟩
  | false=>exact zbM (ret.nx σ1 H2 r2 dl1 S2 (x1.trans x2) (rs1.ext x2) rel2 (by simpa using q2))
def dFor (i:Nat)(tl:TDE)(tb:TDS):TDS:=λE dl S=>tl dl S λd S1=>match d with
 | .ref n=>(lAt S1 n).isSome=true∧∃W:Nat→Nat→Ev→Sto→Prop,(∃m,W 0 m dl S1)∧∀k m dl S,W k m dl S→match lAt S n with
  | some o=>match (zat o)[k]? with
   | some x=>tb { nx:=λdl' S'=>∃m',m'<m∧W (k+1) m' dl' S',rt:=E.rt,bk:=E.nx,ct:=λdl' S'=>∃m',m'<m∧W (k+1) m' dl' S' } (dl.set i (some x)) S
   | none=>E.nx dl S
  | none=>False
 | _=>False
theorem zcN {i:Nat}{x:Str}{pos':Pos}{iter:Expr}{body:List Stmt}{tl:TDE}{tb:TDS}(hp:PassesOwn (model X.prog X.w) X.A X.env X.xe)(hc:X.calm=true)(hN:X.N.Nodup)(hi:X.N[i]?=some x)(hx:Loc X.env.scope x)
  (hl:PD X Z iter tl)(hb:zch X Z body tb)(hf:X.fn x=true∨X.env.scope.names.lookup x=some .local:=by first | exact .inl rfl | exact .inr rfl | assumption)
  (hs:∀y,foldedSetIterable iter X.env y=pure y:=by intro _; rfl):PDS X Z (.For (.Name x pos') iter body [] pos) (dFor i tl tb):=
 zbO (zg4 hp hc (znb hl) (zhJ hN hi hx hf) hb hs) λF σ H ⟨r,dl,S,E,rs,rel,h,ret⟩=>by
  refine⟨r,dl,S,_,rs,rel,h,λv H1 r1 d S1 x1 rel1 p1 q1=>?_⟩
  cases p1 with
  | @ref n a hn=>
   obtain⟨hsome,W,⟨m0,w0⟩,turn⟩:=q1
   have sql:∀ {r':List Addr} {S':Sto} {H':Hp} {o:Ob},Ext r1 r' H1 H'→Rel X.K Z r' S' H'→lAt S' n=some o→∃xs,SqL X.K H' a xs∧Rps r' H' (zat o) xs:=λ{r' S' H' o} x' rel' eo=>by
    obtain⟨eo,eL⟩:=zbL eo
    obtain⟨a',ha,ob⟩:=rel'.at eo
    rw[x'.adr n a hn] at ha; cases ha
    exact ob.list eL
   obtain⟨o1,eo1⟩:=Va2.mp hsome
   obtain⟨xs1,sq1,_⟩:=sql Ext.refl rel1 eo1
   refine⟨a,rfl,⟨xs1,sq1⟩,λk m σ' H'=>∃r' dl' S',Ext r1 r' H1 H'∧Rs r' H' dl' σ'∧Rel X.K Z r' S' H'∧W k m dl' S',⟨m0,r1,dl,S1,Ext.refl,rs.ext x1,rel1,w0⟩,?_⟩
   rintro k m σ2 H2 ⟨r2,dl2,S2,x2,rs2,rel2,w2⟩
   have q:=turn k m dl2 S2 w2
   split at q
   ·rename_i o eo
    obtain⟨xs,sq,pr⟩:=sql x2 rel2 eo
    split at q
    ·rename_i y ey
     obtain⟨v,hv,pv⟩:=pr.get ey
     have go:∀ {r3:List Addr} {H3:Hp},Ext r2 r3 H2 H3→∀σ' H' r' dl' S',Ext r3 r' H3 H'→Rs r' H' dl' σ'→Rel X.K Z r' S' H'→(∃m',m'<m∧W (k+1) m' dl' S')→∃m',m'<m∧∃r' dl' S',Ext r1 r' H1 H'∧Rs r' H' dl' σ'∧Rel X.K Z r' S' H'∧W (k+1) m' dl' S':=
      λ{r3 H3} x3 σ' H' r' dl' S' x rs' rel' ⟨m',hm,w'⟩=>⟨m',hm,r',dl',S',x2.trans (x3.trans x),rs',rel',w'⟩
     refine .inr ⟨⟨xs,v,sq,hv⟩,λσ' H'=>∃m',m'<m∧∃r' dl' S',Ext r1 r' H1 H'∧Rs r' H' dl' σ'∧Rel X.K Z r' S' H'∧W (k+1) m' dl' S',λ_ _ z=>z,λv' H' y'=>?_⟩
     obtain⟨eH,y'⟩:=y'
     subst eH
     have ev:v'=v:=by
      have z:=y' xs sq
      rw[hv] at z; exact(Option.some.inj z).symm
     subst ev
     exact⟨r2,_,S2,_,rs2.set i pv,rel2,q,go Ext.refl,λσ' H' r' dl' S' x rs' rel' z=>ret.nx σ' H' r' dl' S' (x1.trans (x2.trans x)) rs' rel' z,go Ext.refl,ret.rt.ext (x1.trans x2)⟩
    ·rename_i ey
     have hlen:(zat o).length≤k:=VaC.mp ey
     exact .inl ⟨⟨xs,sq,by rw[← pr.1]; exact hlen⟩,ret.nx σ2 H2 r2 dl2 S2 (x1.trans x2) rs2 rel2 q⟩
   ·exact q.elim
  | _=>exact(show False from q1).elim
def dForR (i:Nat)(ta:TDA)(tb:TDS):TDS:=λE dl S=>ta dl S λds S1=>match ds with
 | [.int j]=>(-(2^62)≤j∧j<2^62)∧∃W:Nat→Ev→Sto→Prop,W 0 dl S1∧∀k dl S,W k dl S→
   if k<j.toNat then tb { nx:=λdl' S'=>W (k+1) dl' S',rt:=E.rt,bk:=E.nx,ct:=λdl' S'=>W (k+1) dl' S' } (dl.set i (some (.int k))) S else E.nx dl S
 | _=>False
theorem zo7 {i:Nat}{x:Str}{pos2 pos' p:Pos}{a:Expr}{body:List Stmt}{ta:TDA}{tb:TDS}(hp:PassesOwn (model X.prog X.w) X.A X.env X.xe)(hc:X.calm=true)(hN:X.N.Nodup)(hi:X.N[i]?=some x)(hx:Loc X.env.scope x)
  (hg:Gl X "range")(hm:X.mg "range"=none)(ha:PDA X Z [a] ta)(hb:zch X Z body tb)(hf:X.fn x=true∨X.env.scope.names.lookup x=some .local:=by first | exact .inl rfl | exact .inr rfl | assumption)
  (hs:∀y,foldedSetIterable (.Call (.Name "range" p) [a] [] pos) X.env y=pure y:=by intro _; rfl)(hst:starEach [a] X.env=[(false,eval a X.env)]:=by rfl):
  PDS X Z (.For (.Name x pos') (.Call (.Name "range" p) [a] [] pos) body [] pos2) (dForR i ta tb):=
 zbO (zg4 hp hc (zqJ hg hm ha hst) (zhJ hN hi hx hf) hb hs) λF σ H ⟨r,dl,S,E,rs,rel,h,ret⟩=>by
  refine⟨r,dl,S,_,rs,rel,h,λvs H1 r1 ds S1 x1 rel1 p1 q1=>?_⟩
  split at q1
  ·rename_i j
   obtain⟨v,vs',rfl,p2,p3⟩:=p1.uncons
   have z:=p3.unnil
   subst z
   cases p2
   obtain⟨⟨b1,b2⟩,W,w0,turn⟩:=q1
   refine⟨j,rfl,b1,b2,λk m σ' H'=>m=j.toNat-k∧∃r' dl' S',Ext r1 r' H1 H'∧Rs r' H' dl' σ'∧Rel X.K Z r' S' H'∧W k dl' S',⟨j.toNat,by simp,r1,dl,S1,Ext.refl,rs.ext x1,rel1,w0⟩,?_⟩
   rintro k m σ2 H2 ⟨em,r2,dl2,S2,x2,rs2,rel2,w2⟩
   have q:=turn k dl2 S2 w2
   split at q
   ·rename_i hk
    have go:∀σ' H' r' dl' S',Ext r2 r' H2 H'→Rs r' H' dl' σ'→Rel X.K Z r' S' H'→W (k+1) dl' S'→∃r' dl' S',Ext r1 r' H1 H'∧Rs r' H' dl' σ'∧Rel X.K Z r' S' H'∧W (k+1) dl' S':=
     λσ' H' r' dl' S' x rs' rel' w'=>⟨r',dl',S',x2.trans x,rs',rel',w'⟩
    have pk:Rp r2 H2 (.int (k:Int)) (.int (0+(k:Int))):=by rw[Int.zero_add]; exact .int _
    refine .inr ⟨hk,λσ' H'=>∃r' dl' S',Ext r1 r' H1 H'∧Rs r' H' dl' σ'∧Rel X.K Z r' S' H'∧W (k+1) dl' S',λσ' H' z=>⟨j.toNat-(k+1),by omega,rfl,z⟩,λv' H' y'=>?_⟩
    obtain⟨eH,y'⟩:=y'
    subst eH
    subst y'
    exact⟨r2,_,S2,_,rs2.set i pk,rel2,q,go,λσ' H' r' dl' S' x rs' rel' z=>ret.nx σ' H' r' dl' S' (x1.trans (x2.trans x)) rs' rel' z,go,ret.rt.ext (x1.trans x2)⟩
   ·rename_i hk
    exact .inl ⟨by show j.toNat≤k; omega,ret.nx σ2 H2 r2 dl2 S2 (x1.trans x2) rs2 rel2 q⟩
  ·exact q1.elim
end
def zen (N:List Str)(ds:List D):Ev:=ds.map some++List.replicate (N.length-ds.length) none
theorem zyr {r:List Addr}{H:Hp}{N:List Str}{ds:List D}{vs:List V}(h:Rps r H ds vs):Rs r H (zen N ds) (L2.zcH N vs):=by
  refine⟨by simp[zen,L2.zcH,h.1],λi d e=>?_⟩
  unfold zen at e
  by_cases hi:i<ds.length
  · rw[Vao (by simpa using hi),Vae] at e
    cases q:ds[i]? with
    | none=>
   rw[q] at e
   cases e
    | some z=>
      rw[q] at e
      cases e
      obtain⟨v,hv,pv⟩:=h.get q
      refine⟨v,?_,pv⟩
      unfold L2.zcH
      rw[Vao (by simpa [h.1] using hi),Vae,hv]
      rfl
  · rw[VaT (by simpa using hi),List.getElem?_replicate] at e
    split at e <;> cases e
section
variable {P:Program}{w:World}{K:PySem.W.Frag}{mg:Str→Option Value}{base:Heap}
abbrev Z0:Zx:=Zc (λ_ _=>False) (λ_ _ _=>False)
theorem zcJ {X:Cx}:zc5 X Z0.w:=λ_ _ _ _ _ _ _ h=>by
 obtain⟨_,_,_,_,_,_,_,_,_,_,_,_,q⟩:=h
 exact q.elim
theorem zax {x qual:Str}{st:Stmt}{f:Addr}{fd:FuncData}{N ps:List Str}{k:Nat}{sd:Sd}(F:Fun K x qual st f fd)(Sc:zaw N ps (zas st))(len:∀ds S Q ex,sd ds S Q ex→ds.length=ps.length)
  (hbody:∀(cdv:Value) (A:Around) (outer:List Env) (s:Shared) (H:Hp) (E:XK),zaO k (A.deeper (envOfC qual (zas st) s.heap.objs.size f cdv))→
   ∃t,zch (zek (CXE P w) P w K mg base N qual (zas st) f cdv A outer s H E).nox Z0 (zc0 st) t∧∀ds S Q ex,sd ds S Q ex→t { nx:=λ_ S'=>Q .non S',rt:=Q } (zen N ds) S):zbc P w K mg base (CXE P w) (k+1) f fd ps (upF K sd):=by
 obtain⟨oc,od,kV,doc,pm,an,cdv,ct,osl,rfl,lk,hcd⟩:=F.ex
 refine zre lk hcd Sc (λvs H Q E h=>?_) λA outer s H vs Q E hr h=>?_
 ·obtain⟨ex,r,S,ds,Q',rel,p,q,ret⟩:=h
  rw[← p.1]
  exact len ds S Q' ex q
 ·obtain⟨ex,r,S,ds,Q',rel,p,q,ret⟩:=h
  obtain⟨t,ht,hq⟩:=hbody cdv A outer s H E hr
  have back:∀ {H':Hp} {r':List Addr} {S':Sto},Ext r r' H H'→Rel K Z0 r' S' H'→Rel K (Zc ex E) r' S' H':=λx rel'=>⟨rel'.b,rel.xw.ext x⟩
  refine⟨upS K Z0 t,ht.nox,r,zen N ds,S,_,zyr p,⟨rel.b,λ_ _ _ _ _ _ _ _ _ z=>z.elim⟩,hq ds S Q' ex q,?_,?_,?_,?_⟩
  ·intro σ' H' r' dl' S' x _ rel' z
   exact ret .non H' r' .non S' x (back x rel') .non z
  ·intro σ' H' r' dl' S' x _ rel' z
   exact z
  ·intro σ' H' r' dl' S' x _ rel' z
   exact z
  ·intro v H' r' d S' x rel' p' z
   exact ret v H' r' d S' x (back x rel') p' z
end
open PySem
def Sz (n:Nat)(i:Int):Prop:=i.natAbs<2^n
theorem Sz.mono {m n:Nat}{i:Int}(h:Sz m i)(hn:m≤n):Sz n i:=Vap h (Nat.pow_le_pow_right (by decide) hn)
theorem Sz.bits {n:Nat}{i:Int}(h:Sz n i):Builtin.Int.intBits i≤n:=by
 unfold Builtin.Int.intBits
 split
 ·exact Vax _
 ·rename_i hz
  have hp:i.natAbs≠0:=by
   intro z
   have z2:i=0:=by omega
   simp[z2] at hz
  have:=(Nat.log2_lt hp).mpr h
  omega
theorem zaH {m n:Nat}{i j:Int}(hi:Sz m i)(hj:Sz n j)(hm:m≤1048576:=by decide)(hn:n≤1048576:=by decide):IntMulOk i j:=by
 have e20:(2:Nat)^20=1048576:=by decide
 exact IntMulOk.of_bits (VaD hi.bits (by omega)) (VaD hj.bits (by omega))
theorem Sz.of {n:Nat}{i:Int}(m:Nat)(h:i.natAbs≤m)(hm:m<2^n:=by decide):Sz n i:=Nat.lt_of_le_of_lt h hm
theorem Sz.mul {m n:Nat}{i j:Int}(hi:Sz m i)(hj:Sz n j):Sz (m+n) (i*j):=by
 unfold Sz at *
 rw[Nat.pow_add,Int.natAbs_mul]
 exact Nat.mul_lt_mul'' hi hj
theorem Sz.add {m n:Nat}{i j:Int}(hi:Sz m i)(hj:Sz n j):Sz (max m n+1) (i+j):=by
 have h1:Sz (max m n) i:=hi.mono (Nat.le_max_left _ _)
 have h2:Sz (max m n) j:=hj.mono (Nat.le_max_right _ _)
 unfold Sz at *
 have e:(2:Nat)^(max m n+1)=2^max m n+2^max m n:=by rw[Nat.pow_succ]; omega
 rw[e]
 have:=Int.natAbs_add_le i j
 omega
theorem Sz.neg {m:Nat}{i:Int}(hi:Sz m i):Sz m (-i):=by
 unfold Sz at *
 rw[Int.natAbs_neg]; exact hi
theorem Sz.sub {m n:Nat}{i j:Int}(hi:Sz m i)(hj:Sz n j):Sz (max m n+1) (i-j):=by
 rw[Int.sub_eq_add_neg]; exact hi.add hj.neg
theorem Sz.log {n:Nat}{i:Int}(h:Sz n i)(hi:i≠0)(hn:n≤9000:=by decide):i.natAbs.log2<9000:=by
 have:=(Nat.log2_lt (by omega:i.natAbs≠0)).mpr h
 omega
theorem Sz.fd {n:Nat}{i:Int}(h:Sz n i)(hi:0<i)(hn:n≤9000:=by decide):0<i∧i.natAbs.log2<9000:=⟨hi,h.log (by omega) hn⟩
theorem za7 {a b:Int}(hb:0<b):0≤a%b∧a%b<b:=⟨Int.emod_nonneg _ (by omega),Int.emod_lt_of_pos _ hb⟩
theorem p40:((10:Int)^(40:Int).toNat)=10^40:=rfl
theorem p41:((10:Int)^(41:Int).toNat)=10^41:=rfl
theorem p20:((10:Int)^(20:Int).toNat)=10^20:=rfl
example (x:Int):-(10^40)≤x%(2*10^40+1)-10^40:=by omega
example (x:Int):x%(2*10^40+1)-10^40≤10^40:=by omega
example (x:Int) (h:-(10^40)≤x) (h2:x≤2*10^41):Sz 140 x:=Sz.of (2*10^41) (by omega)
theorem zsa (a b:Int):Int.gcd b (a%b)=Int.gcd a b:=by
 rw[Int.emod_def,show a-b*(a/b)=a-(a/b)*b by rw[Va0],Int.gcd_sub_mul_right_right,Int.gcd_comm]
def zdx (i:Int):Int:=if i<0 then -i else i
theorem zsG (i:Int):0≤zdx i:=by unfold zdx; split <;> omega
theorem zwJ (a b:Int):Int.gcd (zdx a) (zdx b)=Int.gcd a b:=by
 have h:∀i:Int,(zdx i).natAbs=i.natAbs:=λi=>by unfold zdx; split <;> omega
 unfold Int.gcd
 rw[h,h]
theorem zsh {T B d:Int}(hB:B≠0)(hd:d=(if B<0 then -((Int.gcd T B:Nat):Int) else ((Int.gcd T B:Nat):Int))):
  d≠0∧T.fdiv d*d=T∧B.fdiv d*d=B∧1≤B.fdiv d∧Int.gcd (T.fdiv d) (B.fdiv d)=1∧T.fdiv d*B=T*B.fdiv d:=by
 have g0:0<Int.gcd T B:=Nat.pos_of_ne_zero λz=>hB (Int.gcd_eq_zero_iff.mp z).2
 have dT:((Int.gcd T B:Nat):Int) ∣ T:=Int.gcd_dvd_left T B
 have dB:((Int.gcd T B:Nat):Int) ∣ B:=Int.gcd_dvd_right T B
 have hne:d≠0:=by
  rw[hd]; split <;> omega
 have eT:d ∣ T:=by rw[hd]; split <;> first | exact Int.neg_dvd.mpr dT | exact dT
 have eB:d ∣ B:=by rw[hd]; split <;> first | exact Int.neg_dvd.mpr dB | exact dB
 have fT:T.fdiv d=T/d:=Int.fdiv_eq_ediv_of_dvd eT
 have fB:B.fdiv d=B/d:=Int.fdiv_eq_ediv_of_dvd eB
 have mT:T.fdiv d*d=T:=by rw[fT]; exact Int.ediv_mul_cancel eT
 have mB:B.fdiv d*d=B:=by rw[fB]; exact Int.ediv_mul_cancel eB
 have gg:Int.gcd (T.fdiv d) (B.fdiv d)=1:=by
  have z:=Int.gcd_ediv_gcd_ediv_gcd g0
  rw[fT,fB,hd]
  split
  ·rw[Int.ediv_neg,Int.ediv_neg,Int.neg_gcd,Int.gcd_neg]; exact z
  ·exact z
 have pos:1≤B.fdiv d:=by
  by_cases hb:B<0
  ·have dn:d<0:=by rw[hd,if_pos hb]; omega
   by_cases q:B.fdiv d≤0
   ·have:=Int.mul_nonneg_of_nonpos_of_nonpos q (Vag dn)
    omega
   ·omega
  ·have dp:0<d:=by rw[hd,if_neg hb]; omega
   by_cases q:B.fdiv d≤0
   ·have:=Var (show 0≤-(B.fdiv d) by omega) (Vag dp)
    rw[Vah] at this
    omega
   ·omega
 refine⟨hne,mT,mB,pos,gg,?_⟩
 calc T.fdiv d*B=T.fdiv d*(B.fdiv d*d):=by rw[mB]
  _=T.fdiv d*d*B.fdiv d:=by grind
  _=T*B.fdiv d:=by rw[mT]
theorem zqG {T d:Int}(hne:d≠0)(mT:T.fdiv d*d=T):(T.fdiv d).natAbs≤T.natAbs:=by
 have h:(T.fdiv d).natAbs*d.natAbs=T.natAbs:=by rw[← Int.natAbs_mul,mT]
 have hd:1≤d.natAbs:=by omega
 calc (T.fdiv d).natAbs=(T.fdiv d).natAbs*1:=by omega
  _≤(T.fdiv d).natAbs*d.natAbs:=Nat.mul_le_mul_left _ hd
  _=T.natAbs:=h
theorem zuk (m:Int){g:Int}(hg:0<g):m/g*g≤m∧m<(m/g+1)*g:=by
 have h1:=Int.emod_add_mul_ediv m g
 have h2:=Int.emod_nonneg m (show g≠0 by omega)
 have h3:=Int.emod_lt_of_pos m hg
 have e:(m/g+1)*g=g*(m/g)+g:=by grind
 have e2:m/g*g=g*(m/g):=Va0 _ _
 omega
section
variable {X:Cx}{Z:Zx}
def wIf (C:Int→Int→Bool)(g:Int→Int→D):W2:=λx y S Q=>match x,y with
 | .int i,.int j=>if C i j=true then Q (g i j) S else False
 | _,_=>False
theorem opIf {f:Value→Value→Sem Value}{C:Int→Int→Prop}{C':Int→Int→Bool}{g:Int→Int→D}(h:OpR X f (upO X.K Z (wI C g)))(hc:∀i j,C' i j=true→C i j):OpR X f (upO X.K Z (wIf C' g)):=
 zfF h λx y H Qv ⟨r,S,dx,dy,Q,rel,px,py,q,ret⟩=>⟨r,S,dx,dy,Q,rel,px,py,by
  unfold wIf at q
  split at q
  ·obtain⟨h1,h2⟩:=zj4 q
   exact⟨hc _ _ h1,h2⟩
  ·exact q.elim,ret⟩
def zgr (_ j:Int):Bool:=decide (0<j)&&decide (j<1073741824)
abbrev zvo:W2:=wIf zgr λi j=>.int (i/j)
abbrev wModL:W2:=wIf zgr λi j=>.int (i%j)
def powB (i j:Int):Bool:=decide (0≤j)&&decide (j≤1000)&&decide (-1000<i)&&decide (i<1000)
abbrev wPowL:W2:=wIf powB λi j=>.int (i^j.toNat)
theorem zqe {i j:Int}(h:zgr i j=true):0<j∧j<1073741824:=by
 unfold zgr at h
 simpa using h
theorem zb7:OpR X (binaryOp .FloorDiv) (upO X.K Z zvo):=opIf zbj λi j h=>by
 obtain⟨h1,h2⟩:=zqe h
 refine⟨h1,?_⟩
 have:j.natAbs.log2<30:=(Nat.log2_lt (by omega)).mpr (by omega)
 omega
theorem zbb:OpR X (binaryOp .Mod) (upO X.K Z wModL):=opIf zba λi j h=>(zqe h).1
theorem zdm:OpR X (binaryOp .Pow) (upO X.K Z wPowL):=opIf zw5 λi j h=>by
 unfold powB at h
 simp at h
 refine⟨h.1.1.1,by have:=h.1.1.2; omega,?_⟩
 have h3:=h.1.2
 have h4:=h.2
 have big:(18446744073709551616:Nat)=2^64:=by decide
 omega
structure Df (K:PySem.W.Frag)(mg:Str→Option Value)(x:Str)(st:Stmt)(ps:List Str) where
 f:Addr
 fd:FuncData
 F:Fun K x x st f fd
 m:mg x=some (.ref f)
 b:zbF K fd ps []
structure Fk (P:Program)(w:World)(K:PySem.W.Frag)(mg:Str→Option Value)(base:Heap)(k:Nat)(x:Str)(ps:List Str)(sd:Sd) where
 f:Addr
 fd:FuncData
 ok:zbc P w K mg base (CXE P w) k f fd ps (upF K sd)
 m:mg x=some (.ref f)
 kp:PySem.W.keepIn K (.ref f)=true
 b:zbF K fd ps []
def Df.mk' {P:Program}{w:World}{K:PySem.W.Frag}{mg:Str→Option Value}{base:Heap}{k:Nat}{x:Str}{st:Stmt}{ps:List Str}{sd:Sd}(d:Df K mg x st ps)(h:zbc P w K mg base (CXE P w) k d.f d.fd ps (upF K sd)):Fk P w K mg base k x ps sd:=
 ⟨d.f,d.fd,h,d.m,d.F.kp,d.b⟩
theorem znE {x:Str}{p pos:Pos}{e:Expr}{es:List Expr}{t:TDA}{k:Nat}{ps:List Str}{sd:Sd}{ex:Ev→Addr→Sto→Prop}{W:St→XK}(G:Fk X.prog X.w X.K X.mg X.base k x ps sd)(hr:zaO k X.A)(hx:zc5 X W)(hg:Gl X x)(ha:PDA X ⟨ex,W⟩ (e::es) t)
  (hdb:(x==("__debug__":Str))=false:=by decide)(he:starEach (e::es) X.env=(false,eval e X.env)::starEach es X.env:=by rfl)(hpl:(backTo pos (starEach es X.env)).any (·.1)=false:=by rfl):
  PD X ⟨ex,W⟩ (.Call (.Name x p) (e::es) [] pos) (ziL ex sd t):=zyw G.ok hr hg G.m G.kp G.b hx ha hdb he hpl
theorem zsu {st:Stmt}:PDS X Z st (λ_ _ _=>False):=zbO zsN λF σ H ⟨_,_,_,_,_,_,h,_⟩=>h
end
def zfq:Sd:=λds S Q _=>∃ns:List Int,ds=[.ref 0]∧S=[.frz (ns.map D.int)]∧ns.length≤63∧∀S',Q (.bl true) S'
theorem zuv:∀ds S Q ex,zfq ds S Q ex→ds.length=1:=λds S Q ex h=>by
 obtain⟨ns,rfl,_⟩:=h
 rfl
theorem zxo {K:PySem.W.Frag}{H:Hp}{a:Addr}{xs:List V}(hO:zij H)(h:SqL K H a xs):SqF K H a xs:=by
 rcases h with (h | ⟨o,h⟩) | h
 ·rcases hO a with z | ⟨o,ys,z⟩
  ·rw[h] at z; cases z
  ·rw[h] at z; cases z
 ·exact .inl ⟨o,h⟩
 ·exact .inr h
theorem ztj {r:List Addr}{H:Hp}(ns:List Int):Rps r H (ns.map D.int) (ns.map V.int):=by
 refine⟨by simp,λi d v h1 h2=>?_⟩
 rw[Vae] at h1 h2
 cases q:ns[i]? with
 | none=>rw[q] at h1; cases h1
 | some z=>
  rw[q] at h1 h2
  cases h1
  cases h2
  exact .int z
theorem zs7 {K:PySem.W.Frag}{H:Hp}{a:Addr}{ns:List Int}(hl:ns.length≤63)(hO:zij H)(hS:SqL K H a (ns.map V.int)):upF K zfq [.ref a] H (λv _=>v=.bl true) λ_ _ _=>False:=by
 refine⟨λ_ _=>False,[a],[.frz (ns.map D.int)],[.ref 0],λd _=>d=.bl true,⟨⟨rfl,λn b o h1 h2=>?_,λn m b xs ys h1 h2 h3 h4 o1 o2=>?_⟩,λ_ _ _ _ _ _ _ _ _ z=>z.elim⟩,Rps.cons (.ref rfl) Rps.nil,⟨ns,rfl,rfl,hl,λ_=>rfl⟩,λv H' r' d S' e rel p q=>?_⟩
 ·cases n with
  | zero=>
   simp at h1 h2
   subst h1; subst h2
   exact⟨_,zxo hO hS,ztj ns⟩
  | succ n=>simp at h1
 ·cases n with
  | zero=>
   simp at h3
   subst h3
   cases o1
  | succ n=>simp at h1
 ·subst q
  cases p
  rfl
theorem zrF {l:PySem.W.OpenLaw}{q:Program}{loose:List Str}{XP:(Str→Option Value)→Heap→Prop}{YP:World→Heap→Prop}{d:DefRec}{K:Params→PySem.W.Frag}{x:Str}(k:Nat)(hn:l.most=some 63)(hdf:d.params.defaults=[])(hr:zaO k callerA)
  (hY:∀(w:World) (h:Heap),YP w h→(K w.params).In h)
  (F:∀(w:World) (mg:Str→Option Value) (fa:Addr) (h:Heap),(K w.params).In h→h.Ns mainGlobals mg→mg d.name=some (.ref fa)→
   ∃fd:FuncData,(∀(s:Shared) (u:Value),BindsTo s fd ⟨[u],[]⟩ [(x,u)])∧∀base:Heap,(K w.params).In base→base.Ns mainGlobals mg→zbc l.prog w (K w.params) mg base (CXE l.prog w) k fa fd [x] (upF (K w.params) zfq)):
  PySem.W.WalkO q loose XP YP l.row.toRowW d [] (λf vs=>PySem.call f vs):=
 L2.zu6 (n:=63) (k:=k) (x:=x) (CX:=λw=>CXE l.prog w) (sp:=λw=>upF (K w.params) zfq) hn (by decide) hdf hr hY F (λ_ _ a ns hl hO hS=>zs7 hl hO hS) λ_ _ _ _ _ ⟨_,_,_,_,_,_,_,_,_,_,_,_,z⟩=>z
theorem zow (K:PySem.W.Frag)(T:String)(h:T∈["int","bool","tuple","str"]):Kit K T:=by
 intro t ht
 simp only[Vad,Vas,or_false] at h ht
 rcases h with rfl | rfl | rfl | rfl <;> rcases ht with rfl | rfl | rfl | rfl | rfl <;> kernel_rfl
theorem ifF {c:Bool}{A B:Prop}(h:c=false)(b:B):if c=true then A else B:=by rw[h]; exact zbM b
theorem ifP {c A B:Prop} [Decidable c] (h:c)(a:A):if c then A else B:=by rw[if_pos h]; exact a
theorem ifD {c:Prop} [Decidable c] {A B:Prop}(h1:c→A)(h2:¬ c→B):if decide c=true then A else B:=by
 by_cases h:c
 ·rw[decide_eq_true h]; exact zcc (h1 h)
 ·rw[decide_eq_false h]; exact zbM (h2 h)
open PySem L2
open PySem L2
theorem Sz.pow {n:Nat}{i:Int}(h:Sz n i)(k:Nat):Sz (n*k+1) (i^k):=by
 unfold Sz at *
 rw[Int.natAbs_pow,Nat.pow_succ,Nat.pow_mul]
 have h1:i.natAbs^k≤(2^n)^k:=Nat.pow_le_pow_left (VaY h) k
 have h2:0<(2^n)^k:=Nat.pow_pos (Nat.pow_pos (by decide))
 omega
theorem ifN {c:Prop} [Decidable c] {A B:Prop}(h1:¬ c→A)(h2:c→B):if (!decide c)=true then A else B:=by
 by_cases h:c
 ·rw[decide_eq_true h]; exact L2.zbM (h2 h)
 ·rw[decide_eq_false h]; exact L2.zcc (h1 h)
section
variable {X:Cx}{Z:Zx}
abbrev Cx.held (X:Cx)(pins:List (Addr×Obj))(E:Value→Shared→Prop):Cx:={ X with pn:=X.pn++pins,xe:=E }
end
structure zdW (k:Nat)(A:Around):Prop where
 dp:A.depth+3*k+5<recursionLimit
 un:A.units+16*k+200<cLine
theorem zdW.mono {j k:Nat}{A:Around}(r:zdW k A)(h:j≤k):zdW j A:=⟨by have:=r.dp; omega,by have:=r.un; omega⟩
theorem zdW.deeper {k:Nat}{A:Around}(r:zdW (k+1) A)(env:Env):zdW k (A.deeper env):=
 ⟨by have:=r.dp; show A.depth+1+3*k+5<_; omega,by have:=r.un; show A.units+3+16*k+200<_; omega⟩
structure FnOkN (P:Program)(w:World)(K:PySem.W.Frag)(mg:Str→Option Value)(base:Heap)(k:Nat)(f:Addr)(fd:FuncData)(ps:List Str)(sp:Sp):Prop where
 len:∀vs H Q E,sp vs H Q E→vs.length=ps.length
 run:∀(A:Around) (outer:List Env) (s:Shared) (H:Hp) (args:Args) (us:List Value) (vs:List V) (Q:VK) (E:XK),zdW k A→zcB P w K mg base A outer s H→BindsTo s fd args (ps.zip us)→zaA vs us→sp vs H Q E→
  codeAny (model P w) A (.call (.ref f) args) (CR (CXE P w) outer P w H s Q E) s
section
variable {X:Cx}{k:Nat}{f:Addr}{fd:FuncData}{ps:List Str}{sp:Sp}{W:St→XK}{x:Str}{p pos:Pos}{e:Expr}{es:List Expr}{t:TA}
end
section
variable {X:Cx}{Z:Zx}{x:Str}{p pos:Pos}{e:Expr}{es:List Expr}{t:TDA}
end
section
variable {P:Program}{w:World}{K:PySem.W.Frag}{mg:Str→Option Value}{base:Heap}
end
structure FkN (P:Program)(w:World)(K:PySem.W.Frag)(mg:Str→Option Value)(base:Heap)(k:Nat)(x:Str)(ps:List Str)(sd:Sd) where
 f:Addr
 fd:FuncData
 ok:FnOkN P w K mg base k f fd ps (upF K sd)
 m:mg x=some (.ref f)
 kp:PySem.W.keepIn K (.ref f)=true
 b:zbF K fd ps []
section
variable {X:Cx}{Z:Zx}
theorem ztR {r:List Addr}{H:Hp}{a:Addr}{o:HO}(h:H a=none):Ext r r H (upd H a o):=⟨λ_ _ q=>q,λ_ _ q=>zdN h _ _ q,λ_ _ q=>zdN h _ _ q⟩
open PySem.W in
end
abbrev VE:List Value:=[.type "ValueError",.type "Exception",.type "BaseException",.type "object"]
structure Ec (K:PySem.W.Frag)(mg:Str→Option Value)(x:Str) where
 c:Addr
 xc:Xc K mg x c VE "ValueError.__new__"
theorem qt {Q:DK}{S:Sto}{b:Bool}(e:b=true)(h:Q (.bl true) S):Q (.bl b) S:=by rw[e]; exact h
theorem Sz.div {n:Nat}{i j:Int}(h:Sz n i)(hj:1≤j):Sz n (i/j):=by
 refine Nat.lt_of_le_of_lt ?_ h
 obtain⟨h1,h2⟩:=zuk i (show 0<j by omega)
 by_cases q:0≤i/j
 ·have:=Int.mul_le_mul_of_nonneg_left hj q
  omega
 ·have:=Int.mul_le_mul_of_nonneg_left hj (show 0≤-(i/j+1) by omega)
  have e:-(i/j+1)*j=-((i/j+1)*j):=Vah _ _
  omega
inductive Sco (n:Nat):D→Prop
 | non:Sco n .non
 | bl (b:Bool):Sco n (.bl b)
 | int (i:Int):Sco n (.int i)
 | str (x:Str):Sco n (.str x)
 | tup {ds:List D}:(∀d∈ds,Sco n d)→Sco n (.tup ds)
 | ref {m:Nat}:m<n→Sco n (.ref m)
 | exc (c:Addr):Sco n (.exc c)
theorem Rp.sco {r:List Addr}{H:Hp}{d:D}{v:V}(h:Rp r H d v):Sco r.length d:=by
 induction h with
 | non=>exact .non
 | bl b=>exact .bl b
 | int i=>exact .int i
 | str x=>exact .str x
 | @tup ds xs a _ l _ ih=>
  refine .tup λd hd=>?_
  obtain⟨i,hi,e⟩:=VaL.mp hd
  exact ih i d xs[i] (by simp[hi,e]) (by simp[l ▸ hi])
 | ref h=>exact .ref (Vac.mp h).1
 | exc _=>exact .exc _
theorem Rp.low {r r':List Addr}{H:Hp}{d:D}{v:V}(h:Rp r' H d v)(low:∀m a,m<r.length→r'[m]?=some a→r[m]?=some a)(s:Sco r.length d):Rp r H d v:=by
 induction h with
 | non=>exact .non
 | bl b=>exact .bl b
 | int i=>exact .int i
 | str x=>exact .str x
 | tup e l f ih=>
  cases s with
  | tup s=>exact .tup e l λi d v h1 h2=>ih i d v h1 h2 (s d (Vak h1))
 | ref h=>
  cases s with
  | ref s=>exact .ref (low _ _ s h)
 | exc h=>exact .exc h
def Pre (S S':Sto):Prop:=∀(n:Nat) (o:Ob),S[n]?=some o→S'[n]?=some o
theorem Pre.refl {S:Sto}:Pre S S:=λ_ _ h=>h
theorem Pre.push {S S':Sto}{o:Ob}(h:Pre S S'):Pre S (S'++[o]):=λn u e=>by
 have z:=h n u e
 rw[Vao (Vac.mp z).1]; exact z
theorem Pre.trans {S S' S2:Sto}(h:Pre S S')(k:Pre S' S2):Pre S S2:=λn o e=>k n o (h n o e)
theorem zgZ {r r':List Addr}{H H':Hp}(e:Ext r r' H H'):∀m a,m<r.length→r'[m]?=some a→r[m]?=some a:=λm a hm h=>by
 have z:r[m]?=some r[m]:=by simp[hm]
 rw[e.adr _ _ z] at h
 rw[z]; exact h
theorem za5.low {K:PySem.W.Frag}{r r':List Addr}{S S':Sto}{H H':Hp}(h:za5 K r S H)(e:Ext r r' H H')(h':za5 K r' S' H')(p:Pre S S'):za5 K r S H':=by
 have rl:∀ {ds:List D} {xs ys:List V},Rps r H ds xs→Rps r' H' ds ys→Rps r H' ds ys:=λ{ds xs ys} a b=>⟨b.1,λi d v h1 h2=>by
  obtain⟨v0,_,q⟩:=a.get h1
  exact(b.2 i d v h1 h2).low (zgZ e) q.sco⟩
 refine⟨h.len,λn a o h1 h2=>?_,λn m a xs ys h1 h2 h3 h4 o1 o2=>h'.nd n m a xs ys (e.adr _ _ h1) (e.adr _ _ h2) (p _ _ h3) (p _ _ h4) o1 o2⟩
 have q:=h.ob n a o h1 h2
 have q':=h'.ob n a o (e.adr _ _ h1) (p _ _ h2)
 cases o with
 | lst ds=>
  obtain⟨xs,_,a1⟩:=q
  obtain⟨ys,b0,b1⟩:=q'
  exact⟨ys,b0,rl a1 b1⟩
 | frz ds=>
  obtain⟨xs,_,a1⟩:=q
  obtain⟨ys,b0,b1⟩:=q'
  exact⟨ys,b0,rl a1 b1⟩
 | ins C fs=>
  obtain⟨_,_,_,a1⟩:=q
  obtain⟨dx,fs',b0,b1⟩:=q'
  exact⟨dx,fs',b0,b1.1,rl a1.2 b1.2⟩
 | dct kvs=>
  obtain⟨_,_,a1⟩:=q
  obtain⟨ks,b0,b1⟩:=q'
  exact⟨ks,b0,b1.1,rl a1.2 b1.2⟩
def Gc (S:Sto)(Q:DK):DK:=λd S'=>Pre S S'∧Sco S.length d∧Q d S
def GcX (S:Sto)(ex:Addr→Sto→Prop):Addr→Sto→Prop:=λc S'=>Pre S S'∧ex c S
theorem Ret.gc {K:PySem.W.Frag}{Z Z':Zx}{r:List Addr}{S:Sto}{H:Hp}{Q:DK}{Qv:VK}(h:Ret K Z r H Q Qv)(rel:Rel K Z r S H):Ret K Z' r H (Gc S Q) Qv:=λv H' r' d S' e rel' p q=>by
 obtain⟨pre,sc,q⟩:=q
 have e':Ext r r H H':=⟨λ_ _ z=>z,e.tup,e.xc⟩
 rw[← rel.len] at sc
 exact h v H' r d S e' ⟨rel.b.low e rel'.b pre,rel.xw.ext e'⟩ (p.low (zgZ e) sc) q
theorem zdY.gc {K:PySem.W.Frag}{ex:Addr→Sto→Prop}{E:XK}{r:List Addr}{S:Sto}{H:Hp}(rel:Rel K (Zc ex E) r S H):zdY K (Zc (GcX S ex) E) r H:=λdl σ c H' r' S' e _ rb q=>by
 obtain⟨pre,q⟩:=q
 have e':Ext r r H H':=⟨λ_ _ z=>z,e.tup,e.xc⟩
 exact rel.xw [] [] c H' r S e' ⟨rfl,λi d z=>by simp at z⟩ (rel.b.low e rb pre) q
section
variable {P:Program}{w:World}{K:PySem.W.Frag}{mg:Str→Option Value}{base:Heap}
def gcS (sd:Sd):Sd:=λds S Q ex=>∃Q0 ex0,Q=Gc S Q0∧ex=GcX S ex0∧sd ds S Q0 ex0
theorem zeN {CX:CXT}{k:Nat}{f:Addr}{fd:FuncData}{ps:List Str}{sd:Sd}(h:zbc P w K mg base CX k f fd ps (upF K (gcS sd))):zbc P w K mg base CX k f fd ps (upF K sd):=by
 have imp:∀vs H Q E,upF K sd vs H Q E→upF K (gcS sd) vs H Q E:=λvs H Qv E ⟨ex,r,S,ds,Q,rel,p,q,ret⟩=>
  ⟨GcX S ex,r,S,ds,Gc S Q,⟨rel.b,zdY.gc rel⟩,p,⟨Q,ex,rfl,rfl,q⟩,ret.gc rel⟩
 obtain⟨h1,h2⟩:=h
 exact⟨λvs H Q E q=>h1 vs H Q E (imp vs H Q E q),λA outer s H args us vs Q E hr e0 hb rv q=>h2 A outer s H args us vs Q E hr e0 hb rv (imp vs H Q E q)⟩
end
theorem zeu {sd:Sd}{n:Nat}(len:∀ds S Q ex,sd ds S Q ex→ds.length=n):∀ds S Q ex,gcS sd ds S Q ex→ds.length=n:=λds S Q ex h=>by
 obtain⟨Q0,ex0,_,_,h⟩:=h
 exact len _ _ _ _ h
structure zdu (sc around:Scope)(x:Str)(caps:List Str):Prop where
 kind:sc.kind=.function
 nocell:∀y∈sc.names,y.2≠.cell
 own:∀y∈sc.names,y.2=.local→sc.names.lookup y.1=some .local
 loc:sc.names.lookup x=some .local
 cap:∀y∈caps,sc.names.lookup y=some .free
 out:∀y∈sc.names,y.2=.free→around.names.lookup y.1=some .cell
theorem znT {α:Type}{y:Str}{v:α}:∀ {l:List (Str×α)},l.lookup y=some v→(y,v)∈l
 | [],h=>by simp at h
 | (n,k)::r,h=>by
  cases e:y==n with
  | true=>
   rw[Vat,e] at h
   have z:k=v:=Option.some.inj h
   have z2:y=n:=by simpa using e
   rw[z,z2]; exact VaZ
  | false=>
   rw[Vat,e] at h
   exact VaF _ (znT h)
theorem znt {env:Env}:∀(l:List (Str×NameKind)) (acc:List (Str×Addr)),(∀y∈l,y.2=.free→∃c,env.cells.lookup y.1=some c)→(∀x c,acc.lookup x=some c→env.cells.lookup x=some c)→
  ∃cl,(forIn l acc λx r=>(if (x.2==NameKind.free)=true then do let a ← cellOf env x.1; pure (ForInStep.yield ((x.1,a)::r)) else pure (ForInStep.yield r):Sem (ForInStep (List (Str×Addr)))))=pure cl∧
   (∀x c,cl.lookup x=some c→env.cells.lookup x=some c)∧(∀y∈l,y.2=.free→cl.lookup y.1=env.cells.lookup y.1)∧∀x c,acc.lookup x=some c→∃c',cl.lookup x=some c'
 | [],acc,_,ha=>⟨acc,by simp,ha,λy hy=>(by cases hy),λx c e=>⟨c,e⟩⟩
 | (n,k)::r,acc,h,ha=>by
  cases hk:(k==NameKind.free) with
  | false=>
   obtain⟨cl,h1,h2,h3,h4⟩:=znt r acc (λy hy=>h y (VaF _ hy)) ha
   refine⟨cl,?_,h2,λy hy hf=>?_,h4⟩
   ·rw[List.forIn_cons]; simp[hk]; simpa using h1
   ·have hy':=Vad.mp hy
    rcases hy' with rfl | hy
    ·rw[show k=NameKind.free from hf] at hk; exact absurd hk (by decide)
    ·exact h3 y hy hf
  | true=>
   have hf:k=NameKind.free:=by simpa using hk
   obtain⟨c,hc⟩:=h (n,k) VaZ hf
   obtain⟨cl,h1,h2,h3,h4⟩:=znt r ((n,c)::acc) (λy hy=>h y (VaF _ hy)) (λx c' e=>by
    cases q:x==n with
    | true=>
     rw[Vat,q] at e
     have z:x=n:=by simpa using q
     rw[z,hc]; exact e
    | false=>
     rw[Vat,q] at e
     exact ha x c' e)
   refine⟨cl,?_,h2,λy hy hf=>?_,λx c' e=>?_⟩
   ·have ec:cellOf env n=pure c:=by unfold cellOf; rw[hc]
    rw[List.forIn_cons]; simp[hk,ec]; simpa using h1
   ·have hy':=Vad.mp hy
    rcases hy' with rfl | hy
    ·obtain⟨c',e⟩:=h4 n c (by simp)
     rw[e]; exact(h2 _ _ e).symm
    ·exact h3 y hy hf
   ·refine h4 x (if x==n then c else c') ?_
    cases q:x==n with
    | true=>simp[Vat,q]
    | false=>simp[Vat,q,e]
theorem ztJ {sc:Scope}{env:Env}(h:∀y∈sc.names,y.2=.free→∃c,env.cells.lookup y.1=some c):
  ∃cl,closureFor sc env=pure cl∧(∀x c,cl.lookup x=some c→env.cells.lookup x=some c)∧∀y∈sc.names,y.2=.free→cl.lookup y.1=env.cells.lookup y.1:=by
 obtain⟨cl,h1,h2,h3,_⟩:=znt sc.names [] h (λx c e=>by simp at e)
 refine⟨cl,?_,h2,h3⟩
 unfold closureFor
 simp only[bind_pure]
 exact h1
theorem zql {env:Env}:∀ {names:List (Str×NameKind)} {x:Str},names.lookup x=some .free→
  (names.map λ(n,k)=>if (k==NameKind.free&&env.scope.kind==.function&&env.kindOf n==some .cell) then (n,NameKind.cell) else (n,k)).lookup x=some .cell∨
  (names.map λ(n,k)=>if (k==NameKind.free&&env.scope.kind==.function&&env.kindOf n==some .cell) then (n,NameKind.cell) else (n,k)).lookup x=some .free
 | [],_,h=>by simp at h
 | (n,k)::r,x,h=>by
  have ih:=@zql env r x
  rw[Vam]
  cases hx:x==n with
  | true=>
   rw[Vat,hx] at h
   have hk:k=.free:=Option.some.inj h
   subst hk
   dsimp only
   split
   ·left; simp[Vat,hx]
   ·right; simp[Vat,hx]
  | false=>
   rw[Vat,hx] at h
   dsimp only
   split
   ·simp only[Vat,hx]; exact ih h
   ·simp only[Vat,hx]; exact ih h
theorem zqD {env:Env}:∀ {names:List (Str×NameKind)} {x:Str},(∀y∈names,y.2≠.cell)→
  ((names.map λ(n,k)=>if (k==NameKind.free&&env.scope.kind==.function&&env.kindOf n==some .cell) then (n,NameKind.cell) else (n,k)).lookup x=some .cell∨
  (names.map λ(n,k)=>if (k==NameKind.free&&env.scope.kind==.function&&env.kindOf n==some .cell) then (n,NameKind.cell) else (n,k)).lookup x=some .free)→names.lookup x=some .free
 | [],_,_,h=>by simp at h
 | (n,k)::r,x,hc,h=>by
  have ih:=@zqD env r x λy hy=>hc y (VaF _ hy)
  rw[Vam] at h
  cases hx:x==n with
  | true=>
   rw[Vat,hx]
   dsimp only at h
   split at h
   ·rename_i q
    simp only[Bool.and_eq_true] at q
    have hk:k=.free:=by simpa using q.1.1
    rw[hk]
   ·simp only[Vat,hx] at h
    rcases h with h | h
    ·exact absurd (Option.some.inj h) (hc (n,k) VaZ)
    ·exact h
  | false=>
   rw[Vat,hx]
   dsimp only at h
   split at h
   ·simp only[Vat,hx] at h; exact ih h
   ·simp only[Vat,hx] at h; exact ih h
abbrev Cx.comp (X:Cx)(sc:Scope)(N:List Str)(cl:List (Str×Addr))(C:Addr)(s0:Shared)(H0:Hp)(fp:List Addr)(pn:List (Addr×Obj)):Cx:=
 { X with N:=N,env:=compEnvC sc cl C X.env,s₀:=s0,H₀:=H0,outer:=X.stack,stack:=X.stack,ex:=fp,fn:=λ_=>false,pn:=pn,xe:=λ_ _=>False }
def zbV (caps:List Nat)(σ:St):St:=caps.map λj=>(σ[j]?).join
def zcu (caps:List Nat)(dl:Ev):Ev:=caps.map λj=>(dl[j]?).join
def zgY (caps:List Nat)(wi:TI)(tc:TT)(te:TE):TE:=λσ H Q=>wi σ H λJ H1=>∀D,H1 D=none→∃W:Nat→Nat→Hp→Prop,(∃m,W 0 m (upd H1 D (.lst [])))∧∀i m H,W i m H→
 (J.stop i H∧Q (.ref D) H)∨(J.go i H∧∀x H',J.yld i H x H'→tc (some x::zbV caps σ) H' λb H2=>if b=true then te (some x::zbV caps σ) H2 λy H3=>∃ys,H3 D=some (.lst ys)∧ys.length<sizeLine∧∃m',m'<m∧W (i+1) m' (upd H3 D (.lst (ys++[y])))
  else ∃m',m'<m∧W (i+1) m' H2)
def PTs (Y:Cx)(ifs:List Expr)(tc:TT):Prop:=∀(pins:List (Addr×Obj)) (s:Shared) (σ:St) (H:Hp) (Q:Bool→Hp→Prop),Inv Y pins σ H s→tc σ H Q→
 wpAny (model Y.prog Y.w) Y.A (forIn ifs true λc r=>if r=true then do let ok ← isTrue c Y.env (eval c Y.env); pure (ForInStep.yield ok) else pure (ForInStep.yield r)) (TP Y pins σ Q) Y.xe s
theorem zx1 {Y:Cx}:PTs Y [] (λ_ H Q=>Q true H):=λ_ _ _ H _ I h=>wpAny_tests_nil ⟨H,I,h⟩
theorem zwQ {Y:Cx}{c:Expr}{tc:TT}(h:PT Y c tc):PTs Y [c] tc:=λpins s σ H Q I q=>wpAny_tests_one (h pins s σ H Q I q)
section
variable {X:Cx}{pins:List (Addr×Obj)}{σ:St}{H:Hp}{s:Shared}
theorem ztv {sc:Scope}{x:Str}{N:List Str}{caps:List Nat}{cl:List (Str×Addr)}{fp:List Addr}{h1:Heap}{m:Str→Option Value}{tk:Nat}(I:Inv X pins σ H s)(cs:zdu sc X.env.scope x N)
  (hN:∀(j:Nat) (y:Str),N[j]?=some y→∃i,caps[j]?=some i∧X.N[i]?=some y)(hlen:caps.length=N.length)
  (c1:∀x c,cl.lookup x=some c→X.env.cells.lookup x=some c)(c2:∀y∈sc.names,y.2=.free→cl.lookup y.1=X.env.cells.lookup y.1)
  (hf:∀b∈fp,zco X pins H b)(hfo:∀b∈fp,b<s.heap.objs.size)(hns:h1.Ns s.heap.objs.size m)(hk:∀b o,s.heap.get? b=some o→h1.get? b=some o):
  Inv (Cx.comp X sc (x::N) cl s.heap.objs.size s H fp (X.pn++pins)) [] (none::zbV caps σ) H { s with heap:=h1,toks:=tk }:=by
 have stk:∀b∈frs X.stack,b=X.env.locals∨b∈X.fs:=λb hb=>Vad.mp (I.stkSub b hb)
 refine⟨⟨I.ok.mod,cs.kind,I.ok.glob,I.ok.blt,Vab _,λa b c h1 h2=>I.ok.inj a b c (c1 _ _ h1) (c1 _ _ h2),λy hy=>?_,λ_ _ z=>Bool.noConfusion z,I.ok.hd,I.ok.frames,.inl rfl,λb hb=>⟨Vaq (hfo b hb),λy c e=>(hf b hb).2.2.2.2.1 y c (c1 _ _ e)⟩,
  I.bs,VaD I.ok.bsz I.sz,λb o e hb=>?_,λb hb z=>?_,I.stack,I.stkFree⟩,rfl,I.bare,Un.kept hk,⟨m,hns,λi y v e1 e2 e3=>?_⟩,λy c e=>?_,I.hok.fresh (Vab _),λy c e=>I.freeC y c (c1 _ _ e),λp hp=>?_,I.hok.kept hk,?_⟩
 ·have hfr:sc.names.lookup y=some .free:=zqD cs.nocell hy
  have hm:=znT hfr
  obtain⟨c,e⟩:=I.ok.has y (.inl (cs.out _ hm rfl))
  exact⟨c,(c2 _ hm rfl).trans e⟩
 ·rcases (hf b hb).2.2.2.1 with z | z
  ·exact I.ok.noex b o e z
  ·exact absurd (Vap (Heap.lt_size (I.ok.bs b o e).1) z) (VaN _)
 ·rcases stk b z with z | z
  ·exact(hf b hb).2.1 z
  ·exact(hf b hb).2.2.1 z
 ·cases i with
  | zero=>simp at e2
  | succ i=>
   have e1':N[i]?=some y:=by simpa using e1
   obtain⟨j,hj,hy⟩:=hN i y e1'
   have e2':σ[j]?=some (some v):=by
    simp only[List.getElem?_cons_succ,zbV,Vae,hj,Option.map_some,Option.some.injEq] at e2
    cases q:σ[j]? with
    | none=>rw[q] at e2; cases e2
    | some o=>rw[q] at e2; simp at e2; rw[e2]
   have hfr:sc.names.lookup y=some .free:=cs.cap y (Vak e1')
   have hm:=znT hfr
   have hce:X.env.scope.names.lookup y=some .cell:=cs.out _ hm rfl
   obtain⟨m0,_,hl⟩:=I.loc
   obtain⟨u,r,l⟩:=hl j y v hy e2' (.inr (.inl hce))
   refine⟨u,r,.inr ⟨zql hfr,?_⟩⟩
   rcases l with ⟨k,_⟩ | ⟨_,c,ec,hcell⟩
   ·rw[show X.env.kindOf y=some .cell from hce] at k; cases k
   ·exact⟨c,(c2 _ hm rfl).trans ec,hcell.keeps hk⟩
 ·obtain⟨v,z⟩:=I.cell y c (c1 _ _ e)
  exact⟨v,z.keeps hk⟩
 ·have hp':p∈X.pn++pins:=by simpa using hp
  obtain⟨p1,p2,p3,p4,p5⟩:=I.pin p hp'
  refine⟨hk _ _ p1,p2,Vaq (Heap.lt_size p1),λz=>?_,p5⟩
  rcases stk _ z with z | z
  ·exact p3 z
  ·exact p4 z
 ·simp[zbV,hlen]
end
section
variable {X:Cx}{elt iter:Expr}{x:Str}{px pos:Pos}{ifs:List Expr}{sc:Scope}{N:List Str}{caps:List Nat}{wi:TI}{tc:TT}{te:TE}
structure ztd (X:Cx)(pins:List (Addr×Obj))(σ:St)(C:Addr)(Q:VK)(D:Addr)(s':Shared):Prop where
 q:∃H',Inv X pins σ H' s'∧Q (.ref D) H'∧H' C=none
 ns:∃m,s'.heap.Ns C m
 loc:C≠X.env.locals
 old:X.s₀.heap.objs.size≤C
 cell:∀x c,X.env.cells.lookup x=some c→c≠C
 pin:∀p∈X.pn++pins,p.1≠C
theorem zpP {use:Option (Value→Sem Unit)}{Qr:Value→Shared→Prop}(hc:X.calm=true)(cs:zdu sc X.env.scope x N)(hN:∀(j:Nat) (y:Str),N[j]?=some y→∃i,caps[j]?=some i∧X.N[i]?=some y)(hlen:caps.length=N.length)(hnd:(x::N).Nodup)
  (hi:PI X (.Name x px) iter wi)(ht:∀cl C s0 H0 fp pn,PTs (Cx.comp X sc (x::N) cl C s0 H0 fp pn) ifs tc)(he:∀cl C s0 H0 fp pn,PE (Cx.comp X sc (x::N) cl C s0 H0 fp pn) elt te)
  (hs:∀y,foldedSetIterable iter X.env y=pure y)
  {pins:List (Addr×Obj)}{s:Shared}{σ:St}{H:Hp}{Q:VK}{p2:Pos}(I:Inv X pins σ H s)(h:zgY caps wi tc te σ H Q)
  (fin:∀D C s',ztd X pins σ C Q D s'→compPost (model X.prog X.w) X.A X.xe use Qr (.ref D) C (.ok .next) s'):
  wpAny (model X.prog X.w) X.A (comprehension (.ListComp elt [⟨.Name x px,iter,ifs,0⟩] sc pos) sc X.env p2 (newList []) false (eval iter X.env) use) Qr X.xe s:=by
 obtain⟨cl,k1,k2,k3⟩:=ztJ (sc:=sc) (env:=X.env) λy hy hf=>I.ok.has y.1 (.inl (cs.out y hy hf))
 refine wpAny_comprehension_free rfl hs k1 cs.kind cs.own (thn (hi pins s σ H _ I h) λv s1 h1=>thn h1 λitv s2 h2=>?_)
 obtain⟨it,fp,tn,J,H2,e,I2,T,st2,f2,body⟩:=h2
 subst e
 have hfo:∀b∈fp,b<s2.heap.objs.size:=λb hb=>by
  obtain⟨o,e,_⟩:=T.obj _ _ st2 b hb
  exact Heap.lt_size e
 have hD:H2 s2.heap.objs.size=none:=I2.hok.fresh (Vab _)
 obtain⟨W,⟨m0,w0⟩,turn⟩:=body _ hD
 refine wpAny_newObj_type ?_
 have I3:Inv X pins σ (upd H2 s2.heap.objs.size (.lst [])) { s2 with heap:=s2.heap.push { cls:=.type "list",dict:=none,data:=.seq ([]:List Value).toArray },toks:=s2.toks }:=
  I2.laid (t':=s2.toks) (λb u e=>Heap.get?_push_of_some _ e) (Vab _) ⟨Vax _,[],0,.nil,Heap.get?_push_size _ rfl⟩
 generalize hs3:({ s2 with heap:=s2.heap.push { cls:=.type "list",dict:=none,data:=.seq ([]:List Value).toArray },toks:=s2.toks }:Shared)=s3 at I3
 have es3:({ s2 with heap:=s2.heap.push { cls:=.type "list",dict:=none,data:=.seq ([]:List Value).toArray } }:Shared)=s3:=hs3
 try rw[es3]
 have f3:∀b∈fp,zco X pins (upd H2 s2.heap.objs.size (.lst [])) b:=λb hb=>⟨by rw[zbd (Vaq (hfo b hb))]; exact(f2 b hb).1,(f2 b hb).2⟩
 have up3:∀b o,s2.heap.get? b=some o→s3.heap.get? b=some o:=λb o e=>by rw[← hs3]; exact Heap.get?_push_of_some _ e
 have st3:tn 0 s3.heap:=T.keep _ _ _ st2 λb _ o e=>up3 b o e
 have hfo3:∀b∈fp,b<s3.heap.objs.size:=λb hb=>by
  obtain⟨o,e,_⟩:=T.obj _ _ st3 b hb
  exact Heap.lt_size e
 refine wpAny_newFunctionEnv cs.nocell (λy hy=>by simp at hy) (λh4 ns4 sb4=>?_) cs.kind
 have hk4:∀b o,s3.heap.get? b=some o→h4.get? b=some o:=λb o e=>(sb4.2 b (Vaq (Heap.lt_size e))).trans (Heap.get?_push_of_some _ e)
 have I4:=ztv (tk:=s3.toks+([]:List (Str×Value)).length) I3 cs hN hlen k2 k3 f3 hfo3 ns4 hk4
 generalize hs4:({ s3 with heap:=h4,toks:=s3.toks+([]:List (Str×Value)).length }:Shared)=s4 at I4 ⊢
 have eh4:s4.heap=h4:=by rw[← hs4]
 have st4:tn 0 s4.heap:=by rw[eh4]; exact T.keep _ _ _ st3 λb _ o e=>hk4 b o e
 have fY:∀ {H':Hp},(∀b∈fp,H' b=none)→∀b∈fp,zco (Cx.comp X sc (x::N) cl s3.heap.objs.size s3 (upd H2 s2.heap.objs.size (.lst [])) fp (X.pn++pins)) [] H' b:=λhn b hb=>by
  obtain⟨_,z2,z3,z4,z5,z6⟩:=f3 b hb
  refine⟨hn b hb,Vaq (hfo3 b hb),λz=>?_,.inl hb,λy c e=>z5 y c (k2 _ _ e),λp hp=>z6 p (by simpa using hp)⟩
  rcases Vad.mp (I3.stkSub b z) with z | z
  ·exact z2 z
  ·exact z3 z
 have locY:(Cx.comp X sc (x::N) cl s3.heap.objs.size s3 (upd H2 s2.heap.objs.size (.lst [])) fp (X.pn++pins)).env.scope.names.lookup x=some .local:=lookup_relabel_local cs.loc
 have loop:codeAny (model X.prog X.w) X.A (.compLoop (.ListComp elt [⟨.Name x px,iter,ifs,0⟩] sc pos) 0 (.ref it) (.ref s2.heap.objs.size) (compEnvC sc cl s3.heap.objs.size X.env))
   (compPost (model X.prog X.w) X.A X.xe use Qr (.ref s2.heap.objs.size) s3.heap.objs.size) s4:=by
  refine codeAny_compLoop_tests (λn s'=>∃i o H',Inv (Cx.comp X sc (x::N) cl s3.heap.objs.size s3 (upd H2 s2.heap.objs.size (.lst [])) fp (X.pn++pins)) [] (o::zbV caps σ) H' s'∧tn i s'.heap∧(∀b∈fp,H' b=none)∧W i n H') ?_ m0
   ⟨0,none,_,I4,st4,λb hb=>(f3 b hb).1,w0⟩
  rintro n s5 ⟨i,o,H5,I5,st5,fr5,w5⟩
  rcases turn i n H5 w5 with ⟨stop,q⟩ | ⟨go,step⟩
  ·refine thn (T.done (Cx.comp X sc (x::N) cl s3.heap.objs.size s3 (upd H2 s2.heap.objs.size (.lst [])) fp (X.pn++pins)) rfl rfl rfl hc i [] s5 _ H5 _ I5 (fY fr5) st5 stop) λr s6 ⟨hr,I6⟩=>?_
   subst hr
   refine fin _ _ _ ⟨⟨H5,I3.call' I6.os I6.base I6.hok I6.bare (λb hb=>?_),q,I6.free⟩,?_,Nat.ne_of_gt I3.lt,I3.sz,λy c e z=>?_,λp hp z=>?_⟩
   ·obtain⟨_,z2,z3,z4,z5,z6⟩:=f3 b hb
    exact⟨z4,z2,z5,z6⟩
   ·obtain⟨m,hm,_⟩:=I6.loc
    exact⟨m,hm⟩
   ·obtain⟨v,hv⟩:=I3.cell y c e
    exact absurd (z ▸ hv.lt) (VaN _)
   ·exact absurd (z ▸ Heap.lt_size (I3.pin p hp).1) (VaN _)
  ·refine thn (T.item (Cx.comp X sc (x::N) cl s3.heap.objs.size s3 (upd H2 s2.heap.objs.size (.lst [])) fp (X.pn++pins)) rfl rfl rfl hc i [] s5 _ H5 _ I5 (fY fr5) st5 go) λr s6 ⟨u,hr,h6⟩=>?_
   subst hr
   show wpAny _ _ (letOwnedTupleGo (.Name x px) (.ref it) u >>= λ_=>assign (.Name x px) (compEnvC sc cl s3.heap.objs.size X.env) u) _ _ s6
   refine wpAny_bind (thn h6 λ_ s7 ⟨y,H7,I7,r7,y7,st7,fr7⟩=>?_)
   have I7':=I7.pinned (fY fr7) (T.obj _ _ st7)
   refine wpAny_mono (zhJ (X:=Cx.comp X sc (x::N) cl s3.heap.objs.size s3 (upd H2 s2.heap.objs.size (.lst [])) fp (X.pn++pins)) (pos:=px) hnd (i:=0) rfl (.inl locY) (.inr locY) _ s7 _ H7 y u (λσ8 H8=>σ8=some y::zbV caps σ∧H8=H7) I7' r7 ⟨rfl,rfl⟩) (λ_ s8 ⟨σ8,H8,I8,e8,e8'⟩=>?_) λ_ _ z=>z.elim
   subst e8
   subst e8'
   have stay:∀ {H':Hp} {s':Shared},Inv (Cx.comp X sc (x::N) cl s3.heap.objs.size s3 (upd H2 s2.heap.objs.size (.lst [])) fp (X.pn++pins)) ([]++zid fp s7.heap) (some y::zbV caps σ) H' s'→∀m',m'<n→W (i+1) m' H'→
     ∃m,m<n∧∃i o H',Inv (Cx.comp X sc (x::N) cl s3.heap.objs.size s3 (upd H2 s2.heap.objs.size (.lst [])) fp (X.pn++pins)) [] (o::zbV caps σ) H' s'∧tn i s'.heap∧(∀b∈fp,H' b=none)∧W i m H':=λ{H' s'} J m' hm w'=>by
    refine⟨m',hm,i+1,some y,H',J.unpinned,T.keep _ _ _ st7 λb hb o e=>(J.pin (b,o) (VaJ _ (VaJ _ (zjA hb e)))).1,λb hb=>?_,w'⟩
    obtain⟨o,e,d⟩:=T.obj _ _ st7 b hb
    exact(J.pin (b,o) (VaJ _ (VaJ _ (zjA hb e)))).2.1
   refine wpAny_mono (ht _ _ _ _ _ _ _ s8 _ H8 _ I8 (step y H8 y7)) (λb s9 ⟨H9,I9,q9⟩=>?_) λ_ _ z=>z.elim
   cases b with
   | false=>
    rw[if_neg Val] at q9 ⊢
    obtain⟨m',hm,w9⟩:=q9
    exact stay I9 m' hm w9
   | true=>
    rw[if_pos rfl] at q9 ⊢
    refine wpAny_mono (he _ _ _ _ _ _ _ s9 _ H9 _ I9 q9) (λu2 s10 ⟨z,H10,I10,r10,q10⟩=>?_) λ_ _ z=>z.elim
    obtain⟨ys,hD10,hlt,m',hm,w10⟩:=q10
    refine wpAny_mono (zpG (X:=(Cx.comp X sc (x::N) cl s3.heap.objs.size s3 (upd H2 s2.heap.objs.size (.lst [])) fp (X.pn++pins))) _ s10 _ H10 (.ref s2.heap.objs.size) [z] (.ref s2.heap.objs.size) [u2] (λ_ H'=>H'=upd H10 s2.heap.objs.size (.lst (ys++[z]))) I10 rfl (.cons r10 .nil) ⟨_,ys,z,rfl,rfl,hD10,hlt,rfl⟩) (λ_ s11 ⟨_,H11,I11,_,e11⟩=>?_) λ_ _ z=>z.elim
    subst e11
    exact stay I11 m' hm w10
 exact codeAny_compStart_list loop (T.self _ 0 s4 _ _ st4 loop)
theorem zlI {X:Cx}{caps:List Nat}{N:List Str}(h:caps.map (λi=>X.N[i]?)=N.map some):(∀(j:Nat) (y:Str),N[j]?=some y→∃i,caps[j]?=some i∧X.N[i]?=some y)∧caps.length=N.length:=by
 refine⟨λj y e=>?_,by simpa using congrArg List.length h⟩
 have z:(caps.map (λi=>X.N[i]?))[j]?=some (some y):=by rw[h,Vae,e]; rfl
 rw[Vae] at z
 cases q:caps[j]? with
 | none=>rw[q] at z; cases z
 | some i=>rw[q] at z; exact⟨i,rfl,by simpa using z⟩
theorem zvB (hc:X.calm=true)(cs:zdu sc X.env.scope x N)(hN:caps.map (λi=>X.N[i]?)=N.map some)(hnd:(x::N).Nodup)
  (hi:PI X (.Name x px) iter wi)(ht:∀cl C s0 H0 fp pn,PTs (Cx.comp X sc (x::N) cl C s0 H0 fp pn) ifs tc)(he:∀cl C s0 H0 fp pn,PE (Cx.comp X sc (x::N) cl C s0 H0 fp pn) elt te)
  (hs:∀y,foldedSetIterable iter X.env y=pure y:=by intro _; rfl):PE X (.ListComp elt [⟨.Name x px,iter,ifs,0⟩] sc pos) (zgY caps wi tc te):=by
 intro pins s σ H Q I h
 rw[eval_ListComp]
 refine zpP (use:=none) hc cs (zlI hN).1 (zlI hN).2 hnd hi ht he hs I h λD C s' f=>?_
 obtain⟨⟨H',I',q,hC⟩,⟨m,ns⟩,l,o,c,p⟩:=f
 exact⟨m,ns,λh' sb=>⟨.ref D,H',I'.turned (t':=s'.toks) (λb ob hb e=>(sb.2 b hb).trans e) hC l (.inr o) c p,rfl,q⟩⟩
theorem zqI {i:Nat}{y:Str}{py spos:Pos}(hc:X.calm=true)(cs:zdu sc X.env.scope x N)(hN:caps.map (λi=>X.N[i]?)=N.map some)(hnd:(x::N).Nodup)
  (hi:PI X (.Name x px) iter wi)(ht:∀cl C s0 H0 fp pn,PTs (Cx.comp X sc (x::N) cl C s0 H0 fp pn) ifs tc)(he:∀cl C s0 H0 fp pn,PE (Cx.comp X sc (x::N) cl C s0 H0 fp pn) elt te)
  (hNd:X.N.Nodup)(hy:X.N[i]?=some y)(hl:X.env.scope.names.lookup y=some .local)
  (hsw:swapsWith (.ListComp elt [⟨.Name x px,iter,ifs,0⟩] sc pos) (some (.Name y py)) spos.line X.env=pure true)
  (hs:∀y,foldedSetIterable iter X.env y=pure y:=by intro _; rfl):PS X (.Assign [.Name y py] (.ListComp elt [⟨.Name x px,iter,ifs,0⟩] sc pos) spos) (λE σ H=>zgY caps wi tc te σ H λv H1=>E.nx (σ.set i (some v)) H1):=by
 intro pins s σ H E I h
 rw[exec_Assign_Name_used (hs:=hsw)]
 refine wpAny_bind (wpAny_standAt ?_); refine wpAny_bind ?_; show wpAny _ _ (comprehension _ sc X.env _ (newList []) false (eval iter X.env) (some (assign (.Name y py) X.env)) >>= λ_=>pure ()) _ _ s
 refine wpAny_bind (thn (zpP (use:=some (assign (.Name y py) X.env)) (Qr:=λ_ s'=>SP X pins E .next s') hc cs (zlI hN).1 (zlI hN).2 hnd hi ht he hs I h λD C s' f=>?_) λ_ s' hq=>wpAny_pure (wpAny_pure hq))
 obtain⟨⟨H',I',q,hC⟩,⟨m,ns⟩,l,o,c,p⟩:=f
 refine wpAny_assign_Name (zqZ (v:=.ref D) I' hNd hy (.inl hl) rfl (λs'' I'' ⟨a,sb,ha⟩=>⟨m,ns.sameBut sb ?_,λh' sb'=>⟨_,H',I''.turned (t':=s''.toks) (λb ob hb e=>(sb'.2 b hb).trans e) hC l (.inr o) c p,q⟩⟩) (.inr hl))
 rcases ha with rfl | ha
 ·exact l
 ·exact Ne.symm (c _ _ ha)
end
section
variable {X:Cx}{Z:Zx}{elt iter:Expr}{x:Str}{px pos:Pos}{ifs:List Expr}{sc ar:Scope}{N:List Str}{caps:List Nat}
theorem zvS {r:List Addr}{H:Hp}{dl:Ev}{σ:St}{d:D}{v:V}(h:Rs r H dl σ)(p:Rp r H d v):Rs r H (some d::zcu caps dl) (some v::zbV caps σ):=by
 refine⟨by simp[zcu,zbV],λi e hi=>?_⟩
 cases i with
 | zero=>simp at hi; subst hi; exact⟨v,rfl,p⟩
 | succ i=>
  simp only[List.getElem?_cons_succ,zcu,Vae] at hi
  cases q:caps[i]? with
  | none=>rw[q] at hi; cases hi
  | some j=>
   rw[q] at hi
   simp only[Option.map_some,Option.some.injEq] at hi
   have hj:dl[j]?=some (some e):=by
    cases q2:dl[j]? with
    | none=>rw[q2] at hi; cases hi
    | some o=>rw[q2] at hi; simp at hi; rw[hi]
   obtain⟨w,h1,h2⟩:=h.2 j e hj
   refine⟨w,?_,h2⟩
   simp only[List.getElem?_cons_succ,zbV,Vae,q,Option.map_some,h1,Option.join_some]
def zgM (Y:Cx)(ifs:List Expr)(t:TDT):Prop:=PTs Y ifs (upT Y.K Z0 t)
def zdc:TDT:=λ_ S Q=>Q true S
theorem zdg {Y:Cx}:zgM Y [] zdc:=λpins s σ H Qb I ⟨r,dl,S,Q,rs,rel,q,ret⟩=>zx1 pins s σ H Qb I (ret true H r S Ext.refl rel q)
theorem zuq {Y:Cx}{c:Expr}{t:TDT}(h:PDT Y Z0 c t):zgM Y [c] t:=zwQ h
def zdl (caps:List Nat)(tc:TDT)(te:TDE)(k:Nat)(dl:Ev)(d:D)(S:Sto)(nx:Sto→Prop):Prop:=
 tc (some d::zcu caps dl) S λb S1=>if b=true then te (some d::zcu caps dl) S1 λy S2=>match S2[k]? with
  | some (.lst ys)=>ys.length<1000∧nx (S2.set k (.lst (ys++[y])))
  | _=>False
 else nx S1
@[irreducible] def zb2 (caps:List Nat)(tl:TDE)(tc:TDT)(te:TDE):TDE:=λdl S Q=>tl dl S λd S1=>match d with
 | .ref n=>(lAt S1 n).isSome=true∧∃W:Nat→Nat→Sto→Prop,(∃m,W 0 m (S1++[.lst []]))∧∀k m S2,W k m S2→match lAt S2 n with
  | some o=>match (zat o)[k]? with
   | some y=>zdl caps tc te S1.length dl y S2 λS3=>∃m',m'<m∧W (k+1) m' S3
   | none=>Q (.ref S1.length) S2
  | none=>False
 | _=>False
@[irreducible] def zel (caps:List Nat)(ta:TDA)(tc:TDT)(te:TDE):TDE:=λdl S Q=>ta dl S λds S1=>match ds with
 | [.int j]=>(-(2^62)≤j∧j<2^62)∧∃W:Nat→Sto→Prop,W 0 (S1++[.lst []])∧∀k S2,W k S2→
   if k<j.toNat then zdl caps tc te S1.length dl (.int k) S2 λS3=>W (k+1) S3 else Q (.ref S1.length) S2
 | _=>False
theorem zqN {tc:TDT}{te:TDE}{r2:List Addr}{H2:Hp}{S1 S2:Sto}{dl:Ev}{σ:St}{D0:Addr}{d:D}{v:V}{nx:Sto→Prop}{Nx:Hp→Prop}(rs:Rs r2 H2 dl σ)(ha:r2[S1.length]?=some D0)(rb:za5 X.K r2 S2 H2)(p:Rp r2 H2 d v)
  (h:zdl caps tc te S1.length dl d S2 nx)(hn:∀r' S' H',Ext r2 r' H2 H'→za5 X.K r' S' H'→nx S'→Nx H'):
  upT X.K Z0 tc (some v::zbV caps σ) H2 λb H3=>if b=true then up X.K Z0 te (some v::zbV caps σ) H3 λy H4=>∃ys,H4 D0=some (.lst ys)∧ys.length<sizeLine∧Nx (upd H4 D0 (.lst (ys++[y]))) else Nx H3:=by
 have rsY:Rs r2 H2 (some d::zcu caps dl) (some v::zbV caps σ):=zvS rs p
 refine⟨r2,_,S2,_,rsY,⟨rb,λ_ _ _ _ _ _ _ _ _ z=>z.elim⟩,h,λb H3 r3 S3 x3 rel3 q3=>?_⟩
 cases b with
 | false=>rw[if_neg Val] at q3 ⊢; exact hn r3 S3 H3 x3 rel3.b q3
 | true=>
  rw[if_pos rfl] at q3 ⊢
  refine⟨r3,_,S3,_,rsY.ext x3,rel3,q3,λz H4 r4 dz S4 x4 rel4 p4 q4=>?_⟩
  split at q4
  ·rename_i ys eys
   obtain⟨hl,q4⟩:=q4
   have ha4:r4[S1.length]?=some D0:=x4.adr _ _ (x3.adr _ _ ha)
   obtain⟨zs,hD4,pz⟩:=rel4.b.ob _ _ _ ha4 eys
   obtain⟨rel5,x5⟩:=rel4.b.set ha4 eys (pz.snoc p4)
   exact⟨zs,hD4,by rw[← pz.1]; exact zoB (VaY hl),hn r4 _ _ (x3.trans (x4.trans x5)) rel5 q4⟩
  ·exact q4.elim
theorem znP {r:List Addr}{D0:Addr}{n:Nat}(h:r.length=n):(r++[D0])[n]?=some D0:=by subst h; simp
theorem zqa {tl:TDE}{tc:TDT}{te:TDE}{σ:St}{H:Hp}{Qv:VK}(h:up X.K Z (zb2 caps tl tc te) σ H Qv):zgY caps (zpR X.K (up X.K Z tl)) (upT X.K Z0 tc) (up X.K Z0 te) σ H Qv:=by
 obtain⟨r,dl,S,Q,rs,rel,h,ret⟩:=h
 unfold zb2 at h
 refine⟨r,dl,S,_,rs,rel,h,λv H1 r1 d S1 x1 rel1 p1 q1=>?_⟩
 cases p1 with
 | @ref n a hn=>
  obtain⟨hsome,W,⟨m0,w0⟩,turn⟩:=q1
  have sql:∀ {r':List Addr} {S':Sto} {H':Hp} {o:Ob},Ext r1 r' H1 H'→za5 X.K r' S' H'→lAt S' n=some o→∃xs,SqL X.K H' a xs∧Rps r' H' (zat o) xs:=λ{r' S' H' o} x' rel' eo=>by
   obtain⟨eo,eL⟩:=zbL eo
   obtain⟨a',ha,ob⟩:=rel'.at eo
   rw[x'.adr n a hn] at ha; cases ha
   exact ob.list eL
  obtain⟨o1,eo1⟩:=Va2.mp hsome
  obtain⟨xs1,sq1,_⟩:=sql Ext.refl rel1.b eo1
  refine⟨a,rfl,⟨xs1,sq1⟩,λD0 hD=>?_⟩
  obtain⟨rel2,x2⟩:=rel1.b.push (ds:=[]) (xs:=[]) hD Rps.nil
  refine⟨λk m H'=>∃r' S',Ext (r1++[D0]) r' (upd H1 D0 (.lst [])) H'∧za5 X.K r' S' H'∧W k m S',⟨m0,_,_,Ext.refl,rel2,w0⟩,?_⟩
  rintro k m H2 ⟨r2,S2,x3,rb2,w2⟩
  have ha2:r2[S1.length]?=some D0:=x3.adr _ _ (znP rel1.len)
  have q:=turn k m S2 w2
  split at q
  ·rename_i o eo
   obtain⟨xs,sq,pr⟩:=sql (x2.trans x3) rb2 eo
   split at q
   ·rename_i y ey
    obtain⟨v,hv,pv⟩:=pr.get ey
    refine .inr ⟨⟨xs,v,sq,hv⟩,λv' H' y'=>?_⟩
    obtain⟨eH,y'⟩:=y'
    subst eH
    have ev:v'=v:=by
     have z:=y' xs sq
     rw[hv] at z; exact(Option.some.inj z).symm
    subst ev
    have z:=zqN (Nx:=λH'=>∃m',m'<m∧∃r' S',Ext (r1++[D0]) r' (upd H1 D0 (.lst [])) H'∧za5 X.K r' S' H'∧W (k+1) m' S') (rs.ext (x1.trans (x2.trans x3))) ha2 rb2 pv q λr' S' H' x' rb' ⟨m',hm,w'⟩=>⟨m',hm,r',S',x3.trans x',rb',w'⟩
    exact z
   ·rename_i ey
    have hlen:(zat o).length≤k:=VaC.mp ey
    exact .inl ⟨⟨xs,sq,by rw[← pr.1]; exact hlen⟩,ret _ H2 r2 _ S2 (x1.trans (x2.trans x3)) ⟨rb2,rel.xw.ext (x1.trans (x2.trans x3))⟩ (.ref ha2) q⟩
  ·exact q.elim
 | _=>exact(show False from q1).elim
theorem zun {ta:TDA}{tc:TDT}{te:TDE}{σ:St}{H:Hp}{Qv:VK}(h:up X.K Z (zel caps ta tc te) σ H Qv):zgY caps (zpq (upA X.K Z ta)) (upT X.K Z0 tc) (up X.K Z0 te) σ H Qv:=by
 obtain⟨r,dl,S,Q,rs,rel,h,ret⟩:=h
 unfold zel at h
 refine⟨r,dl,S,_,rs,rel,h,λvs H1 r1 ds S1 x1 rel1 p1 q1=>?_⟩
 split at q1
 ·rename_i j
  obtain⟨v,vs',rfl,p2,p3⟩:=p1.uncons
  have z:=p3.unnil
  subst z
  cases p2
  obtain⟨⟨b1,b2⟩,W,w0,turn⟩:=q1
  refine⟨j,rfl,b1,b2,λD0 hD=>?_⟩
  obtain⟨rel2,x2⟩:=rel1.b.push (ds:=[]) (xs:=[]) hD Rps.nil
  refine⟨λk m H'=>m=j.toNat-k∧∃r' S',Ext (r1++[D0]) r' (upd H1 D0 (.lst [])) H'∧za5 X.K r' S' H'∧W k S',⟨j.toNat,by simp,_,_,Ext.refl,rel2,w0⟩,?_⟩
  rintro k m H2 ⟨em,r2,S2,x3,rb2,w2⟩
  have ha2:r2[S1.length]?=some D0:=x3.adr _ _ (znP rel1.len)
  have q:=turn k S2 w2
  split at q
  ·rename_i hk
   refine .inr ⟨hk,λv' H' y'=>?_⟩
   obtain⟨eH,y'⟩:=y'
   subst eH
   subst y'
   have pk:Rp r2 H' (.int (k:Int)) (.int (0+(k:Int))):=by rw[Int.zero_add]; exact .int _
   have z:=zqN (Nx:=λH'=>∃m',m'<m∧m'=j.toNat-(k+1)∧∃r' S',Ext (r1++[D0]) r' (upd H1 D0 (.lst [])) H'∧za5 X.K r' S' H'∧W (k+1) S') (rs.ext (x1.trans (x2.trans x3))) ha2 rb2 pk q
    λr' S' H' x' rb' w'=>⟨j.toNat-(k+1),by omega,rfl,r',S',x3.trans x',rb',w'⟩
   exact z
  ·rename_i hk
   exact .inl ⟨by show j.toNat≤k; omega,ret _ H2 r2 _ S2 (x1.trans (x2.trans x3)) ⟨rb2,rel.xw.ext (x1.trans (x2.trans x3))⟩ (.ref ha2) q⟩
 ·exact q1.elim
theorem zmZ {tl:TDE}{tc:TDT}{te:TDE}(har:X.env.scope=ar)(hc:X.calm=true)(cs:zdu sc ar x N)(hN:caps.map (λi=>X.N[i]?)=N.map some)(hnd:(x::N).Nodup)(hl:PD X Z iter tl)
  (ht:∀cl C s0 H0 fp pn,zgM (Cx.comp X sc (x::N) cl C s0 H0 fp pn) ifs tc)(he:∀cl C s0 H0 fp pn,PD (Cx.comp X sc (x::N) cl C s0 H0 fp pn) Z0 elt te)
  (hs:∀y,foldedSetIterable iter X.env y=pure y:=by intro _; rfl):PD X Z (.ListComp elt [⟨.Name x px,iter,ifs,0⟩] sc pos) (zb2 caps tl tc te):=by
 subst har
 exact zbg (zvB hc cs hN hnd (tc:=upT X.K Z0 tc) (te:=up X.K Z0 te) (znb hl) ht he hs) λ_ _ _ h=>zqa h
theorem zq9 {t:TE}{td:TDE}{i:Nat}{F:zcW}{σ:St}{H:Hp}(imp:∀Qv,up X.K Z td σ H Qv→t σ H Qv)(h:upS X.K Z (λE dl S=>td dl S λd S1=>E.nx (dl.set i (some d)) S1) F σ H):t σ H λv H1=>F.nx (σ.set i (some v)) H1:=by
 obtain⟨r,dl,S,E,rs,rel,h,ret⟩:=h
 exact imp _ ⟨r,dl,S,_,rs,rel,h,λv H1 r1 d S1 x rel1 p q=>ret.nx _ H1 r1 _ S1 x ((rs.ext x).set i p) rel1 q⟩
theorem zo9 {tl:TDE}{tc:TDT}{te:TDE}{i:Nat}{y:Str}{py spos:Pos}(har:X.env.scope=ar)(hc:X.calm=true)(cs:zdu sc ar x N)(hN:caps.map (λi=>X.N[i]?)=N.map some)(hnd:(x::N).Nodup)(hNd:X.N.Nodup)(hy:X.N[i]?=some y)(hlo:ar.names.lookup y=some .local)
  (hl:PD X Z iter tl)(ht:∀cl C s0 H0 fp pn,zgM (Cx.comp X sc (x::N) cl C s0 H0 fp pn) ifs tc)(he:∀cl C s0 H0 fp pn,PD (Cx.comp X sc (x::N) cl C s0 H0 fp pn) Z0 elt te)
  (hsw:swapsWith (.ListComp elt [⟨.Name x px,iter,ifs,0⟩] sc pos) (some (.Name y py)) spos.line X.env=pure true:=by rfl)
  (hs:∀y,foldedSetIterable iter X.env y=pure y:=by intro _; rfl):PDS X Z (.Assign [.Name y py] (.ListComp elt [⟨.Name x px,iter,ifs,0⟩] sc pos) spos) (zlp i (zb2 caps tl tc te)):=by
 subst har
 exact zbO (zqI hc cs hN hnd (tc:=upT X.K Z0 tc) (te:=up X.K Z0 te) (znb hl) ht he hNd hy hlo hsw hs) λF σ H h=>zq9 (λ_ h=>zqa h) h
theorem zo2 {ta:TDA}{tc:TDT}{te:TDE}{a:Expr}{p pos2:Pos}{i:Nat}{y:Str}{py spos:Pos}(har:X.env.scope=ar)(hc:X.calm=true)(cs:zdu sc ar x N)(hN:caps.map (λi=>X.N[i]?)=N.map some)(hnd:(x::N).Nodup)(hNd:X.N.Nodup)(hy:X.N[i]?=some y)
  (hlo:ar.names.lookup y=some .local)(hg:Gl X "range")(hm:X.mg "range"=none)(ha:PDA X Z [a] ta)
  (ht:∀cl C s0 H0 fp pn,zgM (Cx.comp X sc (x::N) cl C s0 H0 fp pn) ifs tc)(he:∀cl C s0 H0 fp pn,PD (Cx.comp X sc (x::N) cl C s0 H0 fp pn) Z0 elt te)
  (hsw:swapsWith (.ListComp elt [⟨.Name x px,.Call (.Name "range" p) [a] [] pos2,ifs,0⟩] sc pos) (some (.Name y py)) spos.line X.env=pure true:=by rfl)
  (hs:∀y,foldedSetIterable (.Call (.Name "range" p) [a] [] pos2) X.env y=pure y:=by intro _; rfl)(hst:starEach [a] X.env=[(false,eval a X.env)]:=by rfl):
  PDS X Z (.Assign [.Name y py] (.ListComp elt [⟨.Name x px,.Call (.Name "range" p) [a] [] pos2,ifs,0⟩] sc pos) spos) (zlp i (zel caps ta tc te)):=by
 subst har
 exact zbO (zqI hc cs hN hnd (tc:=upT X.K Z0 tc) (te:=up X.K Z0 te) (zqJ hg hm ha hst) ht he hNd hy hlo hsw hs) λF σ H h=>zq9 (λ_ h=>zun h) h
@[irreducible] def zeH (to te:TDE):TDE:=λdl S Q=>to dl S λx S1=>match x with
 | .ref n=>match S1[n]? with
  | some (.lst _)=>te dl S1 λy S2=>match S2[n]? with
   | some (.lst xs)=>if xs.length<1000 then Q .non (S2.set n (.lst (xs++[y]))) else False
   | _=>False
  | _=>False
 | _=>False
theorem zbZ {o e:Expr}{to te:TDE}{apos cpos:Pos}(ho:PD X Z o to)(he:PD X Z e te)(hbase:attributeBase o "append" X.env (eval o X.env)=eval o X.env:=by rfl)
  (hfew:((backTo cpos (starEach [e] X.env)).all (λx=>!x.1)&&(backToKw cpos (keywordEach [] X.env)).all (λx=>x.1.isSome)
  &&decide (([e]:List Expr).length+([]:List Keyword).length+(if ([]:List Keyword).isEmpty then 0 else 1)<30))=true:=by rfl)
  (hline:(apos.endLine==cpos.line)=true:=by rfl)(hst:starEach [e] X.env=[(false,eval e X.env)]:=by rfl):
  PD X Z (.Call (.Attribute o "append" apos) [e] [] cpos) (zeH to te):=
 zbg (zqE PySem.F.plainAttrs_list PySem.F.slot_list_append PySem.F.type_list_append zpG ho (zfe he zmX hst) hbase hfew hline hst rfl) λσ H Qv h=>by
  obtain⟨r,dl,S,Q,rs,rel,h,ret⟩:=h
  unfold zeH at h
  refine⟨r,dl,S,_,rs,rel,h,λv H1 r1 d S1 x1 rel1 p1 h1=>?_⟩
  cases p1 with
  | @ref n a hn=>
   dsimp only at h1
   split at h1
   ·rename_i xs0 e0
    obtain⟨a',ha,ob⟩:=rel1.at e0
    rw[hn] at ha; cases ha
    obtain⟨ys,hH,_⟩:=ob
    refine⟨.inl ⟨rfl,ys,SqL.of hH⟩,r1,dl,S1,_,rs.ext x1,rel1,h1,λv2 H2 r2 d2 S2 x2 rel2 p2 h2=>?_⟩
    split at h2
    ·rename_i xs1 e1
     obtain⟨hlt,h2⟩:=zj4 h2
     have ha2:=x2.adr n a hn
     obtain⟨zs,hH2,pz⟩:=rel2.b.ob n a _ ha2 e1
     obtain⟨rel3,x3⟩:=rel2.set ha2 e1 (pz.snoc p2)
     exact⟨a,zs,v2,rfl,rfl,hH2,by rw[← pz.1]; exact zoB (VaY hlt),ret .non _ r2 .non _ (x1.trans (x2.trans x3)) rel3 .non h2⟩
    ·exact h2.elim
   ·exact h1.elim
  | _=>exact(show False from h1).elim
def zkw:WC:=λds S Q=>match ds with
 | [.tup xs]=>Q (.ref S.length) (S++[.lst xs])
 | [.ref n]=>match lAt S n with
  | some o=>Q (.ref S.length) (S++[.lst (zat o)])
  | none=>False
 | _=>False
theorem zly:zbl X (.type "list") (upC X.K Z zkw):=zoK zsY λxs H Qv ⟨r,S,ds,Q,rel,ps,q,ret⟩=>by
 unfold zkw at q
 split at q
 ·rename_i ys
  obtain⟨v,vs,rfl,p1,p2⟩:=ps.uncons
  have z:=p2.unnil
  subst z
  obtain⟨a,zs,rfl,h1,h2⟩:=p1.untup
  refine⟨a,zs,rfl,.inr (SqT.of h1),λl hl=>?_⟩
  obtain⟨rel2,x⟩:=rel.push hl h2
  exact ret _ _ _ (.ref S.length) _ x rel2 (zfL rel.len) q
 ·rename_i n
  obtain⟨v,vs,rfl,p1,p2⟩:=ps.uncons
  have z:=p2.unnil
  subst z
  split at q
  ·rename_i o eo
   obtain⟨eo,eL⟩:=zbL eo
   obtain⟨a,ha,ob⟩:=rel.at eo
   cases p1 with
   | ref h1=>
    rw[h1] at ha; cases ha
    obtain⟨ys,sq,pr⟩:=ob.list eL
    refine⟨_,ys,rfl,.inl sq,λl hl=>?_⟩
    obtain⟨rel2,x⟩:=rel.push hl pr
    exact ret _ _ _ (.ref S.length) _ x rel2 (zfL rel.len) q
  ·exact q.elim
 ·exact q.elim
@[irreducible] def irr (w:WC):WC:=w
@[irreducible] def zbY (w:W2):W2:=w
theorem zkh (w:WC):irr w=w:=by unfold irr; rfl
theorem zcr (w:W2):zbY w=w:=by unfold zbY; rfl
theorem zbh {f:Value}{w:WC}(h:zbl X f (upC X.K Z w)):zbl X f (upC X.K Z (irr w)):=by rw[zkh]; exact h
theorem zaJ {a b:Expr}{ta tb:TDE}(ha:PD X Z a ta)(hb:PD X Z b tb)(hs:znp b):PD X Z (.Subscript a b pos) (dOp (zbY wIx) ta tb):=by rw[zcr]; exact zad ha hb hs
theorem zaC (S:Sto)(o:Ob):(S++[o])[S.length]?=some o:=by simp
theorem zjn {S:Sto}{o u:Ob}{n:Nat}(h:S[n]?=some o):(S++[u])[n]?=some o:=by
 rw[Vao (Vac.mp h).1]; exact h
theorem zfw {tl te:TDE}{dl:Ev}{S S1:Sto}{Q:DK}{n:Nat}{o:Ob}(g:D→D)(htl:∀K:DK,K (.ref n) S1→tl dl S K)(h1:S1[n]?=some o)(hl:(zat o).length≤1000)
  (ht:∀x∈zat o,∀(S2:Sto) (K:DK),Pre S1 S2→K (g x) S2→te (some x::zcu caps dl) S2 K)(hq:Q (.ref S1.length) (S1++[.lst ((zat o).map g)]))(hL:zb3 o=some o:=by rfl):zb2 caps tl zdc te dl S Q:=by
 unfold zb2
 refine htl _ ⟨by rw[za9 h1 hL]; rfl,λk m S2=>S2=S1++[.lst (((zat o).take k).map g)]∧m+k=(zat o).length,⟨(zat o).length,by simp,by omega⟩,?_⟩
 rintro k m S2 ⟨rfl,hm⟩
 rw[za9 (zjn h1) hL]
 dsimp only
 split
 ·rename_i x hx
  have hk:k<(zat o).length:=(Vac.mp hx).1
  unfold zdl zdc
  simp only[if_true]
  refine ht x (Vak hx) _ _ Pre.refl.push ?_
  rw[zaC]
  refine⟨by simp; omega,m-1,by omega,?_,by omega⟩
  have e:(zat o).take (k+1)=(zat o).take k++[x]:=by rw[List.take_succ,hx]; rfl
  rw[e,Vaz,List.set_append_right _ _ (Vab _)]
  simp
 ·rename_i hx
  have hk:(zat o).length≤k:=VaC.mp hx
  rw[List.take_of_length_le hk]
  exact hq
theorem zuT {o:Ob}{xs:List Int}(h:zcV (zat o)=some xs):zb3 o=some o:=by
 cases o <;> first | rfl | cases h
theorem zbC {le:Int→Int→Prop}{two:Int→Int→Int}{n:Nat}{S:Sto}{o:Ob}{xs:List Int}{Q:DK}(h:S[n]?=some o)(hb:zcV (zat o)=some xs)(hne:xs≠[])(hq:∀m,m∈xs→(∀y∈xs,le y m)→Q (.int m) S):irr (zej le two) [.ref n] S Q:=by
 rw[zkh]
 unfold zej
 simp only[za9 h (zuT hb),hb]
 exact⟨hne,hq⟩
theorem zli {n:Nat}{S:Sto}{o:Ob}{Q:DK}(h:lAt S n=some o)(hq:Q (.ref S.length) (S++[.lst (zat o)])):irr zkw [.ref n] S Q:=by
 rw[zkh]
 unfold zkw
 simp only[h]
 exact hq
theorem zcd {to te:TDE}{dl:Ev}{S S1:Sto}{Q:DK}{n:Nat}{xs:List D}{y:D}(hto:∀K:DK,K (.ref n) S1→to dl S K)(h:S1[n]?=some (.lst xs))(hte:∀K:DK,K y S1→te dl S1 K)(hl:xs.length<1000)(hq:Q .non (S1.set n (.lst (xs++[y])))):zeH to te dl S Q:=by
 unfold zeH
 refine hto _ ?_
 simp only[h]
 refine hte _ ?_
 simp only[h]
 exact ifP hl hq
end
theorem zce {n:Nat}{x y:Int}:Sco n (.tup [.int x,.int y]):=.tup λd hd=>by
 have z:d=.int x∨d=.int y:=by simpa using hd
 rcases z with rfl | rfl <;> exact .int _
open PySem PySem.Spec PyProof.Rows L2 PySem.W Builtin Builtin.ObjectAttr Builtin.Getset_descriptor
structure Nx (K:Frag)(D:Addr):Prop where
 ga:findIn K (.ref D) "__getattribute__"=some (some (.builtin "BaseException.__getattribute__"))
 hk:findIn K (.ref D) "__getattr__"=some none
 ha:findIn K (.ref D) "__class__"=some (some (.builtin "object.__class__"))
 hn:specialIn K (.builtin "object.__class__") "__get__"=some (some (.builtin "getset_descriptor.__get__"))
 ht:takesIn K (.builtin "object.__class__")=some true
 hm:mroIn K D (.type "object")=some true
 hb:mroIn K D (.type "BaseException")=some true
section
variable {X:Cx}{Z:Zx}
end
def eqN:Nat→D→D→Option Bool
 | 0=>eqF
 | k+1=>eqT (eqN k)
theorem zqz:∀k,zeQ (eqN k)
 | 0=>zfa
 | k+1=>zqU (zqz k)
theorem zd4:∀k,zdK k (eqN k)
 | 0=>znH 0
 | k+1=>zpm (zd4 k) (zqz k)
def zdF (k:Nat)(S:Sto):D→D→Option Bool
 | .ref n,.ref m=>match lAt S n,lAt S m with
  | some o,some o'=>eqL (eqN k) (zat o) (zat o')
  | _,_=>none
 | x,y=>eqN (k+1) x y
def zec (k:Nat):W2:=λx y S Q=>match zdF k S x y with
 | some b=>Q (.bl b) S
 | none=>False
def zdA (k:Nat):W2:=λx y S Q=>match zdF k S x y with
 | some b=>Q (.bl (!b)) S
 | none=>False
section
variable {X:Cx}{Z:Zx}
theorem zyc {k n m:Nat}{a a':Addr}{o o':Ob}{b:Bool}{pins:List (Addr×Obj)}{σ:St}{H:Hp}{s:Shared}{r:List Addr}{S:Sto}(I:Inv X pins σ H s)(rel:Rel X.K Z r S H)(hn:r[n]?=some a)(hm:r[m]?=some a')(eo:lAt S n=some o)(eo':lAt S m=some o')
  (e:eqL (eqN k) (zat o) (zat o')=some b)(hu:X.A.units+1+k<cLine):SeqAt.RcAt X.A s (.ref a) (.ref a') b:=by
 obtain⟨eo,eL⟩:=zbL eo
 obtain⟨eo',eL'⟩:=zbL eo'
 obtain⟨z,hz,ob⟩:=rel.at eo
 rw[hn] at hz; cases hz
 obtain⟨z,hz,ob'⟩:=rel.at eo'
 rw[hm] at hz; cases hz
 obtain⟨xs,sq,pr⟩:=ob.list eL
 obtain⟨ys,sq',pr'⟩:=ob'.list eL'
 obtain⟨is,ri,pl,_⟩:=I.list sq
 obtain⟨js,rj,pl',_⟩:=I.list sq'
 obtain⟨g1,g2⟩:=zfW (A:=X.A.in1) (zd4 k) I (by show X.A.units+1+k<_; omega) pr pr' ri rj e
 by_cases hs:is.toArray.size=js.toArray.size
 ·have q:=SeqAt.RcAt.lists (A:=X.A) pl.isList pl'.isList hs (by omega) g1
  have e2:(List.range is.toArray.size).all (zcq (eqN k) (zat o) (zat o'))=b:=by
   rw[← g2,← hs,Nat.min_self]; simp
  rw[e2] at q
  exact q
 ·have q:=SeqAt.RcAt.lists_lengths (A:=X.A) pl.isList pl'.isList (by simpa using hs) (by omega)
  have e2:b=false:=by
   rw[← g2,show (is.toArray.size==js.toArray.size)=false by simpa using hs,Bool.and_false]
  rw[e2]
  exact q
theorem zuh (k:Nat){j:Nat}(hr:zaO j X.A)(hu:X.A.units+1+k<cLine):OpR X (compareOp .Eq) (upO X.K Z (zec k)):=by
 intro pins s σ H x y v u Qv I rx ry h
 obtain⟨r,S,dx,dy,Q,rel,px,py,q,ret⟩:=h
 have zaS:∀ {dx dy:D} {x y:V},Rp r H dx x→Rp r H dy y→zay x v→zay y u→zdF k S dx dy=eqN (k+1) dx dy→zec k dx dy S Q→wpAny (model X.prog X.w) X.A (compareOp .Eq v u) (EP X pins σ Qv) X.xe s:=λpx py rx ry e q=>by
  refine zpM (Z:=Z) (zd4 k) hu pins s σ H _ _ v u Qv I rx ry ⟨r,S,_,_,Q,rel,px,py,?_,ret⟩
  unfold zec at q
  rw[e] at q
  exact q
 cases px with
 | @ref n a hn=>
  cases py with
  | @ref m a' hm=>
   cases rx
   cases ry
   unfold zec zdF at q
   dsimp only at q
   split at q
   ·rename_i b e
    split at e
    ·rename_i o o' eo eo'
     exact zyc I rel hn hm eo eo' e hu X.prog X.w X.xe _ ⟨.bl b,H,I,rfl,ret _ _ _ _ _ Ext.refl rel (.bl b) q⟩
    ·cases e
   ·exact q.elim
  | non=>exact zaS (.ref hn) .non rx ry rfl q
  | bl i=>exact zaS (.ref hn) (.bl i) rx ry rfl q
  | int i=>exact zaS (.ref hn) (.int i) rx ry rfl q
  | str i=>exact zaS (.ref hn) (.str i) rx ry rfl q
  | tup a b c=>exact zaS (.ref hn) (.tup a b c) rx ry rfl q
  | exc a=>exact zaS (.ref hn) (.exc a) rx ry rfl q
 | non=>exact zaS .non py rx ry rfl q
 | bl i=>exact zaS (.bl i) py rx ry rfl q
 | int i=>exact zaS (.int i) py rx ry rfl q
 | str i=>exact zaS (.str i) py rx ry rfl q
 | tup a b c=>exact zaS (.tup a b c) py rx ry rfl q
 | exc a=>exact zaS (.exc a) py rx ry rfl q
def zbP (f:D→D→Option Bool):List D→D→Option Bool
 | [],_=>some false
 | y::ys,x=>match f y x,zbP f ys x with
  | some b,some c=>some (b||c)
  | _,_=>none
def wIn (k:Nat)(neg:Bool):W2:=λx y S Q=>match y with
 | .ref n=>match lAt S n with
  | some o=>match zbP (eqN k) (zat o) x with
   | some b=>Q (.bl (if neg then !b else b)) S
   | none=>False
  | none=>False
 | _=>False
theorem zq6 {v v':V}{u:Value}(h:zay v u)(h':zay v' u):v=v':=by
 cases v <;> cases v' <;> simp[L2.zay] at h h' <;> first
  | rfl
  | (subst h; simp at h'; subst h'; rfl)
  | (obtain⟨t,rfl⟩:=h; simp at h'; subst h'; rfl)
  | (obtain⟨t,rfl⟩:=h; simp at h')
  | (subst h; simp at h')
  | skip
theorem zgE {r:List Addr}{H:Hp}{d d' x:D}{v:V}{b b':Bool}(p:Rp r H d v)(p':Rp r H d' v)(e:eqF d x=some b)(e':eqF d' x=some b'):b=b':=by
 have z:d=d':=by
  cases p <;> cases p' <;> first
   | rfl
   | (cases x <;> simp[eqF] at e)
   | (cases x <;> simp[eqF] at e')
 subst z
 rw[e] at e'
 exact Option.some.inj e'
theorem zrj {f:D→D→Option Bool}{r:List Addr}{H:Hp}(hf:∀(d d' x:D) (v:V) (b b':Bool),Rp r H d v→Rp r H d' v→f d x=some b→f d' x=some b'→b=b'):
  ∀ {ds ds' zs:List D} {vs:List V} {b b':Bool},Rps r H ds vs→Rps r H ds' vs→eqL f ds zs=some b→eqL f ds' zs=some b'→b=b'
 | [],ds',zs,vs,b,b',p,p',e,e'=>by
  have z:=p.unnil
  subst z
  cases ds' with
  | nil=>rw[e] at e'; exact Option.some.inj e'
  | cons y ys=>exact absurd p'.1 (by simp)
 | d::ds,ds',zs,vs,b,b',p,p',e,e'=>by
  obtain⟨v,vs',rfl,p1,p2⟩:=p.uncons
  cases ds' with
  | nil=>exact absurd p'.1 (by simp)
  | cons d' ds'=>
   obtain⟨q1,q2⟩:=p'.tail
   cases zs with
   | nil=>
    simp only[eqL,Option.some.injEq] at e e'
    exact e.symm.trans e'
   | cons z zs=>
    unfold eqL at e e'
    split at e
    ·rename_i b1 c1 a1 a2
     split at e'
     ·rename_i b2 c2 a3 a4
      have h1:=hf d d' z v b1 b2 p1 q1 a1 a3
      have h2:=zrj hf p2 q2 a2 a4
      subst h1 h2
      simp only[Option.some.injEq] at e e'
      exact e.symm.trans e'
     ·cases e'
    ·cases e
theorem zo5:∀(k:Nat) {r:List Addr} {H:Hp} (d d' x:D) (v:V) (b b':Bool),Rp r H d v→Rp r H d' v→eqN k d x=some b→eqN k d' x=some b'→b=b'
 | 0,r,H,d,d',x,v,b,b',p,p',e,e'=>zgE p p' e e'
 | k+1,r,H,d,d',x,v,b,b',p,p',e,e'=>by
  cases p with
  | tup h1 l1 f1=>
   cases p' with
   | tup h2 l2 f2=>
    rw[h1] at h2; cases h2
    cases x with
    | tup zs=>exact zrj (λd d' x v b b'=>zo5 k d d' x v b b') ⟨l1,f1⟩ ⟨l2,f2⟩ e e'
    | _=>simp[eqN,eqT,eqF] at e
   | ref h=>cases x <;> simp[eqN,eqT,eqF] at e'
   | exc h=>cases x <;> simp[eqN,eqT,eqF] at e'
  | non=>exact zgE (x:=x) .non p' (by cases x <;> exact e) (by cases p' <;> cases x <;> exact e')
  | bl i=>exact zgE (x:=x) (.bl i) p' (by cases x <;> exact e) (by cases p' <;> cases x <;> exact e')
  | int i=>exact zgE (x:=x) (.int i) p' (by cases x <;> exact e) (by cases p' <;> cases x <;> exact e')
  | str i=>exact zgE (x:=x) (.str i) p' (by cases x <;> exact e) (by cases p' <;> cases x <;> exact e')
  | ref h=>cases x <;> simp[eqN,eqT,eqF] at e
  | exc h=>cases x <;> simp[eqN,eqT,eqF] at e
theorem zq1 {f:D→D→Option Bool}{x:D}:∀ {ys:List D} {b:Bool},zbP f ys x=some b→(∀y∈ys,∃c,f y x=some c)∧(b=true↔∃y∈ys,f y x=some true)
 | [],b,e=>by
  simp only[zbP,Option.some.injEq] at e
  subst e
  simp
 | y::ys,b,e=>by
  unfold zbP at e
  split at e
  ·rename_i b1 c1 e1 e2
   obtain⟨h1,h2⟩:=zq1 e2
   simp only[Option.some.injEq] at e
   subst e
   refine⟨λz hz=>?_,?_⟩
   ·rcases Vad.mp hz with rfl | hz'
    ·exact⟨b1,e1⟩
    ·exact h1 z hz'
   ·rw[Bool.or_eq_true,h2]
    refine⟨λq=>?_,λ⟨z,hz,q⟩=>?_⟩
    ·rcases q with q | ⟨z,hz,q⟩
     ·exact⟨y,VaZ,by rw[e1,q]⟩
     ·exact⟨z,VaF _ hz,q⟩
    ·rcases Vad.mp hz with rfl | hz'
     ·left
      rw[e1] at q
      exact Option.some.inj q
     ·exact .inr ⟨z,hz',q⟩
  ·cases e
theorem zr0 {k:Nat}{pins:List (Addr×Obj)}{σ:St}{H:Hp}{s:Shared}{r:List Addr}{A:Around}{ds:List D}{vs:List V}{us:List Value}{dx:D}{x:V}{u:Value}{b:Bool}(I:Inv X pins σ H s)(hu:A.units+k<cLine)
  (p:Rps r H ds vs)(rv:zaA vs us)(px:Rp r H dx x)(rx:zay x u)(e:zbP (eqN k) ds dx=some b):∃g:Value→Bool,(∀y,y∈us.toArray→SeqAt.EqAt A s y u (g y))∧us.toArray.any g=b:=by
 obtain⟨h1,h2⟩:=zq1 e
 have at_:∀y∈us,∃d v,d∈ds∧Rp r H d v∧zay v y:=λy hy=>by
  obtain⟨j,hj,ej⟩:=VaL.mp hy
  have hv:j<vs.length:=by rw[rv.length]; exact hj
  have gv:vs[j]?=some vs[j]:=by simp[hv]
  obtain⟨w,gw,rw'⟩:=rv.get gv
  obtain⟨d,gd,pd⟩:=p.get' gv
  have ew:w=y:=by
   rw[Vaj hj,ej] at gw
   exact(Option.some.inj gw).symm
  subst ew
  exact⟨d,_,Vak gd,pd,rw'⟩
 classical
 refine⟨λy=>decide (∃d v,d∈ds∧Rp r H d v∧zay v y∧eqN k d dx=some true),λy hy=>?_,?_⟩
 ·obtain⟨d,v,hd,pd,rd⟩:=at_ y (by simpa using hy)
  obtain⟨c,hc⟩:=h1 d hd
  have same:decide (∃d v,d∈ds∧Rp r H d v∧zay v y∧eqN k d dx=some true)=c:=by
   cases c with
   | true=>exact decide_eq_true ⟨d,v,hd,pd,rd,hc⟩
   | false=>
    refine decide_eq_false λ⟨d',v',_,pd',rd',hc'⟩=>?_
    have ev:=zq6 rd rd'
    subst ev
    exact absurd (zo5 k d d' dx v false true pd pd' hc hc') (by decide)
  show SeqAt.EqAt A s y u (decide _)
  rw[same]
  exact zd4 k X pins σ H s r A d dx v x y u c I hu pd px rd rx hc
 ·rw[Bool.eq_iff_iff,h2,List.any_toArray,List.any_eq_true]
  refine⟨λ⟨y,hy,q⟩=>?_,λ⟨d,hd,q⟩=>?_⟩
  ·obtain⟨d,v,hd,_,_,q'⟩:=of_decide_eq_true q
   exact⟨d,hd,q'⟩
  ·obtain⟨j,hj,ej⟩:=VaL.mp hd
   have gd:ds[j]?=some d:=by simp[hj,ej]
   obtain⟨v,gv,pv⟩:=p.get gd
   obtain⟨w,gw,rw'⟩:=rv.get gv
   exact⟨w,Vak gw,decide_eq_true ⟨d,v,hd,pv,rw',q⟩⟩
theorem zrr (k:Nat)(hu:X.A.units+1+k<cLine):OpR X (compareOp .NotIn) (upO X.K Z (wIn k true)):=by
 intro pins s σ H x y v u Qv I rx ry h
 obtain⟨r,S,dx,dy,Q,rel,px,py,q,ret⟩:=h
 cases py with
 | @ref n a hn=>
  unfold wIn at q
  dsimp only at q
  split at q
  ·rename_i o eo
   split at q
   ·rename_i b eb
    cases ry
    obtain⟨eo,eL⟩:=zbL eo
    obtain⟨a',ha,ob⟩:=rel.at eo
    rw[hn] at ha; cases ha
    obtain⟨ys,sq,pr⟩:=ob.list eL
    obtain⟨us,ru,pl,_⟩:=I.list sq
    obtain⟨g,g1,g2⟩:=zr0 (A:=X.A.in1) I (by show X.A.units+1+k<_; omega) pr ru px rx eb
    refine SeqAt.notIn_listAt g pl.isList g1 ?_
    rw[g2]
    exact⟨.bl (!b),H,I,rfl,ret _ _ _ _ _ Ext.refl rel (.bl (!b)) q⟩
   ·exact q.elim
  ·exact q.elim
 | _=>exact(show False from q).elim
end
section
variable {X:Cx}{Z:Zx}{pos:Pos}
def zdv:List Nat→List D→Ev→Ev
 | i::is,d::ds,dl=>zdv is ds (dl.set i (some d))
 | _,_,dl=>dl
def ziQ:List Nat→List V→St→St
 | i::is,v::vs,σ=>ziQ is vs (σ.set i (some v))
 | _,_,σ=>σ
theorem zjR {r:List Addr}{H:Hp}:∀ {is:List Nat} {ds:List D} {vs:List V} {dl:Ev} {σ:St},Rs r H dl σ→Rps r H ds vs→Rs r H (zdv is ds dl) (ziQ is vs σ)
 | [],ds,vs,dl,σ,h,p=>by cases ds <;> cases vs <;> exact h
 | i::is,[],vs,dl,σ,h,p=>by
  have z:=p.unnil
  subst z
  exact h
 | i::is,d::ds,vs,dl,σ,h,p=>by
  obtain⟨v,vs',rfl,p1,p2⟩:=p.uncons
  show Rs r H (zdv is ds (dl.set i (some d))) (ziQ is vs' (σ.set i (some v)))
  exact zjR (Rs.set i h p1) p2
inductive Nms (X:Cx):List Expr→List Nat→Prop
 | nil:Nms X [] []
 | cons {x:Str} {p:Pos} {i:Nat} {es:List Expr} {is:List Nat}:X.N[i]?=some x→Loc X.env.scope x→(X.fn x=true∨X.env.scope.names.lookup x=some .local)→Nms X es is→Nms X (.Name x p::es) (i::is)
def gAll (is:List Nat):TGs:=λvs σ H Q=>vs.length=is.length∧Q (ziQ is vs σ) H
theorem zjO (hN:X.N.Nodup):∀ {es:List Expr} {is:List Nat},Nms X es is→PGs X es (gAll is)
 | _,_,.nil=>λpins s σ H vs us Q I r h=>by
  obtain⟨e,h⟩:=h
  have z:vs=[]:=by simpa using e
  subst z
  exact zwr pins s σ H [] us Q I r ⟨rfl,h⟩
 | _,_,.cons (x:=x) (p:=p) (es:=es) (is:=is) h1 h2 h3 t=>λpins s σ H vs us Q I r h=>by
  obtain⟨e,h⟩:=h
  cases vs with
  | nil=>simp at e
  | cons v vs=>exact zx4 (zhJ hN h1 h2 h3) (zjO hN t) rfl pins s σ H (v::vs) us Q I r ⟨v,vs,rfl,by simpa using e,h⟩
def dSetT (is:List Nat)(te:TDE):TDS:=λE dl S=>te dl S λd S1=>match d with
 | .tup xs=>xs.length=is.length∧E.nx (zdv is xs dl) S1
 | _=>False
theorem zwS {es:List Expr}{e:Expr}{te:TDE}{k:Nat}{p:Pos}{is:List Nat}(hc:X.calm=true)(hN:X.N.Nodup)(hn:Nms X es is)(he:PD X Z e te)(hlen:(assignEach es X.env).length=is.length:=by rfl)(hst:(assignEach es X.env).findIdx? (·.1)=none:=by rfl)
  (hs:swapsWithSole [.Tuple es k p] e pos.line X.env=pure false:=by rfl)(hw:swappedStores [.Tuple es k p] e X.env=pure none:=by rfl)
  (h1:(assignEach [.Tuple es k p] X.env).map (·.2)=[assign (.Tuple es k p) X.env]:=by rfl):PDS X Z (.Assign [.Tuple es k p] e pos) (dSetT is te):=
 zbO (zpu he (zov hc (zjO hN hn) hlen hst) hs hw h1) λF σ H ⟨r,dl,S,E,rs,rel,h,ret⟩=>by
  refine⟨r,dl,S,_,rs,rel,h,λv H1 r1 d S1 x1 rel1 p1 q1=>?_⟩
  cases p1 with
  | @tup ds xs a e1 l1 f1=>
   obtain⟨hl,q⟩:=q1
   exact⟨a,xs,rfl,SqT.of e1,by rw[← l1]; exact hl,by rw[← l1]; exact hl,ret.nx _ H1 r1 _ S1 x1 (zjR (rs.ext x1) ⟨l1,f1⟩) rel1 q⟩
  | _=>exact(show False from q1).elim
end
open PySem L2
theorem zpH (S:Sto)(o u:Ob):(S++[o]).set S.length u=S++[u]:=by simp
section
variable {X:Cx}{Z:Zx}
abbrev wShl:W2:=wI zla λi j=>.int (i*2^j.toNat)
theorem ztD:OpR X (binaryOp .LShift) (upO X.K Z wShl):=opD zwD λ_ _ _ _=>.int _
def dBits (to:TDE):TDE:=λdl S Q=>to dl S λd S1=>match d with
 | .int i=>Q (.int (Builtin.Int.intBits i)) S1
 | _=>False
theorem zt4:MtR X "int.bit_length" (λx xs H Q=>∃i,x=.int i∧xs=[]∧Q (.int (Builtin.Int.intBits i)) H):=by
 intro pins s σ H x xs v us Q I rx rv h
 obtain⟨i,rfl,rfl,q⟩:=h
 obtain⟨t,rfl⟩:=rx
 cases rv
 exact call_int_bit_length ⟨.int _,H,I.tok _,⟨_,rfl⟩,q⟩
theorem zv6 {o:Expr}{to:TDE}{apos cpos:Pos}(ho:PD X Z o to)(hbase:attributeBase o "bit_length" X.env (eval o X.env)=eval o X.env:=by rfl)(hline:(apos.endLine==cpos.line)=true:=by rfl):
  PD X Z (.Call (.Attribute o "bit_length" apos) [] [] cpos) (dBits to):=
 zbg (zth (T:="int") ⟨⟨_,ga_int,canon_ga_int⟩,no_getattr_int⟩ slot_int_bit_length type_int_bit_length zt4 ho hbase hline) λσ H Qv ⟨r,dl,S,Q,rs,rel,h,ret⟩=>⟨r,dl,S,_,rs,rel,h,λv H1 r1 d S1 e1 rel1 p1 q1=>by
  cases p1 with
  | int i=>exact⟨rfl,i,rfl,rfl,ret _ H1 r1 (.int _) S1 e1 rel1 (.int _) q1⟩
  | _=>exact(show False from q1).elim⟩
end
def zqV:Sd:=λ_ _ _ _=>False
def Df.never {P:Program}{w:World}{K:PySem.W.Frag}{mg:Str→Option Value}{base:Heap}{x:Str}{st:Stmt}{ps:List Str}(k:Nat)(d:Df K mg x st ps):Fk P w K mg base k x ps zqV:=
 ⟨d.f,d.fd,⟨λ_ _ _ _ ⟨_,_,_,_,_,_,_,z,_⟩=>z.elim,λ_ _ _ _ _ _ _ _ _ _ _ _ _ ⟨_,_,_,_,_,_,_,z,_⟩=>z.elim⟩,d.m,d.F.kp,d.b⟩
section
variable {X:Cx}{Z:Zx}{pos:Pos}
end
section
variable {X:Cx}{Z:Zx}{elt iter:Expr}{x:Str}{px pos:Pos}{ifs:List Expr}{sc ar:Scope}{N:List Str}{caps:List Nat}
theorem zt3 {ta:TDA}{te:TDE}{dl:Ev}{S S1:Sto}{Q:DK}{j:Int}(g:Nat→D)(hta:∀K:List D→Sto→Prop,K [.int j] S1→ta dl S K)(hj:0≤j∧j≤1000)
  (ht:∀k:Nat,k<j.toNat→∀(S2:Sto) (K:DK),Pre S1 S2→K (g k) S2→te (some (.int k)::zcu caps dl) S2 K)(hq:Q (.ref S1.length) (S1++[.lst ((List.range j.toNat).map g)])):zel caps ta zdc te dl S Q:=by
 unfold zel
 refine hta _ ⟨⟨by omega,by omega⟩,λk S2=>S2=S1++[.lst ((List.range k).map g)]∧k≤j.toNat,⟨by simp,by omega⟩,?_⟩
 rintro k S2 ⟨rfl,hk⟩
 split
 ·rename_i hk'
  unfold zdl zdc
  simp only[if_true]
  refine ht k hk' _ _ Pre.refl.push ?_
  rw[zaC]
  refine⟨by simp; omega,?_,by omega⟩
  rw[List.range_succ,Vaz,List.set_append_right _ _ (Vab _)]
  simp
 ·have e:k=j.toNat:=by omega
  subst e
  exact hq
end
section
variable {X:Cx}{Z:Zx}{pos:Pos}
def zaS (zs:List Str):Str:=⟨(zs.flatMap λz=>z.cps.toList).toArray⟩
abbrev TDO:=Ev→Sto→(Option Int→Sto→Prop)→Prop
def upP (K:PySem.W.Frag)(Z:Zx)(t:TDO):TO:=λσ H Q=>∃(r:List Addr) (dl:Ev) (S:Sto) (Q':Option Int→Sto→Prop),Rs r H dl σ∧Rel K Z r S H∧t dl S Q'∧∀o H' r' S',Ext r r' H H'→Rel K Z r' S' H'→Q' o S'→Q o H'
def PDO (X:Cx)(Z:Zx)(e:Option Expr)(t:TDO):Prop:=PO X e (upP X.K Z t)
def zwd:TDO:=λ_ S Q=>Q none S
def dPart (t:TDE):TDO:=λdl S Q=>t dl S λd S1=>match d with
 | .int i=>Q (some i) S1
 | _=>False
theorem zpB {e:Option Expr}{t t':TO}(h:PO X e t)(g:∀σ H Q,t' σ H Q→t σ H Q):PO X e t':=λpins s σ H Q I q=>h pins s σ H Q I (g σ H Q q)
theorem zqw:PDO X Z none zwd:=zpB zwj λσ H Q ⟨r,dl,S,Q',rs,rel,h,ret⟩=>ret none H r S Ext.refl rel h
theorem zeK {e:Expr}{t:TDE}(he:PD X Z e t):PDO X Z (some e) (dPart t):=zpB (zyo he) λσ H Q ⟨r,dl,S,Q',rs,rel,h,ret⟩=>⟨r,dl,S,_,rs,rel,h,λv H1 r1 d S1 e1 rel1 p1 q1=>by
 cases p1 with
 | int i=>exact⟨i,rfl,ret (some i) H1 r1 S1 e1 rel1 q1⟩
 | _=>exact(show False from q1).elim⟩
end
section
variable {X:Cx}{Z:Zx}
end
section
variable {X:Cx}{Z:Zx}
end
theorem zaB {n:Nat}{S:Sto}{o:Ob}{Q:DK}{i:Int}{d:D}(ho:S[n]?=some o)(hd:atI (zat o) i=some d)(hq:Q d S)(hL:zb3 o=some o:=by rfl):zbY wIx (.ref n) (.int i) S Q:=by
 rw[zcr]
 unfold wIx
 simp only[za9 ho hL,hd]
 exact hq
def zfz (f:Str)(v:D):List (Str×D)→List (Str×D)
 | []=>[(f,v)]
 | p::r=>if p.1=f then (f,v)::r else p::zfz f v r
theorem FR.lookup {r:List Addr}{H:Hp}{f:Str}:∀ {fs:List (Str×D)} {fs':List (Str×V)},FR r H fs fs'→(∀d,fs.lookup f=some d→∃v,fs'.lookup f=some v∧Rp r H d v)∧(fs.lookup f=none→fs'.lookup f=none)
 | [],fs',h=>by
  have e:fs'=[]:=by
   have:=h.1
   simpa using this.symm
  subst e
  exact⟨λd z=>by simp at z,λ_=>rfl⟩
 | p::fs,[],h=>by
  have:=h.1
  simp at this
 | p::fs,q::fs',h=>by
  obtain⟨h1,h2⟩:=h
  simp only[Vam,List.cons.injEq] at h1
  obtain⟨p1,p2⟩:=h2.tail
  obtain⟨i1,i2⟩:=FR.lookup (f:=f) (fs:=fs) (fs':=fs') ⟨h1.2,p2⟩
  obtain⟨pk,pv⟩:=p
  obtain⟨qk,qv⟩:=q
  have ek:pk=qk:=h1.1
  subst ek
  by_cases z:f=pk
  ·subst z
   simp only[List.lookup_cons_self]
   exact⟨λd hd=>⟨qv,rfl,by cases hd; exact p1⟩,λhd=>by cases hd⟩
  ·have zb:(f==pk)=false:=by simpa using z
   simp only[Vat,zb]
   exact⟨i1,i2⟩
theorem FR.put {r:List Addr}{H:Hp}{f:Str}{d:D}{v:V}(q:Rp r H d v):∀ {fs:List (Str×D)} {fs':List (Str×V)},FR r H fs fs'→FR r H (zfz f d fs) (zbw f v fs')
 | [],fs',h=>by
  have e:fs'=[]:=by
   have:=h.1
   simpa using this.symm
  subst e
  exact⟨rfl,Rps.cons q Rps.nil⟩
 | p::fs,[],h=>by
  have:=h.1
  simp at this
 | p::fs,p'::fs',h=>by
  obtain⟨h1,h2⟩:=h
  simp only[Vam,List.cons.injEq] at h1
  obtain⟨p1,p2⟩:=h2.tail
  have ih:=FR.put (f:=f) q (fs:=fs) (fs':=fs') ⟨h1.2,p2⟩
  obtain⟨pk,pv⟩:=p
  obtain⟨qk,qv⟩:=p'
  have ek:pk=qk:=h1.1
  subst ek
  unfold zfz zbw
  by_cases z:pk=f
  ·rw[if_pos z,if_pos z]
   exact⟨by simp[h1.2,z],Rps.cons q p2⟩
  ·rw[if_neg z,if_neg z]
   exact⟨by simp[ih.1],Rps.cons p1 ih.2⟩
section
variable {X:Cx}{Z:Zx}{pos:Pos}
def zcR (C:Addr)(S:Sto):D→Option (Nat×List (Str×D))
 | .ref n=>match S[n]? with
  | some (.ins C' fs)=>if C'=C then some (n,fs) else none
  | _=>none
 | _=>none
theorem zoG {C:Addr}{S:Sto}{d:D}{n:Nat}{fs:List (Str×D)}(h:zcR C S d=some (n,fs)):d=.ref n∧S[n]?=some (.ins C fs):=by
 unfold zcR at h
 split at h
 ·split at h
  ·rename_i m _ C' fs' e
   split at h
   ·rename_i ec
    subst ec
    simp only[Option.some.injEq,Prod.mk.injEq] at h
    obtain⟨rfl,rfl⟩:=h
    exact⟨rfl,e⟩
   ·cases h
  ·cases h
 ·cases h
@[irreducible] def zjw (C:Addr)(f:Str)(to:TDE):TDE:=λdl S Q=>to dl S λd S1=>match zcR C S1 d with
 | some (_,fs)=>match fs.lookup f with
  | some v=>Q v S1
  | none=>False
 | none=>False
theorem zaW {C:Addr}{f:Str}{o:Expr}{to:TDE}(c:Cls X.K C)(n:zbs X.K C f)(ho:PD X Z o to)(hb:attributeBase o f X.env (eval o X.env)=eval o X.env:=by rfl):PD X Z (.Attribute o f pos) (zjw C f to):=
 zbg (zux ho hb) λσ H Qv ⟨r,dl,S,Q,rs,rel,h,ret⟩=>by unfold zjw at h; exact⟨r,dl,S,_,rs,rel,h,λv H1 r1 d S1 e1 rel1 p1 q1=>by
  split at q1
  ·rename_i m fs ei
   obtain⟨rfl,eS⟩:=zoG ei
   split at q1
   ·rename_i w ew
    obtain⟨a,ha,ob⟩:=rel1.at eS
    obtain⟨dx,fs',eH,fr⟩:=ob
    cases p1 with
    | ref hr=>
     rw[hr] at ha; cases ha
     obtain⟨u,hu,pu⟩:=fr.lookup.1 w ew
     exact⟨a,C,dx,fs',u,rfl,eH,c,n,hu,ret u H1 r1 w S1 e1 rel1 pu q1⟩
   ·exact q1.elim
  ·exact q1.elim⟩
@[irreducible] def zj0 (C:Addr)(f:Str)(to te:TDE):TDS:=λE dl S=>te dl S λv S1=>to dl S1 λd S2=>match zcR C S2 d with
 | some (n,fs)=>fs.length<1000∧E.nx dl (S2.set n (.ins C (zfz f v fs)))
 | none=>False
theorem zcL {C:Addr}{f:Str}{o e:Expr}{to te:TDE}{p2:Pos}(c:Cls X.K C)(n:zbs X.K C f)(ho:PD X Z o to)(he:PD X Z e te)
  (hs:swapsWith e (some (.Attribute o f p2)) pos.line X.env=pure false:=by rfl):PDS X Z (.Assign [.Attribute o f p2] e pos) (zj0 C f to te):=
 zbO (zse ho he hs) λF σ H ⟨r,dl,S,E,rs,rel,h,ret⟩=>by unfold zj0 at h; exact⟨r,dl,S,_,rs,rel,h,λv H1 r1 dv S1 e1 rel1 p1 q1=>⟨r1,dl,S1,_,rs.ext e1,rel1,q1,λw H2 r2 d S2 e2 rel2 p2' q2=>by
  split at q2
  ·rename_i m fs ei
   obtain⟨rfl,eS⟩:=zoG ei
   obtain⟨hl,q2⟩:=q2
   obtain⟨a,ha,ob⟩:=rel2.at eS
   obtain⟨dx,fs',eH,fr⟩:=id ob
   cases p2' with
   | ref hr=>
    rw[hr] at ha; cases ha
    have hlen:fs'.length=fs.length:=by
     have:=congrArg List.length fr.1
     simpa using this.symm
    obtain⟨rb,x⟩:=rel2.b.setO (o':=.ins C (zfz f dv fs)) (u:=.ins C dx (zbw f v fs')) hr eS rfl rfl λx=>⟨dx,_,zcP,(fr.put (p1.ext e2)).ext x⟩
    exact⟨a,C,dx,fs',rfl,eH,c,n,by omega,ret.nx _ _ r2 _ _ (e1.trans (e2.trans x)) (rs.ext (e1.trans (e2.trans x))) ⟨rb,rel2.xw.ext x⟩ q2⟩
  ·exact q2.elim⟩⟩
@[irreducible] def zkN (C:Addr)(m:Str)(ex:Ev→Addr→Sto→Prop)(sd:Sd)(to:TDE)(t:TDA):TDE:=λdl S Q=>to dl S λd S1=>match zcR C S1 d with
 | some (_,fs)=>fs.lookup m=none∧t dl S1 λds S2=>sd (d::ds) S2 Q (ex dl)
 | none=>False
theorem zuy {C:Addr}{m:Str}{f:Addr}{fd:FuncData}{k:Nat}{ps:List Str}{sp:Sp}{W:St→XK}{o e:Expr}{es:List Expr}{ta:TE}{t:TA}{apos:Pos}{pl:Sem Bool}(he:PE X o ta)(c:Cls X.K C)(hm:zeO X.K C m f)
  (F:zbc X.prog X.w X.K X.mg X.base (CXE X.prog X.w) k f fd ps sp)(hr:zaO k X.A)(hb:zbF X.K fd ps [])(hx:zc5 X W)(ha:PA X (e::es) t)(hst:starEach (e::es) X.env=(false,eval e X.env)::starEach es X.env)(hpl:(backTo pos (starEach es X.env)).any (·.1)=false)
  (ht:eval (.Call (.Attribute o m apos) (e::es) [] pos) X.env=(do
   let ov ← eval o X.env
   standAt apos.atName
   let (f,first) ← holding [ov] (getMethod ov m pl)
   callWith pos f first (backTo pos (starEach (e::es) X.env)) (backToKw pos (keywordEach [] X.env)))):
  PE X (.Call (.Attribute o m apos) (e::es) [] pos) (λσ H Q=>ta σ H λx H1=>∃a dx fs,x=.ref a∧H1 a=some (.ins C dx fs)∧fs.lookup m=none∧t σ H1 λvs H2=>sp (x::vs) H2 Q (W σ)):=by
 intro pins s σ H Q I h
 refine PySem.W.methodCall_KW (pl:=pl) (thn (he pins s σ H _ I h) λu s1 ⟨x,H1,I1,rx,a,dx,fs,ex,ea,l,q⟩=>?_) ht
 subst ex
 obtain rfl:u=Value.ref a:=rx
 refine zrn I1 ea c hm l ?_
 exact PySem.W.callWith_K (first:=[.ref a]) (h₀:=X.base) I.ok.mod.kin hm.kp (thn (ha pos pins s1 σ H1 _ I1 q) λus s2 ⟨vs,H2,I2,r,q2⟩=>⟨I2.kIn,zoJ (us:=.ref a::us) (vs:=.ref a::vs) F hr hb hx I2 (.cons rfl r) q2⟩) hst hpl
theorem zqv {C:Addr}{r:List Addr}{S:Sto}{H:Hp}{d:D}{v:V}{n:Nat}{fs:List (Str×D)}(rel:za5 X.K r S H)(p:Rp r H d v)(h:zcR C S d=some (n,fs)):∃a dx fs',v=.ref a∧r[n]?=some a∧H a=some (.ins C dx fs')∧FR r H fs fs':=by
 obtain⟨rfl,eS⟩:=zoG h
 obtain⟨a,ha,dx,fs',eH,fr⟩:=rel.at eS
 cases p with
 | ref hr=>
  rw[hr] at ha; cases ha
  exact⟨a,dx,fs',rfl,hr,eH,fr⟩
theorem zew {C:Addr}{m:Str}{f:Addr}{fd:FuncData}{k:Nat}{ps:List Str}{sd:Sd}{o e:Expr}{es:List Expr}{to:TDE}{t:TDA}{apos:Pos}{pl:Sem Bool}{ex:Ev→Addr→Sto→Prop}{W:St→XK}(ho:PD X ⟨ex,W⟩ o to)(c:Cls X.K C)(hm:zeO X.K C m f)
  (F:zbc X.prog X.w X.K X.mg X.base (CXE X.prog X.w) k f fd ps (upF X.K sd))(hr:zaO k X.A)(hb:zbF X.K fd ps [])(hx:zc5 X W)(ha:PDA X ⟨ex,W⟩ (e::es) t)
  (hst:starEach (e::es) X.env=(false,eval e X.env)::starEach es X.env:=by rfl)(hpl:(backTo pos (starEach es X.env)).any (·.1)=false:=by rfl)
  (ht:eval (.Call (.Attribute o m apos) (e::es) [] pos) X.env=(do
   let ov ← eval o X.env
   standAt apos.atName
   let (f,first) ← holding [ov] (getMethod ov m pl)
   callWith pos f first (backTo pos (starEach (e::es) X.env)) (backToKw pos (keywordEach [] X.env))):=by rfl):PD X ⟨ex,W⟩ (.Call (.Attribute o m apos) (e::es) [] pos) (zkN C m ex sd to t):=
 zbg (zuy ho c hm F hr hb hx ha hst hpl ht) λσ H Qv ⟨r,dl,S,Q,rs,rel,h,ret⟩=>by unfold zkN at h; exact⟨r,dl,S,_,rs,rel,h,λv H1 r1 d S1 e1 rel1 p1 q1=>by
  split at q1
  ·rename_i n fs ei
   obtain⟨hl,q1⟩:=q1
   obtain⟨a,dx,fs',rfl,hr1,eH,fr⟩:=zqv rel1.b p1 ei
   exact⟨a,dx,fs',rfl,eH,fr.lookup.2 hl,r1,dl,S1,_,rs.ext e1,rel1,q1,λvs H2 r2 ds S2 e2 rel2 p2 q2=>zn9 (Z:=⟨ex,W⟩) (rs.ext (e1.trans e2)) rel2 (Rps.cons (p1.ext e2) p2) q2 (ret.ext (e1.trans e2))⟩
  ·exact q1.elim⟩
def dMake (C:Addr)(ex:Addr→Sto→Prop)(sd:Sd)(t:TDA):TDE:=λdl S Q=>t dl S λds S1=>sd (.ref S1.length::ds) (S1++[.ins C []]) (λd S2=>d=.non∧Q (.ref S1.length) S2) ex
theorem zsc {C x dx:Addr}{r:List Addr}{S:Sto}{H:Hp}(rel:Rel X.K Z r S H)(h1:H x=none)(h2:H dx=none)(h3:dx≠x):
  Rel X.K Z (r++[x]) (S++[.ins C []]) (upd (upd H dx (.own x)) x (.ins C dx []))∧Ext r (r++[x]) H (upd (upd H dx (.own x)) x (.ins C dx [])):=by
 obtain⟨rb,e⟩:=rel.b.pushO (o:=.ins C []) (H':=upd (upd H dx (.own x)) x (.ins C dx [])) h1 (λb u q=>by rw[zbd (zdy q h1),zbd (zdy q h2)]; exact q) λ_=>⟨dx,[],zcP,FR.nil⟩
 exact⟨⟨rb,rel.xw.ext e⟩,e⟩
theorem zwI {C x:Addr}{r r':List Addr}{n:Nat}{H H':Hp}{Z:Zx}{K:PySem.W.Frag}{Q:DK}{Qv:VK}(ret:Ret K Z r H Q Qv)(e:Ext r r' H H')(hx:r'[n]?=some x):
  Ret K Z r' H' (λd S2=>d=.non∧Q (.ref n) S2) (λv H2=>v=.non∧Qv (.ref x) H2):=λv H2 r2 d S2 e2 rel2 p2 q2=>by
 obtain⟨rfl,q2⟩:=q2
 cases p2
 exact⟨rfl,ret _ H2 r2 (.ref n) S2 (e.trans e2) rel2 (.ref (e2.adr _ _ hx)) q2⟩
theorem zfv {C f:Addr}{fd:FuncData}{k:Nat}{ps:List Str}{sd:Sd}{ex:Addr→Sto→Prop}{W:XK}{x:Str}{p:Pos}{e:Expr}{es:List Expr}{t:TDA}(M:Mk X.K C f)
  (F:zbc X.prog X.w X.K X.mg X.base (CXE X.prog X.w) k f fd ps (upF X.K sd))(hr:zaO (k+1) X.A)(hg:Gl X x)(hm:X.mg x=some (.ref C))(hb:zbF X.K fd ps [])(hx:ziN (CXE X.prog X.w) X W)(ha:PDA X (Zc ex W) (e::es) t)
  (hdb:(x==("__debug__":Str))=false:=by decide)(he:starEach (e::es) X.env=(false,eval e X.env)::starEach es X.env:=by rfl)(hpl:(backTo pos (starEach es X.env)).any (·.1)=false:=by rfl):
  PD X (Zc ex W) (.Call (.Name x p) (e::es) [] pos) (dMake C ex sd t):=
 zbg (zsS M F hr hg hm hb .nil hx ha hdb he hpl) λσ H Qv ⟨r,dl,S,Q,rs,rel,h,ret⟩=>⟨r,dl,S,_,rs,rel,h,λvs H1 r1 ds S1 e1 rel1 p1 q1=>λx dx n1 n2 n3=>by
  obtain⟨rel2,e2⟩:=zsc (C:=C) rel1 n1 n2 n3
  show upF X.K sd (.ref x::(vs++[])) _ _ W
  rw[VaS]
  exact⟨ex,_,_,.ref S1.length::ds,_,rel2,Rps.cons (zfL rel1.len) (p1.ext e2),q1,zwI (C:=C) ret (e1.trans e2) (znP rel1.len)⟩⟩
end
section
variable {κ:Type} [DecidableEq κ]
def zd3 (kvs:List (κ×D))(k:κ):Option D:=(kvs.find? λkv=>decide (kv.1=k)).map (·.2)
def zqB (kvs:List (κ×D))(k:κ)(v:D):List (κ×D):=
 if (kvs.any λkv=>decide (kv.1=k))=true then kvs.map (λkv=>if kv.1=k then (kv.1,v) else kv) else kvs++[(k,v)]
theorem FR.split {r:List Addr}{H:Hp}{p:κ×D}{fs:List (κ×D)}{gs:List (κ×V)}(h:FR r H (p::fs) gs):∃q gs',gs=q::gs'∧p.1=q.1∧Rp r H p.2 q.2∧FR r H fs gs':=by
 cases gs with
 | nil=>
  have:=h.1
  simp at this
 | cons q gs'=>
  obtain⟨h1,h2⟩:=h
  simp only[Vam,List.cons.injEq] at h1
  obtain⟨p1,p2⟩:=h2.tail
  exact⟨q,gs',rfl,h1.1,p1,h1.2,p2⟩
theorem FR.unnil {r:List Addr}{H:Hp}{gs:List (κ×V)}(h:FR r H ([]:List (κ×D)) gs):gs=[]:=by
 have:=h.1
 simpa using this.symm
theorem FR.cons {r:List Addr}{H:Hp}{k:κ}{d:D}{v:V}{fs:List (κ×D)}{gs:List (κ×V)}(p:Rp r H d v)(h:FR r H fs gs):FR r H ((k,d)::fs) ((k,v)::gs):=⟨by simp[h.1],Rps.cons p h.2⟩
theorem FR.val {r:List Addr}{H:Hp}{k:κ}:∀ {fs:List (κ×D)} {gs:List (κ×V)},FR r H fs gs→(∀d,zd3 fs k=some d→∃v,zbX gs k=some v∧Rp r H d v)∧(zd3 fs k=none→zbX gs k=none)
 | [],gs,h=>by
  have z:=h.unnil
  subst z
  exact⟨(λd e=>by cases e),λ_=>rfl⟩
 | p::fs,gs,h=>by
  obtain⟨q,gs',rfl,e,pr,t⟩:=h.split
  obtain⟨i1,i2⟩:=FR.val (k:=k) t
  by_cases z:p.1=k
  ·have z':q.1=k:=e.symm.trans z
   rw[zin z']
   have zd:zd3 (p::fs) k=some p.2:=by simp[zd3,VaU,z]
   rw[zd]
   exact⟨λd hd=>⟨q.2,rfl,by cases hd; exact pr⟩,λhd=>by cases hd⟩
  ·have z':¬ q.1=k:=λy=>z (e.trans y)
   rw[zje z']
   have zd:zd3 (p::fs) k=zd3 fs k:=by simp[zd3,VaU,z]
   rw[zd]
   exact⟨i1,i2⟩
theorem FR.putK {r:List Addr}{H:Hp}{k:κ}{d:D}{v:V}{fs:List (κ×D)}{gs:List (κ×V)}(p:Rp r H d v)(h:FR r H fs gs):FR r H (zqB fs k d) (putK gs k v):=by
 have any:∀ {fs:List (κ×D)} {gs:List (κ×V)},FR r H fs gs→(fs.any λkv=>decide (kv.1=k))=(gs.any λkv=>decide (kv.1=k)):=by
  intro fs
  induction fs with
  | nil=>intro gs h; have z:=h.unnil; subst z; rfl
  | cons q fs ih=>
   intro gs h
   obtain⟨q',gs',rfl,e,_,t⟩:=h.split
   rw[List.any_cons,List.any_cons,ih t,e]
 have mp:∀ {fs:List (κ×D)} {gs:List (κ×V)},FR r H fs gs→FR r H (fs.map λkv=>if kv.1=k then (kv.1,d) else kv) (gs.map λkv=>if kv.1=k then (kv.1,v) else kv):=by
  intro fs
  induction fs with
  | nil=>intro gs h; have z:=h.unnil; subst z; exact FR.nil
  | cons q fs ih=>
   intro gs h
   obtain⟨q',gs',rfl,e,pr,t⟩:=h.split
   rw[Vam,Vam]
   obtain⟨qk,qd⟩:=q
   obtain⟨qk',qv⟩:=q'
   have e':qk=qk':=e
   subst e'
   by_cases z:qk=k
   ·rw[if_pos z,if_pos z]; exact FR.cons p (ih t)
   ·rw[if_neg z,if_neg z]; exact FR.cons pr (ih t)
 have ap:∀ {fs:List (κ×D)} {gs:List (κ×V)},FR r H fs gs→FR r H (fs++[(k,d)]) (gs++[(k,v)]):=by
  intro fs
  induction fs with
  | nil=>intro gs h; have z:=h.unnil; subst z; exact FR.cons p FR.nil
  | cons q fs ih=>
   intro gs h
   obtain⟨q',gs',rfl,e,pr,t⟩:=h.split
   obtain⟨qk,qd⟩:=q
   obtain⟨qk',qv⟩:=q'
   have e':qk=qk':=e
   subst e'
   exact FR.cons pr (ih t)
 unfold zqB L2.putK
 rw[any h]
 split
 ·exact mp h
 ·exact ap h
end
section
variable {X:Cx}{Z:Zx}{pos:Pos}
end
section
variable {X:Cx}{Z:Zx}{pos:Pos}
def zbv (xs:List D)(lo hi:Option Int):List D:=(xs.drop (HT.sIx xs.length 0 lo)).take (HT.sIx xs.length xs.length hi-HT.sIx xs.length 0 lo)
theorem Rps.drop {r:List Addr}{H:Hp}{ds:List D}{vs:List V}(h:Rps r H ds vs)(k:Nat):Rps r H (ds.drop k) (vs.drop k):=
 ⟨by simp[h.1],λi d v h1 h2=>h.2 (k+i) d v (by simpa using h1) (by simpa using h2)⟩
theorem Rps.take {r:List Addr}{H:Hp}{ds:List D}{vs:List V}(h:Rps r H ds vs)(k:Nat):Rps r H (ds.take k) (vs.take k):=by
 refine⟨by simp[h.1],λi d v h1 h2=>?_⟩
 rw[List.getElem?_take] at h1 h2
 split at h1
 ·rw[if_pos (by assumption)] at h2
  exact h.2 i d v h1 h2
 ·cases h1
theorem Rps.cut {r:List Addr}{H:Hp}{ds:List D}{vs:List V}(h:Rps r H ds vs)(lo hi:Option Int):Rps r H (zbv ds lo hi) (ze4 vs lo hi):=by
 unfold zbv ze4
 rw[h.1]
 exact(h.drop _).take _
@[irreducible] def zi7 (te:TDE)(tl th:TDO):TDE:=λdl S Q=>te dl S λd S1=>tl dl S1 λl S2=>th dl S2 λu S3=>match d with
 | .ref n=>match lAt S3 n with
  | some o=>Q (.ref S3.length) (S3++[.lst (zbv (zat o) l u)])
  | none=>False
 | _=>False
theorem zjj {e:Expr}{te:TDE}{lo hi:Option Expr}{tl th:TDO}{p2:Pos}(he:PD X Z e te)(hl:PDO X Z lo tl)(hu:PDO X Z hi th):PD X Z (.Subscript e (.Slice lo hi none p2) pos) (zi7 te tl th):=
 zbg (zrK zss he hl hu) λσ H Qv ⟨r,dl,S,Q,rs,rel,h,ret⟩=>by
  unfold zi7 at h
  refine⟨r,dl,S,_,rs,rel,h,λv H1 r1 d S1 e1 rel1 p1 q1=>⟨r1,dl,S1,_,rs.ext e1,rel1,q1,λl H2 r2 S2 e2 rel2 q2=>⟨r2,dl,S2,_,rs.ext (e1.trans e2),rel2,q2,λu H3 r3 S3 e3 rel3 q3=>?_⟩⟩⟩
  cases p1 with
  | @ref n a hn=>
   dsimp only at q3
   split at q3
   ·rename_i o eo
    obtain⟨eo,eL⟩:=zbL eo
    obtain⟨a',ha,ob⟩:=rel3.at eo
    rw[e3.adr _ _ (e2.adr _ _ hn)] at ha; cases ha
    obtain⟨xs,sq,pr⟩:=ob.list eL
    refine⟨a,xs,rfl,sq,λp hp=>?_⟩
    obtain⟨rel4,x⟩:=rel3.push hp (pr.cut l u)
    exact ret _ _ _ (.ref S3.length) _ (e1.trans (e2.trans (e3.trans x))) rel4 (zfL rel3.len) q3
   ·exact q3.elim
  | _=>exact(show False from q3).elim
theorem zjX {te:TDE}{tl th:TDO}{dl:Ev}{S S3:Sto}{Q:DK}{n:Nat}{o:Ob}{lo hi:Option Int}(h:∀K:DK,K (.ref n) S3→te dl S K)(hl:∀K:Option Int→Sto→Prop,K lo S3→tl dl S3 K)(hh:∀K:Option Int→Sto→Prop,K hi S3→th dl S3 K)(ho:S3[n]?=some o)
  (hq:Q (.ref S3.length) (S3++[.lst (zbv (zat o) lo hi)]))(hL:zb3 o=some o:=by rfl):zi7 te tl th dl S Q:=by
 unfold zi7
 refine h _ (hl _ (hh _ ?_))
 simp only[za9 ho hL]
 exact hq
end
section
variable {X:Cx}{Z:Zx}{pos:Pos}
theorem Rps.put {r:List Addr}{H:Hp}{ds:List D}{vs:List V}{d:D}{v:V}(h:Rps r H ds vs)(p:Rp r H d v)(j:Nat):Rps r H (ds.set j d) (vs.set j v):=by
 refine⟨by simp[h.1],λi x y h1 h2=>?_⟩
 by_cases z:j=i
 ·subst z
  have hl:j<ds.length:=by
   have:=(Vac.mp h1).1
   simpa using this
  rw[VaQ hl] at h1
  rw[VaQ (by rw[← h.1]; exact hl)] at h2
  cases h1
  cases h2
  exact p
 ·rw[VaR z] at h1 h2
  exact h.2 i x y h1 h2
@[irreducible] def zmz (to ti te:TDE):TDS:=λE dl S=>te dl S λv S1=>to dl S1 λd S2=>ti dl S2 λi S3=>match d,i with
 | .ref n,.int k=>match S3[n]? with
  | some (.lst xs)=>match ixN xs.length k with
   | some j=>E.nx dl (S3.set n (.lst (xs.set j v)))
   | none=>False
  | _=>False
 | _,_=>False
theorem zfk {o i e:Expr}{to ti te:TDE}{p2:Pos}(ho:PD X Z o to)(hi:PD X Z i ti)(he:PD X Z e te)
  (hs:swapsWithSole [.Subscript o i p2] e pos.line X.env=pure false:=by rfl)(hw:swappedStores [.Subscript o i p2] e X.env=pure none:=by rfl)(h1:(assignEach [.Subscript o i p2] X.env).map (·.2)=[assign (.Subscript o i p2) X.env]:=by rfl)
  (ha:∀v,assign (.Subscript o i p2) X.env v=(do let ov ← holding [v] (eval o X.env); let iv ← holding [v,ov] (eval i X.env); standAt p2; holding [v,ov,iv] (setItem ov iv v); release [v,ov,iv] []):=by intro _; rfl):PDS X Z (.Assign [.Subscript o i p2] e pos) (zmz to ti te):=
 zbO (zpu he (zr5 ho hi zv7 ha) hs hw h1) λF σ H ⟨r,dl,S,E,rs,rel,h,ret⟩=>by
  unfold zmz at h
  refine⟨r,dl,S,_,rs,rel,h,λv H1 r1 dv S1 e1 rel1 p1 q1=>⟨r1,dl,S1,_,rs.ext e1,rel1,q1,λx H2 r2 d S2 e2 rel2 pd q2=>⟨r2,dl,S2,_,rs.ext (e1.trans e2),rel2,q2,λy H3 r3 di S3 e3 rel3 pi q3=>?_⟩⟩⟩
  cases pd with
  | @ref n a hn=>
   cases pi with
   | int k=>
    dsimp only at q3
    split at q3
    ·rename_i xs eS
     split at q3
     ·rename_i j ej
      have hn3:=e3.adr _ _ hn
      obtain⟨ys,eH,pr⟩:=rel3.b.ob n a _ hn3 eS
      obtain⟨rel4,x4⟩:=rel3.set hn3 eS (pr.put (p1.ext (e2.trans e3)) j)
      exact⟨a,ys,k,j,rfl,rfl,eH,by rw[← pr.1]; exact ej,ret.nx _ _ r3 _ _ (e1.trans (e2.trans (e3.trans x4))) (rs.ext (e1.trans (e2.trans (e3.trans x4)))) rel4 q3⟩
     ·exact q3.elim
    ·exact q3.elim
   | _=>exact(show False from q3).elim
  | _=>exact(show False from q3).elim
def zda (f:D→D→Option Bool):List D→D→Option (Option Nat)
 | [],_=>some none
 | y::ys,x=>match f y x,zda f ys x with
  | some true,some _=>some (some 0)
  | some false,some o=>some (o.map (·+1))
  | _,_=>none
theorem znS {f:D→D→Option Bool}{x:D}:∀ {ys:List D} {o:Option Nat},zda f ys x=some o→(∀y∈ys,∃c,f y x=some c)∧∀j,o=some j→(∃y,ys[j]?=some y∧f y x=some true)∧∀m y,m<j→ys[m]?=some y→f y x=some false
 | [],o,e=>by
  have h:=Option.some.inj e
  subst h
  exact⟨(λy hy=>by cases hy),λj z=>by cases z⟩
 | y::ys,o,e=>by
  unfold zda at e
  split at e
  ·rename_i o1 e1 e2
   have h:=Option.some.inj e
   subst h
   obtain⟨h1,_⟩:=znS e2
   refine⟨λz hz=>?_,λj hj=>?_⟩
   ·rcases Vad.mp hz with rfl | hz
    ·exact⟨true,e1⟩
    ·exact h1 z hz
   ·cases hj
    exact⟨⟨y,rfl,e1⟩,λm z hm=>by omega⟩
  ·rename_i o1 e1 e2
   have h:=Option.some.inj e
   subst h
   obtain⟨h1,h2⟩:=znS e2
   refine⟨λz hz=>?_,λj hj=>?_⟩
   ·rcases Vad.mp hz with rfl | hz
    ·exact⟨false,e1⟩
    ·exact h1 z hz
   ·obtain⟨k,rfl,rfl⟩:=Vai.mp hj
    obtain⟨⟨z,hz1,hz2⟩,h3⟩:=h2 k rfl
    refine⟨⟨z,by simpa using hz1,hz2⟩,λm w hm hw=>?_⟩
    cases m with
    | zero=>
     have:w=y:=by simpa using hw.symm
     rw[this]; exact e1
    | succ m=>exact h3 m w (by omega) (by simpa using hw)
  ·cases e
theorem zuD {k:Nat}{pins:List (Addr×Obj)}{σ:St}{H:Hp}{s:Shared}{r:List Addr}{A:Around}{ds:List D}{vs:List V}{us:List Value}{dx:D}{x:V}{u:Value}{j:Nat}(I:Inv X pins σ H s)(hu:A.units+k<cLine)
  (p:Rps r H ds vs)(rv:zaA vs us)(px:Rp r H dx x)(rx:zay x u)(e:zda (eqN k) ds dx=some (some j)):
  ∃g:Value→Bool,(∀y,y∈us.toArray→SeqAt.EqAt A s y u (g y))∧∃hj:j<us.toArray.size,g us.toArray[j]=true∧∀m (hm:m<us.toArray.size),m<j→g us.toArray[m]=false:=by
 obtain⟨h1,h2⟩:=znS e
 obtain⟨⟨yj,hyj,htj⟩,hno⟩:=h2 j rfl
 classical
 have at_:∀(m:Nat) (hm:m<us.length),∃d v,ds[m]?=some d∧Rp r H d v∧zay v us[m]:=λm hm=>by
  have hv:m<vs.length:=by rw[rv.length]; exact hm
  have gv:vs[m]?=some vs[m]:=by simp[hv]
  obtain⟨w,gw,rw'⟩:=rv.get gv
  obtain⟨d,gd,pd⟩:=p.get' gv
  have ew:w=us[m]:=by
   rw[Vaj hm] at gw
   exact(Option.some.inj gw).symm
  subst ew
  exact⟨d,_,gd,pd,rw'⟩
 have val:∀(m:Nat) (hm:m<us.length) (d:D) (c:Bool),ds[m]?=some d→eqN k d dx=some c→decide (∃d v,d∈ds∧Rp r H d v∧zay v us[m]∧eqN k d dx=some true)=c:=λm hm d c hd hc=>by
  obtain⟨d',v',gd,pd,rd⟩:=at_ m hm
  rw[hd] at gd; cases gd
  cases c with
  | true=>exact decide_eq_true ⟨d,v',Vak hd,pd,rd,hc⟩
  | false=>
   refine decide_eq_false λ⟨d2,v2,_,pd2,rd2,hc2⟩=>?_
   have ev:=zq6 rd rd2
   subst ev
   exact absurd (zo5 k d d2 dx v' false true pd pd2 hc hc2) (by decide)
 refine⟨λy=>decide (∃d v,d∈ds∧Rp r H d v∧zay v y∧eqN k d dx=some true),λy hy=>?_,?_⟩
 ·have hy':y∈us:=by simpa using hy
  obtain⟨m,hm,rfl⟩:=VaL.mp hy'
  obtain⟨d,v,gd,pd,rd⟩:=at_ m hm
  obtain⟨c,hc⟩:=h1 d (Vak gd)
  show SeqAt.EqAt A s us[m] u (decide _)
  rw[val m hm d c gd hc]
  exact zd4 k X pins σ H s r A d dx v x _ u c I hu pd px rd rx hc
 ·have hjl:j<us.length:=by
   have:=(Vac.mp hyj).1
   rw[p.1,rv.length] at this
   exact this
  refine⟨by simpa using hjl,?_,λm hm hmj=>?_⟩
  ·have z:=val j hjl yj true hyj htj
   simpa using z
  ·have hm':m<us.length:=by simpa using hm
   obtain⟨d,v,gd,pd,rd⟩:=at_ m hm'
   have z:=val m hm' d false gd (hno m d hmj gd)
   simpa using z
def zkS (k:Nat)(d y:D)(S:Sto)(Q:DK):Prop:=match d with
 | .ref n=>match lAt S n with
  | some o=>match zda (eqN k) (zat o) y with
   | some (some j)=>Q (.int (j:Int)) S
   | _=>False
  | none=>False
 | _=>False
@[irreducible] def zjb (k:Nat)(to:TDE)(t:TDA):TDE:=λdl S Q=>to dl S λd S1=>(match d with
 | .ref n=>(lAt S1 n).isSome=true∧t dl S1 λds S2=>match ds with
  | [y]=>zkS k d y S2 Q
  | _=>False
 | _=>False)
theorem zrU {k j:Nat}(hr:zaO j X.A)(hk:k≤3):MtR X "list.index" (λx xs H Qv=>∃(r:List Addr) (S:Sto) (d y:D) (v:V) (Q:DK),Rel X.K Z r S H∧Rp r H d x∧xs=[v]∧Rp r H y v∧zkS k d y S Q∧Ret X.K Z r H Q Qv):=by
 intro pins s σ H x xs v us Qv I rx rv h
 obtain⟨r,S,d,y,v1,Q,rel,pd,rfl,py,q,ret⟩:=h
 obtain⟨u,rfl,ru⟩:=zfy rv
 unfold zkS at q
 split at q
 ·rename_i n
  split at q
  ·rename_i o eo
   obtain⟨eo,eL⟩:=zbL eo
   split at q
   ·rename_i i ei
    cases pd with
    | @ref n a hn=>
     cases rx
     obtain⟨a',ha,ob⟩:=rel.at eo
     rw[hn] at ha; cases ha
     obtain⟨ys,sq,pr⟩:=ob.list eL
     obtain⟨its,ri,pl,hz⟩:=I.list sq
     have hun:=hr.un
     obtain⟨g,g1,hj,g2,g3⟩:=zuD (A:=X.A.in1) I (by show X.A.units+1+k<_; omega) pr ri py ru ei
     obtain⟨ob2,m,e,c,hd,hdat⟩:=pl
     obtain⟨oc,od,odat,osl⟩:=ob2
     have c':oc=.type "list":=c
     have hdat':odat=.seq its.toArray m:=hdat
     subst c' hdat'
     refine call_meets PySem.F.slot_list_index ⟨_,e,rfl⟩ PySem.F.entry_list_index (PySem.F.args_list_index_2 _ _) (PySem.SeqAt.list_indexAt a its.toArray m od osl u g i hj (by
      have:its.toArray.size≤sizeLine:=by rw[Van,← ri.length]; exact hz
      have h2:=zhp
      omega) g2 λm hm h2=>g3 m hm h2) ⟨e,g1,?_⟩
     exact⟨.int (i:Int),H,I.tok _,⟨_,rfl⟩,ret _ H r (.int _) S Ext.refl rel (.int _) q⟩
   ·exact q.elim
  ·exact q.elim
 ·exact q.elim
theorem zqr {k j:Nat}{o e:Expr}{to:TDE}{t:TDA}{apos cpos:Pos}(hr:zaO j X.A)(hk:k≤3)(ho:PD X Z o to)(ha:PDA X Z [e] t)(hbase:attributeBase o "index" X.env (eval o X.env)=eval o X.env:=by rfl)
  (hfew:((backTo cpos (starEach [e] X.env)).all (λx=>!x.1)&&(backToKw cpos (keywordEach [] X.env)).all (λx=>x.1.isSome)
  &&decide ([e].length+([]:List Keyword).length+(if ([]:List Keyword).isEmpty then 0 else 1)<30))=true:=by rfl)
  (hline:(apos.endLine==cpos.line)=true:=by rfl)(hs:starEach [e] X.env=(false,eval e X.env)::starEach [] X.env:=by rfl)(hplain:(backTo cpos (starEach [] X.env)).any (·.1)=false:=by rfl):
  PD X Z (.Call (.Attribute o "index" apos) [e] [] cpos) (zjb k to t):=
 zbg (zqE (T:="list") PySem.F.plainAttrs_list PySem.F.slot_list_index PySem.F.type_list_index (zrU (Z:=Z) hr hk) ho ha hbase hfew hline hs hplain) λσ H Qv ⟨r,dl,S,Q,rs,rel,h,ret⟩=>by
  unfold zjb at h
  refine⟨r,dl,S,_,rs,rel,h,λv H1 r1 d S1 e1 rel1 p1 q1=>?_⟩
  cases p1 with
  | @ref n a hn=>
   obtain⟨hsome,q1⟩:=q1
   obtain⟨o1,eo⟩:=Va2.mp hsome
   obtain⟨eo,eL⟩:=zbL eo
   obtain⟨a',ha',ob⟩:=rel1.at eo
   rw[hn] at ha'; cases ha'
   obtain⟨xs,sq,_⟩:=ob.list eL
   refine⟨.inl ⟨rfl,xs,sq⟩,r1,dl,S1,_,rs.ext e1,rel1,q1,λvs H2 r2 ds S2 e2 rel2 p2 q2=>?_⟩
   split at q2
   ·rename_i y
    obtain⟨v2,vs',rfl,p3,p4⟩:=p2.uncons
    have z:=p4.unnil
    subst z
    exact⟨r2,S2,.ref n,y,v2,Q,rel2,.ref (e2.adr _ _ hn),rfl,p3,q2,ret.ext (e1.trans e2)⟩
   ·exact q2.elim
  | _=>exact(show False from q1).elim
end
section
variable {X:Cx}{pins:List (Addr×Obj)}{σ:St}{H:Hp}{s:Shared}{h':Heap}
theorem zvM {t':Nat}{ch:List Addr}{T:Addr}{xs:List V}{vals:Array Value}(I:Inv X pins σ H s)(k:∀b o,b ∉ ch→s.heap.get? b=some o→h'.get? b=some o)(hch:∀b∈ch,zco X pins H b)
  (hT:s.heap.objs.size≤T)(ht:h'.IsTuple T vals)(rv:zaA xs vals.toList)(hl:xs.length≤sizeLine):Inv X pins σ (upd H T (.tup xs)) { s with heap:=h',toks:=t' }:=by
 have hTn:H T=none:=I.hok.fresh hT
 have old:∀ {b:Addr} {o:Obj},s.heap.get? b=some o→b≠T:=λ{b o} e z=>absurd (Vap (Heap.lt_size e) hT) (by rw[z]; exact VaN _)
 have trk:∀b u,H b=some u→b ∉ ch:=λb u e z=>by
  rw[(hch b z).1] at e; cases e
 have up:∀b u,H b=some u→(upd H T (.tup xs)) b=some u:=zdN hTn
 refine I.step (g':=s.gens) (d':=s.drawn) (ch:=ch) (λb hb=>?_) (λb o _ _ hc e _=>k b o hc e) (λb o _ _ hc e _=>⟨o.slots,k b o hc e⟩) (λb o _ e n=>by rw[zbd (old e)]; exact n)
  (λb o hc e=>⟨o,k b o hc e⟩) (λb ys e=>up _ _ e) (λb o u e=>up _ _ e) (λb ps e=>⟨#[],by rw[up _ _ e]; simp⟩) (λm hm=>?_) (λb u e=>?_) I.bare
 ·obtain⟨_,f1,_,f3,f4,f5⟩:=hch b hb
  exact⟨f3,f1,f4,f5⟩
 ·obtain⟨o,es,ep,ho,r⟩:=hm
  exact⟨o,es,ep,k _ o (λz=>(hch _ z).2.1 rfl) ho,r⟩
 ·by_cases hb:b=T
  ·subst hb
   rw[zcP] at e
   cases e
   exact⟨hl,vals.toList,rv,by rw[Array.toArray_toList]; exact ht⟩
  ·rw[zbd hb] at e
   refine(I.hok b u e).stay (λc v hc q=>k c v ?_ q) (λd z=>up _ _ z) λd ys z=>up _ _ z
   rcases hc with z | z
   ·rw[z]; exact trk b u e
   ·exact trk c _ z
theorem zqK {t':Nat}{ch:List Addr}(I:Inv X pins σ H s)(k:∀b o,b ∉ ch→s.heap.get? b=some o→h'.get? b=some o)(hch:∀b∈ch,zco X pins H b):Inv X pins σ H { s with heap:=h',toks:=t' }:=by
 have trk:∀b u,H b=some u→b ∉ ch:=λb u e z=>by
  rw[(hch b z).1] at e; cases e
 refine I.step (g':=s.gens) (d':=s.drawn) (ch:=ch) (λb hb=>?_) (λb o _ _ hc e _=>k b o hc e) (λb o _ _ hc e _=>⟨o.slots,k b o hc e⟩) (λb o _ e n=>n)
  (λb o hc e=>⟨o,k b o hc e⟩) (λb ys e=>e) (λb o u e=>e) (λb ps e=>⟨#[],by rw[e]; simp⟩) (λm hm=>?_) (λb u e=>?_) I.bare
 ·obtain⟨_,f1,_,f3,f4,f5⟩:=hch b hb
  exact⟨f3,f1,f4,f5⟩
 ·obtain⟨o,es,ep,ho,r⟩:=hm
  exact⟨o,es,ep,k _ o (λz=>(hch _ z).2.1 rfl) ho,r⟩
 ·refine(I.hok b u e).stay (λc v hc q=>k c v ?_ q) (λd z=>z) λd ys z=>z
  rcases hc with z | z
  ·rw[z]; exact trk b u e
  ·exact trk c _ z
end
def Ite (K:PySem.W.Frag)(a:Addr):It:=
 ⟨λi H=>∃xs x,SqL K H a xs∧xs[i]?=some x,λi H x H'=>∃T v,x=.ref T∧H T=none∧H'=upd H T (.tup [.int (i:Int),v])∧∀xs,SqL K H a xs→xs[i]?=some v,λi H=>∃xs,SqL K H a xs∧xs.length=i⟩
theorem zta {P:Program}{w:World}{K:PySem.W.Frag}{elts:List Expr}{kk:Nat}{tp:Pos}(a e it:Addr)(hei:e≠it)(hae:a≠e)(hai:a≠it):
  zh5 P w K (.Tuple elts kk tp) (Ite K a) [e,it] e (λi h=>(∃old,IsEnum h e it i old)∧h.IsListIter it a i) where
 mem:=by simp
 obj:=λi h st b hb=>by
  obtain⟨⟨old,he⟩,o,e1,c,d⟩:=st
  have hb':b=e∨b=it:=by simpa using hb
  rcases hb' with rfl | rfl
  ·exact⟨_,he,λv z=>by cases z⟩
  ·exact⟨o,e1,λv z=>by rw[d] at z; cases z⟩
 keep:=λi h h' st k=>by
  obtain⟨⟨old,he⟩,hit⟩:=st
  exact⟨⟨old,k e (by simp) _ he⟩,hit.at λo x=>k it (by simp) o x⟩
 item:=by
  intro X hP hw hK hc i pins s σ H E I hf st hg
  subst hP hw hK
  obtain⟨xs,x,hq,hx⟩:=hg
  obtain⟨its,rv,p,hz⟩:=I.list hq
  obtain⟨u,hu,ru⟩:=rv.get hx
  have hi:i<its.toArray.size:=by
   have:=(Vac.mp hu).1
   simpa using this
  have W:=WalksT.enumerate (prog:=X.prog) (w:=X.w) (A:=X.A) (I.ok.hd hc) e it a hei hae hai its.toArray
  refine W.item i s _ _ hi ⟨st.1,st.2,p.isList⟩ λT vals h' tk hP hT ht mid k1=>?_
  obtain⟨t,y,hy,rfl⟩:=hP
  have ey:y=u:=by
   have z:its[i]?=some y:=by simpa using hy
   rw[hu] at z; exact(Option.some.inj z).symm
  subst ey
  have hw:∀b∈[e,it],zco X pins H b:=hf
  have I1:Inv X pins σ (upd H T (.tup [.int (i:Int),x])) { s with heap:=h',toks:=tk }:=zvM I k1 hw hT ht (.cons ⟨t,rfl⟩ (.cons ru .nil)) (show 2≤sizeLine from zmw (by decide))
  have neT:∀b∈[e,it],b≠T:=λb hb z=>W.apart i T h' mid (z ▸ hb)
  have hf1:∀b∈[e,it],zco X pins (upd H T (.tup [.int (i:Int),x])) b:=λb hb=>⟨by rw[zbd (neT b hb)]; exact(hf b hb).1,(hf b hb).2⟩
  refine⟨.ref T,rfl,W.go elts kk tp i T _ _ _ mid λh2 st2 k2=>?_⟩
  have I2:Inv X pins σ (upd H T (.tup [.int (i:Int),x])) { s with heap:=h2,toks:=tk }:=zqK (s:={ s with heap:=h',toks:=tk }) (t':=tk) I1 k2 hf1
  exact⟨.ref T,_,I2,rfl,⟨T,x,rfl,I.hok.fresh hT,rfl,λys hy=>by rw[I.list_inj hy hq]; exact hx⟩,⟨st2.1,st2.2.1⟩,λb hb=>(hf1 b hb).1⟩
 done:=by
  intro X hP hw hK hc i pins s σ H E I hf st hg
  subst hP hw hK
  obtain⟨xs,hq,hx⟩:=hg
  obtain⟨its,rv,p,hz⟩:=I.list hq
  have W:=WalksT.enumerate (prog:=X.prog) (w:=X.w) (A:=X.A) (I.ok.hd hc) e it a hei hae hai its.toArray
  have hi:i=its.toArray.size:=by rw[Van,← rv.length]; exact hx.symm
  subst hi
  exact W.done s _ _ ⟨st.1,st.2,p.isList⟩ λh' tk k1=>⟨rfl,zqK (t':=tk) I k1 hf⟩
 self:=λA i s Q E st h=>by
  obtain⟨⟨old,he⟩,_⟩:=st
  exact wpAny_pyIter_enum he h
section
variable {X:Cx}
def iEnum (K:PySem.W.Frag)(ta:TA):TI:=λσ H R=>ta σ H λvs H1=>∃a,vs=[.ref a]∧(∃xs,SqL K H1 a xs)∧R (Ite K a) H1
theorem zsH {a:Expr}{ta:TA}{p pos tp:Pos}{elts:List Expr}{kk:Nat}(hg:Gl X "enumerate")(hm:X.mg "enumerate"=none)(hv:bootBuiltins "enumerate"=some (.type "enumerate"))(ha:PA X [a] ta)(hs:starEach [a] X.env=[(false,eval a X.env)]:=by rfl):
  PI X (.Tuple elts kk tp) (.Call (.Name "enumerate" p) [a] [] pos) (iEnum X.K ta):=by
 intro pins s σ H R I h
 refine Call_ (zfd I hg hm hv (PyProof.Rows.callWith_type1 (thn (ha pos pins s σ H _ I h) λus s1 ⟨vs,H1,I1,r1,q1⟩=>?_) hs rfl))
 obtain⟨l,e,⟨xs,hq⟩,q⟩:=q1
 subst e
 cases r1 with
 | cons r rr=>
  cases rr
  cases r
  obtain⟨its,rv,pl,hz⟩:=I1.list hq
  have hll:l<s1.heap.objs.size:=by
   obtain⟨o,e,_⟩:=pl.isList
   exact Heap.lt_size e
  refine call_enumerate_list pl.isList λh' he hit hsz hk=>?_
  have I2:Inv X pins σ H1 { s1 with heap:=h' }:=I1.kept (t':=s1.toks) hk
  refine wpAny_pyIter_enum he ⟨s1.heap.objs.size+1,[s1.heap.objs.size+1,s1.heap.objs.size],_,_,H1,rfl,I2,zta l _ _ (Nat.succ_ne_self _) (Vaq (Nat.lt_succ_of_lt hll)) (Vaq hll),⟨⟨_,he⟩,hit⟩,λb hb=>?_,q⟩
  have hb':b=s1.heap.objs.size+1∨b=s1.heap.objs.size:=by simpa using hb
  rcases hb' with rfl | rfl
  ·exact I1.fpOk (Nat.le_succ _) (I1.hok.fresh (Nat.le_succ _))
  ·exact I1.fpOk (Vab _) (I1.hok.fresh (Vab _))
end
section
variable {X:Cx}
end
section
variable {X:Cx}{Z:Zx}{pos:Pos}
@[irreducible] def zl7 (is:List Nat)(ta:TDA)(tb:TDS):TDS:=λE dl S=>ta dl S λds S1=>match ds with
 | [.ref n]=>(lAt S1 n).isSome=true∧∃W:Nat→Nat→Ev→Sto→Prop,(∃m,W 0 m dl S1)∧∀k m dl S,W k m dl S→match lAt S n with
  | some o=>match (zat o)[k]? with
   | some x=>tb { nx:=λdl' S'=>∃m',m'<m∧W (k+1) m' dl' S',rt:=E.rt,bk:=E.nx,ct:=λdl' S'=>∃m',m'<m∧W (k+1) m' dl' S' } (zdv is [.int (k:Int),x] dl) S
   | none=>k=(zat o).length∧E.nx dl S
  | none=>False
 | _=>False
theorem zmo {r r':List Addr}{S':Sto}{H':Hp}{n:Nat}{a:Addr}{o:Ob}(hn:r'[n]?=some a)(rel:za5 X.K r' S' H')(eo:lAt S' n=some o):∃xs,SqL X.K H' a xs∧Rps r' H' (zat o) xs:=by
 obtain⟨eo,eL⟩:=zbL eo
 obtain⟨a',ha,ob⟩:=rel.at eo
 rw[hn] at ha; cases ha
 exact ob.list eL
theorem zvX {iter:Expr}{body:List Stmt}{es:List Expr}{kk:Nat}{tp p pos2:Pos}{is:List Nat}{ta:TDA}{tb:TDS}(hp:PassesOwn (model X.prog X.w) X.A X.env X.xe)(hc:X.calm=true)(hN:X.N.Nodup)(hn:Nms X es is)(h2:is.length=2)
  (hg:Gl X "enumerate")(hm:X.mg "enumerate"=none)(hv:bootBuiltins "enumerate"=some (.type "enumerate"))(ha:PDA X Z [iter] ta)(hb:zch X Z body tb)
  (hlen:(assignEach es X.env).length=is.length:=by rfl)(hst:(assignEach es X.env).findIdx? (·.1)=none:=by rfl)(hse:starEach [iter] X.env=[(false,eval iter X.env)]:=by rfl)
  (hs:∀y,foldedSetIterable (.Call (.Name "enumerate" p) [iter] [] pos2) X.env y=pure y:=by intro _; rfl):PDS X Z (.For (.Tuple es kk tp) (.Call (.Name "enumerate" p) [iter] [] pos2) body [] pos) (zl7 is ta tb):=
 zbO (zg4 hp hc (zsH hg hm hv ha hse) (zov hc (zjO hN hn) hlen hst) hb hs) λF σ H ⟨r,dl,S,E,rs,rel,h,ret⟩=>by
  unfold zl7 at h
  refine⟨r,dl,S,_,rs,rel,h,λvs H1 r1 ds S1 x1 rel1 p1 q1=>?_⟩
  split at q1
  ·rename_i n
   obtain⟨v,vs',rfl,p2,p3⟩:=p1.uncons
   have z:=p3.unnil
   subst z
   cases p2 with
   | @ref n a hr=>
    obtain⟨hsome,W,⟨m0,w0⟩,turn⟩:=q1
    obtain⟨o1,eo1⟩:=Va2.mp hsome
    obtain⟨xs1,sq1,_⟩:=zmo (r:=r1) hr rel1.b eo1
    refine⟨a,rfl,⟨xs1,sq1⟩,λk m σ' H'=>∃r' dl' S',Ext r1 r' H1 H'∧Rs r' H' dl' σ'∧Rel X.K Z r' S' H'∧W k m dl' S',⟨m0,r1,dl,S1,Ext.refl,rs.ext x1,rel1,w0⟩,?_⟩
    rintro k m σ2 H2 ⟨r2,dl2,S2,x2,rs2,rel2,w2⟩
    have q:=turn k m dl2 S2 w2
    split at q
    ·rename_i o eo
     obtain⟨xs,sq,pr⟩:=zmo (r:=r2) (x2.adr _ _ hr) rel2.b eo
     split at q
     ·rename_i y ey
      obtain⟨v,hvv,pv⟩:=pr.get ey
      refine .inr ⟨⟨xs,v,sq,hvv⟩,λσ' H'=>∃m',m'<m∧∃r' dl' S',Ext r1 r' H1 H'∧Rs r' H' dl' σ'∧Rel X.K Z r' S' H'∧W (k+1) m' dl' S',λ_ _ z=>z,λv' H' y'=>?_⟩
      obtain⟨T,w,rfl,hT,rfl,hw⟩:=y'
      have ew:w=v:=by
       have z:=hw xs sq
       rw[hvv] at z; exact(Option.some.inj z).symm
      subst ew
      have x3:Ext r2 r2 H2 (upd H2 T (.tup [.int (k:Int),w])):=ztR hT
      have pp:Rps r2 (upd H2 T (.tup [.int (k:Int),w])) [.int (k:Int),y] [.int (k:Int),w]:=Rps.cons (.int _) (Rps.cons (pv.ext x3) Rps.nil)
      have rel3:=rel2.same (zdN (o:=.tup [.int (k:Int),w]) hT)
      have go:∀σ' H' r' dl' S',Ext r2 r' (upd H2 T (.tup [.int (k:Int),w])) H'→Rs r' H' dl' σ'→Rel X.K Z r' S' H'→(∃m',m'<m∧W (k+1) m' dl' S')→∃m',m'<m∧∃r' dl' S',Ext r1 r' H1 H'∧Rs r' H' dl' σ'∧Rel X.K Z r' S' H'∧W (k+1) m' dl' S':=
       λσ' H' r' dl' S' x rs' rel' ⟨m',hm,w'⟩=>⟨m',hm,r',dl',S',x2.trans (x3.trans x),rs',rel',w'⟩
      refine⟨T,[.int (k:Int),w],rfl,SqT.of zcP,by rw[h2]; rfl,by rw[h2]; rfl,r2,_,S2,_,zjR (rs2.ext x3) pp,rel3,q,⟨go,λσ' H' r' dl' S' x rs' rel' z=>ret.nx σ' H' r' dl' S' (x1.trans (x2.trans (x3.trans x))) rs' rel' z,go,ret.rt.ext (x1.trans (x2.trans x3))⟩⟩
     ·obtain⟨hk,q⟩:=q
      exact .inl ⟨⟨xs,sq,by rw[← pr.1]; exact hk.symm⟩,ret.nx σ2 H2 r2 dl2 S2 (x1.trans x2) rs2 rel2 q⟩
    ·exact q.elim
  ·exact q1.elim
end
section
variable {X:Cx}{Z:Zx}{pos:Pos}
@[irreducible] def zl9 (T:String)(te:TDE):TDE:=λdl S Q=>te dl S λd S1=>match d with
 | .ref n=>match S1[n]? with
  | some (.lst _)=>Q (.bl (zc4 "list" T)) S1
  | _=>False
 | _=>False
theorem zrQ {T:String}{e:Expr}{te:TDE}{y:Str}{p p2:Pos}(KT:PySem.W.kitOne X.K (.type "list") (.type T)=some (zc4 "list" T))(hg:Gl X "isinstance")(hm:X.mg "isinstance"=none)(hg2:Gl X y)(hm2:X.mg y=none)(hv2:bootBuiltins y=some (.type T))(ha:PD X Z e te)
  (hv:bootBuiltins "isinstance"=some (.builtin "isinstance"):=by exact PyProof.Rows.Boot.«isinstance»)
  (hn2:y≠"__name__":=by decide)(hd2:(y==("__debug__":Str))=false:=by decide)(he2:starEach [e,.Name y p2] X.env=(false,eval e X.env)::starEach [.Name y p2] X.env:=by rfl)
  (he3:starEach [.Name y p2] X.env=(false,eval (.Name y p2) X.env)::starEach [] X.env:=by rfl)(hpl:(backTo pos (starEach [.Name y p2] X.env)).any (·.1)=false:=by rfl):
  PD X Z (.Call (.Name "isinstance" p) [e,.Name y p2] [] pos) (zl9 T te):=
 zbg (znq zqf hg hm hv (zfe ha (zfe (zqc (v:=.ty T) hg2 hm2 hv2 rfl hn2 hd2) zmX he3) he2) (by decide) (by decide) he2 hpl) λσ H Qv ⟨r,dl,S,Q,rs,rel,h,ret⟩=>
  by unfold zl9 at h; exact⟨r,dl,S,_,rs,rel,h,λv H1 r1 d S1 e1 rel1 p1 h1=>by
   cases p1 with
   | @ref n a hr=>
    dsimp only at h1
    split at h1
    ·rename_i xs eS
     obtain⟨ys,eH,_⟩:=rel1.b.ob n a _ hr eS
     exact⟨_,T,_,_,rfl,.lst eH,KT,ret _ _ _ _ _ e1 rel1 (.bl _) h1⟩
    ·exact h1.elim
   | _=>exact(show False from h1).elim⟩
end
theorem zyi (K:PySem.W.Frag):PySem.W.kitOne K (.type "list") (.type "list")=some (zc4 "list" "list"):=by kernel_rfl
structure Dm (K:PySem.W.Frag)(C:Addr)(m qual:Str)(st:Stmt)(ps:List Str) where
 f:Addr
 fd:FuncData
 F:Fun K m qual st f fd
 m:zeO K C m f
 b:zbF K fd ps []
structure Fm (P:Program)(w:World)(K:PySem.W.Frag)(mg:Str→Option Value)(base:Heap)(k:Nat)(C:Addr)(x:Str)(ps:List Str)(sd:Sd) where
 f:Addr
 fd:FuncData
 ok:zbc P w K mg base (CXE P w) k f fd ps (upF K sd)
 m:zeO K C x f
 b:zbF K fd ps []
def Dm.mk' {P:Program}{w:World}{K:PySem.W.Frag}{mg:Str→Option Value}{base:Heap}{k:Nat}{C:Addr}{x qual:Str}{st:Stmt}{ps:List Str}{sd:Sd}(d:Dm K C x qual st ps)(h:zbc P w K mg base (CXE P w) k d.f d.fd ps (upF K sd)):Fm P w K mg base k C x ps sd:=
 ⟨d.f,d.fd,h,d.m,d.b⟩
theorem zfG {P:Program}{w:World}{X:Cx}:ziN (CXE P w) X (λ_ _ _=>False):=λ_ _ _ _ _ _ _ h=>by
 obtain⟨_,_,_,_,_,_,_,_,_,_,_,_,q⟩:=h
 exact q.elim
section
variable {X:Cx}{Z:Zx}
theorem zjk {k:Nat}(hr:zaO k X.A):OpR X (compareOp .NotIn) (upO X.K Z (zbY (wIn 1 true))):=by rw[zcr]; exact zrr 1 (by have:=hr.un; omega)
theorem zq5 {k:Nat}(hr:zaO k X.A):OpR X (compareOp .Eq) (upO X.K Z (zbY (zec 1))):=by rw[zcr]; exact zuh 1 hr (by have:=hr.un; omega)
end
section
variable {X:Cx}{Z:Zx}{pos:Pos}
theorem ztB {k n m:Nat}{a a':Addr}{o o':Ob}{b:Bool}{pins:List (Addr×Obj)}{σ:St}{H:Hp}{s:Shared}{r:List Addr}{S:Sto}(I:Inv X pins σ H s)(rel:Rel X.K Z r S H)(hn:r[n]?=some a)(hm:r[m]?=some a')(eo:lAt S n=some o)(eo':lAt S m=some o')
  (e:eqL (eqN k) (zat o) (zat o')=some b)(hu:X.A.units+1+k<cLine):SeqAt.RcNeAt X.A s (.ref a) (.ref a') (!b):=by
 obtain⟨eo,eL⟩:=zbL eo
 obtain⟨eo',eL'⟩:=zbL eo'
 obtain⟨z,hz,ob⟩:=rel.at eo
 rw[hn] at hz; cases hz
 obtain⟨z,hz,ob'⟩:=rel.at eo'
 rw[hm] at hz; cases hz
 obtain⟨xs,sq,pr⟩:=ob.list eL
 obtain⟨ys,sq',pr'⟩:=ob'.list eL'
 obtain⟨is,ri,pl,_⟩:=I.list sq
 obtain⟨js,rj,pl',_⟩:=I.list sq'
 obtain⟨g1,g2⟩:=zfW (A:=X.A.in1) (zd4 k) I (by show X.A.units+1+k<_; omega) pr pr' ri rj e
 by_cases hs:is.toArray.size=js.toArray.size
 ·have q:=SeqAt.RcNeAt.lists (A:=X.A) pl.isList pl'.isList hs (by omega) g1
  have e2:(List.range is.toArray.size).all (zcq (eqN k) (zat o) (zat o'))=b:=by
   rw[← g2,← hs,Nat.min_self]; simp
  rw[e2] at q
  exact q
 ·have q:=SeqAt.RcNeAt.lists_lengths (A:=X.A) pl.isList pl'.isList (by simpa using hs) (by omega)
  have e2:b=false:=by
   rw[← g2,show (is.toArray.size==js.toArray.size)=false by simpa using hs,Bool.and_false]
  rw[e2]
  exact q
theorem zxf (k:Nat){j:Nat}(hr:zaO j X.A)(hu:X.A.units+1+k<cLine):OpR X (compareOp .NotEq) (upO X.K Z (zdA k)):=by
 intro pins s σ H x y v u Qv I rx ry h
 obtain⟨r,S,dx,dy,Q,rel,px,py,q,ret⟩:=h
 have zaS:∀ {dx dy:D} {x y:V},Rp r H dx x→Rp r H dy y→zay x v→zay y u→zdF k S dx dy=eqN (k+1) dx dy→zdA k dx dy S Q→wpAny (model X.prog X.w) X.A (compareOp .NotEq v u) (EP X pins σ Qv) X.xe s:=λpx py rx ry e q=>by
  refine zpJ (Z:=Z) (zd4 k) hu pins s σ H _ _ v u Qv I rx ry ⟨r,S,_,_,Q,rel,px,py,?_,ret⟩
  unfold zdA at q
  rw[e] at q
  exact q
 cases px with
 | @ref n a hn=>
  cases py with
  | @ref m a' hm=>
   cases rx
   cases ry
   unfold zdA zdF at q
   dsimp only at q
   split at q
   ·rename_i b e
    split at e
    ·rename_i o o' eo eo'
     exact ztB I rel hn hm eo eo' e hu X.prog X.w X.xe _ ⟨.bl (!b),H,I,rfl,ret _ _ _ _ _ Ext.refl rel (.bl (!b)) q⟩
    ·cases e
   ·exact q.elim
  | non=>exact zaS (.ref hn) .non rx ry rfl q
  | bl i=>exact zaS (.ref hn) (.bl i) rx ry rfl q
  | int i=>exact zaS (.ref hn) (.int i) rx ry rfl q
  | str i=>exact zaS (.ref hn) (.str i) rx ry rfl q
  | tup a b c=>exact zaS (.ref hn) (.tup a b c) rx ry rfl q
  | exc a=>exact zaS (.ref hn) (.exc a) rx ry rfl q
 | non=>exact zaS .non py rx ry rfl q
 | bl i=>exact zaS (.bl i) py rx ry rfl q
 | int i=>exact zaS (.int i) py rx ry rfl q
 | str i=>exact zaS (.str i) py rx ry rfl q
 | tup a b c=>exact zaS (.tup a b c) py rx ry rfl q
 | exc a=>exact zaS (.exc a) py rx ry rfl q
theorem zyd {k:Nat}(hr:zaO k X.A):OpR X (compareOp .NotEq) (upO X.K Z (zbY (zdA 1))):=by rw[zcr]; exact zxf 1 hr (by have:=hr.un; omega)
theorem zuo {k n m:Nat}{S:Sto}{Q:DK}{o o':Ob}{b:Bool}(h1:lAt S n=some o)(h2:lAt S m=some o')(e:eqL (eqN k) (zat o) (zat o')=some b)(hq:Q (.bl (!b)) S):zbY (zdA k) (.ref n) (.ref m) S Q:=by
 rw[zcr]
 unfold zdA
 simp only[zdF,h1,h2,e]
 exact hq
def ziG:W2:=λx y S Q=>match x,y with
 | .ref n,.ref m=>match S[n]?,S[m]? with
  | some (.lst xs),some (.lst ys)=>xs.length+ys.length≤1000∧Q (.ref S.length) (S++[.lst (xs++ys)])
  | _,_=>False
 | _,_=>False
theorem Rps.app {r:List Addr}{H:Hp}:∀ {ds es:List D} {xs ys:List V},Rps r H ds xs→Rps r H es ys→Rps r H (ds++es) (xs++ys)
 | [],es,xs,ys,p,q=>by
  have z:=p.unnil
  subst z
  exact q
 | d::ds,es,xs,ys,p,q=>by
  obtain⟨v,vs,rfl,p1,p2⟩:=p.uncons
  exact Rps.cons p1 (p2.app q)
theorem zwy:OpR X (binaryOp .Add) (upO X.K Z (zbY ziG)):=by
 rw[zcr]
 exact zfF zwM λx y H Qv ⟨r,S,dx,dy,Q,rel,px,py,q,ret⟩=>by
  unfold ziG at q
  split at q
  ·rename_i n m
   split at q
   ·rename_i xs ys e1 e2
    obtain⟨hl,q⟩:=q
    cases px with
    | @ref _ a hn=>
     cases py with
     | @ref _ a' hm=>
      obtain⟨z,hz,ob⟩:=rel.at e1
      rw[hn] at hz; cases hz
      obtain⟨z,hz,ob'⟩:=rel.at e2
      rw[hm] at hz; cases hz
      obtain⟨us,h1,p1⟩:=ob
      obtain⟨vs,h2,p2⟩:=ob'
      refine⟨a,a',us,vs,rfl,rfl,h1,h2,?_,λp hp=>?_⟩
      ·rw[← p1.1,← p2.1]; exact zmw hl
      ·obtain⟨rel4,x⟩:=rel.push hp (p1.app p2)
       exact ret _ _ _ (.ref S.length) _ x rel4 (zfL rel.len) q
   ·exact q.elim
  ·exact q.elim
theorem zya {n m:Nat}{S:Sto}{Q:DK}{xs ys:List D}(h1:S[n]?=some (.lst xs))(h2:S[m]?=some (.lst ys))(hl:xs.length+ys.length≤1000)(hq:Q (.ref S.length) (S++[.lst (xs++ys)])):zbY ziG (.ref n) (.ref m) S Q:=by
 rw[zcr]
 unfold ziG
 simp only[h1,h2]
 exact⟨hl,hq⟩
def MT (X:Cx)(m:Str)(tbl:List (Addr×Sd)):Prop:=∀C sd,(C,sd)∈tbl→Cls X.K C∧∃(f:Addr) (fd:FuncData) (k:Nat) (ps:List Str),zeO X.K C m f∧zbc X.prog X.w X.K X.mg X.base (CXE X.prog X.w) k f fd ps (upF X.K sd)∧zaO k X.A∧zbF X.K fd ps []
theorem zpn {m:Str}:MT X m []:=λ_ _ h=>by cases h
theorem zcv {C:Addr}{m:Str}{k:Nat}{ps:List Str}{sd:Sd}{tbl:List (Addr×Sd)}(c:Cls X.K C)(G:Fm X.prog X.w X.K X.mg X.base k C m ps sd)(hr:zaO k X.A)(h:MT X m tbl):MT X m ((C,sd)::tbl):=λC' sd' hm=>by
 rcases Vad.mp hm with e | e
 ·cases e
  exact⟨c,G.f,G.fd,k,ps,G.m,G.ok,hr,G.b⟩
 ·exact h C' sd' e
theorem zrG {m:Str}{W:St→XK}{o e:Expr}{es:List Expr}{ta:TE}{t:TA}{apos:Pos}{pl:Sem Bool}{tbl:List (Addr×Sd)}(he:PE X o ta)(M:MT X m tbl)(hx:zc5 X W)(ha:PA X (e::es) t)(hst:starEach (e::es) X.env=(false,eval e X.env)::starEach es X.env)(hpl:(backTo pos (starEach es X.env)).any (·.1)=false)
  (ht:eval (.Call (.Attribute o m apos) (e::es) [] pos) X.env=(do
   let ov ← eval o X.env
   standAt apos.atName
   let (f,first) ← holding [ov] (getMethod ov m pl)
   callWith pos f first (backTo pos (starEach (e::es) X.env)) (backToKw pos (keywordEach [] X.env)))):
  PE X (.Call (.Attribute o m apos) (e::es) [] pos) (λσ H Q=>ta σ H λx H1=>∃a C dx fs sd,x=.ref a∧H1 a=some (.ins C dx fs)∧(C,sd)∈tbl∧fs.lookup m=none∧t σ H1 λvs H2=>upF X.K sd (x::vs) H2 Q (W σ)):=by
 intro pins s σ H Q I h
 refine PySem.W.methodCall_KW (pl:=pl) (thn (he pins s σ H _ I h) λu s1 ⟨x,H1,I1,rx,a,C,dx,fs,sd,ex,ea,hm',l,q⟩=>?_) ht
 subst ex
 obtain rfl:u=Value.ref a:=rx
 obtain⟨c,f,fd,k,ps,hm,F,hr,hb⟩:=M C sd hm'
 refine zrn I1 ea c hm l ?_
 exact PySem.W.callWith_K (first:=[.ref a]) (h₀:=X.base) I.ok.mod.kin hm.kp (thn (ha pos pins s1 σ H1 _ I1 q) λus s2 ⟨vs,H2,I2,r,q2⟩=>⟨I2.kIn,zoJ (us:=.ref a::us) (vs:=.ref a::vs) F hr hb hx I2 (.cons rfl r) q2⟩) hst hpl
@[irreducible] def zm9 (tbl:List (Addr×Sd))(m:Str)(ex:Ev→Addr→Sto→Prop)(to:TDE)(t:TDA):TDE:=λdl S Q=>to dl S λd S1=>∃n C fs sd,d=.ref n∧S1[n]?=some (.ins C fs)∧(C,sd)∈tbl∧fs.lookup m=none∧t dl S1 λds S2=>sd (d::ds) S2 Q (ex dl)
theorem zpF {m:Str}{o e:Expr}{es:List Expr}{to:TDE}{t:TDA}{apos:Pos}{pl:Sem Bool}{ex:Ev→Addr→Sto→Prop}{W:St→XK}{tbl:List (Addr×Sd)}(ho:PD X ⟨ex,W⟩ o to)(M:MT X m tbl)(hx:zc5 X W)(ha:PDA X ⟨ex,W⟩ (e::es) t)
  (hst:starEach (e::es) X.env=(false,eval e X.env)::starEach es X.env:=by rfl)(hpl:(backTo pos (starEach es X.env)).any (·.1)=false:=by rfl)
  (ht:eval (.Call (.Attribute o m apos) (e::es) [] pos) X.env=(do
   let ov ← eval o X.env
   standAt apos.atName
   let (f,first) ← holding [ov] (getMethod ov m pl)
   callWith pos f first (backTo pos (starEach (e::es) X.env)) (backToKw pos (keywordEach [] X.env))):=by rfl):PD X ⟨ex,W⟩ (.Call (.Attribute o m apos) (e::es) [] pos) (zm9 tbl m ex to t):=
 zbg (zrG ho M hx ha hst hpl ht) λσ H Qv ⟨r,dl,S,Q,rs,rel,h,ret⟩=>by
  unfold zm9 at h
  refine⟨r,dl,S,_,rs,rel,h,λv H1 r1 d S1 e1 rel1 p1 q1=>?_⟩
  obtain⟨n,C,fs,sd,rfl,eS,hm,hl,q1⟩:=q1
  obtain⟨a,dx,fs',rfl,hr1,eH,fr⟩:=zqv (C:=C) (n:=n) (fs:=fs) rel1.b p1 (by simp only[zcR,eS,if_pos])
  exact⟨a,C,dx,fs',sd,rfl,eH,hm,fr.lookup.2 hl,r1,dl,S1,_,rs.ext e1,rel1,q1,λvs H2 r2 ds S2 e2 rel2 p2 q2=>zn9 (Z:=⟨ex,W⟩) (rs.ext (e1.trans e2)) rel2 (Rps.cons (p1.ext e2) p2) q2 (ret.ext (e1.trans e2))⟩
theorem zpC {tbl:List (Addr×Sd)}{C:Addr}{m:Str}{ex:Ev→Addr→Sto→Prop}{sd:Sd}{to:TDE}{t:TDA}{dl:Ev}{S S1:Sto}{Q:DK}{n:Nat}{fs:List (Str×D)}(hto:∀K:DK,K (.ref n) S1→to dl S K)(h:S1[n]?=some (.ins C fs))(hm:(C,sd)∈tbl)(hf:fs.lookup m=none)(hq:t dl S1 λds S2=>sd (.ref n::ds) S2 Q (ex dl)):zm9 tbl m ex to t dl S Q:=by
 unfold zm9
 exact hto _ ⟨n,C,fs,sd,rfl,h,hm,hf,hq⟩
structure Kx (K:PySem.W.Frag)(C:Addr):Prop where
 cl:Cls K C
 ha:PySem.W.findIn K (.ref C) "__class__"=some (some (.builtin "object.__class__"))
 hn:PySem.W.specialIn K (.builtin "object.__class__") "__get__"=some (some (.builtin "getset_descriptor.__get__"))
 ht:PySem.W.takesIn K (.builtin "object.__class__")=some true
 hm:PySem.W.mroIn K C (.type "object")=some true
def KT (K:PySem.W.Frag)(cv:Value)(ans:List (Addr×Bool)):Prop:=∀C b,(C,b)∈ans→PySem.W.kitOne K (.ref C) cv=some b∧Kx K C
end
section
variable {X:Cx}{Z:Zx}
end
section
variable {n:Nat}{I:Addr}{fp wr:List Addr}{P:Nat→Value→Prop}{St:Nat→Shared→Prop}{prog:Program}{w:World}{A:Around}{s:Shared}{E:Value→Shared→Prop}{G:Array GenState→Array GenState→Prop}
end
section
variable {X:Cx}{Z:Zx}
end
structure CompScG (sc around:Scope)(own caps:List Str):Prop where
 kind:sc.kind=.function
 nocell:∀y∈sc.names,y.2≠.cell
 own:∀y∈sc.names,y.2=.local→sc.names.lookup y.1=some .local
 cap:∀y∈caps,sc.names.lookup y=some .free
 out:∀y∈sc.names,y.2=.free→around.names.lookup y.1=some .cell
section
variable {X:Cx}{pins:List (Addr×Obj)}{σ:St}{H:Hp}{s:Shared}
end
section
variable {X:Cx}{elt iter:Expr}{elts:List Expr}{kk:Nat}{tp:Pos}{pos:Pos}{sc:Scope}{own N:List Str}{caps:List Nat}{wi:TI}{gt:TG}{te:TE}
end
section
variable {X:Cx}{Z:Zx}{elt:Expr}{pos:Pos}{sc ar:Scope}{N:List Str}{caps:List Nat}
end
section
variable {X:Cx}{Z:Zx}{pos:Pos}
@[irreducible] def zmn (is:List Nat)(tl:TDE)(tb:TDS):TDS:=λE dl S=>tl dl S λd S1=>match d with
 | .ref n=>(lAt S1 n).isSome=true∧∃W:Nat→Nat→Ev→Sto→Prop,(∃m,W 0 m dl S1)∧∀k m dl S,W k m dl S→match lAt S n with
  | some o=>match (zat o)[k]? with
   | some (.tup xs)=>xs.length=is.length∧tb { nx:=λdl' S'=>∃m',m'<m∧W (k+1) m' dl' S',rt:=E.rt,bk:=E.nx,ct:=λdl' S'=>∃m',m'<m∧W (k+1) m' dl' S' } (zdv is xs dl) S
   | some _=>False
   | none=>E.nx dl S
  | none=>False
 | _=>False
theorem zyb {es:List Expr}{kk:Nat}{tp:Pos}{iter:Expr}{body:List Stmt}{is:List Nat}{tl:TDE}{tb:TDS}(hp:PassesOwn (model X.prog X.w) X.A X.env X.xe)(hc:X.calm=true)(hN:X.N.Nodup)(hn:Nms X es is)
  (hl:PD X Z iter tl)(hb:zch X Z body tb)(hlen:(assignEach es X.env).length=is.length:=by rfl)(hst:(assignEach es X.env).findIdx? (·.1)=none:=by rfl)
  (hs:∀y,foldedSetIterable iter X.env y=pure y:=by intro _; rfl):PDS X Z (.For (.Tuple es kk tp) iter body [] pos) (zmn is tl tb):=
 zbO (zg4 hp hc (znb hl) (zov hc (zjO hN hn) hlen hst) hb hs) λF σ H ⟨r,dl,S,E,rs,rel,h,ret⟩=>by
  unfold zmn at h
  refine⟨r,dl,S,_,rs,rel,h,λv H1 r1 d S1 x1 rel1 p1 q1=>?_⟩
  cases p1 with
  | @ref n a hn=>
   obtain⟨hsome,W,⟨m0,w0⟩,turn⟩:=q1
   obtain⟨o1,eo1⟩:=Va2.mp hsome
   obtain⟨xs1,sq1,_⟩:=zmo (r:=r1) hn rel1.b eo1
   refine⟨a,rfl,⟨xs1,sq1⟩,λk m σ' H'=>∃r' dl' S',Ext r1 r' H1 H'∧Rs r' H' dl' σ'∧Rel X.K Z r' S' H'∧W k m dl' S',⟨m0,r1,dl,S1,Ext.refl,rs.ext x1,rel1,w0⟩,?_⟩
   rintro k m σ2 H2 ⟨r2,dl2,S2,x2,rs2,rel2,w2⟩
   have q:=turn k m dl2 S2 w2
   split at q
   ·rename_i o eo
    obtain⟨xs,sq,pr⟩:=zmo (r:=r2) (x2.adr _ _ hn) rel2.b eo
    split at q
    ·rename_i ys ey
     obtain⟨v,hv,pv⟩:=pr.get ey
     have go:∀σ' H' r' dl' S',Ext r2 r' H2 H'→Rs r' H' dl' σ'→Rel X.K Z r' S' H'→(∃m',m'<m∧W (k+1) m' dl' S')→∃m',m'<m∧∃r' dl' S',Ext r1 r' H1 H'∧Rs r' H' dl' σ'∧Rel X.K Z r' S' H'∧W (k+1) m' dl' S':=
      λσ' H' r' dl' S' x rs' rel' ⟨m',hm,w'⟩=>⟨m',hm,r',dl',S',x2.trans x,rs',rel',w'⟩
     refine .inr ⟨⟨xs,v,sq,hv⟩,λσ' H'=>∃m',m'<m∧∃r' dl' S',Ext r1 r' H1 H'∧Rs r' H' dl' σ'∧Rel X.K Z r' S' H'∧W (k+1) m' dl' S',λ_ _ z=>z,λv' H' y'=>?_⟩
     obtain⟨eH,y'⟩:=y'
     subst eH
     have ev:v'=v:=by
      have z:=y' xs sq
      rw[hv] at z; exact(Option.some.inj z).symm
     subst ev
     obtain⟨q1,q⟩:=q
     obtain⟨T,vs,rfl,eT,ps⟩:=pv.untup
     exact⟨T,vs,rfl,SqT.of eT,by rw[← ps.1]; exact q1,by rw[← ps.1]; exact q1,r2,_,S2,_,zjR rs2 ps,rel2,q,⟨go,λσ' H' r' dl' S' x rs' rel' z=>ret.nx σ' H' r' dl' S' (x1.trans (x2.trans x)) rs' rel' z,go,ret.rt.ext (x1.trans x2)⟩⟩
    ·exact q.elim
    ·rename_i ey
     have hlen:(zat o).length≤k:=VaC.mp ey
     exact .inl ⟨⟨xs,sq,by rw[← pr.1]; exact hlen⟩,ret.nx σ2 H2 r2 dl2 S2 (x1.trans x2) rs2 rel2 q⟩
   ·exact q.elim
  | _=>exact(show False from q1).elim
end
section
variable {X:Cx}{Z:Zx}
end
section
variable {X:Cx}{Z:Zx}{pos:Pos}
theorem zlm:∀ {us:List Value} {ms:List Int},IntsAre us ms→zaA (ms.map V.int) us
 | _,_,.nil=>.nil
 | _,_,.cons n t h=>.cons ⟨t,rfl⟩ (zlm h)
end
section
variable {X:Cx}{Z:Zx}{elt:Expr}{pos:Pos}{sc ar:Scope}{N:List Str}{caps:List Nat}
end
section
variable {X:Cx}{Z:Zx}{pos:Pos}
end
section
variable {n:Nat}{I:Addr}{fp wr:List Addr}{P:Nat→Value→Prop}{St:Nat→Shared→Prop}{prog:Program}{w:World}{A:Around}{s:Shared}{E:Value→Shared→Prop}{G:Array GenState→Array GenState→Prop}
end
section
variable {X:Cx}{Z:Zx}{pos:Pos}
end
section
variable {X:Cx}{Z:Zx}{pos:Pos}
theorem Rps.ins {r:List Addr}{H:Hp}{y:D}{w:V}(hy:Rp r H y w):∀ {ds:List D} {xs:List V} (k:Nat),Rps r H ds xs→Rps r H (ds.take k++y::ds.drop k) (xs.take k++w::xs.drop k)
 | [],xs,k,h=>by
  have z:=h.unnil
  subst z
  simpa using Rps.cons hy h
 | d::ds,xs,0,h=>Rps.cons hy h
 | d::ds,xs,k+1,h=>by
  obtain⟨v,vs,rfl,p1,p2⟩:=h.uncons
  exact Rps.cons p1 (Rps.ins hy k p2)
end
section
variable {X:Cx}{Z:Zx}{elt iter:Expr}{elts:List Expr}{kk:Nat}{tp pos:Pos}{sc ar:Scope}{own N:List Str}{caps:List Nat}{wi:TI}{gt:TG}
end
section
variable {X:Cx}{Z:Zx}
end
section
variable {X:Cx}{Z:Zx}{pos:Pos}
end
end L3
namespace L2
open PySem PySem.Spec PyProof.Rows
def Itd (lo:Int)(n:Nat):It:=⟨λi _=>i<n,λi H x H'=>H'=H∧x=.int (lo-i),λi _=>n≤i⟩
theorem zrV {P:Program}{w:World}{K:PySem.W.Frag}{tg:Expr}(it:Addr)(lo:Int)(n:Nat):zh5 P w K tg (Itd lo n) [it] it (λi h=>IsRangeIter h it (lo+(i:Nat)*(-1)) ((n:Int)-(i:Nat)) (-1)) where
 mem:=VaA.mpr rfl
 obj:=λi h st b hb=>by
  cases VaA.mp hb
  refine⟨_,st,λv z=>?_⟩
  have z':Data.fields _=Data.cell v:=z
  cases z'
 keep:=λi h h' st k=>k it (VaA.mpr rfl) _ st
 item:=by
  intro X hP hw hK hc i pins s σ H E I hf st hg
  subst hP hw hK
  obtain⟨f0,f1,f2,f3,f4,f5⟩:=hf it (VaA.mpr rfl)
  have W:=Walks.range (prog:=X.prog) (w:=X.w) (I.ok.hd hc) it lo (-1) n
  refine W.item i s _ _ hg st λv h' tk hv st' kk=>?_
  obtain⟨t,rfl⟩:=hv
  have I1:Inv X pins σ H { s with heap:=h',toks:=tk }:=I.turned (λb o hb e=>kk b o (λz=>hb (VaA.mp z)) e) f0 f1 f3 f4 f5
  have ev:lo+(i:Int)*(-1)=lo-(i:Int):=by omega
  exact⟨_,rfl,zoL (s:={ s with heap:=h',toks:=tk }) (n:="range_iterator") st' rfl rfl (by decide) ⟨.int (lo-i),H,I1,⟨t,by rw[ev]⟩,⟨rfl,rfl⟩,st',λb hb=>(hf b hb).1⟩⟩
 done:=by
  intro X hP hw hK hc i pins s σ H E I hf st hg
  subst hP hw hK
  obtain⟨f0,f1,f2,f3,f4,f5⟩:=hf it (VaA.mpr rfl)
  have hg':n≤i:=hg
  exact wpAny_pyNext_range_end (I.ok.hd hc) st (by omega) λh' eb=>⟨rfl,I.turned (t':=s.toks) (λb o hb e=>eb b o hb e) f0 f1 f3 f4 f5⟩
 self:=λ_ _ _ _ _ st h=>wpAny_pyIter_rangeiter st h
section
variable {X:Cx}{tg:Expr}
theorem zyf {pins:List (Addr×Obj)}{σ:St}{H:Hp}{s:Shared}{R:It→Hp→Prop}{E:Value→Shared→Prop}{lo hi:Int}{t u v:Tok}{tk:Nat}(I:Inv X pins σ H s)(h1:-(2^62)≤lo)(h2:lo<2^62)(h3:-(2^62)≤hi)(h4:hi<2^62)
  (q:R (Itd lo (lo-hi).toNat) H):wpAny (model X.prog X.w) X.A (pyIter (.ref s.heap.objs.size)) (PIE X pins σ tg R) E { s with heap:=s.heap.push { cls:=.type "range",data:=.fields #[.int lo t,.int hi u,.int (-1) v] },toks:=tk }:=by
 have I1:Inv X pins σ H { s with heap:=s.heap.push { cls:=.type "range",data:=.fields #[.int lo t,.int hi u,.int (-1) v] },toks:=tk }:=I.kept λb o e=>Heap.get?_push_of_some _ e
 refine wpAny_pyIter_range (IsRange.new ..) (PySem.W.small_down h1 h2 h3 h4) ?_
 refine⟨(s.heap.push { cls:=.type "range",data:=.fields #[.int lo t,.int hi u,.int (-1) v] }).objs.size,[(s.heap.push { cls:=.type "range",data:=.fields #[.int lo t,.int hi u,.int (-1) v] }).objs.size],_,_,H,rfl,
  I1.kept (t':=tk) λb o e=>Heap.get?_push_of_some _ e,zrV _ lo (lo-hi).toNat,?_,λb hb=>?_,q⟩
 ·show IsRangeIter _ _ (lo+((0:Nat):Int)*(-1)) ((((lo-hi).toNat:Nat):Int)-((0:Nat):Int)) (-1)
  rw[show lo+((0:Nat):Int)*(-1)=lo by simp,show (((lo-hi).toNat:Nat):Int)-((0:Nat):Int)=Builtin.Range.rangeSize lo hi (-1) by rw[PySem.W.rangeSize_downNat]; simp]
  exact Heap.get?_push_size _ rfl
 ·cases VaA.mp hb
  exact I1.fpOk (Vab _) (I1.hok.fresh (Vab _))
def iRngD (ta:TA):TI:=λσ H R=>ta σ H λvs H1=>∃i j:Int,vs=[.int i,.int j,.int (-1)]∧(-(2^62)≤i∧i<2^62∧-(2^62)≤j∧j<2^62)∧R (Itd i (i-j).toNat) H1
theorem zvb {a b c:Expr}{ta:TA}{p pos:Pos}(hg:Gl X "range")(hm:X.mg "range"=none)(ha:PA X [a,b,c] ta)(hs:starEach [a,b,c] X.env=[(false,eval a X.env),(false,eval b X.env),(false,eval c X.env)]:=by rfl)(hs2:starEach [b,c] X.env=[(false,eval b X.env),(false,eval c X.env)]:=by rfl):
  PI X tg (.Call (.Name "range" p) [a,b,c] [] pos) (iRngD ta):=by
 intro pins s σ H R I h
 refine Call_ (zfd I hg hm boot_range (PyProof.Rows.callWith_type1 (thn (ha pos pins s σ H _ I h) λus s1 ⟨vs,H1,I1,r1,q1⟩=>?_) (by rw[hs,hs2]) (by rw[hs2]; rfl)))
 obtain⟨i,j,e,⟨q1,q2,q3,q4⟩,q⟩:=q1
 subst e
 cases r1 with
 | cons r rr=>
  cases rr with
  | cons r' rr=>
   cases rr with
   | cons r2 rr=>
    cases rr
    obtain⟨t,rfl⟩:=r
    obtain⟨t',rfl⟩:=r'
    obtain⟨t2,rfl⟩:=r2
    exact call_range_3 (by decide) (zyf I1 q1 q2 q3 q4 q) (.inl (PyProof.noPylong_small (by omega)))
end
end L2
namespace L3
open PySem PySem.Spec PyProof.Rows L2
section
variable {X:Cx}{Z:Zx}{pos:Pos}
def ztS (i:Nat)(ta:TDA)(tb:TDS):TDS:=λE dl S=>ta dl S λds S1=>match ds with
 | [.int lo,.int hi,.int st]=>st=-1∧(-(2^62)≤lo∧lo<2^62∧-(2^62)≤hi∧hi<2^62)∧∃W:Nat→Ev→Sto→Prop,W 0 dl S1∧∀k dl S,W k dl S→
   if k<(lo-hi).toNat then tb { nx:=λdl' S'=>W (k+1) dl' S',rt:=E.rt,bk:=E.nx,ct:=λdl' S'=>W (k+1) dl' S' } (dl.set i (some (.int (lo-k)))) S else E.nx dl S
 | _=>False
theorem zp7 {i:Nat}{x:Str}{pos2 pos' p:Pos}{a b c:Expr}{body:List Stmt}{ta:TDA}{tb:TDS}(hp:PassesOwn (model X.prog X.w) X.A X.env X.xe)(hc:X.calm=true)(hN:X.N.Nodup)(hi:X.N[i]?=some x)(hx:Loc X.env.scope x)
  (hg:Gl X "range")(hm:X.mg "range"=none)(ha:PDA X Z [a,b,c] ta)(hb:zch X Z body tb)(hf:X.fn x=true∨X.env.scope.names.lookup x=some .local:=by first | exact .inl rfl | exact .inr rfl | assumption)
  (hs:∀y,foldedSetIterable (.Call (.Name "range" p) [a,b,c] [] pos) X.env y=pure y:=by intro _; rfl)(hst:starEach [a,b,c] X.env=[(false,eval a X.env),(false,eval b X.env),(false,eval c X.env)]:=by rfl)(hst2:starEach [b,c] X.env=[(false,eval b X.env),(false,eval c X.env)]:=by rfl):
  PDS X Z (.For (.Name x pos') (.Call (.Name "range" p) [a,b,c] [] pos) body [] pos2) (ztS i ta tb):=
 zbO (zg4 hp hc (zvb hg hm ha hst hst2) (zhJ hN hi hx hf) hb hs) λF σ H ⟨r,dl,S,E,rs,rel,h,ret⟩=>by
  refine⟨r,dl,S,_,rs,rel,h,λvs H1 r1 ds S1 x1 rel1 p1 q1=>?_⟩
  split at q1
  ·rename_i lo hi st
   obtain⟨v,vs',rfl,p2,p3⟩:=p1.uncons
   obtain⟨v2,vs2,rfl,p4,p5⟩:=p3.uncons
   obtain⟨v3,vs3,rfl,p6,p7⟩:=p5.uncons
   have z:=p7.unnil
   subst z
   cases p2
   cases p4
   cases p6
   obtain⟨e3,bds,W,w0,turn⟩:=q1
   subst e3
   refine⟨lo,hi,rfl,bds,λk m σ' H'=>m=(lo-hi).toNat-k∧∃r' dl' S',Ext r1 r' H1 H'∧Rs r' H' dl' σ'∧Rel X.K Z r' S' H'∧W k dl' S',⟨(lo-hi).toNat,by simp,r1,dl,S1,Ext.refl,rs.ext x1,rel1,w0⟩,?_⟩
   rintro k m σ2 H2 ⟨em,r2,dl2,S2,x2,rs2,rel2,w2⟩
   have q:=turn k dl2 S2 w2
   split at q
   ·rename_i hk
    have go:∀σ' H' r' dl' S',Ext r2 r' H2 H'→Rs r' H' dl' σ'→Rel X.K Z r' S' H'→W (k+1) dl' S'→∃r' dl' S',Ext r1 r' H1 H'∧Rs r' H' dl' σ'∧Rel X.K Z r' S' H'∧W (k+1) dl' S':=
     λσ' H' r' dl' S' x rs' rel' w'=>⟨r',dl',S',x2.trans x,rs',rel',w'⟩
    have pk:Rp r2 H2 (.int (lo-(k:Int))) (.int (lo-(k:Int))):=.int _
    refine .inr ⟨hk,λσ' H'=>∃r' dl' S',Ext r1 r' H1 H'∧Rs r' H' dl' σ'∧Rel X.K Z r' S' H'∧W (k+1) dl' S',λσ' H' z=>⟨(lo-hi).toNat-(k+1),by omega,rfl,z⟩,λv' H' y'=>?_⟩
    obtain⟨eH,y'⟩:=y'
    subst eH
    subst y'
    exact⟨r2,_,S2,_,rs2.set i pk,rel2,q,go,λσ' H' r' dl' S' x rs' rel' z=>ret.nx σ' H' r' dl' S' (x1.trans (x2.trans x)) rs' rel' z,go,ret.rt.ext (x1.trans x2)⟩
   ·rename_i hk
    exact .inl ⟨by show (lo-hi).toNat≤k; omega,ret.nx σ2 H2 r2 dl2 S2 (x1.trans x2) rs2 rel2 q⟩
  ·exact q1.elim
end
end L3
set_option Elab.async false
set_option linter.all false
set_option maxRecDepth 100000
set_option maxHeartbeats 40000000
namespace Mine
open PySem PySem.Spec PyProof.Rows L2 L3
theorem fsc {N P:List Str}{sc:Scope}(a:sc.kind=.function:=by rfl)(b:sc.isCoroutine=false:=by rfl)(c:sc.isGenerator=false:=by rfl)(d:N.Nodup:=by decide +kernel)(e:N.take P.length=P:=by rfl)(f:∀x∈P,sc.names.lookup x=some .local∨sc.names.lookup x=some .cell:=by decide +kernel)(g:∀y∈sc.names,y.2≠.free:=by decide +kernel):zaw N P sc:=⟨a,b,c,d,e,f,g⟩
theorem csc {sc ar:Scope}{x:Str}{caps:List Str}(a:sc.kind=.function:=by rfl)(b:∀y∈sc.names,y.2≠.cell:=by decide +kernel)(c:∀y∈sc.names,y.2=.local→sc.names.lookup y.1=some .local:=by decide +kernel)(d:sc.names.lookup x=some .local:=by rfl)(e:∀y∈caps,sc.names.lookup y=some .free:=by decide +kernel)(f:∀y∈sc.names,y.2=.free→ar.names.lookup y.1=some .cell:=by decide +kernel):zdu sc ar x caps:=⟨a,b,c,d,e,f⟩
abbrev Ln (sp:Sd)(n:Nat):Prop:=∀ds S Q ex,sp ds S Q ex→ds.length=n
theorem zaq {X:Cx}{x:Str}{p pos:Pos}{e:Expr}{es:List Expr}{t:TDA}{k j:Nat}{ps:List Str}{sd:Sd}{ex:Ev→Addr→Sto→Prop}(G:Fk X.prog X.w X.K X.mg X.base k x ps sd)(hr:zaO j X.A)(ha:PDA X ⟨ex,Z0.w⟩ (e::es) t)(hk:k≤j:=by decide)(hg:Gl X x:=by rfl)
  (hdb:(x==("__debug__":Str))=false:=by decide)(he:starEach (e::es) X.env=(false,eval e X.env)::starEach es X.env:=by rfl)(hpl:(backTo pos (starEach es X.env)).any (·.1)=false:=by rfl):PD X ⟨ex,Z0.w⟩ (.Call (.Name x p) (e::es) [] pos) (ziL ex sd t):=znE G (hr.mono hk) zcJ hg ha hdb he hpl
abbrev zjK:Stmt:=top 51
abbrev zhD:List Str:=["_law_cell_here"]
theorem zqy:zaw ["_law_cell_here","_law_c"] zhD (zas zjK):=fsc
abbrev zkr:Stmt:=top 49
abbrev zh6:List Str:=["_law_a","_law_b"]
theorem zlO:zaw ["_law_a","_law_b","_law_rest"] zh6 (zas zkr):=fsc
abbrev zmy:Stmt:=top 50
abbrev zd0:List Str:=["_law_top","_law_bottom"]
theorem zpW:zaw ["_law_top","_law_bottom","_law_shared"] zd0 (zas zmy):=fsc
abbrev zlB:Stmt:=top 54
abbrev zhf:List Str:=["_law_cell_here"]
theorem zi8:zaw ["_law_cell_here","_law_c","_law_made"] zhf (zas zlB):=fsc
abbrev zkE:Stmt:=top 55
abbrev zhY:List Str:=["_law_cell_here","_law_size","_law_many"]
theorem zfl:zaw ["_law_cell_here","_law_size","_law_many","_law_c","_law_kind","_law_one"] zhY (zas zkE):=fsc
abbrev zkt:Stmt:=top 56
abbrev zfo:List Str:=["_law_node_here","_law_weights"]
theorem zyn:zaw ["_law_node_here","_law_weights"] zfo (zas zkt):=fsc
abbrev zeo:Stmt:=top 57
abbrev zgX:List Str:=["_law_cells","_law_many","_law_ahead","_law_heavy","_law_most"]
theorem zdR:zaw ["_law_cells","_law_many","_law_ahead","_law_heavy","_law_most","_law_nodes","_law_weights","_law_cell_here","_law_node_here","_law_weight_here"] zgX (zas zeo):=fsc
abbrev zmC:Stmt:=top 53
abbrev zdp:List Str:=["_law_a","_law_many"]
theorem zjI:zaw ["_law_a","_law_many","_law_found","_law_turn"] zdp (zas zmC):=fsc
abbrev zmx:Stmt:=top 58
abbrev zgu:List Str:=["_law_node_here","_law_spans","_law_box","_law_grid_here"]
theorem zdO:zaw ["_law_node_here","_law_spans","_law_box","_law_grid_here","_law_a","_law_share","_law_ends","_law_low","_law_b"] zgu (zas zmx):=fsc
abbrev zky:Stmt:=top 59
abbrev zfr:List Str:=["_law_nodes","_law_box","_law_grid_here"]
theorem zof:zaw ["_law_nodes","_law_box","_law_grid_here","_law_spans","_law_node_here"] zfr (zas zky):=fsc
abbrev zkA:Stmt:=top 60
abbrev zgh:List Str:=["_law_nodes","_law_box","_law_grid_here","_law_first","_law_cell_here"]
theorem zdU:zaw ["_law_nodes","_law_box","_law_grid_here","_law_first","_law_cell_here","_law_at","_law_word","_law_span_here","_law_place","_law_number_here","_law_far"] zgh (zas zkA):=fsc
abbrev zm4:Stmt:=top 73
abbrev zhW:List Str:=["_law_c"]
theorem zpw:zaw ["_law_c","_law_low"] zhW (zas zm4):=fsc
abbrev zkJ:Stmt:=top 74
abbrev zhF:List Str:=["_law_c","_law_size","_law_many"]
theorem zi2:zaw ["_law_c","_law_size","_law_many","_law_kind","_law_made"] zhF (zas zkJ):=fsc
abbrev zfJ:Stmt:=top 75
abbrev zh2:List Str:=["_law_script"]
theorem zcT:zaw ["_law_script","_law_some","_law_many","_law_box","_law_nodes","_law_weights","_law_c","_law_node_here","_law_weight_here","_law_row"] zh2 (zas zfJ):=fsc
abbrev zlQ:Stmt:=top 45
abbrev zh1:List Str:=["_law_script","_law_k"]
theorem zwC:zaw ["_law_script","_law_k"] zh1 (zas zlQ):=fsc
abbrev zlG:Stmt:=top 52
abbrev zgJ:List Str:=["_law_cell_here"]
theorem zdJ:zaw ["_law_cell_here","_law_c","_law_way","_law_low","_law_wide"] zgJ (zas zlG):=fsc
abbrev zfZ:Stmt:=top 76
abbrev zhM:List Str:=["_law_script"]
theorem zd5:zaw ["_law_script","_law_grid_here","_law_first","_law_many","_law_box","_law_nodes","_law_row"] zhM (zas zfZ):=fsc
abbrev zjC:Stmt:=top 6
abbrev zgT:List Str:=["a","b"]
theorem zw9:zaw ["a","b"] zgT (zas zjC):=fsc
abbrev zit:Stmt:=top 8
abbrev zdG:List Str:=["top","bottom"]
theorem zt6:zaw ["top","bottom"] zdG (zas zit):=fsc
abbrev zke:Stmt:=top 9
abbrev zhK:List Str:=["low","high","grid"]
theorem zxc:zaw ["low","high","grid"] zhK (zas zke):=fsc
abbrev zlb:Stmt:=zaN (top 30) 2
abbrev zgR:List Str:=["self","spans","box","grid"]
theorem zqY:zaw ["self","spans","box","grid","number"] zgR (zas zlb):=fsc
abbrev zl0:Stmt:=zaN (top 31) 2
abbrev zhR:List Str:=["self","spans","box","grid"]
theorem zxE:zaw ["self","spans","box","grid"] zhR (zas zl0):=fsc
abbrev zmJ:Stmt:=top 10
abbrev zeR:List Str:=["a","b"]
theorem zrA:zaw ["a","b"] zeR (zas zmJ):=fsc
abbrev zmW:Stmt:=zaN (top 33) 1
abbrev zhC:List Str:=["self","spans","box","grid"]
theorem zuC:zaw ["self","spans","box","grid"] zhC (zas zmW):=fsc
abbrev zmK:Stmt:=top 11
abbrev zdr:List Str:=["a","b"]
theorem zvN:zaw ["a","b"] zdr (zas zmK):=fsc
abbrev zkF:Stmt:=zaN (top 34) 1
abbrev zhu:List Str:=["self","spans","box","grid"]
theorem zwL:zaw ["self","spans","box","grid"] zhu (zas zkF):=fsc
abbrev zkl:Stmt:=top 12
abbrev zgd:List Str:=["a","b","grid"]
theorem zpX:zaw ["a","b","grid","products"] zgd (zas zkl):=fsc
abbrev ziC:Stmt:=zaN (top 35) 1
abbrev zf6:List Str:=["self","spans","box","grid"]
theorem zxb:zaw ["self","spans","box","grid"] zf6 (zas ziC):=fsc
abbrev zkH:Stmt:=top 5
abbrev zdf:List Str:=["number","many"]
theorem zk7:zaw ["number","many","worth","step"] zdf (zas zkH):=fsc
abbrev zhO:Stmt:=top 13
abbrev zf8:List Str:=["a","many","grid"]
theorem zi1:zaw ["a","many","grid","places","powers","bottom"] zf8 (zas zhO):=fsc
abbrev zkV:Stmt:=zaN (top 36) 2
abbrev zib:List Str:=["self","spans","box","grid"]
theorem zso:zaw ["self","spans","box","grid"] zib (zas zkV):=fsc
abbrev ziH:Stmt:=zaN (top 36) 0
abbrev zht:List Str:=["self","one","many"]
theorem zuu:zaw ["self","one","many"] zht (zas ziH):=fsc
abbrev zlX:Stmt:=zaN (top 30) 0
abbrev zhN:List Str:=["self","top","bottom"]
theorem ztm:zaw ["self","top","bottom"] zhN (zas zlX):=fsc
abbrev ziE:Stmt:=zaN (top 31) 0
abbrev zhh:List Str:=["self","place"]
theorem zrR:zaw ["self","place"] zhh (zas ziE):=fsc
abbrev zmF:Stmt:=zaN (top 32) 0
abbrev zh8:List Str:=["self","one","other"]
theorem zvU:zaw ["self","one","other"] zh8 (zas zmF):=fsc
abbrev zi6:Stmt:=zaN (top 32) 0
abbrev zfU:List Str:=["self","one","other"]
theorem zt2:zaw ["self","one","other"] zfU (zas zi6):=fsc
abbrev ziw:Stmt:=zaN (top 32) 0
abbrev zgH:List Str:=["self","one","other"]
theorem zwl:zaw ["self","one","other"] zgH (zas ziw):=fsc
abbrev zmc:Stmt:=top 37
abbrev zer:List Str:=["node"]
theorem zxk:zaw ["node"] zer (zas zmc):=fsc
abbrev zjx:Stmt:=top 39
abbrev zhc:List Str:=["nodes","box","grid"]
theorem znw:zaw ["nodes","box","grid","found","node"] zhc (zas zjx):=fsc
abbrev ziP:Stmt:=top 14
abbrev zde:List Str:=["a","b"]
theorem zom:zaw ["a","b","low","high"] zde (zas ziP):=fsc
abbrev znh:Stmt:=top 41
abbrev zho:List Str:=["word","span"]
theorem zys:zaw ["word","span"] zho (zas znh):=fsc
abbrev zlU:Stmt:=zaN (top 30) 3
abbrev zhx:List Str:=["self","spans","here","grid"]
theorem zrY:zaw ["self","spans","here","grid"] zhx (zas zlU):=fsc
abbrev zlP:Stmt:=zaN (top 31) 3
abbrev zii:List Str:=["self","spans","here","grid"]
theorem zx9:zaw ["self","spans","here","grid"] zii (zas zlP):=fsc
abbrev zlr:Stmt:=zaN (top 33) 2
abbrev zg9:List Str:=["self","here","x","y","grid"]
theorem zrB:zaw ["self","here","x","y","grid"] zg9 (zas zlr):=fsc
abbrev zk6:Stmt:=zaN (top 33) 3
abbrev zhZ:List Str:=["self","here","x","y","grid"]
theorem zsg:zaw ["self","here","x","y","grid"] zhZ (zas zk6):=fsc
abbrev zju:Stmt:=zaN (top 32) 1
abbrev zfT:List Str:=["self","spans","here","grid"]
theorem zjg:zaw ["self","spans","here","grid","x","y"] zfT (zas zju):=fsc
abbrev zjB:Stmt:=zaN (top 34) 2
abbrev zhP:List Str:=["self","here","x","y","grid"]
theorem zr3:zaw ["self","here","x","y","grid"] zhP (zas zjB):=fsc
abbrev zjh:Stmt:=zaN (top 34) 3
abbrev zhr:List Str:=["self","here","x","y","grid"]
theorem zvZ:zaw ["self","here","x","y","grid"] zhr (zas zjh):=fsc
abbrev zmV:Stmt:=zaN (top 32) 1
abbrev zgU:List Str:=["self","spans","here","grid"]
theorem zio:zaw ["self","spans","here","grid","x","y"] zgU (zas zmV):=fsc
abbrev zix:Stmt:=top 17
abbrev zif:List Str:=["span"]
theorem zrT:zaw ["span"] zif (zas zix):=fsc
abbrev zjc:Stmt:=top 20
abbrev zez:List Str:=["x","low","high"]
theorem zwg:zaw ["x","low","high"] zez (zas zjc):=fsc
abbrev zjE:Stmt:=top 21
abbrev zgF:List Str:=["top","bottom"]
theorem zxJ:zaw ["top","bottom"] zgF (zas zjE):=fsc
abbrev zm6:Stmt:=top 22
abbrev zgt:List Str:=["products","x","y"]
theorem zia:zaw ["products","x","y","low_by","high_by","low","high"] zgt (zas zm6):=fsc
abbrev zkC:Stmt:=top 15
abbrev zgi:List Str:=["a","b"]
theorem zwo:zaw ["a","b"] zgi (zas zkC):=fsc
abbrev zkv:Stmt:=top 19
abbrev zeM:List Str:=["one","other"]
theorem zsM:zaw ["one","other"] zeM (zas zkv):=fsc
abbrev ziz:Stmt:=top 18
abbrev zdE:List Str:=["pair"]
theorem zwu:zaw ["pair"] zdE (zas ziz):=fsc
abbrev zkZ:Stmt:=top 23
abbrev zeX:List Str:=["z","x","y","grid"]
theorem ze3:zaw ["z","x","y","grid","products","left","turned"] zeX (zas zkZ):=fsc
abbrev zlk:Stmt:=zaN (top 35) 2
abbrev zgW:List Str:=["self","here","x","y","grid"]
theorem zsL:zaw ["self","here","x","y","grid"] zgW (zas zlk):=fsc
abbrev zml:Stmt:=zaN (top 35) 3
abbrev zf1:List Str:=["self","here","x","y","grid"]
theorem zvG:zaw ["self","here","x","y","grid"] zf1 (zas zml):=fsc
abbrev ziv:Stmt:=zaN (top 32) 1
abbrev zf3:List Str:=["self","spans","here","grid"]
theorem zjM:zaw ["self","spans","here","grid","x","y"] zf3 (zas ziv):=fsc
abbrev zlj:Stmt:=top 25
abbrev zhg:List Str:=["guess","number","many"]
theorem zvw:zaw ["guess","number","many"] zhg (zas zlj):=fsc
abbrev zms:Stmt:=top 24
abbrev ze1:List Str:=["number","many"]
theorem zhB:zaw ["number","many","guess","better"] ze1 (zas zms):=fsc
abbrev zg1:Stmt:=top 26
abbrev zcZ:List Str:=["number","many"]
theorem zmj:zaw ["number","many","below"] zcZ (zas zg1):=fsc
abbrev zlK:Stmt:=top 27
abbrev zg5:List Str:=["z","x","many","grid"]
theorem zgo:zaw ["z","x","many","grid","scale","powers","low","high"] zg5 (zas zlK):=fsc
abbrev zle:Stmt:=zaN (top 36) 3
abbrev zfS:List Str:=["self","spans","here","grid"]
theorem zrb:zaw ["self","spans","here","grid","x"] zfS (zas zle):=fsc
abbrev zmN:Stmt:=top 42
abbrev zhw:List Str:=["nodes","row","box","grid"]
theorem zd6:zaw ["nodes","row","box","grid","at","spans","wished","number","left","part"] zhw (zas zmN):=fsc
abbrev zlL:Stmt:=top 43
abbrev zhs:List Str:=["nodes","row","box","grid"]
theorem zgI:zaw ["nodes","row","box","grid","spans","left","number","span","node"] zhs (zas zlL):=fsc
abbrev zlC:Stmt:=top 61
abbrev zeJ:List Str:=["_law_a","_law_b"]
theorem zvq:zaw ["_law_a","_law_b"] zeJ (zas zlC):=fsc
abbrev zdT:Stmt:=top 64
abbrev zeA:List Str:=["_law_spans"]
theorem zrc:zaw ["_law_spans","_law_kept_here"] zeA (zas zdT):=fsc
abbrev zka:Stmt:=top 63
abbrev zh4:List Str:=["_law_x","_law_piece"]
theorem zgk:zaw ["_law_x","_law_piece","_law_low","_law_high"] zh4 (zas zka):=fsc
abbrev ziM:Stmt:=top 62
abbrev zhG:List Str:=["_law_low","_law_high","_law_y"]
theorem zck:zaw ["_law_low","_law_high","_law_y","_law_ends","_law_top","_law_bottom","_law_least","_law_most","_law_end","_law_pieces_here","_law_edge"] zhG (zas ziM):=fsc
abbrev zgl:Stmt:=top 65
abbrev zg0:List Str:=["_law_z","_law_x","_law_y","_law_grid_here"]
theorem zxw:zaw ["_law_z","_law_x","_law_y","_law_grid_here"] zg0 (zas zgl):=fsc
abbrev zk0:Stmt:=top 70
abbrev zhe:List Str:=["_law_node_here","_law_z","_law_x","_law_y","_law_grid_here","_law_first"]
theorem zxl:zaw ["_law_node_here","_law_z","_law_x","_law_y","_law_grid_here","_law_first"] zhe (zas zk0):=fsc
abbrev zkY:Stmt:=top 66
abbrev zhS:List Str:=["_law_bound","_law_many","_law_most"]
theorem zfM:zaw ["_law_bound","_law_many","_law_most","_law_low","_law_high","_law_place"] zhS (zas zkY):=fsc
abbrev zlf:Stmt:=top 67
abbrev zfY:List Str:=["_law_bound","_law_many","_law_most"]
theorem znA:zaw ["_law_bound","_law_many","_law_most","_law_low"] zfY (zas zlf):=fsc
abbrev zkX:Stmt:=top 68
abbrev zhQ:List Str:=["_law_x","_law_low","_law_high","_law_many"]
theorem zp3:zaw ["_law_x","_law_low","_law_high","_law_many","_law_most"] zhQ (zas zkX):=fsc
abbrev zjq:Stmt:=top 69
abbrev zf7:List Str:=["_law_z","_law_x","_law_many","_law_grid_here"]
theorem zd7:zaw ["_law_z","_law_x","_law_many","_law_grid_here","_law_share","_law_low","_law_high","_law_right","_law_left"] zf7 (zas zjq):=fsc
abbrev zmA:Stmt:=top 71
abbrev zhz:List Str:=["_law_node_here","_law_spans","_law_z","_law_grid_here"]
theorem zeV:zaw ["_law_node_here","_law_spans","_law_z","_law_grid_here","_law_x","_law_y"] zhz (zas zmA):=fsc
abbrev zlD:Stmt:=top 72
abbrev zgm:List Str:=["_law_nodes","_law_row","_law_box","_law_grid_here"]
theorem zdb:zaw ["_law_nodes","_law_row","_law_box","_law_grid_here","_law_spans","_law_most","_law_k","_law_parts","_law_part","_law_span_here","_law_left"] zgm (zas zlD):=fsc
abbrev zm5:Stmt:=top 46
abbrev zg6:List Str:=["_law_found"]
theorem zrN:zaw ["_law_found"] zg6 (zas zm5):=fsc
abbrev zl2:Stmt:=top 47
abbrev zf0:List Str:=["_law_found"]
theorem zrq:zaw ["_law_found"] zf0 (zas zl2):=fsc
abbrev zkn:Stmt:=top 48
abbrev zgc:List Str:=["_law_found","_law_many"]
theorem zrd:zaw ["_law_found","_law_many","_law_span_here"] zgc (zas zkn):=fsc
abbrev zdP:Stmt:=top 77
abbrev zko:List Str:=["_law_script"]
theorem zfA:zaw ["_law_script","_law_grid_here","_law_box","_law_nodes","_law_row","_law_many","_law_handed","_law_other","_law_found"] zko (zas zdP):=fsc
theorem kfo {K:PySem.W.Frag}{f c:Addr}{m:Value}{n q:Str}{st:Stmt}(l:K.lookup f=some (fo n q st m c)):PySem.W.keepIn K (.ref f)=true:=by
 unfold PySem.W.keepIn
 simp only[l]
theorem ifo {K:PySem.W.Frag}{f c:Addr}{m:Value}{n q:Str}{st:Stmt}(l:K.lookup f=some (fo n q st m c)):PySem.W.isFn K (.ref f)=true:=by
 unfold PySem.W.isFn PySem.W.typeIn
 simp only[l]
 rfl
theorem ln1 {P:List Value→Prop}(h:∀a,P [a]):∀us:List Value,us.length=1→P us
 | [a],_=>h a
theorem ln2 {P:List Value→Prop}(h:∀a b,P [a,b]):∀us:List Value,us.length=2→P us
 | [a,b],_=>h a b
theorem ln3 {P:List Value→Prop}(h:∀a b c,P [a,b,c]):∀us:List Value,us.length=3→P us
 | [a,b,c],_=>h a b c
theorem ln4 {P:List Value→Prop}(h:∀a b c d,P [a,b,c,d]):∀us:List Value,us.length=4→P us
 | [a,b,c,d],_=>h a b c d
theorem ln5 {P:List Value→Prop}(h:∀a b c d e,P [a,b,c,d,e]):∀us:List Value,us.length=5→P us
 | [a,b,c,d,e],_=>h a b c d e
theorem ln6 {P:List Value→Prop}(h:∀a b c d e f,P [a,b,c,d,e,f]):∀us:List Value,us.length=6→P us
 | [a,b,c,d,e,f],_=>h a b c d e f
abbrev Bn (n q:Str)(st:Stmt)(ps:List Str):Prop:=∀(kV doc pm:Value) (an:Option Addr) (cdv ct:Value) (us:List Value),us.length=ps.length→bindArgs (PySem.W.fnOf n q (zeh st) (zc0 st) (zas st) .none kV doc pm an cdv ct) ⟨us,[]⟩=pure (ps.zip us)
def dfo {K:PySem.W.Frag}{mg:Str→Option Value}{h:Heap}(X:K.In h)(G:h.Ns mainGlobals mg){n:Str}{st:Stmt}{f c:Addr}{m:Value}{ps:List Str}(a:PySem.W.nsIn K mainGlobals n=some (some (.ref f)))(l:K.lookup f=some (fo n n st m c))(e:PySem.W.codeIn K (.ref c) n=true)(b:Bn n n st ps):Df K mg n st ps:=⟨_,_,zkq (st:=st) l e (kfo l),PySem.W.mg_of X G a,(zkq (st:=st) l e (kfo l)).binds b⟩
def dmo {K:PySem.W.Frag}{C:Addr}{n q:Str}{st:Stmt}{f c:Addr}{m:Value}{ps:List Str}(a:PySem.W.findIn K (.ref C) n=some (some (.ref f)))(l:K.lookup f=some (fo n q st m c))(e:PySem.W.codeIn K (.ref c) q=true)(b:Bn n q st ps):Dm K C n q st ps:=⟨_,_,zkq (st:=st) l e (kfo l),⟨a,ifo l,kfo l⟩,(zkq (st:=st) l e (kfo l)).binds b⟩
abbrev nsA (K:PySem.W.Frag)(n:Str)(f:Addr):Prop:=PySem.W.nsIn K mainGlobals n=some (some (.ref f))
abbrev fdA (K:PySem.W.Frag)(C:Addr)(n:Str)(f:Addr):Prop:=PySem.W.findIn K (.ref C) n=some (some (.ref f))
abbrev lkA (K:PySem.W.Frag)(f:Addr)(n q:Str)(st:Stmt)(m:Value)(c:Addr):Prop:=K.lookup f=some (fo n q st m c)
abbrev cdA (K:PySem.W.Frag)(c:Addr)(q:Str):Prop:=PySem.W.codeIn K (.ref c) q=true
theorem zaR {C:Addr}{f:Str}{to:TDE}{dl:Ev}{S S1:Sto}{Q:DK}{n:Nat}{fs:List (Str×D)}{v:D}(hto:∀K:DK,K (.ref n) S1→to dl S K)(h:S1[n]?=some (.ins C fs))(hf:fs.lookup f=some v)(hq:Q v S1):zjw C f to dl S Q:=by
 unfold zjw
 refine hto _ ?_
 simp only[zcR,h,if_pos,hf]
 exact hq
theorem zcA {C:Addr}{f:Str}{to te:TDE}{dl:Ev}{S S1 S2:Sto}{E:zcE}{n:Nat}{fs:List (Str×D)}{v:D}(hte:∀K:DK,K v S1→te dl S K)(hto:∀K:DK,K (.ref n) S2→to dl S1 K)(h:S2[n]?=some (.ins C fs))(hl:fs.length<1000)(hq:E.nx dl (S2.set n (.ins C (zfz f v fs)))):zj0 C f to te E dl S:=by
 unfold zj0
 refine hte _ (hto _ ?_)
 simp only[zcR,h,if_pos]
 exact⟨hl,hq⟩
theorem zc6 {C:Addr}{m:Str}{ex:Ev→Addr→Sto→Prop}{sd:Sd}{to:TDE}{t:TDA}{dl:Ev}{S S1:Sto}{Q:DK}{n:Nat}{fs:List (Str×D)}(hto:∀K:DK,K (.ref n) S1→to dl S K)(h:S1[n]?=some (.ins C fs))(hf:fs.lookup m=none)(hq:t dl S1 λds S2=>sd (.ref n::ds) S2 Q (ex dl)):zkN C m ex sd to t dl S Q:=by
 unfold zkN
 refine hto _ ?_
 simp only[zcR,h,if_pos]
 exact⟨hf,hq⟩
theorem zv2 {te:TDE}{dl:Ev}{S:Sto}{Q:DK}{n:Nat}{xs:List D}(ht:∀K:DK,K (.ref n) S→te dl S K)(h:S[n]?=some (.lst xs))(hq:Q (.bl true) S):zl9 "list" te dl S Q:=by
 unfold zl9
 refine ht _ ?_
 simp only[h]
 exact hq
theorem zdV {to ti te:TDE}{dl:Ev}{S:Sto}{E:zcE}{n j:Nat}{k:Int}{xs:List D}{v:D}(hte:∀K:DK,K v S→te dl S K)(hto:∀K:DK,K (.ref n) S→to dl S K)(hti:∀K:DK,K (.int k) S→ti dl S K)(h:S[n]?=some (.lst xs))(hj:ixN xs.length k=some j)(hq:E.nx dl (S.set n (.lst (xs.set j v)))):zmz to ti te E dl S:=by
 unfold zmz
 refine hte _ (hto _ (hti _ ?_))
 simp only[h,hj]
 exact hq
theorem zcD {n:Nat}{S:Sto}{Q:DK}{xs:List D}(h:S[n]?=some (.lst xs))(hq:Q (.int (xs.length:Nat)) S):irr zhU [.ref n] S Q:=by
 rw[zkh]
 unfold zhU
 simp only[za9 h rfl]
 exact hq
theorem zbk {S:Sto}{n a:Nat}{o u:Ob}(h:S[n]?=some o)(hn:a≠n):(S.set a u)[n]?=some o:=by rw[VaR hn]; exact h
theorem zbm {S:Sto}{n:Nat}{o u:Ob}(h:S[n]?=some o):(S.set n u)[n]?=some u:=by
 have hk:=(Vac.mp h).1
 simp[hk]
theorem zaF {S:Sto}{n:Nat}{o:Ob}{T:Sto}(h:S[n]?=some o):(S++T)[n]?=some o:=by
 have hk:=(Vac.mp h).1
 rw[Vao hk]
 exact h
theorem zcI (T R:Sto)(u:Ob):(T++u::R)[T.length]?=some u:=by simp
theorem zcC (T R:Sto)(u v:Ob):(T++u::R).set T.length v=T++v::R:=by simp
theorem zb9 {S:Sto}{n:Nat}{o:Ob}(h:S[n]?=some o):n<S.length:=(Vac.mp h).1
theorem zlq {n m:Nat}{S:Sto}{Q:DK}{xs ys:List D}{b:Bool}(h1:S[n]?=some (.lst xs))(h2:S[m]?=some (.lst ys))(e:eqL (eqN 1) xs ys=some b)(hq:Q (.bl b) S):zbY (zec 1) (.ref n) (.ref m) S Q:=by
 rw[zcr]
 unfold zec
 simp only[zdF,za9 h1 rfl,za9 h2 rfl,zat,e]
 exact hq
theorem zx2 {xs:List Int}{lo hi:Option Int}{k:Nat}{x:D}(h:(zbv (xs.map D.int) lo hi)[k]?=some x):∃c:Int,x=.int c:=by
 have m:=Vak h
 unfold L3.zbv at m
 obtain⟨c,_,rfl⟩:=Va3.mp (List.mem_of_mem_drop (List.mem_of_mem_take m))
 exact⟨c,rfl⟩
theorem zcj {i n:Nat}{tb:TDS}{E:zcE}{dl:Ev}{S:Sto}{o:Ob}(W:Nat→Ev→Sto→Prop)(h0:W 0 dl S)(hk:∀k dl' S',W k dl' S'→S'[n]?=some o)
  (ht:∀(k:Nat) (x:D) (dl':Ev) (S':Sto) (nx ct:Ev→Sto→Prop),(zat o)[k]?=some x→W k dl' S'→(∀dl2 S2,W (k+1) dl2 S2→nx dl2 S2)→tb { nx:=nx,rt:=E.rt,bk:=E.nx,ct:=ct } (dl'.set i (some x)) S')(he:∀dl' S',W (zat o).length dl' S'→E.nx dl' S')(hL:zb3 o=some o:=by rfl):
  (lAt S n).isSome=true∧∃W:Nat→Nat→Ev→Sto→Prop,(∃m,W 0 m dl S)∧∀k m dl S,W k m dl S→match lAt S n with
  | some o=>match (zat o)[k]? with
   | some x=>tb { nx:=λdl' S'=>∃m',m'<m∧W (k+1) m' dl' S',rt:=E.rt,bk:=E.nx,ct:=λdl' S'=>∃m',m'<m∧W (k+1) m' dl' S' } (dl.set i (some x)) S
   | none=>E.nx dl S
  | none=>False:=by
 refine⟨by rw[za9 (hk _ _ _ h0) hL]; rfl,λk m dl' S'=>m+k=(zat o).length∧W k dl' S',⟨(zat o).length,by omega,h0⟩,?_⟩
 rintro k m dl' S' ⟨hm,w⟩
 rw[za9 (hk _ _ _ w) hL]
 show (match (zat o)[k]? with
   | some x=>tb { nx:=λdl' S''=>∃m',m'<m∧(m'+(k+1)=(zat o).length∧W (k+1) dl' S''),rt:=E.rt,bk:=E.nx,ct:=λdl' S''=>∃m',m'<m∧(m'+(k+1)=(zat o).length∧W (k+1) dl' S'') } (dl'.set i (some x)) S'
   | none=>E.nx dl' S')
 split
 ·rename_i x hx
  have hk:k<(zat o).length:=(Vac.mp hx).1
  exact ht k x dl' S' _ _ hx w λdl2 S2 w2=>⟨m-1,by omega,by omega,w2⟩
 ·rename_i hx
  have hk:k=(zat o).length:=by
   have:=VaC.mp hx
   omega
  exact he dl' S' (hk ▸ w)
inductive Nd where
 | number (t b:Int) | unknown (k:Int) | plus (i j:Int) | minus (i j:Int) | times (i j:Int) | power (i n:Int)
def Nd.d:Nd→D
 | .number t b=>.tup [.str "number",.int t,.int b]
 | .unknown k=>.tup [.str "unknown",.int k]
 | .plus i j=>.tup [.str "plus",.int i,.int j]
 | .minus i j=>.tup [.str "minus",.int i,.int j]
 | .times i j=>.tup [.str "times",.int i,.int j]
 | .power i n=>.tup [.str "power",.int i,.int n]
def Nd.ob (cN cU cP cM cT cW:Addr):Nd→Ob
 | .number t b=>.ins cN [("top",.int t),("bottom",.int b)]
 | .unknown k=>.ins cU [("place",.int k)]
 | .plus i j=>.ins cP [("one",.int i),("other",.int j)]
 | .minus i j=>.ins cM [("one",.int i),("other",.int j)]
 | .times i j=>.ins cT [("one",.int i),("other",.int j)]
 | .power i n=>.ins cW [("one",.int i),("many",.int n)]
def inR (m i:Int):Prop:=0≤i∧i<m
def Nd.ok (m q:Int):Nd→Prop
 | .number t b=>(1≤b∧b≤10^9)∧Int.gcd t b=1∧t.natAbs≤10^9
 | .unknown k=>inR q k
 | .plus i j=>inR m i∧inR m j
 | .minus i j=>inR m i∧inR m j
 | .times i j=>inR m i∧inR m j
 | .power i n=>inR m i∧2≤n∧n≤6
def frD (p:Int×Int):D:=.tup [.int p.1,.int p.2]
abbrev gt (vs:List (Int×Int))(i:Int):Int×Int:=vs.getD i.toNat (0,1)
theorem zod {vs:List (Int×Int)}{i:Int}(h:inR vs.length i):gt vs i∈vs:=by
 obtain⟨h0,h1⟩:=h
 have hk:i.toNat<vs.length:=by omega
 have e:gt vs i=vs[i.toNat]:=by simp[gt,hk]
 rw[e]
 exact List.getElem_mem hk
theorem zaQ {vs:List (Int×Int)}{i:Int}(h:inR vs.length i):atI (vs.map frD) i=some (frD (gt vs i)):=by
 obtain⟨h0,h1⟩:=h
 have hk:i.toNat<vs.length:=by omega
 have z:=zdH (xs:=vs.map frD) (j:=i.toNat) (v:=frD (gt vs i)) (by rw[Vae,Vaj hk]; simp[gt,hk])
 rw[show ((i.toNat:Nat):Int)=i by omega] at z
 exact z
theorem fr_eq (p q:Int×Int):eqN 1 (frD p) (frD q)=some (decide (p.1=q.1)&&(decide (p.2=q.2)&&true)):=by simp[frD,eqN,L3.eqT,eqL,eqF]
theorem zjG:∀vs:List (Int×Int),eqL (eqN 1) (vs.map frD) (vs.map frD)=some true
 | []=>rfl
 | u::us=>by
  show (match eqN 1 (frD u) (frD u),eqL (eqN 1) (us.map frD) (us.map frD) with | some b,some c=>some (b&&c) | _,_=>none)=_
  rw[fr_eq,zjG us]
  simp
theorem zn7 {G:Int×Int→Prop}:∀xs:List D,(∀(k:Nat) (d:D),xs[k]?=some d→∃p,d=frD p∧G p)→∃vs:List (Int×Int),xs=vs.map frD∧∀p∈vs,G p
 | [],_=>⟨[],rfl,λp h=>by cases h⟩
 | x::xs,h=>by
  obtain⟨p,rfl,hp⟩:=h 0 x rfl
  obtain⟨vs,rfl,hv⟩:=zn7 xs λk d hd=>h (k+1) d hd
  exact⟨p::vs,rfl,λq hq=>by
   rcases Vad.mp hq with e | e
   ·subst e; exact hp
   ·exact hv q e⟩
theorem zqj {xs:List D}{d e:D}{i:Nat}{P:Nat→D→Prop}(h:(xs++[d])[i]?=some e)(hp:∀i d,xs[i]?=some d→P i d)(hd:P xs.length d):P i e:=by
 by_cases hi:i<xs.length
 ·rw[Vao hi] at h
  exact hp i e h
 ·have hk:=(Vac.mp h).1
  simp only[Vay,VaK,List.length_nil] at hk
  have e1:i=xs.length:=by omega
  subst e1
  simp at h
  subst h
  exact hd
theorem zpV {caps:List Nat}{ta:TDA}{te:TDE}{dl:Ev}{S S1:Sto}{Q:DK}{j:Int}(P:Nat→D→Prop)(hta:∀K:List D→Sto→Prop,K [.int j] S1→ta dl S K)(hj:0≤j∧j≤1000)
  (ht:∀k:Nat,k<j.toNat→∀(S2:Sto) (K:DK),Pre S1 S2→(∀d,P k d→K d S2)→te (some (.int k)::zcu caps dl) S2 K)(hq:∀xs:List D,xs.length=j.toNat→(∀k d,xs[k]?=some d→P k d)→Q (.ref S1.length) (S1++[.lst xs])):zel caps ta zdc te dl S Q:=by
 unfold zel
 refine hta _ ⟨⟨by omega,by omega⟩,λk S2=>(∃xs:List D,S2=S1++[.lst xs]∧xs.length=k∧∀i d,xs[i]?=some d→P i d)∧k≤j.toNat,⟨⟨[],rfl,rfl,λi d h=>by simp at h⟩,by omega⟩,?_⟩
 rintro k S2 ⟨⟨xs,rfl,hx,hp⟩,hk⟩
 split
 ·rename_i hk'
  unfold zdl zdc
  simp only[if_true]
  refine ht k hk' _ _ Pre.refl.push λd hd=>?_
  rw[zaC]
  refine⟨by omega,⟨xs++[d],zpH _ _ _,by simp[hx],λi e he=>zqj he hp (hx ▸ hd)⟩,by omega⟩
 ·have e:k=j.toNat:=by omega
  subst e
  exact hq xs hx hp
theorem zp0 {caps:List Nat}{tl te:TDE}{dl:Ev}{S S1:Sto}{Q:DK}{n:Nat}{o:Ob}(P:Nat→D→Prop)(htl:∀K:DK,K (.ref n) S1→tl dl S K)(h1:S1[n]?=some o)(hl:(zat o).length≤1000)
  (ht:∀(k:Nat) (x:D),(zat o)[k]?=some x→∀(S2:Sto) (K:DK),Pre S1 S2→(∀d,P k d→K d S2)→te (some x::zcu caps dl) S2 K)(hq:∀xs:List D,xs.length=(zat o).length→(∀k d,xs[k]?=some d→P k d)→Q (.ref S1.length) (S1++[.lst xs]))(hL:zb3 o=some o:=by rfl):zb2 caps tl zdc te dl S Q:=by
 unfold zb2
 refine htl _ ⟨by rw[za9 h1 hL]; rfl,λk m S2=>(∃xs:List D,S2=S1++[.lst xs]∧xs.length=k∧∀i d,xs[i]?=some d→P i d)∧m+k=(zat o).length,⟨(zat o).length,⟨[],rfl,rfl,λi d h=>by simp at h⟩,by omega⟩,?_⟩
 rintro k m S2 ⟨⟨xs,rfl,hx,hp⟩,hm⟩
 rw[za9 (zjn h1) hL]
 dsimp only
 split
 ·rename_i x hk
  have hk':k<(zat o).length:=(Vac.mp hk).1
  unfold zdl zdc
  simp only[if_true]
  refine ht k x hk _ _ Pre.refl.push λd hd=>?_
  rw[zaC]
  refine⟨by omega,m-1,by omega,⟨xs++[d],zpH _ _ _,by simp[hx],λi e he=>zqj he hp (hx ▸ hd)⟩,by omega⟩
 ·rename_i hk
  have hk':=VaC.mp hk
  exact hq xs (by omega) hp
theorem zxL {α:Type}{xs:List D}{lo hi:Option Int}:(zbv xs lo hi).length≤xs.length:=by
 unfold L3.zbv
 rw[Vau,List.length_drop]
 omega
theorem ztr {S T:Sto}(h:Pre S T){n:Nat}{o:Ob}(e:S[n]?=some o):T[n]?=some o:=h n o e
structure zed (a b c d mn mx:Int):Prop where
 lo:mn=a*c∨mn=a*d∨mn=b*c∨mn=b*d
 l1:mn≤a*c
 l2:mn≤a*d
 l3:mn≤b*c
 l4:mn≤b*d
 hi:mx=a*c∨mx=a*d∨mx=b*c∨mx=b*d
 h1:a*c≤mx
 h2:a*d≤mx
 h3:b*c≤mx
 h4:b*d≤mx
theorem zed.of {a b c d mn mx:Int}(m1:mn∈[a*c,a*d,b*c,b*d])(m2:∀y∈[a*c,a*d,b*c,b*d],mn≤y)(x1:mx∈[a*c,a*d,b*c,b*d])(x2:∀y∈[a*c,a*d,b*c,b*d],y≤mx):zed a b c d mn mx:=by
 simp only[Vad,Vas,or_false] at m1 x1
 exact⟨m1,m2 _ (by simp),m2 _ (by simp),m2 _ (by simp),m2 _ (by simp),x1,x2 _ (by simp),x2 _ (by simp),x2 _ (by simp),x2 _ (by simp)⟩
structure zcO (a b:Int)(n:Nat)(m M:Int):Prop where
 lo:m=a^n∨m=b^n∨(a<0∧0<b∧m=0)
 l1:m≤a^n
 l2:m≤b^n
 l3:a<0→0<b→m≤0
 hi:M=a^n∨M=b^n
 h1:a^n≤M
 h2:b^n≤M
theorem zpow {n:Nat}(h:1≤n):(0:Int)^n=0:=by
 cases n with
 | zero=>omega
 | succ k=>rw[Vaf,VaV]
theorem zpI (n:Nat):(∀x:Int,(-x)^n=x^n)∨(∀x:Int,(-x)^n=-(x^n)):=by
 induction n with
 | zero=>left; intro x; rw[VaO,VaO]
 | succ k ih=>
  rcases ih with e | e
  ·right; intro x; rw[Vaf,Vaf,e,VaW]
  ·left; intro x; rw[Vaf,Vaf,e,Int.neg_mul_neg]
theorem zeZ {x y:Int}(h0:0≤x)(h:x≤y)(n:Nat):x^n≤y^n:=by
 induction n with
 | zero=>rw[VaO,VaO]; exact VaE _
 | succ k ih=>
  rw[Vaf,Vaf]
  exact Int.mul_le_mul ih h h0 (VaH (by omega))
theorem zsb {y z x m M:Int}{n:Nat}(hn:1≤n)(h1:y≤x)(h2:x≤z)(m1:m≤y^n)(m2:m≤z^n)(m3:y<0→0<z→m≤0)(M1:y^n≤M)(M2:z^n≤M):m≤x^n∧x^n≤M:=by
 by_cases hy:0≤y
 ·have e1:=zeZ hy h1 n
  have e2:=zeZ (show 0≤x by omega) h2 n
  omega
 ·by_cases hz:z≤0
  ·have e1:=zeZ (show 0≤-z by omega) (show -z≤-x by omega) n
   have e2:=zeZ (show 0≤-x by omega) (show -x≤-y by omega) n
   rcases zpI n with p | p <;> rw[p,p] at e1 e2 <;> omega
  ·have m3':=m3 (by omega) (by omega)
   have z0:(0:Int)≤z^n:=VaH (by omega)
   by_cases hx:0≤x
   ·have e1:(0:Int)≤x^n:=VaH hx
    have e2:=zeZ hx h2 n
    omega
   ·have e1:(0:Int)≤(-x)^n:=VaH (by omega)
    have e2:=zeZ (show 0≤-x by omega) (show -x≤-y by omega) n
    rcases zpI n with p | p
    ·rw[p] at e1
     rw[p,p] at e2
     omega
    ·rw[p] at e1
     rw[p,p] at e2
     omega
theorem zcO.scale {a b:Int}{n:Nat}{m M:Int}(h:zcO a b n m M)(hn:1≤n){p x:Int}(hp:1≤p)(h1:a*p≤x)(h2:x≤b*p):m*p^n≤x^n∧x^n≤M*p^n:=by
 have pp:(0:Int)≤p^n:=VaH (by omega)
 refine zsb hn h1 h2 ?_ ?_ ?_ ?_ ?_
 ·rw[Int.mul_pow]; exact VaP h.l1 pp
 ·rw[Int.mul_pow]; exact VaP h.l2 pp
 ·intro y1 y2
  have a1:a<0:=by
   by_cases q:a<0
   ·exact q
   ·have:=Var (show 0≤a by omega) (show 0≤p by omega)
    omega
  have b1:0<b:=by
   by_cases q:0<b
   ·exact q
   ·have:=Var (show 0≤-b by omega) (show 0≤p by omega)
    rw[Vah] at this
    omega
  have:=Var (show 0≤-m by have:=h.l3 a1 b1; omega) pp
  rw[Vah] at this
  omega
 ·rw[Int.mul_pow]; exact VaP h.h1 pp
 ·rw[Int.mul_pow]; exact VaP h.h2 pp
theorem zcO.of {a b g mn mx:Int}{n:Nat}(hg:1≤g){l:List Int}(hl:l=[a^n*g,b^n*g]∧¬ (a<0∧0<b)∨l=[a^n*g,b^n*g,0^n*g]∧a<0∧0<b)(hn:1≤n)(m1:mn∈l)(m2:∀y∈l,mn≤y)(x1:mx∈l)(x2:∀y∈l,y≤mx):
  ∃m M,zcO a b n m M∧mn=m*g∧mx=M*g:=by
 have can:∀ {x y:Int},x*g≤y*g→x≤y:=λ{x y} h=>Int.le_of_mul_le_mul_right h (by omega)
 rcases hl with ⟨rfl,hz⟩ | ⟨rfl,hz1,hz2⟩
 ·simp only[Vad,Vas,or_false] at m1 x1
  have a1:=m2 (a^n*g) (by simp)
  have a2:=m2 (b^n*g) (by simp)
  have b1:=x2 (a^n*g) (by simp)
  have b2:=x2 (b^n*g) (by simp)
  obtain⟨m,hm,em⟩:∃m,(m=a^n∨m=b^n)∧mn=m*g:=by
   rcases m1 with e | e
   ·exact⟨_,.inl rfl,e⟩
   ·exact⟨_,.inr rfl,e⟩
  obtain⟨M,hM,eM⟩:∃m,(m=a^n∨m=b^n)∧mx=m*g:=by
   rcases x1 with e | e
   ·exact⟨_,.inl rfl,e⟩
   ·exact⟨_,.inr rfl,e⟩
  subst em eM
  exact⟨m,M,⟨hm.elim .inl λe=>.inr (.inl e),can a1,can a2,λc1 c2=>absurd ⟨c1,c2⟩ hz,hM,can b1,can b2⟩,rfl,rfl⟩
 ·rw[zpow hn,Int.zero_mul] at m1 m2 x1 x2
  simp only[Vad,Vas,or_false] at m1 x1
  have a1:=m2 (a^n*g) (by simp)
  have a2:=m2 (b^n*g) (by simp)
  have a3:=m2 0 (by simp)
  have b1:=x2 (a^n*g) (by simp)
  have b2:=x2 (b^n*g) (by simp)
  have b3:=x2 0 (by simp)
  obtain⟨m,hm,em⟩:∃m,(m=a^n∨m=b^n∨m=0)∧mn=m*g:=by
   rcases m1 with e | e | e
   ·exact⟨_,.inl rfl,e⟩
   ·exact⟨_,.inr (.inl rfl),e⟩
   ·exact⟨0,.inr (.inr rfl),by rw[e,Int.zero_mul]⟩
  have bp:(0:Int)≤b^n:=VaH (by omega)
  have bg:=Var bp (show 0≤g by omega)
  obtain⟨M,hM,eM⟩:∃m,(m=a^n∨m=b^n)∧mx=m*g:=by
   rcases x1 with e | e | e
   ·exact⟨_,.inl rfl,e⟩
   ·exact⟨_,.inr rfl,e⟩
   ·exact⟨_,.inr rfl,by omega⟩
  subst em eM
  refine⟨m,M,⟨?_,can a1,can a2,λ_ _=>can (by rw[Int.zero_mul]; exact a3),hM,can b1,can b2⟩,rfl,rfl⟩
  rcases hm with e | e | e
  ·exact .inl e
  ·exact .inr (.inl e)
  ·exact .inr (.inr ⟨hz1,hz2,e⟩)
theorem zfI {m g:Int}{n:Nat}(hg:1≤g)(hn:1≤n):m*g/g^n=m/g^(n-1):=by
 obtain⟨k,rfl⟩:∃k,n=k+1:=⟨n-1,by omega⟩
 rw[Vaf,Nat.add_sub_cancel,Int.mul_ediv_mul_of_pos_left _ _ (by omega)]
def mn4 (a b c d:Int):Int:=min (min (a*c) (a*d)) (min (b*c) (b*d))
def mx4 (a b c d:Int):Int:=max (max (a*c) (a*d)) (max (b*c) (b*d))
theorem zed.eq {a b c d mn mx:Int}(h:zed a b c d mn mx):mn=mn4 a b c d∧mx=mx4 a b c d:=by
 obtain⟨h0,h1,h2,h3,h4,h5,h6,h7,h8,h9⟩:=h
 unfold mn4 mx4
 omega
def zcz (a b:Int)(n:Nat):Int:=if n%2=0∧a≤0∧0≤b then 0 else min (a^n) (b^n)
def zcS (a b:Int)(n:Nat):Int:=max (a^n) (b^n)
theorem zi4 {n:Nat}(h:n%2=0)(x:Int):0≤x^n:=by
 obtain⟨k,rfl⟩:∃k,n=k+k:=⟨n/2,by omega⟩
 rw[Int.pow_add]
 by_cases c:0≤x^k
 ·exact Var c c
 ·have:=Var (show 0≤-(x^k) by omega) (show 0≤-(x^k) by omega)
  rw[Int.neg_mul_neg] at this
  exact this
theorem zwm {n:Nat}(h:n%2=1){x:Int}(hx:x<0):x^n<0:=by
 obtain⟨k,rfl⟩:∃k,n=k+1:=⟨n-1,by omega⟩
 have z:=zi4 (n:=k) (by omega) x
 have nz:∀k:Nat,x^k≠0:=λk=>by
  induction k with
  | zero=>rw[VaO]; decide
  | succ k ih=>rw[Vaf]; exact Int.mul_ne_zero ih (by omega)
 have nz:=nz k
 have:=Int.mul_pos (show 0<x^k by omega) (show 0 < -x by omega)
 rw[VaW] at this
 rw[Vaf]
 omega
theorem zcO.eq {a b m M:Int}{n:Nat}(h:zcO a b n m M)(hn:1≤n):m=zcz a b n∧M=zcS a b n:=by
 obtain⟨h0,h1,h2,h3,h4,h5,h6⟩:=h
 refine⟨?_,by unfold zcS; omega⟩
 unfold zcz
 split
 ·rename_i c
  obtain⟨c1,c2,c3⟩:=c
  have e1:=zi4 c1 a
  have e2:=zi4 c1 b
  by_cases z:a<0∧0<b
  ·have:=h3 z.1 z.2
   omega
  ·have z':a=0∨b=0:=by omega
   rcases z' with rfl | rfl
   ·rw[zpow hn] at h1
    omega
   ·rw[zpow hn] at h2
    omega
 ·rename_i c
  have hz:a<0→0<b→m≠0:=λa1 b1 e=>by
   by_cases p:n%2=0
   ·exact c ⟨p,by omega,by omega⟩
   ·have:=zwm (n:=n) (by omega) a1
    omega
  omega
def Nd.fw (vs bs:List (Int×Int))(g:Int):Nd→Int×Int
 | .number t b=>(t*g/b,-(-(t*g)/b))
 | .unknown k=>gt bs k
 | .plus i j=>((gt vs i).1+(gt vs j).1,(gt vs i).2+(gt vs j).2)
 | .minus i j=>((gt vs i).1-(gt vs j).2,(gt vs i).2-(gt vs j).1)
 | .times i j=>(mn4 (gt vs i).1 (gt vs i).2 (gt vs j).1 (gt vs j).2/g,-(-mx4 (gt vs i).1 (gt vs i).2 (gt vs j).1 (gt vs j).2/g))
 | .power i n=>(zcz (gt vs i).1 (gt vs i).2 n.toNat/g^(n.toNat-1),-(-zcS (gt vs i).1 (gt vs i).2 n.toNat/g^(n.toNat-1)))
def Spn (B:Nat)(vs:List (Int×Int)):Prop:=∀p∈vs,p.1≤p.2∧Sz B p.1∧Sz B p.2
theorem Spn.at {B:Nat}{vs:List (Int×Int)}(h:Spn B vs){i:Int}(hi:inR vs.length i):(gt vs i).1≤(gt vs i).2∧Sz B (gt vs i).1∧Sz B (gt vs i).2:=h _ (zod hi)
theorem Spn.mono {B C:Nat}{vs:List (Int×Int)}(h:Spn B vs)(hc:B≤C):Spn C vs:=λp hp=>⟨(h p hp).1,(h p hp).2.1.mono hc,(h p hp).2.2.mono hc⟩
theorem zoe {m M g:Int}(hg:1≤g)(h:m≤M):m/g≤-(-M/g):=by
 have h1:=Int.ediv_mul_le m (show g≠0 by omega)
 have h2:=Int.ediv_mul_le (-M) (show g≠0 by omega)
 have:m/g*g≤-(-M/g)*g:=by rw[Vah]; omega
 exact Int.le_of_mul_le_mul_right this (by omega)
theorem zvW (a b:Int)(n:Nat):zcz a b n≤zcS a b n:=by
 unfold zcz zcS
 split
 ·rename_i c
  have:=zi4 c.1 a
  omega
 ·omega
theorem zvl (a b c d:Int):mn4 a b c d≤mx4 a b c d:=by unfold mn4 mx4; omega
theorem Nd.fw_le {vs bs:List (Int×Int)}{g:Int}{B:Nat}(h1:Spn B vs)(h2:Spn B bs)(hg:1≤g):∀v:Nd,v.ok vs.length bs.length→(v.fw vs bs g).1≤(v.fw vs bs g).2
 | .number t b,ok=>zoe ok.1.1 (VaE _)
 | .unknown k,ok=>(h2.at ok).1
 | .plus i j,ok=>by
  have a:=(h1.at ok.1).1
  have b:=(h1.at ok.2).1
  show (gt vs i).1+(gt vs j).1≤(gt vs i).2+(gt vs j).2
  omega
 | .minus i j,ok=>by
  have a:=(h1.at ok.1).1
  have b:=(h1.at ok.2).1
  show (gt vs i).1-(gt vs j).2≤(gt vs i).2-(gt vs j).1
  omega
 | .times i j,ok=>zoe hg (zvl _ _ _ _)
 | .power i n,ok=>zoe (VaB (by omega)) (zvW _ _ _)
theorem zdz {n:Nat}(v:Nd):Sco n v.d:=by
 cases v <;> exact .tup λd hd=>by
  simp only[Vad,Vas,or_false] at hd
  rcases hd with rfl | rfl | rfl <;> first | exact .str _ | exact .int _
theorem zvJ {n:Nat}(p:Int×Int):Sco n (frD p):=zce
def zaT (p q:Int×Int):Option (Int×Int):=if (if q.2<p.2 then q.2 else p.2)<(if q.1 > p.1 then q.1 else p.1) then none else some (if q.1 > p.1 then q.1 else p.1,if q.2<p.2 then q.2 else p.2)
theorem zs5 {p q r:Int×Int}(h:zaT p q=some r):r.1≤r.2:=by
 have go:∀lo hi:Int,(if hi<lo then none else some (lo,hi))=some r→r.1≤r.2:=λlo hi e=>by
  split at e
  ·cases e
  ·rename_i c
   cases e
   exact Int.not_lt.mp c
 exact go _ _ h
def ptD (q:Int×(Int×Int)):D:=.tup [.int q.1,.tup [.int q.2.1,.int q.2.2]]
theorem zot {a b:TDS}{E:zcE}{dl:Ev}{S:Sto}(W:Ev→Sto→Prop)(ha:∀nx:Ev→Sto→Prop,(∀dl' S',W dl' S'→nx dl' S')→a { nx:=nx,rt:=E.rt,bk:=E.bk,ct:=E.ct } dl S)(hb:∀dl' S',W dl' S'→b E dl' S'):zcF a b E dl S:=ha _ hb
theorem zdX {a b c:TDS}{E:zcE}{dl:Ev}{S:Sto}(W:Ev→Sto→Prop)(ha:∀nx:Ev→Sto→Prop,(∀dl' S',W dl' S'→nx dl' S')→zcF a b { nx:=nx,rt:=E.rt,bk:=E.bk,ct:=E.ct } dl S)(hb:∀dl' S',W dl' S'→c E dl' S'):zcF a (zcF b c) E dl S:=ha _ hb
theorem zoH {n:Nat}{m g:Int}(h:Sz n m)(hg:1≤g):Sz n (-(-m/g)):=(h.neg.div hg).neg
theorem zng {n:Nat}{a b:Int}(ha:Sz n a)(hb:Sz n b):Sz n (min a b):=by unfold Sz at *; omega
theorem zkO {n:Nat}{a b:Int}(ha:Sz n a)(hb:Sz n b):Sz n (max a b):=by unfold Sz at *; omega
theorem Spn.set {B:Nat}{vs:List (Int×Int)}(h:Spn B vs){k:Nat}{u:Int}(hu:Sz B u):Spn B (vs.set k (u,u)):=λp hp=>by
 rcases List.mem_or_eq_of_mem_set hp with e | e
 ·exact h p e
 ·subst e; exact⟨VaE _,hu,hu⟩
theorem ze7 (vs:List (Int×Int))(k:Nat)(p:Int×Int):(vs.map frD).set k (frD p)=(vs.set k p).map frD:=(List.map_set).symm
theorem zdQ {n:Nat}{i:Int}(h:inR n i):ixN n i=some i.toNat:=by
 obtain⟨h0,h1⟩:=h
 unfold ixN
 split <;> first | omega | rfl | (split <;> first | omega | rfl)
def Nd.wt (ws:List Nat):Nd→Nat
 | .number _ _=>1
 | .unknown _=>1
 | .plus i j=>ws.getD i.toNat 0+ws.getD j.toNat 0
 | .minus i j=>ws.getD i.toNat 0+ws.getD j.toNat 0
 | .times i j=>ws.getD i.toNat 0+ws.getD j.toNat 0
 | .power i n=>n.toNat*ws.getD i.toNat 0
structure zaM (q:Int)(ns:List Nd)(ws:List Nat):Prop where
 len:ws.length=ns.length
 ok:∀(k:Nat) (v:Nd),ns[k]?=some v→v.ok k q∧ws.getD k 0=v.wt ws∧1≤v.wt ws∧v.wt ws≤16
theorem zaM.nil (q:Int):zaM q [] []:=⟨rfl,λk v h=>by simp at h⟩
theorem zaM.w1 {q:Int}{ns:List Nd}{ws:List Nat}(h:zaM q ns ws){i:Int}(hi:inR ns.length i):1≤ws.getD i.toNat 0∧ws.getD i.toNat 0≤16:=by
 obtain⟨h0,h1⟩:=hi
 have hk:i.toNat<ns.length:=(by omega)
 obtain⟨_,e,a,b⟩:=h.ok i.toNat _ (Vaj hk)
 omega
theorem zaM.w2 {q:Int}{ns:List Nd}{ws:List Nat}(h:zaM q ns ws):∀v:Nd,v.ok ns.length q→1≤v.wt ws∧v.wt ws≤96
 | .number _ _,_=>⟨Vab 1,show 1≤96 by decide⟩
 | .unknown _,_=>⟨Vab 1,show 1≤96 by decide⟩
 | .plus i j,ok=>by have a:=h.w1 ok.1; have b:=h.w1 ok.2; simp only[Nd.wt]; omega
 | .minus i j,ok=>by have a:=h.w1 ok.1; have b:=h.w1 ok.2; simp only[Nd.wt]; omega
 | .times i j,ok=>by have a:=h.w1 ok.1; have b:=h.w1 ok.2; simp only[Nd.wt]; omega
 | .power i n,ok=>by
  have a:=h.w1 ok.1
  have n2:=ok.2.1
  have n6:=ok.2.2
  have m1:=Nat.mul_le_mul (show 1≤n.toNat by omega) a.1
  have m2:=Nat.mul_le_mul (show n.toNat≤6 by omega) a.2
  simp only[Nd.wt]
  omega
theorem znW {ws:List Nat}{w:Nat}{k:Nat}(h:k<ws.length):(ws++[w]).getD k 0=ws.getD k 0:=by
 rw[Vaw,Vaw,Vao h]
theorem zp9 {ws:List Nat}{w:Nat}{q:Int}{k:Nat}(hk:k≤ws.length):∀v:Nd,v.ok k q→v.wt (ws++[w])=v.wt ws:=by
 have e:∀i:Int,inR k i→(ws++[w]).getD i.toNat 0=ws.getD i.toNat 0:=λi hi=>znW (by have a:=hi.1; have b:=hi.2; omega)
 intro v ok
 cases v with
 | number _ _=>rfl
 | unknown _=>rfl
 | plus i j=>show _+_=_+_; rw[e i ok.1,e j ok.2]
 | minus i j=>show _+_=_+_; rw[e i ok.1,e j ok.2]
 | times i j=>show _+_=_+_; rw[e i ok.1,e j ok.2]
 | power i n=>show _*_=_*_; rw[e i ok.1]
theorem zaM.snoc {q:Int}{ns:List Nd}{ws:List Nat}(h:zaM q ns ws){v:Nd}(ok:v.ok ns.length q)(h16:v.wt ws≤16):zaM q (ns++[v]) (ws++[v.wt ws]):=by
 refine⟨by simp[h.len],λk u hu=>?_⟩
 by_cases hk:k<ns.length
 ·rw[Vao hk] at hu
  obtain⟨a,b,c,d⟩:=h.ok k u hu
  have e:=zp9 (w:=v.wt ws) (q:=q) (k:=k) (by rw[h.len]; omega) u a
  rw[e,znW (by rw[h.len]; exact hk)]
  exact⟨a,b,c,d⟩
 ·have hl:=(Vac.mp hu).1
  simp only[Vay,VaK,List.length_nil] at hl
  have ek:k=ns.length:=by omega
  subst ek
  simp at hu
  subst hu
  have e:=zp9 (w:=v.wt ws) (q:=q) (k:=ns.length) (by rw[h.len]; omega) v ok
  rw[e]
  refine⟨ok,?_,(h.w2 v ok).1,h16⟩
  rw[← h.len]
  simp
theorem zaM.take {q:Int}{ns:List Nd}{ws:List Nat}(h:zaM q ns ws)(n:Nat):zaM q (ns.take n) (ws.take n):=by
 have e:∀k:Nat,k<n→(ws.take n).getD k 0=ws.getD k 0:=λk hk=>by
  rw[Vaw,Vaw,List.getElem?_take_of_lt hk]
 refine⟨by simp[h.len],λk u hu=>?_⟩
 have hl:=(Vac.mp hu).1
 rw[Vau] at hl
 have hk:k<n:=by omega
 rw[List.getElem?_take_of_lt hk] at hu
 obtain⟨a,b,c,d⟩:=h.ok k u hu
 have e2:u.wt (ws.take n)=u.wt ws:=by
  have f:∀i:Int,inR k i→(ws.take n).getD i.toNat 0=ws.getD i.toNat 0:=λi hi=>e _ (by have:=hi.1; have:=hi.2; omega)
  cases u with
  | number _ _=>rfl
  | unknown _=>rfl
  | plus i j=>show _+_=_+_; rw[f i a.1,f j a.2]
  | minus i j=>show _+_=_+_; rw[f i a.1,f j a.2]
  | times i j=>show _+_=_+_; rw[f i a.1,f j a.2]
  | power i m=>show _*_=_*_; rw[f i a.1]
 rw[e2,e k hk]
 exact⟨a,b,c,d⟩
def zaD (bs:List (Int×Int))(g:Int)(ns:List Nd):List (Int×Int):=ns.foldl (λacc v=>acc++[v.fw acc bs g]) []
theorem zk1 (bs:List (Int×Int))(g:Int)(ns:List Nd)(v:Nd):zaD bs g (ns++[v])=zaD bs g ns++[v.fw (zaD bs g ns) bs g]:=by
 unfold zaD
 rw[List.foldl_append]
 rfl
theorem zbG {α:Type}{xs:List α}{k:Nat}{x:α}(h:xs[k]?=some x):xs.take (k+1)=xs.take k++[x]:=by rw[List.take_succ,h]; rfl
theorem zcX (bs:List (Int×Int))(g:Int)(ns:List Nd):(zaD bs g ns).length=ns.length:=by
 have z:∀k,k≤ns.length→(zaD bs g (ns.take k)).length=k:=λk=>by
  induction k with
  | zero=>intro _; rfl
  | succ k ih=>
   intro hk
   rw[zbG (Vaj (show k<ns.length by omega)),zk1]
   simp[ih (by omega)]
 have:=z ns.length (Vab _)
 rwa [VaM] at this
def SzW (ws:List Nat)(vs:List (Int×Int)):Prop:=∀(k:Nat) (p:Int×Int),vs[k]?=some p→p.1≤p.2∧Sz (60*ws.getD k 0-1) p.1∧Sz (60*ws.getD k 0-1) p.2
theorem SzW.at {ws:List Nat}{vs:List (Int×Int)}(h:SzW ws vs){i:Int}(hi:inR vs.length i):(gt vs i).1≤(gt vs i).2∧Sz (60*ws.getD i.toNat 0-1) (gt vs i).1∧Sz (60*ws.getD i.toNat 0-1) (gt vs i).2:=by
 obtain⟨h0,h1⟩:=hi
 have hk:i.toNat<vs.length:=by omega
 have e:gt vs i=vs[i.toNat]:=by simp[gt,hk]
 rw[e]
 exact h _ _ (Vaj hk)
theorem fw_w {ws:List Nat}{vs bs:List (Int×Int)}{g:Int}(hs:SzW ws vs)(hb:Spn 51 bs)(hg:1≤g∧g≤1000000)(hw:∀i:Int,inR vs.length i→1≤ws.getD i.toNat 0):∀v:Nd,v.ok vs.length bs.length→Sz (60*v.wt ws-1) (v.fw vs bs g).1∧Sz (60*v.wt ws-1) (v.fw vs bs g).2
 | .number t b,ok=>by
  have z:Sz 52 (t*g):=(Sz.of (n:=31) (10^9) ok.2.2).mul (Sz.of (n:=21) (10^6) (show g.natAbs≤_ by omega))
  exact⟨(z.div ok.1.1).mono (show 52≤60*1-1 by decide),(zoH z ok.1.1).mono (show 52≤60*1-1 by decide)⟩
 | .unknown k,ok=>⟨(hb.at ok).2.1.mono (show 51≤60*1-1 by decide),(hb.at ok).2.2.mono (show 51≤60*1-1 by decide)⟩
 | .plus i j,ok=>by
  have a:=hs.at ok.1
  have b:=hs.at ok.2
  have p:=hw i ok.1
  have q:=hw j ok.2
  exact⟨(a.2.1.add b.2.1).mono (by simp only[Nd.wt]; omega),(a.2.2.add b.2.2).mono (by simp only[Nd.wt]; omega)⟩
 | .minus i j,ok=>by
  have a:=hs.at ok.1
  have b:=hs.at ok.2
  have p:=hw i ok.1
  have q:=hw j ok.2
  exact⟨(a.2.1.sub b.2.2).mono (by simp only[Nd.wt]; omega),(a.2.2.sub b.2.1).mono (by simp only[Nd.wt]; omega)⟩
 | .times i j,ok=>by
  have a:=hs.at ok.1
  have b:=hs.at ok.2
  have p:=hw i ok.1
  have q:=hw j ok.2
  have le:∀ {x y:Int},Sz (60*ws.getD i.toNat 0-1) x→Sz (60*ws.getD j.toNat 0-1) y→Sz (60*Nd.wt ws (.times i j)-1) (x*y):=λh1 h2=>(h1.mul h2).mono (by simp only[Nd.wt]; omega)
  have l:=zng (zng (le a.2.1 b.2.1) (le a.2.1 b.2.2)) (zng (le a.2.2 b.2.1) (le a.2.2 b.2.2))
  have u:=zkO (zkO (le a.2.1 b.2.1) (le a.2.1 b.2.2)) (zkO (le a.2.2 b.2.1) (le a.2.2 b.2.2))
  exact⟨l.div hg.1,zoH u hg.1⟩
 | .power i n,ok=>by
  have a:=hs.at ok.1
  have p:=hw i ok.1
  have n2:=ok.2.1
  have gp:(1:Int)≤g^(n.toNat-1):=VaB (by omega)
  have hn:(60*ws.getD i.toNat 0-1)*n.toNat+1≤60*Nd.wt ws (.power i n)-1:=by
   simp only[Nd.wt]
   rw[Nat.sub_mul,Nat.one_mul]
   have e:60*ws.getD i.toNat 0*n.toNat=60*(n.toNat*ws.getD i.toNat 0):=by rw[Nat.mul_assoc,Nat.mul_comm (ws.getD i.toNat 0)]
   have m1:=Nat.mul_le_mul (Vab n.toNat) p
   omega
  have p1:Sz (60*Nd.wt ws (.power i n)-1) ((gt vs i).1^n.toNat):=(a.2.1.pow _).mono hn
  have p2:Sz (60*Nd.wt ws (.power i n)-1) ((gt vs i).2^n.toNat):=(a.2.2.pow _).mono hn
  have l:Sz (60*Nd.wt ws (.power i n)-1) (zcz (gt vs i).1 (gt vs i).2 n.toNat):=by
   unfold zcz
   split
   ·exact(Sz.of (n:=1) 0 (by decide)).mono (by have:=Nat.mul_le_mul (show 1≤n.toNat by omega) p; simp only[Nd.wt]; omega)
   ·exact zng p1 p2
  exact⟨l.div gp,zoH (zkO p1 p2) gp⟩
theorem Spn.of_w {ws:List Nat}{vs:List (Int×Int)}(h:SzW ws vs)(hw:∀k:Nat,k<vs.length→ws.getD k 0≤16):Spn 1000 vs:=λp hp=>by
 obtain⟨k,hk,e⟩:=VaL.mp hp
 obtain⟨a,b,c⟩:=h k p (by rw[Vaj hk,e])
 have:=hw k hk
 exact⟨a,b.mono (by omega),c.mono (by omega)⟩
theorem zwh {q:Int}{ns:List Nd}{ws:List Nat}{bs:List (Int×Int)}{g:Int}(h:zaM q ns ws)(hq:q=bs.length)(hb:Spn 51 bs)(hg:1≤g∧g≤1000000):∀k,k≤ns.length→SzW ws (zaD bs g (ns.take k)):=λk=>by
 induction k with
 | zero=>intro _ i p hp; simp[zaD] at hp
 | succ k ih=>
  intro hk
  have hv:=Vaj (show k<ns.length by omega)
  have s:=ih (by omega)
  have ln:(zaD bs g (ns.take k)).length=k:=by rw[zcX,Vau]; omega
  obtain⟨ok,e,_,_⟩:=h.ok k _ hv
  rw[zbG hv,zk1]
  have okv:(ns[k]).ok (zaD bs g (ns.take k)).length bs.length:=by rw[ln,← hq]; exact ok
  have w1:∀i:Int,inR (zaD bs g (ns.take k)).length i→1≤ws.getD i.toNat 0:=λi hi=>(h.w1 (i:=i) (by rw[ln] at hi; exact⟨hi.1,by have:=hi.2; omega⟩)).1
  have z:=fw_w s hb hg w1 ns[k] okv
  have l:((ns[k]).fw (zaD bs g (ns.take k)) bs g).1≤((ns[k]).fw (zaD bs g (ns.take k)) bs g).2:=by
   refine Nd.fw_le (B:=6000) ?_ (hb.mono (by decide)) hg.1 _ okv
   intro p hp
   obtain⟨i,hi,ei⟩:=VaL.mp hp
   obtain⟨a,b,c⟩:=s i p (by rw[Vaj hi,ei])
   have:=(h.w1 (i:=i) ⟨by omega,by rw[ln] at hi; omega⟩).2
   rw[Vav] at this
   exact⟨a,b.mono (by omega),c.mono (by omega)⟩
  intro i p hp
  by_cases hi:i<k
  ·rw[Vao (by rw[ln]; exact hi)] at hp
   exact s i p hp
  ·have hl:=(Vac.mp hp).1
   simp only[Vay,VaK,List.length_nil,ln] at hl
   have ei:i=k:=by omega
   subst ei
   rw[VaT (by rw[ln]; exact Vab _),ln,Nat.sub_self] at hp
   simp at hp
   subst hp
   rw[e]
   exact⟨l,z⟩
theorem zd2 {q:Int}{ns:List Nd}{ws:List Nat}{bs:List (Int×Int)}{g:Int}(h:zaM q ns ws)(hq:q=bs.length)(hb:Spn 51 bs)(hg:1≤g∧g≤1000000)(k:Nat)(hk:k≤ns.length):Spn 1000 (zaD bs g (ns.take k)):=
 Spn.of_w (zwh h hq hb hg k hk) λi hi=>by
  rw[zcX,Vau] at hi
  have:=(h.w1 (i:=i) ⟨by omega,by omega⟩).2
  rwa [Vav] at this
theorem zbA {S T:Sto}{n:Nat}{o:Ob}(h:Pre S T)(hn:S.length≤n):Pre S (T.set n o):=λk u e=>by
 have hk:=(Vac.mp e).1
 rw[VaR (by omega)]
 exact h k u e
theorem zbz {S T:Sto}(h:Pre S T)(U:Sto):Pre S (T++U):=λk u e=>zaF (h k u e)
theorem zqO {to te:TDE}{dl:Ev}{S S1 S2:Sto}{Q:DK}{n:Nat}{xs:List D}{y:D}(hto:∀K:DK,K (.ref n) S1→to dl S K)(h:S1[n]?=some (.lst xs))(hte:∀K:DK,K y S2→te dl S1 K)(h2:S2[n]?=some (.lst xs))(hl:xs.length<1000)(hq:Q .non (S2.set n (.lst (xs++[y])))):zeH to te dl S Q:=by
 unfold zeH
 refine hto _ ?_
 simp only[h]
 refine hte _ ?_
 simp only[h2,if_pos hl]
 exact hq
theorem znI (u v:Nd):∃b,eqN 1 u.d v.d=some b:=by cases u <;> cases v <;> exact⟨_,rfl⟩
theorem zpN (u:Nd):eqN 1 u.d u.d=some true:=by cases u <;> simp[Nd.d,eqN,L3.eqT,eqL,eqF]
theorem zkz (v:Nd):∀ns:List Nd,∃b,zbP (eqN 1) (ns.map Nd.d) v.d=some b
 | []=>⟨false,rfl⟩
 | u::us=>by
  obtain⟨b,e⟩:=znI u v
  obtain⟨c,e2⟩:=zkz v us
  refine⟨b||c,?_⟩
  show (match eqN 1 u.d v.d,zbP (eqN 1) (us.map Nd.d) v.d with | some b,some c=>some (b||c) | _,_=>none)=_
  rw[e,e2]
theorem zoA:∀ns:List Nd,eqL (eqN 1) (ns.map Nd.d) (ns.map Nd.d)=some true
 | []=>rfl
 | u::us=>by
  show (match eqN 1 u.d u.d,eqL (eqN 1) (us.map Nd.d) (us.map Nd.d) with | some b,some c=>some (b&&c) | _,_=>none)=_
  rw[zpN,zoA us]
  rfl
theorem zq4 {v:Nd}{ns:List Nd}{n:Nat}{S:Sto}{Q:DK}(h:S[n]?=some (.lst (ns.map Nd.d)))(hq:∀b:Bool,Q (.bl b) S):zbY (wIn 1 true) v.d (.ref n) S Q:=by
 obtain⟨b,e⟩:=zkz v ns
 rw[zcr]
 unfold wIn
 simp only[za9 h rfl,zat,e]
 exact hq _
def wtD (w:Nat):D:=.int (w:Int)
theorem zee {ws:List Nat}{i:Int}(h:inR ws.length i):atI (ws.map wtD) i=some (.int ((ws.getD i.toNat 0:Nat):Int)):=by
 obtain⟨h0,h1⟩:=h
 have hk:i.toNat<ws.length:=by omega
 have z:=zdH (xs:=ws.map wtD) (j:=i.toNat) (v:=wtD (ws.getD i.toNat 0)) (by rw[Vae,Vaj hk]; simp[hk])
 rw[show ((i.toNat:Nat):Int)=i by omega] at z
 exact z
theorem zu0 (q:Nat):zaM q ((List.range q).map λ(k:Nat)=>Nd.unknown (k:Int)) ((List.range q).map λ_=>1):=by
 refine⟨by simp,λk v hv=>?_⟩
 have hl:=(Vac.mp hv).1
 simp only[Vaa,List.length_range] at hl
 rw[Vae,List.getElem?_range hl] at hv
 cases hv
 refine⟨⟨by omega,by omega⟩,?_,Vab _,show 1≤16 by decide⟩
 simp[Nd.wt,hl]
theorem zro {u v:Nd}(h:eqN 1 u.d v.d=some true):u=v:=by
 cases u <;> cases v <;> simp[Nd.d,eqN,L3.eqT,eqL,eqF] at h
 all_goals first | (obtain⟨rfl,rfl⟩:=h; rfl) | (subst h; rfl) | exact absurd h.1 (by decide)
theorem zhI (v:Nd):∀ns:List Nd,∃o:Option Nat,zda (eqN 1) (ns.map Nd.d) v.d=some o∧zbP (eqN 1) (ns.map Nd.d) v.d=some o.isSome∧∀j,o=some j→ns[j]?=some v
 | []=>⟨none,rfl,rfl,λj h=>by cases h⟩
 | u::us=>by
  obtain⟨b,e⟩:=znI u v
  obtain⟨o,h1,h2,h3⟩:=zhI v us
  have f1:zda (eqN 1) ((u::us).map Nd.d) v.d=(match eqN 1 u.d v.d,zda (eqN 1) (us.map Nd.d) v.d with | some true,some _=>some (some 0) | some false,some o=>some (o.map (·+1)) | _,_=>none):=rfl
  have f2:zbP (eqN 1) ((u::us).map Nd.d) v.d=(match eqN 1 u.d v.d,zbP (eqN 1) (us.map Nd.d) v.d with | some b,some c=>some (b||c) | _,_=>none):=rfl
  rw[f1,f2,e,h1,h2]
  cases b with
  | true=>exact⟨some 0,rfl,rfl,λj hj=>by
    cases hj
    rw[zro e]
    rfl⟩
  | false=>exact⟨o.map (·+1),rfl,by cases o <;> rfl,λj hj=>by
    cases o with
    | none=>cases hj
    | some i=>
     cases hj
     exact h3 i rfl⟩
theorem zp1 {v:Nd}{ns:List Nd}{n j:Nat}{to:TDE}{t:TDA}{dl:Ev}{S:Sto}{Q:DK}(hto:∀K:DK,K (.ref n) S→to dl S K)(ht:∀K:List D→Sto→Prop,K [v.d] S→t dl S K)(h:S[n]?=some (.lst (ns.map Nd.d)))(e:zda (eqN 1) (ns.map Nd.d) v.d=some (some j))(hq:Q (.int (j:Int)) S):zjb 1 to t dl S Q:=by
 unfold zjb
 refine hto _ ⟨by rw[za9 h rfl]; rfl,ht _ ?_⟩
 unfold zkS
 simp only[za9 h rfl,zat,e]
 exact hq
theorem zoy {k m q:Int}(h:k≤m):∀ {v:Nd},v.ok k q→v.ok m q:=λ{v} ok=>by
 have z:∀i:Int,inR k i→inR m i:=λi hi=>⟨hi.1,by have:=hi.2; omega⟩
 cases v with
 | number _ _=>exact ok
 | unknown _=>exact ok
 | plus i j=>exact⟨z _ ok.1,z _ ok.2⟩
 | minus i j=>exact⟨z _ ok.1,z _ ok.2⟩
 | times i j=>exact⟨z _ ok.1,z _ ok.2⟩
 | power i n=>exact⟨z _ ok.1,ok.2⟩
theorem zvh {vs us:List (Int×Int)}{k:Nat}{i:Int}(h:inR k i)(hk:k≤vs.length):gt (vs++us) i=gt vs i:=by
 have:=h.1
 have:=h.2
 unfold gt
 rw[Vaw,Vaw,Vao (by omega)]
theorem gt_at {vs:List (Int×Int)}{k:Nat}{p:Int×Int}(h:vs[k]?=some p):gt vs (k:Int)=p:=by
 unfold gt
 rw[Vaw,Vav,h]
 rfl
theorem SzW.snoc {ws:List Nat}{vs:List (Int×Int)}{p:Int×Int}(h:SzW ws vs)(h1:p.1≤p.2)(h2:Sz (60*ws.getD vs.length 0-1) p.1)(h3:Sz (60*ws.getD vs.length 0-1) p.2):SzW ws (vs++[p]):=λk q hq=>by
 by_cases hk:k<vs.length
 ·rw[Vao hk] at hq
  exact h k q hq
 ·have hl:=(Vac.mp hq).1
  simp only[Vay,VaK,List.length_nil] at hl
  have ek:k=vs.length:=by omega
  subst ek
  simp at hq
  subst hq
  exact⟨h1,h2,h3⟩
def Gd (B:Nat)(vs:List (Int×Int)):Prop:=∀p∈vs,1≤p.2∧Int.gcd p.1 p.2=1∧Sz B p.1∧Sz B p.2
theorem Gd.at {B:Nat}{vs:List (Int×Int)}(h:Gd B vs){i:Int}(hi:inR vs.length i):1≤(gt vs i).2∧Int.gcd (gt vs i).1 (gt vs i).2=1∧Sz B (gt vs i).1∧Sz B (gt vs i).2:=h _ (zod hi)
theorem Gd.mono {B C:Nat}{vs:List (Int×Int)}(h:Gd B vs)(hc:B≤C):Gd C vs:=λp hp=>⟨(h p hp).1,(h p hp).2.1,(h p hp).2.2.1.mono hc,(h p hp).2.2.2.mono hc⟩
def Pz (B:Nat)(vs:List (Int×Int)):Prop:=∀p∈vs,1≤p.2∧Sz B p.1∧Sz B p.2
theorem Pz.at {B:Nat}{vs:List (Int×Int)}(h:Pz B vs){i:Int}(hi:inR vs.length i):1≤(gt vs i).2∧Sz B (gt vs i).1∧Sz B (gt vs i).2:=h _ (zod hi)
def Nd.due (vs ps:List (Int×Int)):Nd→Int×Int
 | .number t b=>(t,b)
 | .unknown k=>gt ps k
 | .plus i j=>((gt vs i).1*(gt vs j).2+(gt vs j).1*(gt vs i).2,(gt vs i).2*(gt vs j).2)
 | .minus i j=>((gt vs i).1*(gt vs j).2-(gt vs j).1*(gt vs i).2,(gt vs i).2*(gt vs j).2)
 | .times i j=>((gt vs i).1*(gt vs j).1,(gt vs i).2*(gt vs j).2)
 | .power i n=>((gt vs i).1^n.toNat,(gt vs i).2^n.toNat)
def PzW (ws:List Nat)(vs:List (Int×Int)):Prop:=∀(k:Nat) (p:Int×Int),vs[k]?=some p→1≤p.2∧Sz (112*ws.getD k 0-2) p.1∧Sz (112*ws.getD k 0-2) p.2
theorem PzW.at {ws:List Nat}{vs:List (Int×Int)}(h:PzW ws vs){i:Int}(hi:inR vs.length i):1≤(gt vs i).2∧Sz (112*ws.getD i.toNat 0-2) (gt vs i).1∧Sz (112*ws.getD i.toNat 0-2) (gt vs i).2:=by
 obtain⟨h0,h1⟩:=hi
 have hk:i.toNat<vs.length:=by omega
 have e:gt vs i=vs[i.toNat]:=by simp[gt,hk]
 rw[e]
 exact h _ _ (Vaj hk)
def zb1 (ps:List (Int×Int))(ns:List Nd):List (Int×Int):=ns.foldl (λacc v=>acc++[v.due acc ps]) []
theorem zpO (ps:List (Int×Int))(ns:List Nd)(v:Nd):zb1 ps (ns++[v])=zb1 ps ns++[v.due (zb1 ps ns) ps]:=by
 unfold zb1
 rw[List.foldl_append]
 rfl
theorem zwB (ps:List (Int×Int))(ns:List Nd):(zb1 ps ns).length=ns.length:=by
 have z:∀k,k≤ns.length→(zb1 ps (ns.take k)).length=k:=λk=>by
  induction k with
  | zero=>intro _; rfl
  | succ k ih=>
   intro hk
   rw[zbG (Vaj (show k<ns.length by omega)),zpO]
   simp[ih (by omega)]
 have y:=z ns.length (Vab _)
 rwa [VaM] at y
theorem Pz.of_w {ws:List Nat}{vs:List (Int×Int)}(h:PzW ws vs)(hw:∀k:Nat,k<vs.length→ws.getD k 0≤16):Pz 1800 vs:=λp hp=>by
 obtain⟨k,hk,e⟩:=VaL.mp hp
 obtain⟨a,b,c⟩:=h k p (by rw[Vaj hk,e])
 have:=hw k hk
 exact⟨a,b.mono (by omega),c.mono (by omega)⟩
def InW (g:Int)(vs ds:List (Int×Int)):Prop:=∀i:Int,inR ds.length i→(gt vs i).1*(gt ds i).2≤(gt ds i).1*g∧(gt ds i).1*g≤(gt vs i).2*(gt ds i).2
theorem zpY {v:Nd}{ns:List Nd}{n:Nat}{S:Sto}{Q:DK}{o:Option Nat}(h:S[n]?=some (.lst (ns.map Nd.d)))(e:zbP (eqN 1) (ns.map Nd.d) v.d=some o.isSome)(hq:Q (.bl (!o.isSome)) S):zbY (wIn 1 true) v.d (.ref n) S Q:=by
 rw[zcr]
 unfold wIn
 simp only[za9 h rfl,zat,e]
 exact hq
theorem any_some {v:Nd}:∀ {ns:List Nd} {k:Nat},ns[k]?=some v→zbP (eqN 1) (ns.map Nd.d) v.d≠some (none:Option Nat).isSome
 | [],k,h=>by simp at h
 | u::us,0,h=>by
  have e:u=v:=by simpa using h
  subst e
  show (match eqN 1 u.d u.d,zbP (eqN 1) (us.map Nd.d) u.d with | some b,some c=>some (b||c) | _,_=>none)≠_
  obtain⟨c,hc⟩:=zkz u us
  rw[zpN,hc]
  simp
 | u::us,k+1,h=>by
  have ih:=any_some (ns:=us) (k:=k) (by simpa using h)
  show (match eqN 1 u.d v.d,zbP (eqN 1) (us.map Nd.d) v.d with | some b,some c=>some (b||c) | _,_=>none)≠_
  obtain⟨b,hb⟩:=znI u v
  obtain⟨c,hc⟩:=zkz v us
  rw[hc] at ih
  rw[hb,hc]
  cases c
  ·exact absurd rfl ih
  ·simp
theorem zpo (P:List (Int×Int))(ns:List Nd):∀ms:List Nd,∃r,zb1 P (ns++ms)=zb1 P ns++r
 | []=>⟨[],by rw[VaS,VaS]⟩
 | v::ms=>by
  obtain⟨r,e⟩:=zpo P (ns++[v]) ms
  rw[List.append_assoc] at e
  refine⟨v.due (zb1 P ns) P::r,?_⟩
  rw[show ns++v::ms=ns++([v]++ms) from rfl,e,zpO,List.append_assoc]
  rfl
theorem ztH {P:List (Int×Int)}{ns ms:List Nd}{i:Int}(h:inR ns.length i):gt (zb1 P (ns++ms)) i=gt (zb1 P ns) i:=by
 obtain⟨r,e⟩:=zpo P ns ms
 rw[e]
 exact zvh (k:=ns.length) h (by rw[zwB]; exact Vab _)
theorem zwX {ws us:List Nat}{i:Nat}(h:i<ws.length):(ws++us).getD i 0=ws.getD i 0:=by rw[Vaw,Vaw,Vao h]
structure Gr (q a c:Nat)(S:Sto)(ns:List Nd)(ws:List Nat)(T:Sto)(ns':List Nd)(ws':List Nat):Prop where
 net:zaM q ns' ws'
 pn:∃ms,ns'=ns++ms∧ms.length≤c
 pw:∃us,ws'=ws++us
 nd:T[a]?=some (.lst (ns'.map Nd.d))
 len:S.length≤T.length
 kp:∀(x:Nat) (o:Ob),x≠a→S[x]?=some o→T[x]?=some o
theorem Gr.refl {q a:Nat}{S:Sto}{ns:List Nd}{ws:List Nat}(net:zaM q ns ws)(h:S[a]?=some (.lst (ns.map Nd.d))):Gr q a 0 S ns ws S ns ws:=⟨net,⟨[],by simp,by simp⟩,⟨[],by simp⟩,h,Vab _,λ_ _ _ e=>e⟩
theorem Gr.trans {q a c d:Nat}{S T U:Sto}{ns ns' ns2:List Nd}{ws ws' ws2:List Nat}(h:Gr q a c S ns ws T ns' ws')(k:Gr q a d T ns' ws' U ns2 ws2):Gr q a (c+d) S ns ws U ns2 ws2:=by
 obtain⟨n1,⟨ms,rfl,l1⟩,⟨us,rfl⟩,a1,e1,k1⟩:=h
 obtain⟨n2,⟨ms2,rfl,l2⟩,⟨us2,rfl⟩,a2,e2,k2⟩:=k
 exact⟨n2,⟨ms++ms2,by rw[List.append_assoc],by rw[Vay]; omega⟩,⟨us++us2,by rw[List.append_assoc]⟩,a2,by omega,λx o hx e=>k2 x o hx (k1 x o hx e)⟩
theorem Gr.mono {q a c d:Nat}{S T:Sto}{ns ns':List Nd}{ws ws':List Nat}(h:Gr q a c S ns ws T ns' ws')(l:c≤d):Gr q a d S ns ws T ns' ws':=by
 obtain⟨n1,⟨ms,e,l1⟩,u,a1,e1,k1⟩:=h
 exact⟨n1,⟨ms,e,by omega⟩,u,a1,e1,k1⟩
theorem Gr.ln {q a c:Nat}{S T:Sto}{ns ns':List Nd}{ws ws':List Nat}(h:Gr q a c S ns ws T ns' ws'):ns.length≤ns'.length∧ns'.length≤ns.length+c:=by
 obtain⟨n1,⟨ms,rfl,l1⟩,_⟩:=h
 rw[Vay]
 omega
theorem Gr.wt {q a c:Nat}{S T:Sto}{ns ns':List Nd}{ws ws':List Nat}(h:Gr q a c S ns ws T ns' ws')(net:zaM q ns ws){i:Nat}(hi:i<ns.length):ws'.getD i 0=ws.getD i 0:=by
 obtain⟨us,rfl⟩:=h.pw
 exact zwX (by rw[net.len]; exact hi)
theorem Gr.due {q a c:Nat}{S T:Sto}{ns ns':List Nd}{ws ws':List Nat}(h:Gr q a c S ns ws T ns' ws')(P:List (Int×Int)){i:Nat}(hi:i<ns.length):gt (zb1 P ns') (i:Int)=gt (zb1 P ns) (i:Int):=by
 obtain⟨ms,rfl,_⟩:=h.pn
 exact ztH ⟨by omega,by omega⟩
theorem Gr.put {q a c n:Nat}{S T:Sto}{ns ns':List Nd}{ws ws':List Nat}{o:Ob}(h:Gr q a c S ns ws T ns' ws')(ha:n≠a)(hn:S.length≤n):Gr q a c S ns ws (T.set n o) ns' ws':=by
 obtain⟨n1,pn,pw,a1,e1,k1⟩:=h
 refine⟨n1,pn,pw,zbk a1 ha,by rw[VaG]; exact e1,λx u hx e=>zbk (k1 x u hx e) ?_⟩
 have:=zb9 e
 omega
theorem Gr.push {q a:Nat}{S:Sto}{ns:List Nd}{ws:List Nat}(net:zaM q ns ws)(h:S[a]?=some (.lst (ns.map Nd.d)))(U:Sto):Gr q a 0 S ns ws (S++U) ns ws:=⟨net,⟨[],by simp,by simp⟩,⟨[],by simp⟩,zaF h,by simp,λ_ _ _ e=>zaF e⟩
structure Zr (P:List (Int×Int))(ns:List Nd)(ws:List Nat)(w i:Nat):Prop where
 lt:i<ns.length
 wt:ws.getD i 0≤w
 due:(gt (zb1 P ns) (i:Int)).1=0
theorem Zr.up {P:List (Int×Int)}{q a c w i:Nat}{S T:Sto}{ns ns':List Nd}{ws ws':List Nat}(z:Zr P ns ws w i)(h:Gr q a c S ns ws T ns' ws')(net:zaM q ns ws):Zr P ns' ws' w i:=⟨by have:=h.ln; have:=z.lt; omega,by rw[h.wt net z.lt]; exact z.wt,by rw[h.due P z.lt]; exact z.due⟩
def Ans (lo hi y0 y1 p q:Int):Prop:=(p*y0≤hi*q∨p*y1≤hi*q)∧(lo*q≤p*y0∨lo*q≤p*y1)
structure za2 (x0 x1:Int)(V Sp:Int→Int→Prop)(L U:Int):Prop where
 all:∀p q,0<q→x0*q≤p→p≤x1*q→V p q→L*q≤p∧p≤U*q
 lo:∃p q,Sp p q∧0<q∧x0*q≤p∧p≤x1*q∧V p q∧p<(L+1)*q
 hi:∃p q,Sp p q∧0<q∧x0*q≤p∧p≤x1*q∧V p q∧(U-1)*q<p
theorem dl (m:Int){g:Int}(hg:0<g):m/g*g≤m∧m<(m/g+1)*g:=by
 have h1:=Int.emod_add_mul_ediv m g
 have h2:=Int.emod_nonneg m (show g≠0 by omega)
 have h3:=Int.emod_lt_of_pos m hg
 have e:(m/g+1)*g=g*(m/g)+g:=by grind
 have e2:m/g*g=g*(m/g):=Va0 _ _
 omega
theorem dh (m:Int){g:Int}(hg:0<g):m≤-(-m/g)*g∧(-(-m/g)-1)*g<m:=by
 obtain⟨h1,h2⟩:=dl (-m) hg
 have e1:-(-m/g)*g=-(-m/g*g):=by rw[Vah]
 have e2:(-(-m/g)-1)*g=-((-m/g+1)*g):=by grind
 omega
theorem mlr {a b c:Int}(h:a≤b)(hc:0≤c):a*c≤b*c:=VaP h hc
theorem mll {a b c:Int}(h:a≤b)(hc:0≤c):c*a≤c*b:=Int.mul_le_mul_of_nonneg_left h hc
theorem can {a b c:Int}(h:a*c≤b*c)(hc:0<c):a≤b:=Int.le_of_mul_le_mul_right h hc
structure Low (x0 x1 lo hi lb hb L:Int):Prop where
 all:∀p q,0<q→x0*q≤p→lo*q≤p*lb→L*q≤p
 ex:∃p q,(p=x0∧q=1∨p=lo∧q=lb)∧0<q∧x0*q≤p∧p≤x1*q∧(lo*q≤p*lb∧p*hb≤hi*q)∧p<(L+1)*q
theorem zgZ {x0 x1 lo hi lb hb L f:Int}(hx:x0≤x1)(hl:0≤lb)(hh:0≤hb)(l0:lb=0→lo≤0)(h0:hb=0→0≤hi)(cr:lo*hb≤hi*lb)(ef:lb≠0→f=lo/lb)(hc:lb≠0→-(-lo/lb)≤x1)(hr:hb≠0→x0≤hi/hb)
  (eL:L=x0∧(lb=0∨f≤x0)∨lb≠0∧L=f∧x0≤f):Low x0 x1 lo hi lb hb L:=by
 have xh:x0*hb≤hi:=by
  by_cases z:hb=0
  ·subst z; rw[VaV]; exact h0 rfl
  ·exact Va4 (mlr (hr z) hh) (dl hi (by omega)).1
 refine⟨λp q hq h1 h2=>?_,?_⟩
 ·rcases eL with ⟨rfl,_⟩ | ⟨z,rfl,_⟩
  ·exact h1
  ·have e:=ef z
   subst e
   have d:=mlr (dl lo (show 0<lb by omega)).1 (Vag hq)
   have e:lo/lb*lb*q=lo/lb*q*lb:=by grind
   exact can (show lo/lb*q*lb≤p*lb by omega) (by omega)
 ·by_cases z:lb=0
  ·refine⟨x0,1,.inl ⟨rfl,rfl⟩,by omega,by omega,by omega,⟨?_,by omega⟩,?_⟩
   ·have:=l0 z
    subst z; rw[VaV]; omega
   ·rcases eL with ⟨rfl,_⟩ | ⟨z',_⟩
    ·omega
    ·exact absurd z z'
  ·have lp:0<lb:=by omega
   obtain⟨d1,d2⟩:=dl lo lp
   have e:=ef z
   subst e
   have hL:lo/lb≤L∧x0≤L:=by
    rcases eL with ⟨rfl,z' | z'⟩ | ⟨_,rfl,z'⟩ <;> omega
   by_cases c:lo≤x0*lb
   ·exact⟨x0,1,.inl ⟨rfl,rfl⟩,by omega,by omega,by omega,⟨by omega,by omega⟩,by omega⟩
   ·refine⟨lo,lb,.inr ⟨rfl,rfl⟩,lp,by omega,?_,⟨VaE _,cr⟩,?_⟩
    ·exact Va4 (dh lo lp).1 (mlr (hc z) hl)
    ·exact Int.lt_of_lt_of_le d2 (mlr (by omega) hl)
theorem zqb {x1 lo lb p q:Int}(hq:0<q)(lp:0<lb)(h:x1 < -(-lo/lb))(hp:p≤x1*q)(hv:lo*q≤p*lb):False:=by
 have d:=(dh lo lp).2
 have h1:x1*lb≤(-(-lo/lb)-1)*lb:=mlr (by omega) (Vag lp)
 have h2:p*lb≤x1*q*lb:=mlr hp (Vag lp)
 have h3:x1*lb*q<lo*q:=Int.mul_lt_mul_of_pos_right (by omega) hq
 have e:x1*lb*q=x1*q*lb:=by grind
 omega
theorem zhE {lo hi c d p q:Int}(h0:0≤c)(hcd:c≤d)(hd:0<d)(hq:0<q):Ans lo hi c d p q↔lo*q≤p*(if lo > 0 then d else c)∧p*(if hi<0 then d else c)≤hi*q:=by
 unfold Ans
 have sl:lo > 0→0<lo*q:=λh=>Int.mul_pos h hq
 have sl':¬ lo > 0→lo*q≤0:=λh=>by
  have:=mlr (show lo≤0 by omega) (Vag hq)
  omega
 have sh:hi<0→hi*q<0:=λh=>by
  have:=Int.mul_lt_mul_of_pos_right h hq
  omega
 have sh':¬ hi<0→0≤hi*q:=λh=>Var (by omega) (Vag hq)
 by_cases z:0≤p
 ·have a1:=mll hcd z
  have a2:=Var z h0
  split <;> split <;> omega
 ·have b1:=mll hcd (show 0≤-p by omega)
  have b2:=Var (show 0≤-p by omega) h0
  simp only[Vah] at b1 b2
  split <;> split <;> omega
structure zb5 (lo hi x0 x1 c d:Int):Prop where
 hz:lo≤hi
 hx:x0≤x1
 h0:0≤c
 hcd:c≤d
 hd:0<d
abbrev za3 (lo c d:Int):Int:=if lo > 0 then d else c
abbrev zaX (hi c d:Int):Int:=if hi<0 then d else c
section
variable {lo hi x0 x1 c d:Int}
theorem zb5.cross (h:zb5 lo hi x0 x1 c d):lo*zaX hi c d≤hi*za3 lo c d:=by
 obtain⟨hz,hx,h0,hcd,hd⟩:=h
 unfold zaX za3
 split <;> split
 ·omega
 ·have a1:=mlr hz h0
  have a2:=mll hcd (show 0≤-lo by omega)
  simp only[Vah] at a2
  omega
 ·have a1:=mlr hz h0
  have a2:=mll hcd (show 0≤hi by omega)
  omega
 ·exact mlr hz h0
theorem zb5.l (h:zb5 lo hi x0 x1 c d):0≤za3 lo c d∧(za3 lo c d=0→lo≤0):=by
 obtain⟨hz,hx,h0,hcd,hd⟩:=h
 unfold za3
 split <;> omega
theorem zb5.h (h:zb5 lo hi x0 x1 c d):0≤zaX hi c d∧(zaX hi c d=0→0≤hi):=by
 obtain⟨hz,hx,h0,hcd,hd⟩:=h
 unfold zaX
 split <;> omega
theorem zb5.none1 (h:zb5 lo hi x0 x1 c d)(n:za3 lo c d≠0)(e:x1 < -(-lo/za3 lo c d)):∀p q,0<q→x0*q≤p→p≤x1*q→¬ Ans lo hi c d p q:=λp q hq _ h2 hv=>
 zqb hq (by have:=h.l.1; omega) e h2 ((zhE h.h0 h.hcd h.hd hq).mp hv).1
theorem zb5.none2 (h:zb5 lo hi x0 x1 c d)(n:zaX hi c d≠0)(e:hi/zaX hi c d<x0):∀p q,0<q→x0*q≤p→p≤x1*q→¬ Ans lo hi c d p q:=λp q hq h1 _ hv=>by
 have v:=((zhE h.h0 h.hcd h.hd hq).mp hv).2
 refine zqb (x1:=-x0) (lo:=-hi) (lb:=zaX hi c d) (p:=-p) hq (by have:=h.h.1; omega) (by rw[Va1]; omega) (by rw[Vah]; omega) ?_
 show -hi*q≤-p*zaX hi c d
 rw[Vah,Vah]
 exact Int.neg_le_neg v
def zca (lo hi x0 x1 c d p q:Int):Prop:=(p=x0∧q=1)∨(p=x1∧q=1)∨((p=lo∨p=hi)∧(q=c∨q=d))
theorem zb5.some (h:zb5 lo hi x0 x1 c d){L U:Int}(hc:za3 lo c d≠0→-(-lo/za3 lo c d)≤x1)(hr:zaX hi c d≠0→x0≤hi/zaX hi c d)
  (eL:L=x0∧(za3 lo c d=0∨lo/za3 lo c d≤x0)∨za3 lo c d≠0∧L=lo/za3 lo c d∧x0≤lo/za3 lo c d)
  (eU:U=x1∧(zaX hi c d=0∨x1≤-(-hi/zaX hi c d))∨zaX hi c d≠0∧U=-(-hi/zaX hi c d)∧-(-hi/zaX hi c d)≤x1):za2 x0 x1 (Ans lo hi c d) (zca lo hi x0 x1 c d) L U:=by
 obtain⟨l1,l2⟩:=h.l
 obtain⟨h1,h2⟩:=h.h
 have cr:=h.cross
 have A:=zgZ h.hx l1 h1 l2 h2 cr (λ_=>rfl) hc hr eL
 have B:=zgZ (x0:=-x1) (x1:=-x0) (lo:=-hi) (hi:=-lo) (lb:=zaX hi c d) (hb:=za3 lo c d) (L:=-U) (f:=-hi/zaX hi c d) (by have:=h.hx; omega) h1 l1 (λz=>by have:=h2 z; omega) (λz=>by have:=l2 z; omega)
  (by rw[Vah,Vah]; exact Int.neg_le_neg cr) (λ_=>rfl) (λz=>by have:=hr z; rw[Va1]; omega) (λz=>by have:=hc z; omega) (by omega)
 refine⟨λp q hq p1 p2 hv=>?_,?_,?_⟩
 ·obtain⟨v1,v2⟩:=(zhE h.h0 h.hcd h.hd hq).mp hv
  refine⟨A.all p q hq p1 v1,?_⟩
  have:=B.all (-p) q hq (by rw[Vah]; omega) (by rw[Vah,Vah]; exact Int.neg_le_neg v2)
  rw[Vah] at this
  omega
 ·obtain⟨p,q,hs,hq,p1,p2,hv,t⟩:=A.ex
  refine⟨p,q,?_,hq,p1,p2,(zhE h.h0 h.hcd h.hd hq).mpr hv,t⟩
  unfold zca
  unfold za3 at hs
  split at hs <;> omega
 ·obtain⟨p,q,hs,hq,p1,p2,hv,t⟩:=B.ex
  rw[Vah] at p1 p2
  have hv':lo*q≤-p*za3 lo c d∧-p*zaX hi c d≤hi*q:=by
   simp only[Vah] at hv ⊢
   exact⟨by omega,by omega⟩
  refine⟨-p,q,?_,hq,by omega,by omega,(zhE h.h0 h.hcd h.hd hq).mpr hv',?_⟩
  ·unfold zca
   unfold zaX at hs
   split at hs <;> omega
  ·have e:(U-1)*q=-((-U+1)*q):=by grind
   omega
end
theorem za2.mono {x0 x1 L U:Int}{V V' Sp Sp':Int→Int→Prop}(h:za2 x0 x1 V Sp L U)(hv:∀p q,0<q→(V p q↔V' p q))(hs:∀p q,0<q→Sp p q→Sp' p q):za2 x0 x1 V' Sp' L U:=by
 refine⟨λp q hq h1 h2 v=>h.all p q hq h1 h2 ((hv p q hq).mpr v),?_,?_⟩
 ·obtain⟨p,q,s,hq,h1,h2,v,t⟩:=h.lo
  exact⟨p,q,hs p q hq s,hq,h1,h2,(hv p q hq).mp v,t⟩
 ·obtain⟨p,q,s,hq,h1,h2,v,t⟩:=h.hi
  exact⟨p,q,hs p q hq s,hq,h1,h2,(hv p q hq).mp v,t⟩
abbrev NoV (x0 x1:Int)(V:Int→Int→Prop):Prop:=∀p q,0<q→x0*q≤p→p≤x1*q→¬ V p q
theorem za2.left {x0 x1 L U:Int}{V V' Sp:Int→Int→Prop}(h:za2 x0 x1 V Sp L U)(n:NoV x0 x1 V'):za2 x0 x1 (λp q=>V p q∨V' p q) Sp L U:=by
 refine⟨λp q hq h1 h2 v=>h.all p q hq h1 h2 (v.resolve_right (n p q hq h1 h2)),?_,?_⟩
 ·obtain⟨p,q,s,hq,h1,h2,v,t⟩:=h.lo
  exact⟨p,q,s,hq,h1,h2,.inl v,t⟩
 ·obtain⟨p,q,s,hq,h1,h2,v,t⟩:=h.hi
  exact⟨p,q,s,hq,h1,h2,.inl v,t⟩
theorem za2.right {x0 x1 L U:Int}{V V' Sp:Int→Int→Prop}(h:za2 x0 x1 V' Sp L U)(n:NoV x0 x1 V):za2 x0 x1 (λp q=>V p q∨V' p q) Sp L U:=by
 refine⟨λp q hq h1 h2 v=>h.all p q hq h1 h2 (v.resolve_left (n p q hq h1 h2)),?_,?_⟩
 ·obtain⟨p,q,s,hq,h1,h2,v,t⟩:=h.lo
  exact⟨p,q,s,hq,h1,h2,.inr v,t⟩
 ·obtain⟨p,q,s,hq,h1,h2,v,t⟩:=h.hi
  exact⟨p,q,s,hq,h1,h2,.inr v,t⟩
theorem za2.both {x0 x1 L U L' U' l u:Int}{V V' Sp Sp':Int→Int→Prop}(h:za2 x0 x1 V Sp L U)(h':za2 x0 x1 V' Sp' L' U')(el:l=L∧L≤L'∨l=L'∧L'≤L)(eu:u=U∧U'≤U∨u=U'∧U≤U'):za2 x0 x1 (λp q=>V p q∨V' p q) (λp q=>Sp p q∨Sp' p q) l u:=by
 refine⟨λp q hq h1 h2 v=>?_,?_,?_⟩
 ·have hq':=Vag hq
  rcases v with v | v
  ·obtain⟨a,b⟩:=h.all p q hq h1 h2 v
   exact⟨Va4 (mlr (by omega) hq') a,Va4 b (mlr (by omega) hq')⟩
  ·obtain⟨a,b⟩:=h'.all p q hq h1 h2 v
   exact⟨Va4 (mlr (by omega) hq') a,Va4 b (mlr (by omega) hq')⟩
 ·rcases el with ⟨rfl,_⟩ | ⟨rfl,_⟩
  ·obtain⟨p,q,s,hq,h1,h2,v,t⟩:=h.lo
   exact⟨p,q,.inl s,hq,h1,h2,.inl v,t⟩
  ·obtain⟨p,q,s,hq,h1,h2,v,t⟩:=h'.lo
   exact⟨p,q,.inr s,hq,h1,h2,.inr v,t⟩
 ·rcases eu with ⟨rfl,_⟩ | ⟨rfl,_⟩
  ·obtain⟨p,q,s,hq,h1,h2,v,t⟩:=h.hi
   exact⟨p,q,.inl s,hq,h1,h2,.inl v,t⟩
  ·obtain⟨p,q,s,hq,h1,h2,v,t⟩:=h'.hi
   exact⟨p,q,.inr s,hq,h1,h2,.inr v,t⟩
theorem za2.le {x0 x1 L U:Int}{V Sp:Int→Int→Prop}(h:za2 x0 x1 V Sp L U):L≤U:=by
 obtain⟨p,q,s,hq,h1,h2,v,t⟩:=h.lo
 obtain⟨a,b⟩:=h.all p q hq h1 h2 v
 exact can (show L*q≤U*q by omega) hq
theorem za2.within {x0 x1 L U:Int}{V Sp:Int→Int→Prop}(h:za2 x0 x1 V Sp L U):x0≤L∧U≤x1:=by
 constructor
 ·obtain⟨p,q,s,hq,h1,h2,v,t⟩:=h.lo
  have:=Int.lt_of_mul_lt_mul_right (show x0*q<(L+1)*q by omega) (Vag hq)
  omega
 ·obtain⟨p,q,s,hq,h1,h2,v,t⟩:=h.hi
  have:=Int.lt_of_mul_lt_mul_right (show (U-1)*q<x1*q by omega) (Vag hq)
  omega
abbrev tur (t e:Int):Int×Int:=(if e<0 then -t else t,if e<0 then -e else e)
def zet (lo hi e:Int):List (Int×Int):=if e=0 then [] else [tur lo e,tur hi e]
def zoT (lo hi x0 x1 y0 y1:Int):List (Int×Int):=[(x0,1),(x1,1)]++zet lo hi y0++zet lo hi y1
abbrev SpY (lo hi x0 x1 y0 y1 p q:Int):Prop:=(p,q)∈zoT lo hi x0 x1 y0 y1
theorem zk5 {lo hi e p q:Int}:(p,q)∈zet lo hi e↔e≠0∧((p,q)=tur lo e∨(p,q)=tur hi e):=by
 unfold zet
 split
 ·simp[*]
 ·rename_i h
  simp[h]
theorem zjy {lo hi x0 x1 y0 y1 p q:Int}:(p,q)∈zoT lo hi x0 x1 y0 y1↔(p=x0∧q=1)∨(p=x1∧q=1)∨(p,q)∈zet lo hi y0∨(p,q)∈zet lo hi y1:=by
 unfold zoT
 simp[VaI,or_assoc]
abbrev mx0 (a:Int):Int:=if 0 > a then 0 else a
theorem zef {lo hi y0 y1 p q:Int}(hz:lo≤hi)(hy:y0≤y1)(nb:¬ ((y0≤0∧0≤y1)∧lo≤0∧0≤hi))(hq:0<q):
  Ans lo hi y0 y1 p q↔(y1 > 0∧Ans lo hi (mx0 y0) y1 p q)∨(y0<0∧Ans (-hi) (-lo) (mx0 (-y1)) (-y0) p q):=by
 unfold Ans mx0
 have sl:lo > 0→0<lo*q:=λh=>Int.mul_pos h hq
 have sl':¬ lo > 0→lo*q≤0:=λh=>by
  have:=mlr (show lo≤0 by omega) (Vag hq)
  omega
 have sh:hi<0→hi*q<0:=λh=>by
  have:=Int.mul_lt_mul_of_pos_right h hq
  omega
 have sh':¬ hi<0→0≤hi*q:=λh=>Var (by omega) (Vag hq)
 have zz:=mlr hz (Vag hq)
 have f:∀y:Int,(0≤p→0≤y→0≤p*y)∧(0≤p→y≤0→p*y≤0)∧(p≤0→0≤y→p*y≤0)∧(p≤0→y≤0→0≤p*y):=λy=>
  ⟨Var,Int.mul_nonpos_of_nonneg_of_nonpos,Int.mul_nonpos_of_nonpos_of_nonneg,Int.mul_nonneg_of_nonpos_of_nonpos⟩
 obtain⟨f1,f2,f3,f4⟩:=f y0
 obtain⟨g1,g2,g3,g4⟩:=f y1
 simp only[VaW,Vah]
 by_cases c1:0 > y0
 ·by_cases c2:0 > -y1
  ·rw[if_pos c1,if_pos c2,VaV]
   omega
  ·rw[if_pos c1,if_neg c2,VaV,VaW]
   omega
 ·by_cases c2:0 > -y1
  ·rw[if_neg c1,if_pos c2,VaV]
   omega
  ·rw[if_neg c1,if_neg c2,VaW]
   have e0:y0=0:=by omega
   have e1:y1=0:=by omega
   subst e0 e1
   simp only[VaV]
   omega
theorem zpb {lo hi x0 x1 y0 y1 p q:Int}(hy:y0≤y1)(hq:0<q)(h:zca lo hi x0 x1 (mx0 y0) y1 p q):SpY lo hi x0 x1 y0 y1 p q:=by
 unfold SpY
 rw[zjy,zk5,zk5]
 simp only[tur,Prod.mk.injEq]
 rcases h with h | h | ⟨h1,h2⟩
 ·exact .inl h
 ·exact .inr (.inl h)
 ·rcases h2 with e | e
  ·have c:¬ 0 > y0:=λc=>by rw[mx0,if_pos c] at e; omega
   rw[mx0,if_neg c] at e
   subst e
   refine .inr (.inr (.inl ⟨by omega,?_⟩))
   rw[if_neg (by omega),if_neg (by omega),if_neg (by omega)]
   omega
  ·subst e
   refine .inr (.inr (.inr ⟨by omega,?_⟩))
   rw[if_neg (by omega),if_neg (by omega),if_neg (by omega)]
   omega
theorem zoE {lo hi x0 x1 y0 y1 p q:Int}(hy:y0≤y1)(hq:0<q)(h:zca (-hi) (-lo) x0 x1 (mx0 (-y1)) (-y0) p q):SpY lo hi x0 x1 y0 y1 p q:=by
 unfold SpY
 rw[zjy,zk5,zk5]
 simp only[tur,Prod.mk.injEq]
 rcases h with h | h | ⟨h1,h2⟩
 ·exact .inl h
 ·exact .inr (.inl h)
 ·rcases h2 with e | e
  ·have c:¬ 0 > -y1:=λc=>by rw[mx0,if_pos c] at e; omega
   rw[mx0,if_neg c] at e
   subst e
   refine .inr (.inr (.inr ⟨by omega,?_⟩))
   rw[if_pos (by omega),if_pos (by omega),if_pos (by omega)]
   omega
  ·subst e
   refine .inr (.inr (.inl ⟨by omega,?_⟩))
   rw[if_pos (by omega),if_pos (by omega),if_pos (by omega)]
   omega
abbrev zea (lo hi x0 x1 y0 y1 L U:Int):Prop:=za2 x0 x1 (Ans lo hi y0 y1) (SpY lo hi x0 x1 y0 y1) L U
section
variable {lo hi x0 x1 y0 y1 L U L' U' l u:Int}
theorem zrD (hx:x0≤x1)(hy:y0≤0∧0≤y1)(hz:lo≤0∧0≤hi):zea lo hi x0 x1 y0 y1 x0 x1:=by
 have v:∀p:Int,Ans lo hi y0 y1 p 1:=λp=>by
  unfold Ans
  by_cases c:0≤p
  ·have:=Int.mul_nonpos_of_nonneg_of_nonpos c hy.1
   have:=Var c hy.2
   omega
  ·have:=Int.mul_nonneg_of_nonpos_of_nonpos (show p≤0 by omega) hy.1
   have:=Int.mul_nonpos_of_nonpos_of_nonneg (show p≤0 by omega) hy.2
   omega
 refine⟨λp q hq h1 h2 _=>⟨h1,h2⟩,⟨x0,1,zjy.mpr (.inl ⟨rfl,rfl⟩),by omega,by omega,by omega,v _,by omega⟩,⟨x1,1,zjy.mpr (.inr (.inl ⟨rfl,rfl⟩)),by omega,by omega,by omega,v _,by omega⟩⟩
variable (hz:lo≤hi)(hy:y0≤y1)(nb:¬ ((y0≤0∧0≤y1)∧lo≤0∧0≤hi))
abbrev zdS (lo hi y0 y1:Int):Int→Int→Prop:=Ans lo hi (mx0 y0) y1
abbrev zd1 (lo hi y0 y1:Int):Int→Int→Prop:=Ans (-hi) (-lo) (mx0 (-y1)) (-y0)
include hz hy nb
theorem ztM (c1:¬ y1 > 0)(c2:¬ y0<0):NoV x0 x1 (Ans lo hi y0 y1):=λp q hq _ _ v=>by
 rcases (zef hz hy nb hq).mp v with ⟨h,_⟩ | ⟨h,_⟩
 ·exact c1 h
 ·exact c2 h
theorem zsj (h:NoV x0 x1 (zdS lo hi y0 y1))(c2:¬ y0<0):NoV x0 x1 (Ans lo hi y0 y1):=λp q hq h1 h2 v=>by
 rcases (zef hz hy nb hq).mp v with ⟨_,z⟩ | ⟨z,_⟩
 ·exact h p q hq h1 h2 z
 ·exact c2 z
theorem zvu (c1:¬ y1 > 0)(h:NoV x0 x1 (zd1 lo hi y0 y1)):NoV x0 x1 (Ans lo hi y0 y1):=λp q hq h1 h2 v=>by
 rcases (zef hz hy nb hq).mp v with ⟨z,_⟩ | ⟨_,z⟩
 ·exact c1 z
 ·exact h p q hq h1 h2 z
theorem zxU (h1:NoV x0 x1 (zdS lo hi y0 y1))(h2:NoV x0 x1 (zd1 lo hi y0 y1)):NoV x0 x1 (Ans lo hi y0 y1):=λp q hq a b v=>by
 rcases (zef hz hy nb hq).mp v with ⟨_,z⟩ | ⟨_,z⟩
 ·exact h1 p q hq a b z
 ·exact h2 p q hq a b z
theorem zuB (c1:y1 > 0)(c2:¬ y0<0)(h:za2 x0 x1 (zdS lo hi y0 y1) (zca lo hi x0 x1 (mx0 y0) y1) L U):zea lo hi x0 x1 y0 y1 L U:=
 h.mono (λp q hq=>by rw[zef hz hy nb hq]; exact⟨λz=>.inl ⟨c1,z⟩,λz=>z.elim (λz=>z.2) λz=>absurd z.1 c2⟩) λp q hq s=>zpb hy hq s
theorem zsX (c1:¬ y1 > 0)(c2:y0<0)(h:za2 x0 x1 (zd1 lo hi y0 y1) (zca (-hi) (-lo) x0 x1 (mx0 (-y1)) (-y0)) L U):zea lo hi x0 x1 y0 y1 L U:=
 h.mono (λp q hq=>by rw[zef hz hy nb hq]; exact⟨λz=>.inr ⟨c2,z⟩,λz=>z.elim (λz=>absurd z.1 c1) λz=>z.2⟩) λp q hq s=>zoE hy hq s
theorem zpj (c1:y1 > 0)(c2:y0<0):∀p q,0<q→(zdS lo hi y0 y1 p q∨zd1 lo hi y0 y1 p q↔Ans lo hi y0 y1 p q):=λp q hq=>by
 rw[zef hz hy nb hq]
 exact⟨λz=>z.elim (λz=>.inl ⟨c1,z⟩) λz=>.inr ⟨c2,z⟩,λz=>z.elim (λz=>.inl z.2) λz=>.inr z.2⟩
theorem zwb (c1:y1 > 0)(c2:y0<0)(h:za2 x0 x1 (zdS lo hi y0 y1) (zca lo hi x0 x1 (mx0 y0) y1) L U)(n:NoV x0 x1 (zd1 lo hi y0 y1)):zea lo hi x0 x1 y0 y1 L U:=
 (h.left n).mono (zpj hz hy nb c1 c2) λp q hq s=>zpb hy hq s
theorem zsq (c1:y1 > 0)(c2:y0<0)(n:NoV x0 x1 (zdS lo hi y0 y1))(h:za2 x0 x1 (zd1 lo hi y0 y1) (zca (-hi) (-lo) x0 x1 (mx0 (-y1)) (-y0)) L U):zea lo hi x0 x1 y0 y1 L U:=
 (h.right n).mono (zpj hz hy nb c1 c2) λp q hq s=>zoE hy hq s
theorem zsU (c1:y1 > 0)(c2:y0<0)(h:za2 x0 x1 (zdS lo hi y0 y1) (zca lo hi x0 x1 (mx0 y0) y1) L U)(h':za2 x0 x1 (zd1 lo hi y0 y1) (zca (-hi) (-lo) x0 x1 (mx0 (-y1)) (-y0)) L' U'):zea lo hi x0 x1 y0 y1 (if L'<L then L' else L) (if U' > U then U' else U):=
 (h.both h' (by split <;> omega) (by split <;> omega)).mono (zpj hz hy nb c1 c2) λp q hq s=>s.elim (zpb hy hq) (zoE hy hq)
end
theorem zw6 {lo hi x0 x1 c d l0 l1 h0 h1:Int}(h:zb5 lo hi x0 x1 c d)(hl:za3 lo c d=0∧l0=x0∧l1=x0∨za3 lo c d≠0∧l0=lo/za3 lo c d∧l1=-(-lo/za3 lo c d))
  (hh:zaX hi c d=0∧h0=x1∧h1=x1∨zaX hi c d≠0∧h0=hi/zaX hi c d∧h1=-(-hi/zaX hi c d)):
  (l1 > x1∨h0<x0→NoV x0 x1 (Ans lo hi c d))∧(¬ l1 > x1→¬ h0<x0→za2 x0 x1 (Ans lo hi c d) (zca lo hi x0 x1 c d) (if x0 > l0 then x0 else l0) (if x1<h1 then x1 else h1)):=by
 have hx:=h.hx
 refine⟨λz=>?_,λz1 z2=>h.some (λn=>?_) (λn=>?_) ?_ ?_⟩
 ·rcases z with z | z
  ·rcases hl with ⟨_,_,rfl⟩ | ⟨n,_,rfl⟩
   ·omega
   ·exact h.none1 n z
  ·rcases hh with ⟨_,rfl,_⟩ | ⟨n,rfl,_⟩
   ·omega
   ·exact h.none2 n z
 ·rcases hl with ⟨z,_⟩ | ⟨_,_,rfl⟩
  ·exact absurd z n
  ·omega
 ·rcases hh with ⟨z,_⟩ | ⟨_,rfl,_⟩
  ·exact absurd z n
  ·omega
 ·rcases hl with ⟨z,rfl,_⟩ | ⟨n,rfl,_⟩
  ·refine .inl ⟨by split <;> omega,.inl z⟩
  ·split <;> omega
 ·rcases hh with ⟨z,_,rfl⟩ | ⟨n,_,rfl⟩
  ·refine .inl ⟨by split <;> omega,.inl z⟩
  ·split <;> omega
theorem if2 {a b:Prop} [Decidable a] [Decidable b] {A B:Prop}(h1:a→b→A)(h2:¬ (a∧b)→B):if (decide a&&decide b)=true then A else B:=by
 by_cases z:a∧b
 ·rw[decide_eq_true z.1,decide_eq_true z.2]; exact zcc (h1 z.1 z.2)
 ·have e:(decide a&&decide b)=false:=by
   simp only[Bool.and_eq_false_iff,decide_eq_false_iff_not]
   by_cases y:a
   ·exact .inr λy2=>z ⟨y,y2⟩
   ·exact .inl y
  rw[e]; exact zbM (h2 z)
theorem and2 {a b:Prop} [Decidable a] [Decidable b] {Q:DK}{S:Sto}(h:Q (.bl (decide a&&decide b)) S):if decide a=true then Q (.bl (decide b)) S else Q (.bl false) S:=
 ifD (λe=>by rw[decide_eq_true e,Bool.true_and] at h; exact h) (λe=>by rw[decide_eq_false e,Bool.false_and] at h; exact h)
theorem zci (a:Int):0≤mx0 a:=by unfold mx0; split <;> omega
theorem zm0 {a b:Int}(h:a≤b)(h0:0≤b):mx0 a≤b:=by unfold mx0; split <;> omega
theorem zdj {a:Int}(h:Sz 1400 a):Sz 1400 (mx0 a):=by
 unfold mx0
 split
 ·exact Sz.of 0 (by decide)
 ·exact h
theorem zdk {a b:Int}{n:Nat}(ha:0≤a)(h:a≤b):a^n≤b^n:=by
 induction n with
 | zero=>simp
 | succ n ih=>
  rw[Vaf,Vaf]
  exact Int.mul_le_mul ih h ha (VaH (by omega))
theorem ze5 {a b:Int}{n:Nat}(ha:0≤a)(h:a<b)(hn:1≤n):a^n<b^n:=by
 obtain⟨k,rfl⟩:∃k,n=k+1:=⟨n-1,by omega⟩
 rw[Vaf,Vaf]
 have h1:a^k*a≤b^k*a:=VaP (zdk ha (by omega)) ha
 have h2:b^k*a<b^k*b:=Int.mul_lt_mul_of_pos_left h (VaB (by omega))
 omega
theorem plt {a b:Int}{n:Nat}(hb:0≤b)(h:a^n<b^n):a<b:=by
 by_cases c:a<b
 ·exact c
 ·have:=zdk (n:=n) hb (show b≤a by omega)
  omega
theorem zp5 {r g:Int}(hr:0≤r)(hg:0≤g):∀k:Nat,((k:Int)+1)*g^k*r-(k:Int)*(g^k*g)≤r^k*r
 | 0=>by simp
 | k+1=>by
  have ih:=zp5 hr hg k
  have m:=VaP ih hr
  have sq:0≤((k:Int)+1)*g^k*((r-g)*(r-g)):=by
   refine Var (Var (by omega) (VaH hg)) ?_
   by_cases c:0≤r-g
   ·exact Var c c
   ·exact Int.mul_nonneg_of_nonpos_of_nonpos (by omega) (by omega)
  rw[Vaf,Vaf]
  have e:((k:Int)+1+1)*(g^k*g)*r-((k:Int)+1)*(g^k*g*g)=(((k:Int)+1)*g^k*r-(k:Int)*(g^k*g))*r-((k:Int)+1)*g^k*((r-g)*(r-g)):=by
   grind
  have e2:(((k+1:Nat):Int)+1)*(g^k*g)*r-((k+1:Nat):Int)*(g^k*g*g)=((k:Int)+1+1)*(g^k*g)*r-((k:Int)+1)*(g^k*g*g):=by
   rw[Int.natCast_add]; rfl
  rw[e2,e]
  omega
theorem zt9 {r g N:Int}{n:Nat}(hn:1≤n)(hr:0≤r)(hg:0<g)(h:r^n≤N):r≤(((n:Int)-1)*g+N/g^(n-1))/n:=by
 obtain⟨k,rfl⟩:∃k,n=k+1:=⟨n-1,by omega⟩
 have t:=zp5 hr (Vag hg) k
 rw[Vaf] at h
 have gp:0<g^k:=VaB hg
 have e0:(((k+1:Nat):Int)-1)=k:=by omega
 rw[e0,Nat.add_sub_cancel]
 have q:((k:Int)+1)*r-k*g≤N/g^k:=by
  refine(Int.le_ediv_iff_mul_le gp).mpr ?_
  have e:(((k:Int)+1)*r-k*g)*g^k=((k:Int)+1)*g^k*r-(k:Int)*(g^k*g):=by grind
  omega
 refine(Int.le_ediv_iff_mul_le (by omega)).mpr ?_
 have e:r*((k+1:Nat):Int)=((k:Int)+1)*r:=by rw[Va0]; rfl
 omega
theorem zrp {g N:Int}{n:Nat}(hn:1≤n)(hg:0<g)(h:N<g^n):(((n:Int)-1)*g+N/g^(n-1))/n<g:=by
 obtain⟨k,rfl⟩:∃k,n=k+1:=⟨n-1,by omega⟩
 have gp:0<g^k:=VaB hg
 rw[Vaf] at h
 have e0:(((k+1:Nat):Int)-1)=k:=by omega
 rw[e0,Nat.add_sub_cancel]
 have q:N/g^k<g:=(Int.ediv_lt_iff_lt_mul gp).mpr (by rw[Va0 g]; exact h)
 refine(Int.ediv_lt_iff_lt_mul (by omega)).mpr ?_
 have e:g*((k+1:Nat):Int)=(k:Int)*g+g:=by
  rw[Va0,Int.natCast_add,Int.add_mul]
  simp
 omega
theorem zdq {n:Nat}(h:n%2=1)(a:Int):(-a)^n=-(a^n):=by
 obtain⟨k,rfl⟩:∃k,n=2*k+1:=⟨n/2,by omega⟩
 rw[Vaf,Vaf,Int.pow_mul,Int.pow_mul]
 have e:(-a)^2=a^2:=by rw[Vaf,Vaf,Vaf,Vaf]; grind
 rw[e]
 grind
theorem zoV {n:Nat}(h:n%2=0)(a:Int):(-a)^n=a^n:=by
 obtain⟨k,rfl⟩:∃k,n=2*k:=⟨n/2,by omega⟩
 rw[Int.pow_mul,Int.pow_mul]
 have e:(-a)^2=a^2:=by rw[Vaf,Vaf,Vaf,Vaf]; grind
 rw[e]
theorem zkK {n:Nat}(h:n%2=1){a b:Int}(hab:a≤b):a^n≤b^n:=by
 by_cases c:0≤a
 ·exact zdk c hab
 ·by_cases d:0≤b
  ·have h1:a^n=-((-a)^n):=by rw[zdq h,Va1]
   have h2:(0:Int)≤(-a)^n:=VaH (by omega)
   have h3:(0:Int)≤b^n:=VaH d
   omega
  ·have h1:=zdk (n:=n) (show 0≤-b by omega) (show -b≤-a by omega)
   rw[zdq h,zdq h] at h1
   omega
theorem zoN {n:Nat}(h:n%2=1){a b:Int}(hab:a<b):a^n<b^n:=by
 by_cases c:0≤a
 ·exact ze5 c hab (by omega)
 ·by_cases d:0≤b
  ·have h1:a^n=-((-a)^n):=by rw[zdq h,Va1]
   have h2:(0:Int)<(-a)^n:=VaB (by omega)
   have h3:(0:Int)≤b^n:=VaH d
   omega
  ·have h1:=ze5 (n:=n) (show 0≤-b by omega) (show -b < -a by omega) (by omega)
   rw[zdq h,zdq h] at h1
   omega
def Mt (n:Nat)(lo hi l h:Int):Prop:=((n%2=0∧l<0∧0<h)∧0≤hi∨¬ (n%2=0∧l<0∧0<h)∧(l^n≤hi∨h^n≤hi))∧(lo≤l^n∨lo≤h^n)
def zbI (n:Nat)(N a b:Int):Prop:=b=a∧a^n=N∨b=a+1∧a^n<N∧N<b^n
structure Rts (n:Nat)(lo hi al bl ah bh:Int):Prop where
 hz:lo≤hi
 hn:1≤n
 nn:n%2=0→0≤al∧0≤ah
 up:∀t:Int,n%2=1∨0≤t→(t^n≤hi↔t≤ah)
 dn:∀t:Int,n%2=1∨0≤t→(lo≤t^n↔bl≤t)
 el:bl=al∧(bl^n=lo∨bl=0∧n%2=0)∨bl=al+1∧bl^n≠lo
 eh:bh=ah∧ah^n=hi∨bh=ah+1∧ah^n≠hi
theorem zbI.le {n:Nat}{N a b:Int}(hn:1≤n)(h:zbI n N a b)(ok:n%2=1∨0≤a){t:Int}(ht:n%2=1∨0≤t):t^n≤N↔t≤a:=by
 have mono:t≤a→t^n≤a^n:=λz=>by
  rcases ht with o | o
  ·exact zkK o z
  ·exact zdk o z
 have strict:a+1≤t→(a+1)^n≤t^n:=λz=>by
  rcases ok with o | o
  ·exact zkK o z
  ·exact zdk (by omega) z
 have s1:a^n<(a+1)^n:=by
  rcases ok with o | o
  ·exact zoN o (by omega)
  ·exact ze5 o (by omega) hn
 constructor
 ·intro q
  by_cases c:t≤a
  ·exact c
  ·have:=strict (by omega)
   rcases h with ⟨rfl,e⟩ | ⟨rfl,e1,e2⟩ <;> omega
 ·intro q
  have:=mono q
  rcases h with ⟨rfl,e⟩ | ⟨rfl,e1,e2⟩ <;> omega
theorem zbI.ge {n:Nat}{N a b:Int}(hn:1≤n)(h:zbI n N a b)(ok:n%2=1∨0≤a){t:Int}(ht:n%2=1∨0≤t):N≤t^n↔b≤t:=by
 have okb:n%2=1∨0≤b:=by
  rcases ok with o | o
  ·exact .inl o
  ·right
   rcases h with ⟨rfl,_⟩ | ⟨rfl,_⟩ <;> omega
 have mono:b≤t→b^n≤t^n:=λz=>by
  rcases okb with o | o
  ·exact zkK o z
  ·exact zdk o z
 have strict:t<b→t^n<b^n:=λz=>by
  rcases ht with o | o
  ·exact zoN o z
  ·exact ze5 o z hn
 have down:t≤a→t^n≤a^n:=λz=>by
  rcases ht with o | o
  ·exact zkK o z
  ·exact zdk o z
 constructor
 ·intro q
  by_cases c:b≤t
  ·exact c
  ·have:=strict (by omega)
   rcases h with ⟨rfl,e⟩ | ⟨rfl,e1,e2⟩
   ·omega
   ·have:=down (by omega)
    omega
 ·intro q
  have:=mono q
  rcases h with ⟨rfl,e⟩ | ⟨rfl,e1,e2⟩ <;> omega
theorem zeI {n:Nat}(hn:1≤n):(0:Int)^n=0:=by
 obtain⟨k,rfl⟩:∃k,n=k+1:=⟨n-1,by omega⟩
 rw[Vaf,VaV]
def Mp (n:Nat)(bl ah l h:Int):Prop:=l≤ah∧bl≤h∨n%2=0∧-ah≤h∧l≤-bl
section
variable {n:Nat}{lo hi al bl ah bh:Int}
theorem Rts.b0 (R:Rts n lo hi al bl ah bh)(he:n%2=0):0≤bl:=by
 have:=(R.nn he).1
 rcases R.el with ⟨e,_⟩ | ⟨e,_⟩ <;> omega
theorem Rts.hi0 (R:Rts n lo hi al bl ah bh)(he:n%2=0):0≤hi:=by
 have h:=(R.up 0 (.inr (by omega))).mpr (R.nn he).2
 rw[zeI R.hn] at h
 exact h
theorem Rts.up' (R:Rts n lo hi al bl ah bh)(t:Int)(he:n%2=0)(ht:t≤0):t^n≤hi↔-t≤ah:=by
 rw[← R.up (-t) (.inr (by omega)),zoV he]
theorem Rts.dn' (R:Rts n lo hi al bl ah bh)(t:Int)(he:n%2=0)(ht:t≤0):lo≤t^n↔bl≤-t:=by
 rw[← R.dn (-t) (.inr (by omega)),zoV he]
theorem Rts.meets (R:Rts n lo hi al bl ah bh){l h:Int}(hlh:l≤h):Mt n lo hi l h↔Mp n bl ah l h:=by
 unfold Mt Mp
 rcases Nat.mod_two_eq_zero_or_one n with he | ho
 ·have b0:=R.b0 he
  have a0:=(R.nn he).2
  have h0:=R.hi0 he
  rcases Int.le_total 0 l with c | c
  ·have u1:=R.up l (.inr c)
   have u2:=R.up h (.inr (by omega))
   have d1:=R.dn l (.inr c)
   have d2:=R.dn h (.inr (by omega))
   rw[u1,u2,d1,d2]
   omega
  ·have u1:=R.up' l he c
   have d1:=R.dn' l he c
   rcases Int.le_total 0 h with d | d
   ·have u2:=R.up h (.inr d)
    have d2:=R.dn h (.inr d)
    rw[u1,u2,d1,d2]
    omega
   ·have u2:=R.up' h he d
    have d2:=R.dn' h he d
    rw[u1,u2,d1,d2]
    omega
 ·have u1:=R.up l (.inl ho)
  have u2:=R.up h (.inl ho)
  have d1:=R.dn l (.inl ho)
  have d2:=R.dn h (.inl ho)
  rw[u1,u2,d1,d2]
  omega
structure Least (n:Nat)(lo hi x0 x1 m:Int):Prop where
 a:x0≤m
 b:m≤x1
 c:Mt n lo hi x0 m
 d:∀k,x0≤k→k<m→¬ Mt n lo hi x0 k
def zjW (n:Nat)(lo hi x0 x1 v:Int):Prop:=∃m,Least n lo hi x0 x1 m∧(m=x0∧v=x0∨m≠x0∧(((m-1)^n<lo∧m^n=lo∨(m-1)^n > hi∧m^n=hi)∧v=m∨¬ ((m-1)^n<lo∧m^n=lo∨(m-1)^n > hi∧m^n=hi)∧v=m-1))
def zxQ (n:Nat)(al bl ah bh x0 x1 v:Int):Prop:=
 (x0≤ah∧bl≤x1)∧¬ (n%2=0∧-ah≤x1∧x0≤-bl)∧v=(if x0 > al then x0 else al)∨
 (n%2=0∧-ah≤x1∧x0≤-bl)∧v=(if x0 > -bh then x0 else -bh)
theorem Rts.first (R:Rts n lo hi al bl ah bh){x0 x1 v w:Int}(F:zjW n lo hi x0 x1 v)(L:zxQ n al bl ah bh x0 x1 w):v=w:=by
 obtain⟨m,⟨a,b,c,d⟩,e⟩:=F
 rw[R.meets a] at c
 have d':∀k,x0≤k→k<m→¬ Mp n bl ah x0 k:=λk h1 h2=>by
  rw[← R.meets h1]
  exact d k h1 h2
 unfold Mp at c d'
 have hz:=R.hz
 have el:=R.el
 have eh:=R.eh
 rcases L with ⟨⟨p1,p2⟩,p3,rfl⟩ | ⟨⟨q0,q1,q2⟩,rfl⟩
 ·have c':bl≤m:=by omega
  by_cases z:m=x0
  ·subst z
   split <;> omega
  ·have z2:m≤bl:=by
    have:=d' (m-1) (by omega) (by omega)
    omega
   have em:m=bl:=by omega
   subst em
   rcases Nat.mod_two_eq_zero_or_one n with he | ho
   ·have b0:=R.b0 he
    have a0:=(R.nn he).2
    have m1:¬ (lo≤(m-1)^n):=λz=>by
     have:=(R.dn (m-1) (.inr (by omega))).mp z
     omega
    split <;> omega
   ·have m1:¬ (lo≤(m-1)^n):=λz=>by
     have:=(R.dn (m-1) (.inl ho)).mp z
     omega
    split <;> omega
 ·have b0:=R.b0 q0
  have a0:=(R.nn q0).2
  have c':-ah≤m:=by omega
  by_cases z:m=x0
  ·subst z
   split <;> omega
  ·have z2:m≤-ah:=by
    have:=d' (m-1) (by omega) (by omega)
    omega
   have em:m=-ah:=by omega
   subst em
   have m1:¬ ((-ah-1)^n≤hi):=λz=>by
    have:=(R.up' (-ah-1) q0 (by omega)).mp z
    omega
   have m2:(-ah)^n=ah^n:=zoV q0 ah
   rw[m2] at e
   split <;> omega
theorem Rts.has (R:Rts n lo hi al bl ah bh){t:Int}(h1:lo≤t^n)(h2:t^n≤hi):bl≤t∧t≤ah∨n%2=0∧-ah≤t∧t≤-bl:=by
 rcases Nat.mod_two_eq_zero_or_one n with he | ho
 ·rcases Int.le_total 0 t with c | c
  ·exact .inl ⟨(R.dn t (.inr c)).mp h1,(R.up t (.inr c)).mp h2⟩
  ·have a:=(R.dn' t he c).mp h1
   have b:=(R.up' t he c).mp h2
   exact .inr ⟨he,by omega,by omega⟩
 ·exact .inl ⟨(R.dn t (.inl ho)).mp h1,(R.up t (.inl ho)).mp h2⟩
end
structure zcW (n:Nat)(lo hi x0 x1 L U:Int):Prop where
 m:Mt n lo hi x0 x1
 low:∀v,zjW n lo hi x0 x1 v→v=L
 he:n%2=0→∀v,zjW n lo hi (-x1) (-x0) v→v=-U
 ho:n%2=1→∀v,zjW n (-hi) (-lo) (-x1) (-x0) v→v=-U
 lu:L≤U
 has:∀t,x0≤t→t≤x1→lo≤t^n→t^n≤hi→L≤t∧t≤U
section
variable {n:Nat}{lo hi al bl ah bh x0 x1:Int}
end
theorem znz {n:Nat}(hn:1≤n){N:Int}(h0:0≤N):∃r:Int,0≤r∧r^n≤N∧N<(r+1)^n:=by
 have key:∀k:Nat,N<((k:Int)+1)^n→∃r:Int,0≤r∧r^n≤N∧N<(r+1)^n:=by
  intro k
  induction k with
  | zero=>exact λh=>⟨0,by omega,by rw[zeI hn]; exact h0,by simpa using h⟩
  | succ k ih=>
   intro h
   by_cases c:N<((k:Int)+1)^n
   ·exact ih c
   ·exact⟨(k:Int)+1,by omega,by omega,by simpa using h⟩
 refine key N.toNat ?_
 have h1:N<N+1:=by omega
 have h2:(N+1)^1≤(N+1)^n:=by
  obtain⟨k,rfl⟩:∃k,n=k+1:=⟨n-1,by omega⟩
  rw[Vaf (N+1) k,Vaf,VaO]
  have:0<(N+1)^k:=VaB (by omega)
  exact VaP (show (1:Int)≤(N+1)^k by omega) (by omega)
 have e:((N.toNat:Nat):Int)=N:=by omega
 rw[e]
 have e1:(N+1)^1=N+1:=by rw[Vaf,VaO,Int.one_mul]
 omega
theorem zpE {n:Nat}{N r:Int}(h1:r^n≤N)(h2:N<(r+1)^n):(r^n=N→zbI n N r r)∧(r^n≠N→zbI n N r (r+1)):=
 ⟨λe=>.inl ⟨rfl,e⟩,λe=>.inr ⟨rfl,by omega,h2⟩⟩
theorem zym {n:Nat}{N a b:Int}(ho:n%2=1)(h:zbI n (-N) a b):zbI n N (-b) (-a):=by
 unfold zbI at h ⊢
 rw[zdq ho,zdq ho]
 rcases h with ⟨rfl,e⟩ | ⟨rfl,e1,e2⟩
 ·exact .inl ⟨rfl,by omega⟩
 ·exact .inr ⟨by omega,by omega,by omega⟩
theorem Sz.mid {n:Nat}{a b x:Int}(ha:Sz n a)(hb:Sz n b)(h1:a≤x)(h2:x≤b):Sz n x:=by
 unfold Sz at *
 generalize 2^n=B at *
 omega
theorem zwZ (N:Int)(h:0≤N):N<2^(Builtin.Int.intBits N):=by
 unfold Builtin.Int.intBits
 split
 ·rename_i z
  have:N=0:=by simpa using z
  subst this
  decide
 ·have l:N.natAbs<2^(N.natAbs.log2+1):=Nat.lt_log2_self
  have e:((2^(N.natAbs.log2+1):Nat):Int)=2^(N.natAbs.log2+1):=by simp
  omega
theorem zvD {N n:Int}(h0:0≤N)(hn:1≤n):N<(1*2^((Builtin.Int.intBits N:Int)/n+1).toNat)^n.toNat:=by
 have b:=zwZ N h0
 rw[Int.one_mul,← Int.pow_mul]
 refine Int.lt_of_lt_of_le b ?_
 have e:(2:Int)^(((Builtin.Int.intBits N:Int)/n+1).toNat*n.toNat)=((2^(((Builtin.Int.intBits N:Int)/n+1).toNat*n.toNat):Nat):Int):=by simp
 have e2:(2:Int)^(Builtin.Int.intBits N)=((2^(Builtin.Int.intBits N):Nat):Int):=by simp
 rw[e,e2]
 refine Int.ofNat_le.mpr (Nat.pow_le_pow_right (by decide) ?_)
 have d1:=Int.emod_add_mul_ediv (Builtin.Int.intBits N:Int) n
 have d2:=Int.emod_lt_of_pos (Builtin.Int.intBits N:Int) (show 0<n by omega)
 have d3:=Int.ediv_nonneg (show (0:Int)≤(Builtin.Int.intBits N:Int) by omega) (show 0≤n by omega)
 have m:(((((Builtin.Int.intBits N:Int)/n+1).toNat*n.toNat:Nat):Int))=n*((Builtin.Int.intBits N:Int)/n)+n:=by
  rw[Int.natCast_mul,Int.toNat_of_nonneg (by omega),Int.toNat_of_nonneg (by omega)]
  grind
 omega
theorem zxi {N n:Int}(hn:2≤n)(s:Sz 1300 N):Sz 652 (1*2^((Builtin.Int.intBits N:Int)/n+1).toNat):=by
 have b:=s.bits
 rw[Int.one_mul]
 unfold Sz
 rw[Int.natAbs_pow]
 have e:(2:Int).natAbs=2:=rfl
 rw[e]
 refine Nat.pow_lt_pow_right (by decide) ?_
 have d:(Builtin.Int.intBits N:Int)/n≤650:=by
  have h1:(Builtin.Int.intBits N:Int)/n≤(Builtin.Int.intBits N:Int)/2:=by
   refine(Int.le_ediv_iff_mul_le (by omega)).mpr ?_
   have d1:=Int.emod_add_mul_ediv (Builtin.Int.intBits N:Int) n
   have d2:=Int.emod_nonneg (Builtin.Int.intBits N:Int) (show n≠0 by omega)
   have d3:=Int.ediv_nonneg (show (0:Int)≤(Builtin.Int.intBits N:Int) by omega) (show 0≤n by omega)
   have d4:=VaP hn d3
   have d5:(Builtin.Int.intBits N:Int)/n*2=2*((Builtin.Int.intBits N:Int)/n):=Va0 _ _
   omega
  omega
 omega
theorem zrW {n g N:Int}(hn:1≤n):((n-1)*g+N/g^(n-1).toNat)/n=((((n.toNat:Nat):Int)-1)*g+N/g^(n.toNat-1))/((n.toNat:Nat):Int):=by
 have e1:((n.toNat:Nat):Int)=n:=by omega
 have e2:(n-1).toNat=n.toNat-1:=by omega
 rw[e1,e2]
def bk2 (i j:Int)(f:Option (Int×Int))(s:Int×Int→Option (Int×Int)):Option (List (Int×(Int×Int))):=match f with
 | none=>none
 | some x=>match s x with
  | none=>none
  | some y=>some [(i,x),(j,y)]
theorem zgQ {vs:List Nd}{k:Nat}{v:Nd}(h:vs[k]?=some v):atI (vs.map Nd.d) (k:Int)=some v.d:=zdH (by rw[Vae,h]; rfl)
theorem zwA {is:List Nat}{ta:TDA}{tb:TDS}{E:zcE}{dl:Ev}{S S1:Sto}{n:Nat}{xs:List D}(W:Nat→Ev→Sto→Prop)(hta:∀K:List D→Sto→Prop,K [.ref n] S1→ta dl S K)(hk:∀k dl' S',W k dl' S'→S'[n]?=some (.lst xs))(h0:W 0 dl S1)
  (hb:∀(k:Nat) (x:D) (dl':Ev) (S':Sto) (nx ct:Ev→Sto→Prop),xs[k]?=some x→W k dl' S'→(∀dl2 S2,W (k+1) dl2 S2→nx dl2 S2)→tb { nx:=nx,rt:=E.rt,bk:=E.nx,ct:=ct } (zdv is [.int (k:Int),x] dl') S')(he:∀dl' S',W xs.length dl' S'→E.nx dl' S'):zl7 is ta tb E dl S:=by
 unfold zl7
 refine hta _ ⟨by rw[za9 (hk _ _ _ h0) rfl]; rfl,λk m dl' S'=>W k dl' S'∧k+m=xs.length,⟨xs.length,h0,by omega⟩,?_⟩
 rintro k m dl' S' ⟨w,hm⟩
 rw[za9 (hk _ _ _ w) rfl]
 dsimp only[zat]
 split
 ·rename_i x e1
  have l1:=(Vac.mp e1).1
  exact hb k x dl' S' _ _ e1 w (λdl2 S2 w2=>⟨m-1,by omega,w2,by omega⟩)
 ·rename_i e1
  have l1:=VaC.mp e1
  have ek:k=xs.length:=by omega
  exact⟨ek,he _ _ (ek ▸ w)⟩
theorem zqi {xs:List D}{n:Int}(h0:0≤n)(h1:n≤xs.length):zbv xs none (some n)=xs.take n.toNat:=by
 unfold L3.zbv
 have e:HT.sIx xs.length xs.length (some n)=n.toNat:=by
  have z:=HT.sIx_nat xs.length xs.length n.toNat
  rw[Int.toNat_of_nonneg h0] at z
  rw[z]
  omega
 rw[e,HT.sIx_none,List.drop_zero,Nat.sub_zero]
def ptB (x l h:Int×Int):Option (Int×Int):=if l.2 > x.2 then none else if h.1<x.1 then none else some (if x.1 > l.1 then x.1 else l.1,if x.2<h.2 then x.2 else h.2)
def loE (lo:Int)(x:Int×Int)(lb:Int):Int×Int:=if lb=0 then (x.1,x.1) else (lo/lb,-(-lo/lb))
def hiE (hi:Int)(x:Int×Int)(hb:Int):Int×Int:=if hb=0 then (x.2,x.2) else (hi/hb,-(-hi/hb))
def sdS (lo hi:Int)(x:Int×Int)(c d:Int):Option (Int×Int):=ptB x (loE lo x (za3 lo c d)) (hiE hi x (zaX hi c d))
def joS:Option (Int×Int)→Option (Int×Int)→Option (Int×Int)
 | none,o=>o
 | some p,none=>some p
 | some p,some q=>some (if q.1<p.1 then q.1 else p.1,if q.2 > p.2 then q.2 else p.2)
def btS (z x y:Int×Int)(g:Int):Option (Int×Int):=
 if (y.1≤0∧0≤y.2)∧z.1≤0∧0≤z.2 then some x else
  joS (if y.2 > 0 then sdS (z.1*g) (z.2*g) x (mx0 y.1) y.2 else none) (if y.1<0 then sdS (-(z.2*g)) (-(z.1*g)) x (mx0 (-y.2)) (-y.1) else none)
theorem zon {lo hi c d:Int}{x:Int×Int}(h:zb5 lo hi x.1 x.2 c d):(sdS lo hi x c d=none→NoV x.1 x.2 (Ans lo hi c d))∧∀p,sdS lo hi x c d=some p→za2 x.1 x.2 (Ans lo hi c d) (zca lo hi x.1 x.2 c d) p.1 p.2:=by
 have hl:za3 lo c d=0∧(loE lo x (za3 lo c d)).1=x.1∧(loE lo x (za3 lo c d)).2=x.1∨za3 lo c d≠0∧(loE lo x (za3 lo c d)).1=lo/za3 lo c d∧(loE lo x (za3 lo c d)).2=-(-lo/za3 lo c d):=by
  by_cases e:za3 lo c d=0
  ·exact .inl ⟨e,by rw[loE,if_pos e],by rw[loE,if_pos e]⟩
  ·exact .inr ⟨e,by rw[loE,if_neg e],by rw[loE,if_neg e]⟩
 have hh:zaX hi c d=0∧(hiE hi x (zaX hi c d)).1=x.2∧(hiE hi x (zaX hi c d)).2=x.2∨zaX hi c d≠0∧(hiE hi x (zaX hi c d)).1=hi/zaX hi c d∧(hiE hi x (zaX hi c d)).2=-(-hi/zaX hi c d):=by
  by_cases e:zaX hi c d=0
  ·exact .inl ⟨e,by rw[hiE,if_pos e],by rw[hiE,if_pos e]⟩
  ·exact .inr ⟨e,by rw[hiE,if_neg e],by rw[hiE,if_neg e]⟩
 have z:=zw6 h hl hh
 unfold sdS ptB
 refine⟨λe=>?_,λp e=>?_⟩
 ·refine z.1 ?_
  split at e
  ·exact .inl ‹_›
  ·split at e
   ·exact .inr ‹_›
   ·cases e
 ·split at e
  ·cases e
  ·split at e
   ·cases e
   ·cases e
    exact z.2 ‹_› ‹_›
theorem znX {z x y:Int×Int}{g:Int}(hz:z.1≤z.2)(hx:x.1≤x.2)(hy:y.1≤y.2)(hg:1≤g):(btS z x y g=none→NoV x.1 x.2 (Ans (z.1*g) (z.2*g) y.1 y.2))∧∀p,btS z x y g=some p→zea (z.1*g) (z.2*g) x.1 x.2 y.1 y.2 p.1 p.2:=by
 have hzz:z.1*g≤z.2*g:=mlr hz (by omega)
 have zlo:z.1*g≤0∧0≤z.2*g↔z.1≤0∧0≤z.2:=by
  constructor
  ·rintro⟨a,b⟩
   exact⟨can (show z.1*g≤0*g by omega) (by omega),can (show 0*g≤z.2*g by omega) (by omega)⟩
  ·rintro⟨a,b⟩
   exact⟨Int.mul_nonpos_of_nonpos_of_nonneg a (by omega),Var b (by omega)⟩
 unfold btS
 split
 ·rename_i c
  refine⟨λe=>(by cases e),λp e=>?_⟩
  cases e
  exact zrD hx c.1 (zlo.mpr c.2)
 ·rename_i c
  have nb:¬ ((y.1≤0∧0≤y.2)∧z.1*g≤0∧0≤z.2*g):=λq=>c ⟨q.1,zlo.mp q.2⟩
  by_cases c1:y.2 > 0
  ·have S1:=zon (x:=x) (lo:=z.1*g) (hi:=z.2*g) (c:=mx0 y.1) (d:=y.2) ⟨hzz,hx,zci _,zm0 (by omega) (by omega),c1⟩
   rw[if_pos c1]
   by_cases c2:y.1<0
   ·have S2:=zon (x:=x) (lo:=-(z.2*g)) (hi:=-(z.1*g)) (c:=mx0 (-y.2)) (d:=-y.1) ⟨by omega,hx,zci _,zm0 (by omega) (by omega),by omega⟩
    rw[if_pos c2]
    generalize sdS (z.1*g) (z.2*g) x (mx0 y.1) y.2=o1 at S1
    generalize sdS (-(z.2*g)) (-(z.1*g)) x (mx0 (-y.2)) (-y.1)=o2 at S2
    cases o1 with
    | none=>cases o2 with
     | none=>exact⟨λ_=>zxU hzz hy nb (S1.1 rfl) (S2.1 rfl),λp e=>by cases e⟩
     | some q=>exact⟨λe=>(by cases e),λp e=>by cases e; exact zsq hzz hy nb c1 c2 (S1.1 rfl) (S2.2 _ rfl)⟩
    | some p=>cases o2 with
     | none=>exact⟨λe=>(by cases e),λp e=>by cases e; exact zwb hzz hy nb c1 c2 (S1.2 _ rfl) (S2.1 rfl)⟩
     | some q=>exact⟨λe=>(by cases e),λp e=>by cases e; exact zsU hzz hy nb c1 c2 (S1.2 _ rfl) (S2.2 _ rfl)⟩
   ·rw[if_neg c2]
    generalize sdS (z.1*g) (z.2*g) x (mx0 y.1) y.2=o1 at S1
    cases o1 with
    | none=>exact⟨λ_=>zsj hzz hy nb (S1.1 rfl) c2,λp e=>by cases e⟩
    | some p=>exact⟨λe=>(by cases e),λp e=>by cases e; exact zuB hzz hy nb c1 c2 (S1.2 _ rfl)⟩
  ·rw[if_neg c1]
   by_cases c2:y.1<0
   ·have S2:=zon (x:=x) (lo:=-(z.2*g)) (hi:=-(z.1*g)) (c:=mx0 (-y.2)) (d:=-y.1) ⟨by omega,hx,zci _,zm0 (by omega) (by omega),by omega⟩
    rw[if_pos c2]
    generalize sdS (-(z.2*g)) (-(z.1*g)) x (mx0 (-y.2)) (-y.1)=o2 at S2
    cases o2 with
    | none=>exact⟨λ_=>zvu hzz hy nb c1 (S2.1 rfl),λp e=>by cases e⟩
    | some q=>exact⟨λe=>(by cases e),λp e=>by cases e; exact zsX hzz hy nb c1 c2 (S2.2 _ rfl)⟩
   ·rw[if_neg c2]
    exact⟨λ_=>ztM hzz hy nb c1 c2,λp e=>by cases e⟩
def Sub (x:Int×Int)(o:Option (Int×Int)):Prop:=∀p,o=some p→p.1≤p.2∧x.1≤p.1∧p.2≤x.2
theorem zkb {z x y:Int×Int}{g:Int}(hz:z.1≤z.2)(hx:x.1≤x.2)(hy:y.1≤y.2)(hg:1≤g):Sub x (btS z x y g):=λp e=>by
 have W:=(znX hz hx hy hg).2 p e
 exact⟨W.le,W.within.1,W.within.2⟩
def InF (s:Int×Int)(g t u:Int):Prop:=s.1*u≤t*g∧t*g≤s.2*u
noncomputable def rbS (N:Int)(n:Nat):Int:=open Classical in if h:∃r:Int,0≤r∧r^n≤N∧N<(r+1)^n then Classical.choose h else 0
theorem zex {N r:Int}{n:Nat}(h0:0≤r)(h1:r^n≤N)(h2:N<(r+1)^n):r=rbS N n:=by
 have ex:∃r:Int,0≤r∧r^n≤N∧N<(r+1)^n:=⟨r,h0,h1,h2⟩
 have e:rbS N n=Classical.choose ex:=by unfold rbS; rw[dif_pos ex]
 obtain⟨c0,c1,c2⟩:=Classical.choose_spec ex
 rw[← e] at c0 c1 c2
 have a:=plt (n:=n) (show 0≤rbS N n+1 by omega) (Int.lt_of_le_of_lt h1 c2)
 have b:=plt (n:=n) (show 0≤r+1 by omega) (Int.lt_of_le_of_lt c1 h2)
 omega
noncomputable def rt0 (N:Int)(n:Nat):Int×Int:=if (rbS N n)^n=N then (rbS N n,rbS N n) else (rbS N n,rbS N n+1)
noncomputable def rtS (N:Int)(n:Nat):Int×Int:=if N<0 then (-(rt0 (-N) n).2,-(rt0 (-N) n).1) else rt0 N n
theorem zpr {N:Int}{n:Nat}(hn:1≤n)(h0:0≤N):zbI n N (rt0 N n).1 (rt0 N n).2∧0≤(rt0 N n).1:=by
 obtain⟨r,r0,r1,r2⟩:=znz hn h0
 have e:=zex r0 r1 r2
 unfold rt0
 rw[← e]
 split
 ·exact⟨(zpE r1 r2).1 ‹_›,r0⟩
 ·exact⟨(zpE r1 r2).2 ‹_›,r0⟩
theorem zmH {N:Int}{n:Nat}(hn:1≤n)(h:n%2=1∨0≤N):zbI n N (rtS N n).1 (rtS N n).2∧(0≤N→0≤(rtS N n).1):=by
 unfold rtS
 split
 ·exact⟨zym (by omega) (zpr hn (by omega)).1,λz=>by omega⟩
 ·have z:=zpr (N:=N) hn (by omega)
  exact⟨z.1,λ_=>z.2⟩
noncomputable def bpS (z x:Int×Int)(n g:Int):Option (Int×Int):=
 if n%2=1 then ptB x (rtS (z.1*g^(n-1).toNat) n.toNat) (rtS (z.2*g^(n-1).toNat) n.toNat) else
  if z.2*g^(n-1).toNat<0 then none else
   joS (ptB x (rtS (mx0 (z.1*g^(n-1).toNat)) n.toNat) (rtS (z.2*g^(n-1).toNat) n.toNat))
    (ptB x (-(rtS (z.2*g^(n-1).toNat) n.toNat).2,-(rtS (z.2*g^(n-1).toNat) n.toNat).1) (-(rtS (mx0 (z.1*g^(n-1).toNat)) n.toNat).2,-(rtS (mx0 (z.1*g^(n-1).toNat)) n.toNat).1))
theorem zbI.ab {n:Nat}{N a b:Int}(h:zbI n N a b):a≤b∧a^n≤N∧N≤b^n:=by
 unfold zbI at h
 rcases h with ⟨e,h⟩ | ⟨e,h1,h2⟩
 ·subst e; omega
 ·omega
theorem zob {x l h:Int×Int}(hx:x.1≤x.2)(hl:l.1≤l.2)(hh:h.1≤h.2)(lh:l.1≤h.2):Sub x (ptB x l h):=λp e=>by
 unfold ptB at e
 split at e
 ·cases e
 ·split at e
  ·cases e
  ·cases e
   dsimp only
   split <;> split <;> omega
theorem zxG {x:Int×Int}{a b:Option (Int×Int)}(h1:Sub x a)(h2:Sub x b):Sub x (joS a b):=λp e=>by
 cases a with
 | none=>exact h2 p e
 | some q=>cases b with
  | none=>exact h1 p e
  | some r=>
   have z1:=h1 q rfl
   have z2:=h2 r rfl
   cases e
   dsimp only
   split <;> split <;> omega
theorem zpz {n:Nat}{N M al bl ah bh:Int}(hn:1≤n)(ok:n%2=1∨0≤al∧0≤ah)(h1:zbI n N al bl)(h2:zbI n M ah bh)(h:N≤M):al≤bh:=by
 have a:=h1.ab
 have b:=h2.ab
 by_cases c:al≤bh
 ·exact c
 ·rcases ok with ho | ⟨o1,o2⟩
  ·have:=zoN ho (show bh<al by omega)
   omega
  ·have:=ze5 (n:=n) (show 0≤bh by omega) (show bh<al by omega) hn
   omega
theorem zs3 {z x:Int×Int}{n g:Int}(hz:z.1≤z.2)(hx:x.1≤x.2)(hg:1≤g)(hn:2≤n):Sub x (bpS z x n g):=by
 have gp:(0:Int)<g^(n-1).toNat:=VaB (by omega)
 have hzz:z.1*g^(n-1).toNat≤z.2*g^(n-1).toNat:=mlr hz (by omega)
 unfold bpS
 generalize g^(n-1).toNat=G at gp hzz
 generalize z.1*G=lo at hzz
 generalize z.2*G=hi at hzz
 have hn1:1≤n.toNat:=by omega
 split
 ·have ho:n.toNat%2=1:=by omega
  have r1:=(zmH (N:=lo) hn1 (.inl ho)).1
  have r2:=(zmH (N:=hi) hn1 (.inl ho)).1
  exact zob hx r1.ab.1 r2.ab.1 (zpz hn1 (.inl ho) r1 r2 hzz)
 ·split
  ·exact λp e=>by cases e
  ·have m0:0≤mx0 lo:=zci lo
   have r1:=zmH (N:=mx0 lo) hn1 (.inr m0)
   have r2:=zmH (N:=hi) hn1 (.inr (by omega))
   have le:mx0 lo≤hi:=zm0 hzz (by omega)
   have k:=zpz hn1 (.inr ⟨r1.2 m0,r2.2 (by omega)⟩) r1.1 r2.1 le
   have a1:=r1.1.ab.1
   have a2:=r2.1.ab.1
   refine zxG (zob hx a1 a2 k) (zob hx ?_ ?_ ?_)
   ·show -(rtS hi n.toNat).2≤-(rtS hi n.toNat).1
    omega
   ·show -(rtS (mx0 lo) n.toNat).2≤-(rtS (mx0 lo) n.toNat).1
    omega
   ·show -(rtS hi n.toNat).2≤-(rtS (mx0 lo) n.toNat).1
    omega
theorem zem {p q:Int×Int}:Sub p (zaT p q):=λr e=>by
 refine⟨zs5 e,?_⟩
 unfold zaT at e
 have go:∀lo hi:Int,p.1≤lo→hi≤p.2→(if hi<lo then none else some (lo,hi))=some r→p.1≤r.1∧r.2≤p.2:=λlo hi a b e=>by
  split at e
  ·cases e
  ·cases e
   exact⟨a,b⟩
 refine go _ _ ?_ ?_ e
 ·split <;> omega
 ·split <;> omega
noncomputable def Nd.bk (vs:List (Int×Int))(z:Int×Int)(g:Int):Nd→Option (List (Int×(Int×Int)))
 | .plus i j=>bk2 i j (zaT (gt vs i) (z.1-(gt vs j).2,z.2-(gt vs j).1)) λx=>zaT (if i=j then x else gt vs j) (z.1-x.2,z.2-x.1)
 | .minus i j=>bk2 i j (zaT (gt vs i) (z.1+(gt vs j).1,z.2+(gt vs j).2)) λx=>zaT (if i=j then x else gt vs j) (x.1-z.2,x.2-z.1)
 | .times i j=>bk2 i j (btS z (gt vs i) (gt vs j) g) λx=>btS z (if i=j then x else gt vs j) x g
 | .power i n=>match bpS z (gt vs i) n g with
  | none=>none
  | some x=>some [(i,x)]
 | _=>some []
theorem Sz.in2 {B:Nat}{x p:Int×Int}(h1:Sz B x.1)(h2:Sz B x.2)(h:p.1≤p.2∧x.1≤p.1∧p.2≤x.2):p.1≤p.2∧Sz B p.1∧Sz B p.2:=⟨h.1,Sz.mid h1 h2 h.2.1 (by omega),Sz.mid h1 h2 (by omega) h.2.2⟩
def Pts (B:Nat)(m:Int)(l:List (Int×(Int×Int))):Prop:=l.length≤2∧∀p∈l,inR m p.1∧p.2.1≤p.2.2∧Sz B p.2.1∧Sz B p.2.2
theorem zpi {B:Nat}{vs:List (Int×Int)}{i j:Int}{f:Option (Int×Int)}{s:Int×Int→Option (Int×Int)}{l:List (Int×(Int×Int))}(hs:Spn B vs)(hi:inR vs.length i)(hj:inR vs.length j)(h1:Sub (gt vs i) f)(h2:∀x,f=some x→Sub (if i=j then x else gt vs j) (s x))(h:bk2 i j f s=some l):Pts B vs.length l:=by
 unfold bk2 at h
 split at h
 ·cases h
 ·rename_i x
  split at h
  ·cases h
  ·rename_i y ey
   cases h
   have a:=(hs.at hi).2
   have b:=(hs.at hj).2
   have zx:=Sz.in2 a.1 a.2 (h1 x rfl)
   have zy:y.1≤y.2∧Sz B y.1∧Sz B y.2:=by
    have q:=h2 x rfl y ey
    split at q
    ·exact Sz.in2 zx.2.1 zx.2.2 q
    ·exact Sz.in2 b.1 b.2 q
   refine⟨by simp,λp hp=>?_⟩
   simp only[Vad,Vas,or_false] at hp
   rcases hp with rfl | rfl
   ·exact⟨hi,zx⟩
   ·exact⟨hj,zy⟩
theorem Nd.bk_pts {B:Nat}{vs:List (Int×Int)}{z:Int×Int}{g q:Int}(hs:Spn B vs)(hz:z.1≤z.2)(hg:1≤g):∀(v:Nd) (l:List (Int×(Int×Int))),v.ok vs.length q→v.bk vs z g=some l→Pts B vs.length l
 | .number _ _,l,_,h=>by cases h; exact⟨by simp,λp hp=>nomatch hp⟩
 | .unknown _,l,_,h=>by cases h; exact⟨by simp,λp hp=>nomatch hp⟩
 | .plus i j,l,ok,h=>zpi hs ok.1 ok.2 zem (λx _=>zem) h
 | .minus i j,l,ok,h=>zpi hs ok.1 ok.2 zem (λx _=>zem) h
 | .times i j,l,ok,h=>by
  have a:=(hs.at ok.1).1
  have b:=(hs.at ok.2).1
  have s1:=zkb (z:=z) (x:=gt vs i) (y:=gt vs j) hz a b hg
  refine zpi hs ok.1 ok.2 s1 (λx e=>?_) h
  have lx:=(s1 x e).1
  refine zkb hz ?_ lx hg
  split
  ·exact lx
  ·exact b
 | .power i n,l,ok,h=>by
  have a:=hs.at ok.1
  have s1:=zs3 (z:=z) (x:=gt vs i) (n:=n) hz a.1 hg ok.2.1
  unfold Nd.bk at h
  dsimp only at h
  split at h
  ·cases h
  ·rename_i x ex
   cases h
   refine⟨by simp,λp hp=>?_⟩
   simp only[Vad,Vas,or_false] at hp
   subst hp
   exact⟨ok.1,Sz.in2 a.2.1 a.2.2 (s1 x ex)⟩
def zbS (vs:List (Int×Int))(l:List (Int×(Int×Int))):List (Int×Int):=l.foldl (λa p=>a.set p.1.toNat p.2) vs
theorem zrf (vs:List (Int×Int))(l:List (Int×(Int×Int)))(p:Int×(Int×Int)):zbS vs (l++[p])=(zbS vs l).set p.1.toNat p.2:=by
 unfold zbS
 rw[List.foldl_append]
 rfl
theorem zdZ:∀(l:List (Int×(Int×Int))) (vs:List (Int×Int)),(zbS vs l).length=vs.length
 | [],vs=>rfl
 | p::r,vs=>by
  show (zbS (vs.set p.1.toNat p.2) r).length=_
  rw[zdZ r,VaG]
theorem zqM {vs:List (Int×Int)}{k:Int}{i:Int}{p:Int×Int}(hi:inR vs.length i)(hk:inR vs.length k):gt (vs.set k.toNat p) i=if i=k then p else gt vs i:=by
 have h0:=hi.1
 have h1:=hi.2
 have k0:=hk.1
 unfold gt
 rw[Vaw,Vaw,List.getElem?_set]
 by_cases e:i=k
 ·subst e
  rw[if_pos rfl,if_pos (by omega),if_pos rfl]
  rfl
 ·rw[if_neg (by omega),if_neg e]
theorem Spn.set2 {B:Nat}{vs:List (Int×Int)}(h:Spn B vs){k:Nat}{u:Int×Int}(hu:u.1≤u.2∧Sz B u.1∧Sz B u.2):Spn B (vs.set k u):=λp hp=>by
 rcases List.mem_or_eq_of_mem_set hp with e | e
 ·exact h p e
 ·subst e; exact hu
theorem zlM {B:Nat}:∀(l:List (Int×(Int×Int))) (vs:List (Int×Int)),Spn B vs→(∀p∈l,p.2.1≤p.2.2∧Sz B p.2.1∧Sz B p.2.2)→Spn B (zbS vs l)
 | [],vs,h,_=>h
 | p::r,vs,h,hl=>zlM r _ (h.set2 (hl p (.head _))) λq hq=>hl q (.tail _ hq)
theorem InW.set {g:Int}{vs ds:List (Int×Int)}{k:Int}{p:Int×Int}(h:InW g vs ds)(ln:vs.length=ds.length)(hk:inR vs.length k)(hp:InF p g (gt ds k).1 (gt ds k).2):InW g (vs.set k.toNat p) ds:=λi hi=>by
 rw[zqM (by rw[ln]; exact hi) hk]
 split
 ·rename_i e; subst e; exact hp
 ·exact h i hi
noncomputable def zcb (g:Int)(ns:List Nd):Nat→List (Int×Int)→Option (List (Int×Int))
 | 0,vs=>some vs
 | k+1,vs=>match ns[k]? with
  | none=>none
  | some v=>match v.bk vs (gt vs (k:Int)) g with
   | none=>none
   | some l=>zcb g ns k (zbS vs l)
theorem zo1 {g:Int}{ns:List Nd}{k:Nat}{vs:List (Int×Int)}{v:Nd}(hv:ns[k]?=some v)(h:v.bk vs (gt vs (k:Int)) g=none):zcb g ns (k+1) vs=none:=by
 unfold zcb
 rw[hv]
 dsimp only
 rw[h]
theorem znG {g:Int}{ns:List Nd}{k:Nat}{vs:List (Int×Int)}{v:Nd}{l:List (Int×(Int×Int))}(hv:ns[k]?=some v)(h:v.bk vs (gt vs (k:Int)) g=some l):zcb g ns (k+1) vs=zcb g ns k (zbS vs l):=by
 conv=>lhs; unfold zcb
 rw[hv]
 dsimp only
 rw[h]
def zc9 (zero:Bool)(s:Int×Int):Option (Int×Int):=zaT s (if zero then (0,0) else (0,mx0 s.2))
noncomputable def sbS (ns:List Nd)(zero:Bool)(k:Nat)(bs:List (Int×Int))(g:Int):Option (List (Int×Int)):=match zc9 zero (gt (zaD bs g (ns.take (k+1))) (k:Int)) with
 | none=>none
 | some w=>zcb g ns (k+1) ((zaD bs g (ns.take (k+1))).set k w)
def zbo (bs:List (Int×Int))(l:List (Nd×(Int×Int))):List (Int×Int):=l.foldl (λa p=>match p.1 with
 | .unknown u=>a.set u.toNat p.2
 | _=>a) bs
theorem zoj (bs:List (Int×Int))(l:List (Nd×(Int×Int)))(p:Nd×(Int×Int)):zbo bs (l++[p])=match p.1 with
 | .unknown u=>(zbo bs l).set u.toNat p.2
 | _=>zbo bs l:=by
 unfold zbo
 rw[List.foldl_append]
 rfl
noncomputable def nwS (ns:List Nd)(zero:Bool)(k:Nat)(bs:List (Int×Int))(g:Int):Option (List (Int×Int)):=(sbS ns zero k bs g).map λus=>zbo bs (ns.zip us)
theorem zpd {q:Nat}{ns:List Nd}{ws:List Nat}{bs us:List (Int×Int)}(net:zaM q ns ws)(hq:q=bs.length)(P:Int→Int×Int→Prop)(h0:∀i:Int,inR bs.length i→P i (gt bs i))(hu:∀(k:Nat) (u:Int),ns[k]?=some (.unknown u)→k<us.length→P u (gt us (k:Int))):∀k,k≤(ns.zip us).length→(zbo bs ((ns.zip us).take k)).length=bs.length∧∀i:Int,inR bs.length i→P i (gt (zbo bs ((ns.zip us).take k)) i):=by
 intro k
 induction k with
 | zero=>intro _; exact⟨rfl,h0⟩
 | succ k ih=>
  intro hk
  obtain⟨ln,ih⟩:=ih (by omega)
  have hl:k<ns.length∧k<us.length:=by rw[List.length_zip] at hk; omega
  have hz:(ns.zip us)[k]?=some (ns[k],us[k]):=by rw[Vaj (by omega)]; simp
  have hv:ns[k]?=some ns[k]:=Vaj hl.1
  have eu:us[k]=gt us (k:Int):=by simp[gt,hl.2]
  rw[zbG hz,zoj]
  dsimp only
  generalize ns[k]=v at hv
  cases v with
  | unknown u=>
   dsimp only
   have ok:inR q u:=(net.ok k _ hv).1
   rw[hq] at ok
   refine⟨by rw[VaG]; exact ln,λi hi=>?_⟩
   rw[zqM (by rw[ln]; exact hi) (by rw[ln]; exact ok)]
   split
   ·rename_i e
    subst e
    rw[eu]
    exact hu k i hv hl.2
   ·exact ih i hi
  | number _ _=>exact⟨ln,ih⟩
  | plus _ _=>exact⟨ln,ih⟩
  | minus _ _=>exact⟨ln,ih⟩
  | times _ _=>exact⟨ln,ih⟩
  | power _ _=>exact⟨ln,ih⟩
theorem zny {q:Nat}{ns:List Nd}{ws:List Nat}{B:Nat}{g:Int}(net:zaM q ns ws)(hg:1≤g):∀(k:Nat) (vs us:List (Int×Int)),k≤vs.length→Spn B vs→zcb g ns k vs=some us→us.length=vs.length∧Spn B us
 | 0,vs,us,_,hs,e=>by cases e; exact⟨rfl,hs⟩
 | k+1,vs,us,hk,hs,e=>by
  cases hv:ns[k]? with
  | none=>
   unfold zcb at e
   rw[hv] at e
   cases e
  | some v=>
   have ok:v.ok vs.length q:=zoy (by omega) (net.ok k v hv).1
   have ik:inR ((vs.length:Nat):Int) (k:Int):=⟨by omega,by omega⟩
   cases el:v.bk vs (gt vs (k:Int)) g with
   | none=>rw[zo1 hv el] at e; cases e
   | some l=>
    have P:=v.bk_pts hs (hs.at ik).1 hg l ok el
    rw[znG hv el] at e
    have z:=zny net hg k (zbS vs l) us (by rw[zdZ]; omega) (zlM l vs hs λp hp=>(P.2 p hp).2) e
    rw[zdZ] at z
    exact z
theorem zj8 {zero:Bool}{s:Int×Int}:Sub s (zc9 zero s):=zem
theorem zvE {B:Nat}{vs:List (Int×Int)}(h:∀i:Int,inR vs.length i→(gt vs i).1≤(gt vs i).2∧Sz B (gt vs i).1∧Sz B (gt vs i).2):Spn B vs:=λp hp=>by
 obtain⟨k,hk,e⟩:=VaL.mp hp
 have z:=h (k:Int) ⟨by omega,by omega⟩
 have e2:gt vs (k:Int)=p:=by simp[gt,hk,e]
 rw[e2] at z
 exact z
theorem ztn {vs:List (Int×Int)}(h:Spn 51 vs):Spn 1000 vs:=h.mono (by decide)
theorem zxX {ns:List Nd}{ws:List Nat}{zero:Bool}{k:Nat}{bs r:List (Int×Int)}{g:Int}(net:zaM bs.length ns ws)(gp:Spn 51 bs)(hg:1≤g∧g≤1000000)(hk:k<ns.length)(e:nwS ns zero k bs g=some r):r.length=bs.length∧Spn 1000 r:=by
 unfold nwS at e
 obtain⟨us,eu,er⟩:=Vai.mp e
 have s1:Spn 1000 (zaD bs g (ns.take (k+1))):=zd2 net rfl gp hg (k+1) (by omega)
 have l1:(zaD bs g (ns.take (k+1))).length=k+1:=by rw[zcX,Vau]; omega
 unfold sbS at eu
 split at eu
 ·cases eu
 ·rename_i w ew
  have a:=s1.at (i:=(k:Int)) ⟨by omega,by rw[l1]; omega⟩
  have zw:=Sz.in2 a.2.1 a.2.2 (zj8 w ew)
  obtain⟨lu,su⟩:=zny net hg.1 (k+1) _ us (by rw[VaG,l1]; omega) (s1.set2 zw) eu
  rw[VaG,l1] at lu
  have lz:(ns.zip us).length=k+1:=by rw[List.length_zip]; omega
  obtain⟨lr,P⟩:=zpd net rfl (us:=us) (bs:=bs) (λ_ p=>p.1≤p.2∧Sz 1000 p.1∧Sz 1000 p.2) (λi hi=>(ztn gp).at hi) (λj u _ hj=>su.at ⟨by omega,by omega⟩) (ns.zip us).length (Vab _)
  rw[VaM] at lr P
  subst er
  exact⟨lr,zvE λi hi=>P i (by rw[← lr]; exact hi)⟩
theorem zvF {ns:List Nd}{ws:List Nat}{zero:Bool}{k:Nat}{bs us:List (Int×Int)}{g:Int}(net:zaM bs.length ns ws)(gp:Spn 51 bs)(hg:1≤g∧g≤1000000)(hk:k<ns.length)(eu:sbS ns zero k bs g=some us):us.length=k+1:=by
 have s1:Spn 1000 (zaD bs g (ns.take (k+1))):=zd2 net rfl gp hg (k+1) (by omega)
 have l1:(zaD bs g (ns.take (k+1))).length=k+1:=by rw[zcX,Vau]; omega
 unfold sbS at eu
 split at eu
 ·cases eu
 ·rename_i w ew
  have a:=s1.at (i:=(k:Int)) ⟨by omega,by rw[l1]; omega⟩
  have zw:=Sz.in2 a.2.1 a.2.2 (zj8 w ew)
  obtain⟨lu,su⟩:=zny net hg.1 (k+1) _ us (by rw[VaG,l1]; omega) (s1.set2 zw) eu
  rw[VaG,l1] at lu
  exact lu
theorem zp2 {ns:List Nd}{us:List (Int×Int)}{i:Nat}{v:Nd}{p:Int×Int}(h1:ns[i]?=some v)(h2:us[i]?=some p):(ns.zip us)[i]?=some (v,p):=by
 obtain⟨a1,rfl⟩:=Vac.mp h1
 obtain⟨a2,rfl⟩:=Vac.mp h2
 rw[Vaj (by rw[List.length_zip]; omega)]
 simp
def rwW (zero:Bool)(w:Str):Prop:=zero=true∧w="zero"∨zero=false∧w="least"
def Hv (hv:Nat)(ws:List Nat):Prop:=∀k:Nat,ws.getD k 0≤hv
theorem zrE {hv:Nat}(h:1≤hv)(ns:List Nd):Hv hv (ns.map λ_=>1):=λk=>by
 rw[Vaw,Vae]
 cases ns[k]? with
 | none=>exact Vax _
 | some _=>exact h
theorem zqW {hv w:Nat}{ws:List Nat}(h:Hv hv ws)(hw:w≤hv):Hv hv (ws++[w]):=λk=>by
 by_cases c:k<ws.length
 ·rw[znW c]
  exact h k
 ·rw[Vaw,VaT (by omega)]
  match k-ws.length with
  | 0=>exact hw
  | j+1=>exact Vax _
theorem Gr.pre {q a:Nat}{S T:Sto}{ns:List Nd}{ws:List Nat}(net:zaM q ns ws)(h:S[a]?=some (.lst (ns.map Nd.d)))(pr:Pre S T)(hl:S.length≤T.length):Gr q a 0 S ns ws T ns ws:=⟨net,⟨[],by simp,by simp⟩,⟨[],by simp⟩,pr _ _ h,hl,λx o _ e=>pr x o e⟩
def Ptn (g:Int)(bs qs:List (Int×Int)):Prop:=qs.length=bs.length∧Gd 110 qs∧InW g bs qs
def zfD (g:Int)(bs:List (Int×Int))(L:Nat)(S:Sto)(ys:List D):Prop:=∀y∈ys,∃(m:Nat) (qs:List (Int×Int)),y=.ref m∧m≠L∧S[m]?=some (.lst (qs.map frD))∧Ptn g bs qs
theorem zfD.up {g:Int}{bs:List (Int×Int)}{L:Nat}{S T:Sto}{ys:List D}(h:zfD g bs L S ys)(pr:Pre S T):zfD g bs L T ys:=λy hy=>by
 obtain⟨m,qs,e,n,hm,p⟩:=h y hy
 exact⟨m,qs,e,n,pr _ _ hm,p⟩
theorem zfD.snoc {g:Int}{bs qs:List (Int×Int)}{L m:Nat}{S:Sto}{ys:List D}{o:Ob}(h:zfD g bs L S ys)(n:m≠L)(hm:S[m]?=some (.lst (qs.map frD)))(p:Ptn g bs qs):zfD g bs L (S.set L o) (ys++[.ref m]):=λy hy=>by
 rcases VaI.mp hy with z | z
 ·obtain⟨m,qs,e,n,hm,p⟩:=h y z
  exact⟨m,qs,e,n,zbk hm (Ne.symm n),p⟩
 ·exact⟨m,qs,VaA.mp z,n,zbk hm (Ne.symm n),p⟩
def FdAt (o:Option (List (Int×Int)))(L:Nat)(S:Sto)(fd:D):Prop:=(fd=.non∧o=none)∨∃(r:List (Int×Int)) (mf:Nat),fd=.ref mf∧o=some r∧S[mf]?=some (.lst (r.map frD))∧L≤mf
theorem nine {i:Int}(h:(if i<0 then -i else i)<10^Int.toNat 9):i.natAbs≤10^9:=by
 have e:(10:Int)^Int.toNat 9=1000000000:=rfl
 split at h <;> omega
theorem nine3 {u:Int}(h:u<10^Int.toNat 9):u≤10^9:=by
 have e:(10:Int)^Int.toNat 9=1000000000:=rfl
 omega
theorem ztC (hv:Nat):Hv hv []:=λk=>by simp
theorem za2.same {x0 x1 L U L' U':Int}{V Sp Sp':Int→Int→Prop}(h:za2 x0 x1 V Sp L U)(h':za2 x0 x1 V Sp' L' U'):L=L'∧U=U':=by
 obtain⟨a,b,_,b0,a0,a1,av,al⟩:=h.lo
 obtain⟨c,d,_,d0,c0,c1,cv,cl⟩:=h'.lo
 obtain⟨e,f,_,f0,e0,e1,ev,el⟩:=h.hi
 obtain⟨i,j,_,j0,i0,i1,iv,il⟩:=h'.hi
 have l1:=(h'.all a b b0 a0 a1 av).1
 have l2:=(h.all c d d0 c0 c1 cv).1
 have u1:=(h'.all e f f0 e0 e1 ev).2
 have u2:=(h.all i j j0 i0 i1 iv).2
 have k:∀ {m n q:Int},0<q→m*q<n*q→m<n:=λhq h=>Int.lt_of_mul_lt_mul_right h (Vag hq)
 have z1:L'<L+1:=k b0 (by omega)
 have z2:L<L'+1:=k d0 (by omega)
 have z3:U-1<U':=k f0 (by omega)
 have z4:U'-1<U:=k j0 (by omega)
 omega
abbrev PcV (l h:Option (Int×Int))(p q:Int):Prop:=(∀a,l=some a→a.1*q≤p*a.2)∧∀b,h=some b→p*b.2≤b.1*q
abbrev PcS (x:Int×Int)(l h:Option (Int×Int))(p q:Int):Prop:=(p=x.1∧q=1)∨(p=x.2∧q=1)∨(∃a,l=some a∧p=a.1∧q=a.2)∨∃b,h=some b∧p=b.1∧q=b.2
def kpS (x:Int×Int)(l h:Option (Int×Int)):Option (Int×Int):=
 match (match l with
  | none=>some x.1
  | some a=>if a.1 > x.2*a.2 then none else some (if a.1/a.2 > x.1 then a.1/a.2 else x.1)) with
 | none=>none
 | some lo=>match h with
  | none=>some (lo,x.2)
  | some b=>if b.1<x.1*b.2 then none else some (lo,if -(-b.1/b.2)<x.2 then -(-b.1/b.2) else x.2)
theorem zs2 {x:Int×Int}{l h:Option (Int×Int)}(hx:x.1≤x.2)(hl:∀a,l=some a→0<a.2∧a.1≤x.2*a.2)(hh:∀b,h=some b→0<b.2∧x.1*b.2≤b.1)(lh:∀a b,l=some a→h=some b→a.1*b.2≤b.1*a.2){L:Int}(eL:(∀a,l=some a→L=if a.1/a.2 > x.1 then a.1/a.2 else x.1)∧(l=none→L=x.1)):(∀p q,0<q→x.1*q≤p→PcV l h p q→L*q≤p)∧∃p q,PcS x l h p q∧0<q∧x.1*q≤p∧p≤x.2*q∧PcV l h p q∧p<(L+1)*q:=by
 cases l with
 | none=>
  have e:=eL.2 rfl
  subst e
  refine⟨λp q _ h1 _=>h1,x.1,1,.inl ⟨rfl,rfl⟩,by decide,by omega,by omega,⟨λa e=>(by cases e),λb e=>?_⟩,by omega⟩
  have:=(hh b e).2
  omega
 | some a=>
  have e:=eL.1 a rfl
  obtain⟨a0,a1⟩:=hl a rfl
  obtain⟨d1,d2⟩:=dl a.1 a0
  have low:∀p q,0<q→a.1*q≤p*a.2→a.1/a.2*q≤p:=λp q hq h=>by
   have z:=mlr d1 (Vag hq)
   have r:a.1/a.2*a.2*q=a.1/a.2*q*a.2:=by grind
   exact can (show a.1/a.2*q*a.2≤p*a.2 by omega) a0
  refine⟨λp q hq h1 v=>?_,?_⟩
  ·rw[e]
   split
   ·exact low p q hq (v.1 a rfl)
   ·exact h1
  ·by_cases c:a.1≤x.1*a.2
   ·have q1:a.1/a.2≤x.1:=by
     have:=can (show a.1/a.2*a.2≤x.1*a.2 by omega) a0
     exact this
    rw[if_neg (by omega)] at e
    subst e
    refine⟨x.1,1,.inl ⟨rfl,rfl⟩,by decide,by omega,by omega,⟨λb eb=>?_,λb eb=>?_⟩,by omega⟩
    ·cases eb
     omega
    ·have:=(hh b eb).2
     omega
   ·refine⟨a.1,a.2,.inr (.inr (.inl ⟨a,rfl,rfl,rfl⟩)),a0,by omega,a1,⟨λb eb=>?_,λb eb=>lh a b rfl eb⟩,?_⟩
    ·cases eb
     omega
    ·have le:a.1/a.2≤L:=by rw[e]; split <;> omega
     have:=mlr (show a.1/a.2+1≤L+1 by omega) (Vag a0)
     omega
theorem zsV {x:Int×Int}{l h:Option (Int×Int)}(hx:x.1≤x.2)(hl:∀a,l=some a→0<a.2∧a.1≤x.2*a.2)(hh:∀b,h=some b→0<b.2∧x.1*b.2≤b.1)(lh:∀a b,l=some a→h=some b→a.1*b.2≤b.1*a.2){U:Int}(eU:(∀b,h=some b→U=if -(-b.1/b.2)<x.2 then -(-b.1/b.2) else x.2)∧(h=none→U=x.2)):(∀p q,0<q→p≤x.2*q→PcV l h p q→p≤U*q)∧∃p q,PcS x l h p q∧0<q∧x.1*q≤p∧p≤x.2*q∧PcV l h p q∧(U-1)*q<p:=by
 cases h with
 | none=>
  have e:=eU.2 rfl
  subst e
  refine⟨λp q _ h1 _=>h1,x.2,1,.inr (.inl ⟨rfl,rfl⟩),by decide,by omega,by omega,⟨λa e=>?_,λb e=>(by cases e)⟩,by omega⟩
  have:=(hl a e).2
  omega
 | some b=>
  have e:=eU.1 b rfl
  obtain⟨b0,b1⟩:=hh b rfl
  obtain⟨d1,d2⟩:=dh b.1 b0
  have high:∀p q,0<q→p*b.2≤b.1*q→p≤-(-b.1/b.2)*q:=λp q hq h=>by
   have z:=mlr d1 (Vag hq)
   have r:-(-b.1/b.2)*b.2*q=-(-b.1/b.2)*q*b.2:=by grind
   exact can (show p*b.2≤-(-b.1/b.2)*q*b.2 by omega) b0
  refine⟨λp q hq h1 v=>?_,?_⟩
  ·rw[e]
   split
   ·exact high p q hq (v.2 b rfl)
   ·exact h1
  ·by_cases c:x.2*b.2≤b.1
   ·have q1:x.2≤-(-b.1/b.2):=can (show x.2*b.2≤-(-b.1/b.2)*b.2 by omega) b0
    rw[if_neg (by omega)] at e
    subst e
    refine⟨x.2,1,.inr (.inl ⟨rfl,rfl⟩),by decide,by omega,by omega,⟨λa ea=>?_,λa ea=>?_⟩,by omega⟩
    ·have:=(hl a ea).2
     omega
    ·cases ea
     omega
   ·refine⟨b.1,b.2,.inr (.inr (.inr ⟨b,rfl,rfl,rfl⟩)),b0,b1,by omega,⟨λa ea=>lh a b ea rfl,λa ea=>?_⟩,?_⟩
    ·cases ea
     omega
    ·have le:U≤-(-b.1/b.2):=by rw[e]; split <;> omega
     have:=mlr (show U-1≤-(-b.1/b.2)-1 by omega) (Vag b0)
     omega
theorem zqo {x:Int×Int}{l h:Option (Int×Int)}(hx:x.1≤x.2)(hl:∀a,l=some a→0<a.2)(hh:∀b,h=some b→0<b.2)(lh:∀a b,l=some a→h=some b→a.1*b.2≤b.1*a.2):(kpS x l h=none→NoV x.1 x.2 (PcV l h))∧∀r,kpS x l h=some r→za2 x.1 x.2 (PcV l h) (PcS x l h) r.1 r.2:=by
 have nl:∀a,l=some a→a.1 > x.2*a.2→NoV x.1 x.2 (PcV l h):=λa e c p q hq _ h2 v=>by
  have a0:=hl a e
  have z:=v.1 a e
  have y:=mlr h2 (Vag a0)
  have r:x.2*q*a.2=x.2*a.2*q:=by grind
  have:=can (show a.1*q≤x.2*a.2*q by omega) hq
  omega
 have nh:∀b,h=some b→b.1<x.1*b.2→NoV x.1 x.2 (PcV l h):=λb e c p q hq h1 _ v=>by
  have b0:=hh b e
  have z:=v.2 b e
  have y:=mlr h1 (Vag b0)
  have r:x.1*q*b.2=x.1*b.2*q:=by grind
  have:=can (show x.1*b.2*q≤b.1*q by omega) hq
  omega
 have mk:∀ {L U:Int},(∀a,l=some a→a.1≤x.2*a.2)→(∀b,h=some b→x.1*b.2≤b.1)→((∀a,l=some a→L=if a.1/a.2 > x.1 then a.1/a.2 else x.1)∧(l=none→L=x.1))→((∀b,h=some b→U=if -(-b.1/b.2)<x.2 then -(-b.1/b.2) else x.2)∧(h=none→U=x.2))→za2 x.1 x.2 (PcV l h) (PcS x l h) L U:=λca cb eL eU=>by
  have A:=zs2 hx (λa e=>⟨hl a e,ca a e⟩) (λb e=>⟨hh b e,cb b e⟩) lh eL
  have B:=zsV hx (λa e=>⟨hl a e,ca a e⟩) (λb e=>⟨hh b e,cb b e⟩) lh eU
  exact⟨λp q hq h1 h2 v=>⟨A.1 p q hq h1 v,B.1 p q hq h2 v⟩,A.2,B.2⟩
 unfold kpS
 cases l with
 | none=>cases h with
  | none=>exact⟨λe=>(by cases e),λr e=>by cases e; exact mk (λa e=>(by cases e)) (λb e=>(by cases e)) ⟨λa e=>(by cases e),λ_=>rfl⟩ ⟨λb e=>(by cases e),λ_=>rfl⟩⟩
  | some b=>
   dsimp only
   split
   ·rename_i c
    exact⟨λ_=>nh b rfl c,λr e=>(by cases e)⟩
   ·rename_i c
    exact⟨λe=>(by cases e),λr e=>by cases e; exact mk (λa e=>(by cases e)) (λb' e=>by cases e; omega) ⟨λa e=>(by cases e),λ_=>rfl⟩ ⟨λb' e=>by cases e; rfl,λe=>(by cases e)⟩⟩
 | some a=>
  dsimp only
  by_cases ca:a.1 > x.2*a.2
  ·rw[if_pos ca]
   exact⟨λ_=>nl a rfl ca,λr e=>(by cases e)⟩
  ·rw[if_neg ca]
   dsimp only
   cases h with
   | none=>exact⟨λe=>(by cases e),λr e=>by cases e; exact mk (λa' e=>by cases e; omega) (λb e=>(by cases e)) ⟨λa' e=>by cases e; rfl,λe=>(by cases e)⟩ ⟨λb e=>(by cases e),λ_=>rfl⟩⟩
   | some b=>
    dsimp only
    split
    ·rename_i c
     exact⟨λ_=>nh b rfl c,λr e=>(by cases e)⟩
    ·rename_i c
     exact⟨λe=>(by cases e),λr e=>by cases e; exact mk (λa' e=>by cases e; omega) (λb' e=>by cases e; omega) ⟨λa' e=>by cases e; rfl,λe=>(by cases e)⟩ ⟨λb' e=>by cases e; rfl,λe=>(by cases e)⟩⟩
structure zbQ (x:Int×Int)(V:Int→Int→Prop)(o:Option (Int×Int)):Prop where
 no:o=none→NoV x.1 x.2 V
 is:∀r,o=some r→∃Sp,za2 x.1 x.2 V Sp r.1 r.2
theorem zbQ.same {x:Int×Int}{V:Int→Int→Prop}{o o':Option (Int×Int)}(h:zbQ x V o)(h':zbQ x V o'):o=o':=by
 have no:∀ {r:Int×Int} {Sp:Int→Int→Prop},za2 x.1 x.2 V Sp r.1 r.2→¬ NoV x.1 x.2 V:=λt n=>by
  obtain⟨p,q,_,q0,p0,p1,v,_⟩:=t.lo
  exact n p q q0 p0 p1 v
 cases o with
 | none=>cases o' with
  | none=>rfl
  | some r=>
   obtain⟨_,t⟩:=h'.is r rfl
   exact absurd (h.no rfl) (no t)
 | some r=>
  obtain⟨_,t⟩:=h.is r rfl
  cases o' with
  | none=>exact absurd (h'.no rfl) (no t)
  | some r'=>
   obtain⟨_,t'⟩:=h'.is r' rfl
   have z:=t.same t'
   exact congrArg some (Prod.ext z.1 z.2)
theorem zbQ.mono {x:Int×Int}{V V':Int→Int→Prop}{o:Option (Int×Int)}(h:zbQ x V o)(hv:∀p q,0<q→(V p q↔V' p q)):zbQ x V' o:=
 ⟨λe p q hq h1 h2 v=>h.no e p q hq h1 h2 ((hv p q hq).mpr v),λr e=>by
  obtain⟨Sp,t⟩:=h.is r e
  exact⟨Sp,t.mono hv λ_ _ _ z=>z⟩⟩
theorem zbQ.or {x:Int×Int}{V V':Int→Int→Prop}{o o':Option (Int×Int)}(h:zbQ x V o)(h':zbQ x V' o'):zbQ x (λp q=>V p q∨V' p q) (joS o o'):=by
 cases o with
 | none=>cases o' with
  | none=>exact⟨λ_ p q hq h1 h2 v=>v.elim (h.no rfl p q hq h1 h2) (h'.no rfl p q hq h1 h2),λr e=>(by cases e)⟩
  | some r=>exact⟨λe=>(by cases e),λs e=>by
    cases e
    obtain⟨Sp,t⟩:=h'.is r rfl
    exact⟨Sp,t.right (h.no rfl)⟩⟩
 | some r=>
  obtain⟨Sp,t⟩:=h.is r rfl
  cases o' with
  | none=>exact⟨λe=>(by cases e),λs e=>by
    cases e
    exact⟨Sp,t.left (h'.no rfl)⟩⟩
  | some r'=>
   obtain⟨Sp',t'⟩:=h'.is r' rfl
   refine⟨λe=>(by cases e),λs e=>?_⟩
   cases e
   refine⟨_,t.both t' ?_ ?_⟩
   ·dsimp only
    split <;> omega
   ·dsimp only
    split <;> omega
theorem zoo {x:Int×Int}{l h:Option (Int×Int)}(hx:x.1≤x.2)(hl:∀a,l=some a→0<a.2)(hh:∀b,h=some b→0<b.2)(lh:∀a b,l=some a→h=some b→a.1*b.2≤b.1*a.2):zbQ x (PcV l h) (kpS x l h):=
 ⟨(zqo hx hl hh lh).1,λr e=>⟨_,(zqo hx hl hh lh).2 r e⟩⟩
theorem zqF {z x y:Int×Int}{g:Int}(hz:z.1≤z.2)(hx:x.1≤x.2)(hy:y.1≤y.2)(hg:1≤g):zbQ x (Ans (z.1*g) (z.2*g) y.1 y.2) (btS z x y g):=
 ⟨(znX hz hx hy hg).1,λr e=>⟨_,(znX hz hx hy hg).2 r e⟩⟩
def nrm (t b:Int):Int×Int:=if b > 0 then (t,b) else (-t,-b)
def za8 (lo hi:Int)(y:Int×Int):List (Int×Int):=[nrm lo y.1,nrm lo y.2,nrm hi y.1,nrm hi y.2]
def zog (es:List (Int×Int))(a:Int×Int):Prop:=a∈es∧∀e∈es,a.1*e.2≤e.1*a.2
def znC (es:List (Int×Int))(a:Int×Int):Prop:=a∈es∧∀e∈es,e.1*a.2≤a.1*e.2
theorem zqP {a b c d p q:Int}(hq:0<q)(hb:0<b)(hd:0<d)(h1:a*d≤c*b)(h2:c*q≤p*d):a*q≤p*b:=by
 have e1:=mlr h1 (Vag hq)
 have e2:=mlr h2 (Vag hb)
 have r1:a*d*q=a*q*d:=by grind
 have r2:c*b*q=c*q*b:=by grind
 have r3:p*d*b=p*b*d:=by grind
 exact can (show a*q*d≤p*b*d by omega) hd
theorem zps {a b c d p q:Int}(hq:0<q)(hb:0<b)(hd:0<d)(h1:c*b≤a*d)(h2:p*d≤c*q):p*b≤a*q:=by
 have e1:=mlr h1 (Vag hq)
 have e2:=mlr h2 (Vag hb)
 have r1:a*d*q=a*q*d:=by grind
 have r2:c*b*q=c*q*b:=by grind
 have r3:p*d*b=p*b*d:=by grind
 exact can (show p*b*d≤a*q*d by omega) hd
theorem zyu {lo hi:Int}{y a b:Int×Int}(hz:lo≤hi)(hy:y.1≤y.2)(out:y.1 > 0∨y.2<0)(ha:zog (za8 lo hi y) a)(hb:znC (za8 lo hi y) b):0<a.2∧0<b.2∧a.1*b.2≤b.1*a.2∧∀p q,0<q→(PcV (some a) (some b) p q↔Ans lo hi y.1 y.2 p q):=by
 have pos:∀e∈za8 lo hi y,0<e.2:=λe he=>by
  unfold za8 nrm at he
  simp only[Vad,Vas,or_false] at he
  rcases he with rfl | rfl | rfl | rfl <;> split <;> dsimp only <;> omega
 have a0:=pos a ha.1
 have b0:=pos b hb.1
 refine⟨a0,b0,ha.2 b hb.1,λp q hq=>?_⟩
 have lowI:a.1*q≤p*a.2↔∃e∈za8 lo hi y,e.1*q≤p*e.2:=⟨λh=>⟨a,ha.1,h⟩,λ⟨e,he,h⟩=>zqP hq a0 (pos e he) (ha.2 e he) h⟩
 have hiI:p*b.2≤b.1*q↔∃e∈za8 lo hi y,p*e.2≤e.1*q:=⟨λh=>⟨b,hb.1,h⟩,λ⟨e,he,h⟩=>zps hq b0 (pos e he) (hb.2 e he) h⟩
 have hlq:lo*q≤hi*q:=mlr hz (Vag hq)
 have pc:PcV (some a) (some b) p q↔(∃e∈za8 lo hi y,e.1*q≤p*e.2)∧∃e∈za8 lo hi y,p*e.2≤e.1*q:=by
  rw[← lowI,← hiI]
  exact⟨λh=>⟨h.1 a rfl,h.2 b rfl⟩,λh=>⟨λc e=>by cases e; exact h.1,λc e=>by cases e; exact h.2⟩⟩
 rw[pc]
 unfold za8 Ans
 simp only[Vad,Vas,or_false,exists_eq_or_imp,exists_eq_left]
 rcases out with o | o
 ·have n1:∀t,nrm t y.1=(t,y.1):=λt=>if_pos (by omega)
  have n2:∀t,nrm t y.2=(t,y.2):=λt=>if_pos (by omega)
  rw[n1,n2,n1,n2]
  dsimp only
  omega
 ·have n1:∀t,nrm t y.1=(-t,-y.1):=λt=>if_neg (by omega)
  have n2:∀t,nrm t y.2=(-t,-y.2):=λt=>if_neg (by omega)
  rw[n1,n2,n1,n2]
  dsimp only
  simp only[Vah,VaW]
  omega
abbrev abI (i:Int):Int:=if i<0 then -i else i
def zaY (lo hi:Int):Int:=if hi<0 then hi else lo
def pcB (e b:Int):Option (Int×Int)×Option (Int×Int):=if decide (e > 0)=decide (b > 0) then (some (abI e,abI b),none) else (none,some (-abI e,abI b))
theorem zsv {lo hi e b:Int}{x:Int×Int}(hx:x.1≤x.2)(hb:b≠0)(he:e≠0):zbQ x (λp q=>if e > 0 then e*q≤p*b else p*b≤e*q) (kpS x (pcB e b).1 (pcB e b).2):=by
 have ab:0<abI b:=by unfold abI; split <;> omega
 by_cases c:decide (e > 0)=decide (b > 0)
 ·rw[show pcB e b=(some (abI e,abI b),none) from if_pos c]
  refine(zoo (l:=some (abI e,abI b)) (h:=none) hx (λa z=>by cases z; exact ab) (λb z=>(by cases z)) (λa b _ z=>(by cases z))).mono λp q hq=>?_
  have pc:PcV (some (abI e,abI b)) none p q↔abI e*q≤p*abI b:=⟨λh=>h.1 _ rfl,λh=>⟨λa z=>by cases z; exact h,λb z=>(by cases z)⟩⟩
  rw[pc]
  by_cases e0:e > 0
  ·have b0:b > 0:=by
    rw[decide_eq_true e0] at c
    exact of_decide_eq_true c.symm
   have q1:abI e=e:=if_neg (by omega)
   have q2:abI b=b:=if_neg (by omega)
   rw[if_pos e0,q1,q2]
  ·have b0:¬ b > 0:=by
    rw[decide_eq_false e0] at c
    exact of_decide_eq_false c.symm
   have q1:abI e=-e:=if_pos (by omega)
   have q2:abI b=-b:=if_pos (by omega)
   rw[if_neg e0,q1,q2,Vah,VaW]
   omega
 ·rw[show pcB e b=(none,some (-abI e,abI b)) from if_neg c]
  refine(zoo (l:=none) (h:=some (-abI e,abI b)) hx (λa z=>(by cases z)) (λb z=>by cases z; exact ab) (λa b z=>(by cases z))).mono λp q hq=>?_
  have pc:PcV none (some (-abI e,abI b)) p q↔p*abI b≤-abI e*q:=⟨λh=>h.2 _ rfl,λh=>⟨λa z=>(by cases z),λb z=>by cases z; exact h⟩⟩
  rw[pc]
  by_cases e0:e > 0
  ·have b0:¬ b > 0:=λz=>c (by rw[decide_eq_true e0,decide_eq_true z])
   have q1:abI e=e:=if_neg (by omega)
   have q2:abI b=-b:=if_pos (by omega)
   rw[if_pos e0,q1,q2,Vah,VaW]
   omega
  ·have b0:b > 0:=by
    by_cases z:b > 0
    ·exact z
    ·exact absurd (by rw[decide_eq_false e0,decide_eq_false z]) c
   have q1:abI e=-e:=if_pos (by omega)
   have q2:abI b=b:=if_neg (by omega)
   rw[if_neg e0,q1,q2,Va1]
def qtB (e:Int)(x:Int×Int)(b:Int):Option (Int×Int):=if b=0 then none else kpS x (pcB e b).1 (pcB e b).2
theorem zu5 {lo hi:Int}{x y:Int×Int}(hx:x.1≤x.2)(hz:lo≤hi)(y0:y.1≤0)(y1:0≤y.2)(nz:lo > 0∨hi<0):zbQ x (Ans lo hi y.1 y.2) (joS (qtB (zaY lo hi) x y.1) (qtB (zaY lo hi) x y.2)):=by
 have he:zaY lo hi≠0:=by unfold zaY; split <;> omega
 have one:∀b,zbQ x (λp q=>b≠0∧if zaY lo hi > 0 then zaY lo hi*q≤p*b else p*b≤zaY lo hi*q) (qtB (zaY lo hi) x b):=λb=>by
  by_cases c:b=0
  ·rw[show qtB (zaY lo hi) x b=none from if_pos c]
   exact⟨λ_ p q _ _ _ v=>v.1 c,λr e=>(by cases e)⟩
  ·rw[show qtB (zaY lo hi) x b=kpS x (pcB (zaY lo hi) b).1 (pcB (zaY lo hi) b).2 from if_neg c]
   exact(zsv (lo:=lo) (hi:=hi) hx c he).mono λp q _=>⟨λh=>⟨c,h⟩,λh=>h.2⟩
 refine((one y.1).or (one y.2)).mono λp q hq=>?_
 have m:p*y.1≤0∨p*y.2≤0:=by
  by_cases c:0≤p
  ·exact .inl (Int.mul_nonpos_of_nonneg_of_nonpos c y0)
  ·exact .inr (Int.mul_nonpos_of_nonpos_of_nonneg (by omega) y1)
 have n:0≤p*y.1∨0≤p*y.2:=by
  by_cases c:0≤p
  ·exact .inr (Var c y1)
  ·exact .inl (Int.mul_nonneg_of_nonpos_of_nonpos (by omega) y0)
 have hlq:lo*q≤hi*q:=mlr hz (Vag hq)
 unfold Ans
 rcases nz with c | c
 ·have ee:zaY lo hi=lo:=if_neg (by omega)
  have lp:=Int.mul_pos c hq
  rw[ee,if_pos c,if_pos c]
  have k1:lo*q≤p*y.1→y.1≠0:=λh e=>by rw[e] at h; omega
  have k2:lo*q≤p*y.2→y.2≠0:=λh e=>by rw[e] at h; omega
  omega
 ·have ee:zaY lo hi=hi:=if_pos c
  have hp:hi*q<0:=Int.mul_neg_of_neg_of_pos c hq
  rw[ee,if_neg (by omega),if_neg (by omega)]
  have k1:p*y.1≤hi*q→y.1≠0:=λh e=>by rw[e] at h; omega
  have k2:p*y.2≤hi*q→y.2≠0:=λh e=>by rw[e] at h; omega
  omega
theorem zxA {z x y:Int×Int}{g:Int}(hz:z.1≤z.2)(hx:x.1≤x.2)(hy:y.1≤y.2)(hg:1≤g)(y0:y.1≤0)(y1:0≤y.2)(nz:¬ (z.1≤0∧0≤z.2)):joS (qtB (zaY (z.1*g) (z.2*g)) x y.1) (qtB (zaY (z.1*g) (z.2*g)) x y.2)=btS z x y g:=by
 refine(zu5 hx (mlr hz (by omega)) y0 y1 ?_).same (zqF hz hx hy hg)
 by_cases c:z.1 > 0
 ·exact .inl (Int.mul_pos c (by omega))
 ·exact .inr (Int.mul_neg_of_neg_of_pos (by omega) (by omega))
theorem zto {z x y a b:Int×Int}{g:Int}(hz:z.1≤z.2)(hx:x.1≤x.2)(hy:y.1≤y.2)(hg:1≤g)(out:y.1 > 0∨y.2<0)(ha:zog (za8 (z.1*g) (z.2*g) y) a)(hb:znC (za8 (z.1*g) (z.2*g) y) b):kpS x (some a) (some b)=btS z x y g:=by
 obtain⟨a0,b0,ab,iff⟩:=zyu (mlr hz (by omega)) hy out ha hb
 exact((zoo hx (λc e=>by cases e; exact a0) (λc e=>by cases e; exact b0) (λc d e f=>by cases e; cases f; exact ab)).mono iff).same (zqF hz hx hy hg)
theorem zol (N:Int)(n:Nat):(rt0 N n).1=rbS N n:=by
 unfold rt0
 split <;> rfl
theorem zo8 (N:Int)(n:Nat):(rt0 N n).2=if (rbS N n)^n=N then rbS N n else rbS N n+1:=by
 unfold rt0
 split <;> rfl
theorem zk2 {N:Int}{n:Nat}(hn:1≤n)(h0:0≤N):0≤rbS N n∧(rbS N n)^n≤N∧N<(rbS N n+1)^n:=by
 obtain⟨r,r0,r1,r2⟩:=znz hn h0
 rw[← zex r0 r1 r2]
 exact⟨r0,r1,r2⟩
theorem ztu {N r m:Int}{n:Nat}(hn:1≤n)(h0:0≤N)(r0:0≤r)(rm:r≤m)(r1:r^n≤N)(r2:r=m∨N<(r+1)^n):r=if rbS N n<m then rbS N n else m:=by
 obtain⟨b0,b1,b2⟩:=zk2 hn h0
 have le:r≤rbS N n:=by
  have:=plt (n:=n) (show 0≤rbS N n+1 by omega) (Int.lt_of_le_of_lt r1 b2)
  omega
 rcases r2 with e | e
 ·subst e
  rw[if_neg (by omega)]
 ·have:=zex r0 r1 e
  rw[← this]
  split <;> omega
noncomputable def dnS (N:Int)(n:Nat)(m:Int):Int:=if N≥0 then (if rbS N n<m then rbS N n else m) else -(if (rt0 (-N) n).2<m+1 then (rt0 (-N) n).2 else m+1)
theorem ztW {N m r:Int}{n:Nat}(hn:1≤n)(hN:N<0)(m0:0≤m)(er:r=if rbS (-N) n<m then rbS (-N) n else m):(if r^n < -N then -(r+1) else -r)=dnS N n m:=by
 obtain⟨b0,b1,b2⟩:=zk2 (N:=-N) hn (by omega)
 have h2:=zo8 (-N) n
 have ed:dnS N n m=-(if (rt0 (-N) n).2<m+1 then (rt0 (-N) n).2 else m+1):=if_neg (by omega)
 rw[ed,h2]
 clear ed h2
 by_cases c:rbS (-N) n<m
 ·rw[if_pos c] at er
  subst er
  by_cases d:(rbS (-N) n)^n=-N
  ·rw[if_pos d,if_neg (show ¬ (rbS (-N) n)^n < -N by omega),if_pos (show rbS (-N) n<m+1 by omega)]
  ·rw[if_neg d,if_pos (show (rbS (-N) n)^n < -N by omega)]
   split <;> omega
 ·rw[if_neg c] at er
  subst er
  by_cases e:rbS (-N) n=r
  ·rw[e] at b1 b2 ⊢
   by_cases d:r^n=-N
   ·rw[if_pos d,if_neg (show ¬ r^n < -N by omega),if_pos (show r<r+1 by omega)]
   ·rw[if_neg d,if_pos (show r^n < -N by omega)]
    split <;> omega
  ·have lt:r^n < -N:=by
    have:=ze5 (n:=n) m0 (show r<rbS (-N) n by omega) hn
    omega
   rw[if_pos lt]
   split <;> split <;> omega
noncomputable def rkS (x:Int×Int)(lo hi:Int)(n:Nat)(m:Int):Option (Int×Int):=if -dnS (-lo) n m > x.2∨dnS hi n m<x.1 then none else some (if dnS lo n m > x.1 then dnS lo n m else x.1,if -dnS (-hi) n m<x.2 then -dnS (-hi) n m else x.2)
theorem clA {C m:Int}(h:0≤C)(hm:1≤m):-(if C<m+1 then C else m+1)=if -C < -(m+1) then -(m+1) else if -C<m then -C else m:=by
 split <;> split <;> (try split) <;> omega
theorem clB {R m:Int}(h:0≤R)(hm:1≤m):-(if R<m then R else m)=if -R < -m then -m else if -R<m+1 then -R else m+1:=by
 split <;> split <;> (try split) <;> omega
theorem clC {R m:Int}(h:0≤R)(hm:1≤m):(if R<m then R else m)=if R < -(m+1) then -(m+1) else if R<m then R else m:=by
 rw[if_neg (show ¬ R < -(m+1) by omega)]
theorem clD {C m:Int}(h:0≤C)(hm:1≤m):-(-(if C<m+1 then C else m+1))=if C < -m then -m else if C<m+1 then C else m+1:=by
 rw[Va1,if_neg (show ¬ C < -m by omega)]
theorem zqp {N:Int}{n:Nat}(hn:1≤n)(h0:0≤N):0≤(rt0 N n).1∧(rt0 N n).1≤(rt0 N n).2∧(rt0 N n).2≤(rt0 N n).1+1:=by
 have b0:=(zk2 hn h0).1
 rw[zol,zo8]
 split <;> omega
theorem zna {N m:Int}{n:Nat}(h:0≤N):dnS N n m=if (rt0 N n).1<m then (rt0 N n).1 else m:=by
 rw[zol]
 exact if_pos h
theorem zp6 {N m:Int}{n:Nat}(h:N<0):dnS N n m=-(if (rt0 (-N) n).2<m+1 then (rt0 (-N) n).2 else m+1):=if_neg (by omega)
theorem zxB {n:Nat}{m:Int}(hn:1≤n)(hm:1≤m)(N:Int):∃a b:Int,rtS N n=(a,b)∧a≤b∧b≤a+1∧dnS N n m=(if a < -(m+1) then -(m+1) else if a<m then a else m)∧-dnS (-N) n m=(if b < -m then -m else if b<m+1 then b else m+1):=by
 rcases Int.lt_trichotomy N 0 with c | c | c
 ·have t:=zqp (N:=-N) hn (by omega)
  refine⟨-(rt0 (-N) n).2,-(rt0 (-N) n).1,if_pos c,by omega,by omega,?_,?_⟩
  ·rw[zp6 c]
   exact clA (by omega) hm
  ·rw[zna (by omega)]
   exact clB t.1 hm
 ·subst c
  have r0:rbS 0 n=0:=(zex (VaE 0) (by rw[zeI hn]; omega) (by rw[Int.zero_add,Int.one_pow]; decide)).symm
  have f:(rt0 0 n).1=0:=by rw[zol,r0]
  have g:(rt0 0 n).2=0:=by rw[zo8,r0,if_pos (zeI hn)]
  refine⟨(rt0 0 n).1,(rt0 0 n).2,if_neg (by omega),by omega,by omega,?_,?_⟩
  ·rw[zna (by omega),f]
   exact clC (by omega) hm
  ·rw[show -(0:Int)=0 from rfl,zna (by omega),f,g,if_pos (by omega),if_neg (by omega),if_pos (by omega)]
   rfl
 ·have t:=zqp (N:=N) hn (by omega)
  refine⟨(rt0 N n).1,(rt0 N n).2,if_neg (by omega),by omega,by omega,?_,?_⟩
  ·rw[zna (by omega)]
   exact clC t.1 hm
  ·rw[zp6 (by omega),Va1 N]
   exact clD (by omega) hm
theorem rk_eq {x:Int×Int}{lo hi m:Int}{n:Nat}(hn:1≤n)(hx:x.1≤x.2)(m1:x.1.natAbs+1≤m)(m2:x.2.natAbs+1≤m):rkS x lo hi n m=ptB x (rtS lo n) (rtS hi n):=by
 have key:=zxB (n:=n) (m:=m) hn (by omega)
 obtain⟨a,b,e1,o1,o2,d1,d2⟩:=key lo
 obtain⟨c,d,e2,o3,o4,d3,d4⟩:=key hi
 unfold rkS ptB
 rw[e1,e2,d1,d2,d3,d4]
 dsimp only
 by_cases c1:b > x.2
 ·rw[if_pos c1,if_pos (.inl (by split <;> (try split) <;> omega))]
 ·rw[if_neg c1]
  by_cases c2:c<x.1
  ·rw[if_pos c2,if_pos (.inr (by split <;> (try split) <;> omega))]
  ·rw[if_neg c2,if_neg (by
    rintro(z | z)
    ·revert z
     split <;> (try split) <;> omega
    ·revert z
     split <;> (try split) <;> omega)]
   congr 1
   refine Prod.ext ?_ ?_
   ·dsimp only
    split <;> split <;> (try split) <;> (try split) <;> omega
   ·dsimp only
    split <;> split <;> (try split) <;> (try split) <;> omega
theorem zxp {x l h:Int×Int}:(ptB (-x.2,-x.1) l h).map (λr=>(-r.2,-r.1))=ptB x (-h.2,-h.1) (-l.2,-l.1):=by
 unfold ptB
 dsimp only
 by_cases c1:l.2 > -x.1
 ·rw[if_pos c1]
  by_cases d:-h.1 > x.2
  ·rw[if_pos d]; rfl
  ·rw[if_neg d,if_pos (show -l.2<x.1 by omega)]; rfl
 ·rw[if_neg c1]
  by_cases c2:h.1 < -x.2
  ·rw[if_pos c2,if_pos (show -h.1 > x.2 by omega)]; rfl
  ·rw[if_neg c2,if_neg (show ¬ -h.1 > x.2 by omega),if_neg (show ¬ -l.2<x.1 by omega)]
   show some _=some _
   congr 1
   refine Prod.ext ?_ ?_
   ·dsimp only
    split <;> split <;> omega
   ·dsimp only
    split <;> split <;> omega
noncomputable def zmb (o:Option (Int×Int)):Option (Int×Int):=o.map λr=>(-r.2,-r.1)
def opD:Option (Int×Int)→D
 | none=>.non
 | some p=>frD p
def pcD (p:Option (Int×Int)×Option (Int×Int)):D:=.tup [opD p.1,opD p.2]
theorem zoa {lo hi:Int}{y:Int×Int}(hy:y.1≤y.2)(out:y.1 > 0∨y.2<0):∀e∈za8 lo hi y,0<e.2:=λe he=>by
 unfold za8 nrm at he
 simp only[Vad,Vas,or_false] at he
 rcases he with rfl | rfl | rfl | rfl <;> split <;> dsimp only <;> omega
theorem zpp {lo hi y0 y1:Int}{i j:Nat}{t b:Int}(h1:([lo,hi]:List Int)[i]?=some t)(h2:([y0,y1]:List Int)[j]?=some b):(za8 lo hi (y0,y1))[2*i+j]?=some (nrm t b):=by
 rcases i with _ | _ | i
 ·cases h1
  rcases j with _ | _ | j
  ·cases h2; rfl
  ·cases h2; rfl
  ·simp at h2
 ·cases h1
  rcases j with _ | _ | j
  ·cases h2; rfl
  ·cases h2; rfl
  ·simp at h2
 ·simp at h1
theorem zqq {c:Prop} [Decidable c] {t b:Int}{K:DK}{S:Sto}(hc:c=(b > 0))(hK:K (frD (nrm t b)) S):if decide c=true then K (.tup [.int t,.int b]) S else K (.tup [.int (-t),.int (-b)]) S:=by
 subst hc
 unfold nrm at hK
 by_cases z:b > 0
 ·rw[if_pos z] at hK
  rw[decide_eq_true z]
  exact hK
 ·rw[if_neg z] at hK
  rw[decide_eq_false z]
  exact hK
theorem zqR {es:List (Int×Int)}{i:Nat}{a e:Int×Int}(pos:∀e∈es,0<e.2)(he:es[i]?=some e)(ha:a∈es)(hl:∀x∈es.take i,a.1*x.2≤x.1*a.2):(e.1*a.2<a.1*e.2→∀x∈es.take (i+1),e.1*x.2≤x.1*e.2)∧(¬ e.1*a.2<a.1*e.2→∀x∈es.take (i+1),a.1*x.2≤x.1*a.2):=by
 have em:=Vak he
 refine⟨λc x hx=>?_,λc x hx=>?_⟩
 ·rw[zbG he] at hx
  rcases VaI.mp hx with z | z
  ·exact zqP (pos x (List.mem_of_mem_take z)) (pos e em) (pos a ha) (Vag c) (hl x z)
  ·cases VaA.mp z
   exact VaE _
 ·rw[zbG he] at hx
  rcases VaI.mp hx with z | z
  ·exact hl x z
  ·cases VaA.mp z
   omega
theorem zqs {es:List (Int×Int)}{i:Nat}{a e:Int×Int}(pos:∀e∈es,0<e.2)(he:es[i]?=some e)(ha:a∈es)(hl:∀x∈es.take i,x.1*a.2≤a.1*x.2):(e.1*a.2 > a.1*e.2→∀x∈es.take (i+1),x.1*e.2≤e.1*x.2)∧(¬ e.1*a.2 > a.1*e.2→∀x∈es.take (i+1),x.1*a.2≤a.1*x.2):=by
 have em:=Vak he
 refine⟨λc x hx=>?_,λc x hx=>?_⟩
 ·rw[zbG he] at hx
  rcases VaI.mp hx with z | z
  ·exact zps (pos x (List.mem_of_mem_take z)) (pos e em) (pos a ha) (Vag c) (hl x z)
  ·cases VaA.mp z
   exact VaE _
 ·rw[zbG he] at hx
  rcases VaI.mp hx with z | z
  ·exact hl x z
  ·cases VaA.mp z
   omega
def pcl (e:Int)(bs:List Int):List (Option (Int×Int)×Option (Int×Int)):=bs.flatMap λb=>if b=0 then [] else [pcB e b]
theorem znf (e:Int)(bs:List Int)(b:Int):pcl e (bs++[b])=pcl e bs++if b=0 then [] else [pcB e b]:=by
 unfold pcl
 rw[List.flatMap_append]
 simp
def zmg (lo hi:Int)(y:Int×Int)(ps:List (Option (Int×Int)×Option (Int×Int))):Prop:=
 ((y.1 > 0∨y.2<0)∧∃a b,zog (za8 lo hi y) a∧znC (za8 lo hi y) b∧ps=[(some a,some b)])∨(y.1≤0∧0≤y.2)∧ps=(if y.1=0 then [] else [pcB (zaY lo hi) y.1])++if y.2=0 then [] else [pcB (zaY lo hi) y.2]
theorem ztq {a b c d:TDS}{E:zcE}{dl:Ev}{S:Sto}(W:Ev→Sto→Prop)(ha:∀nx:Ev→Sto→Prop,(∀dl' S',W dl' S'→nx dl' S')→zcF a (zcF b c) { nx:=nx,rt:=E.rt,bk:=E.bk,ct:=E.ct } dl S)(hb:∀dl' S',W dl' S'→d E dl' S'):zcF a (zcF b (zcF c d)) E dl S:=ha _ hb
theorem ztl {caps:List Nat}{tl te:TDE}{tc:TDT}{dl:Ev}{S S1:Sto}{Q:DK}{n:Nat}{o:Ob}(p:D→Bool)(f:D→D)(htl:∀K:DK,K (.ref n) S1→tl dl S K)(h1:S1[n]?=some o)(hl:(zat o).length≤1000)
  (hc:∀x∈zat o,∀(S2:Sto) (K:Bool→Sto→Prop),Pre S1 S2→K (p x) S2→tc (some x::zcu caps dl) S2 K)(ht:∀x∈zat o,p x=true→∀(S2:Sto) (K:DK),Pre S1 S2→K (f x) S2→te (some x::zcu caps dl) S2 K)
  (hq:Q (.ref S1.length) (S1++[.lst (((zat o).filter p).map f)]))(hL:zb3 o=some o:=by rfl):zb2 caps tl tc te dl S Q:=by
 unfold zb2
 refine htl _ ⟨by rw[za9 h1 hL]; rfl,λk m S2=>S2=S1++[.lst ((((zat o).take k).filter p).map f)]∧m+k=(zat o).length,⟨(zat o).length,by simp,by omega⟩,?_⟩
 rintro k m S2 ⟨rfl,hm⟩
 rw[za9 (zjn h1) hL]
 dsimp only
 split
 ·rename_i x hx
  have hk:k<(zat o).length:=(Vac.mp hx).1
  have hxm:=Vak hx
  have e:(zat o).take (k+1)=(zat o).take k++[x]:=by rw[List.take_succ,hx]; rfl
  unfold zdl
  refine hc x hxm _ _ Pre.refl.push ?_
  by_cases b:p x=true
  ·rw[if_pos b]
   refine ht x hxm b _ _ Pre.refl.push ?_
   rw[zaC]
   refine⟨?_,m-1,by omega,?_,by omega⟩
   ·have z1:=List.length_filter_le p ((zat o).take k)
    rw[Vau] at z1
    rw[Vaa]
    omega
   ·rw[e,List.filter_append,List.filter_cons_of_pos b,List.filter_nil,Vaz,List.set_append_right _ _ (Vab _)]
    simp
  ·rw[if_neg b]
   refine⟨m-1,by omega,?_,by omega⟩
   rw[e,List.filter_append,List.filter_cons_of_neg b,List.filter_nil,VaS]
 ·rename_i hx
  have hk:(zat o).length≤k:=VaC.mp hx
  rw[List.take_of_length_le hk]
  exact hq
def hlS:List (Option (Int×Int))→Option (Int×Int)
 | []=>none
 | o::r=>joS o (hlS r)
def zfp:D→Bool
 | .non=>false
 | _=>true
theorem zie (o:Option (Int×Int)):joS o none=o:=by cases o <;> rfl
theorem zoz:∀os:List (Option (Int×Int)),(os.map opD).filter zfp=(os.filterMap id).map frD
 | []=>rfl
 | none::r=>by
  show (opD none::r.map opD).filter zfp=_
  rw[List.filter_cons_of_neg (show ¬ zfp (opD none)=true by decide)]
  exact zoz r
 | some p::r=>by
  show (frD p::r.map opD).filter zfp=frD p::(r.filterMap id).map frD
  rw[List.filter_cons_of_pos (show zfp (frD p)=true from rfl),zoz r]
theorem zoq:∀os:List (Option (Int×Int)),(os.filterMap id=[]→hlS os=none)∧(os.filterMap id≠[]→∃L U,hlS os=some (L,U)∧L∈(os.filterMap id).map (·.1)∧(∀y∈(os.filterMap id).map (·.1),L≤y)∧U∈(os.filterMap id).map (·.2)∧∀y∈(os.filterMap id).map (·.2),y≤U)
 | []=>⟨λ_=>rfl,λh=>absurd rfl h⟩
 | none::r=>zoq r
 | some p::r=>by
  refine⟨λh=>by simp at h,λ_=>?_⟩
  have ih:=zoq r
  show ∃L U,joS (some p) (hlS r)=some (L,U)∧_
  have ef:(some p::r).filterMap id=p::r.filterMap id:=rfl
  rw[ef]
  by_cases c:r.filterMap id=[]
  ·rw[ih.1 c,c]
   refine⟨p.1,p.2,rfl,by simp,λy hy=>?_,by simp,λy hy=>?_⟩
   ·have:y=p.1:=by simpa using hy
    omega
   ·have:y=p.2:=by simpa using hy
    omega
  ·obtain⟨L,U,e,l1,l2,u1,u2⟩:=ih.2 c
   rw[e]
   refine⟨if L<p.1 then L else p.1,if U > p.2 then U else p.2,rfl,?_,λy hy=>?_,?_,λy hy=>?_⟩
   ·rw[Vam]
    split
    ·exact .tail _ l1
    ·exact .head _
   ·rw[Vam] at hy
    rcases Vad.mp hy with z | z
    ·split <;> omega
    ·have:=l2 y z
     split <;> omega
   ·rw[Vam]
    split
    ·exact .tail _ u1
    ·exact .head _
   ·rw[Vam] at hy
    rcases Vad.mp hy with z | z
    ·split <;> omega
    ·have:=u2 y z
     split <;> omega
theorem zvd {caps:List Nat}{tl te:TDE}{tc:TDT}{dl:Ev}{S:Sto}{Q:DK}(P:Sto→Nat→Prop)(htl:∀K:DK,(∀T m,P T m→K (.ref m) T)→tl dl S K)(h:∀T m,P T m→∀tl':TDE,(∀K:DK,K (.ref m) T→tl' dl S K)→zb2 caps tl' tc te dl S Q):zb2 caps tl tc te dl S Q:=by
 unfold zb2
 refine htl _ λT m p=>?_
 have z:=h T m p (λ_ _ K=>K (.ref m) T) λK hK=>hK
 unfold zb2 at z
 exact z
theorem zuA {lo hi:Int}{y:Int×Int}{ps:List (Option (Int×Int)×Option (Int×Int))}(hy:y.1≤y.2)(s3:Sz 1100 y.1)(s4:Sz 1100 y.2)(h:zmg lo hi y ps):ps.length≤2∧∀pc∈ps,(∀a,pc.1=some a→0<a.2∧Sz 1100 a.2)∧∀b,pc.2=some b→0<b.2∧Sz 1100 b.2:=by
 have ab:∀b:Int,b≠0→Sz 1100 b→0<abI b∧Sz 1100 (abI b):=λb b0 sb=>by
  unfold abI
  split
  ·exact⟨by omega,sb.neg⟩
  ·exact⟨by omega,sb⟩
 have one:∀e b:Int,b≠0→Sz 1100 b→(∀a,(pcB e b).1=some a→0<a.2∧Sz 1100 a.2)∧∀a,(pcB e b).2=some a→0<a.2∧Sz 1100 a.2:=λe b b0 sb=>by
  unfold pcB
  split
  ·exact⟨λa z=>by cases z; exact ab b b0 sb,λa z=>(by cases z)⟩
  ·exact⟨λa z=>(by cases z),λa z=>by cases z; exact ab b b0 sb⟩
 rcases h with ⟨out,a,b,ha,hb,rfl⟩ | ⟨_,rfl⟩
 ·have pos:=zoa (lo:=lo) (hi:=hi) hy out
  have sz:∀e∈za8 lo hi y,Sz 1100 e.2:=λe he=>by
   unfold za8 nrm at he
   simp only[Vad,Vas,or_false] at he
   rcases he with rfl | rfl | rfl | rfl <;> split <;> first | exact s3 | exact s3.neg | exact s4 | exact s4.neg
  refine⟨by simp,λpc hp=>?_⟩
  cases VaA.mp hp
  exact⟨λc z=>by cases z; exact⟨pos _ ha.1,sz _ ha.1⟩,λc z=>by cases z; exact⟨pos _ hb.1,sz _ hb.1⟩⟩
 ·refine⟨by split <;> split <;> simp,λpc hp=>?_⟩
  rcases VaI.mp hp with z | z
  ·split at z
   ·cases z
   ·rename_i c
    cases VaA.mp z
    exact one _ _ c s3
  ·split at z
   ·cases z
   ·rename_i c
    cases VaA.mp z
    exact one _ _ c s4
theorem zx8 {z x y:Int×Int}{g:Int}{ps:List (Option (Int×Int)×Option (Int×Int))}(hz:z.1≤z.2)(hx:x.1≤x.2)(hy:y.1≤y.2)(hg:1≤g)(nb:¬ ((y.1≤0∧0≤y.2)∧z.1≤0∧0≤z.2))(h:zmg (z.1*g) (z.2*g) y ps):hlS (ps.map λpc=>kpS x pc.1 pc.2)=btS z x y g:=by
 rcases h with ⟨out,a,b,ha,hb,rfl⟩ | ⟨yy,rfl⟩
 ·show joS (kpS x (some a) (some b)) none=_
  rw[zie]
  exact zto hz hx hy hg out ha hb
 ·rw[← zxA hz hx hy hg yy.1 yy.2 (λq=>nb ⟨yy,q⟩)]
  unfold qtB
  by_cases c1:y.1=0
  ·rw[if_pos c1,if_pos c1]
   by_cases c2:y.2=0
   ·rw[if_pos c2,if_pos c2]
    rfl
   ·rw[if_neg c2,if_neg c2]
    exact zie _
  ·rw[if_neg c1,if_neg c1]
   by_cases c2:y.2=0
   ·rw[if_pos c2,if_pos c2]
    rfl
   ·rw[if_neg c2,if_neg c2]
    show joS _ (joS _ none)=_
    rw[zie]
theorem znu:∀xs:List Int,zcV (xs.map D.int)=some xs
 | []=>rfl
 | x::xs=>by
  have ih:=znu xs
  simp only[Vam,zcV,ih] at *
  first | rfl | simp
theorem zt5 {cs:List Int}{i:Int}(h:inR cs.length i):atI (cs.map D.int) i=some (.int (cs.getD i.toNat 0)):=by
 obtain⟨h0,h1⟩:=h
 have hk:i.toNat<cs.length:=by omega
 have z:=zdH (xs:=cs.map D.int) (j:=i.toNat) (v:=.int (cs.getD i.toNat 0)) (by rw[Vae,Vaj hk]; simp[hk])
 rw[show ((i.toNat:Nat):Int)=i by omega] at z
 exact z
theorem nn_of {xs:List D}(h:∀(k:Nat) (d:D),xs[k]?=some d→∃c:Int,d=.int c∧0≤c):∃cs:List Int,xs=cs.map D.int∧∀c∈cs,0≤c:=by
 induction xs with
 | nil=>exact⟨[],rfl,λc hc=>nomatch hc⟩
 | cons x xs ih=>
  obtain⟨c,rfl,hc⟩:=h 0 x rfl
  obtain⟨cs,rfl,hcs⟩:=ih λk d hd=>h (k+1) d hd
  exact⟨c::cs,rfl,λz hz=>by
   rcases Vad.mp hz with e | e
   ·subst e; exact hc
   ·exact hcs z e⟩
theorem zph {cs:List Int}(h:∀c∈cs,0≤c)(i:Nat):0≤cs.getD i 0:=by
 rw[Vaw]
 cases e:cs[i]? with
 | none=>exact VaE _
 | some c=>exact h c (Vak e)
theorem zs4 {xs:List D}{lo hi:Option Int}{x:D}(h:x∈zbv xs lo hi):x∈xs:=by
 unfold L3.zbv at h
 exact List.mem_of_mem_drop (List.mem_of_mem_take h)
def hfS (z x y:Int×Int)(g:Int)(first:Bool):Nd→Option (Int×Int)
 | .plus _ _=>zaT x (z.1-y.2,z.2-y.1)
 | .times _ _=>btS z x y g
 | _=>if first then zaT x (z.1+y.1,z.2+y.2) else zaT x (y.1-z.2,y.2-z.1)
def zox:Nd→Prop
 | .plus _ _=>True
 | .minus _ _=>True
 | .times _ _=>True
 | _=>False
def Nd.ij:Nd→Int×Int
 | .plus i j=>(i,j)
 | .minus i j=>(i,j)
 | .times i j=>(i,j)
 | _=>(0,0)
theorem znx {v:Nd}{vs:List (Int×Int)}{z:Int×Int}{g:Int}(h:zox v):v.bk vs z g=bk2 v.ij.1 v.ij.2 (hfS z (gt vs v.ij.1) (gt vs v.ij.2) g true v) λx=>hfS z (if v.ij.1=v.ij.2 then x else gt vs v.ij.2) x g false v:=by
 cases v with
 | plus i j=>rfl
 | minus i j=>rfl
 | times i j=>rfl
 | number _ _=>exact h.elim
 | unknown _=>exact h.elim
 | power _ _=>exact h.elim
theorem znR {v:Nd}{z x y:Int×Int}{g:Int}{b:Bool}(h:zox v)(hz:z.1≤z.2)(hx:x.1≤x.2)(hy:y.1≤y.2)(hg:1≤g):Sub x (hfS z x y g b v):=by
 cases v with
 | plus i j=>exact zem
 | minus i j=>cases b <;> exact zem
 | times i j=>exact zkb hz hx hy hg
 | number _ _=>exact h.elim
 | unknown _=>exact h.elim
 | power _ _=>exact h.elim
theorem zb0 {S T:Sto}(h:Pre S T):S.length≤T.length:=by
 by_cases c:S.length≤T.length
 ·exact c
 ·have e:=h T.length _ (Vaj (by omega))
  have:=(Vac.mp e).1
  omega
theorem zwR {is:List Nat}{n:Nat}{tl:TDE}{tb:TDS}{E:zcE}{dl:Ev}{S:Sto}{xs:List D}(W:Nat→Ev→Sto→Prop)(htl:∀K:DK,K (.ref n) S→tl dl S K)(h0:W 0 dl S)(hk:∀k dl' S',W k dl' S'→S'[n]?=some (.lst xs))(hall:∀(k:Nat) (d:D),xs[k]?=some d→∃ys,d=.tup ys∧ys.length=is.length)
  (ht:∀(k:Nat) (ys:List D) (dl':Ev) (S':Sto) (nx ct:Ev→Sto→Prop),xs[k]?=some (.tup ys)→W k dl' S'→(∀dl2 S2,W (k+1) dl2 S2→nx dl2 S2)→tb { nx:=nx,rt:=E.rt,bk:=E.nx,ct:=ct } (zdv is ys dl') S')(he:∀dl' S',W xs.length dl' S'→E.nx dl' S'):zmn is tl tb E dl S:=by
 unfold zmn
 refine htl _ ⟨by rw[za9 (hk _ _ _ h0) rfl]; rfl,λk m dl' S'=>m+k=xs.length∧W k dl' S',⟨xs.length,by omega,h0⟩,?_⟩
 rintro k m dl' S' ⟨hm,w⟩
 rw[za9 (hk _ _ _ w) rfl]
 dsimp only[zat]
 split
 ·rename_i ys hx
  have l:k<xs.length:=(Vac.mp hx).1
  obtain⟨zs,e1,e2⟩:=hall k _ hx
  cases e1
  exact⟨e2,ht k ys dl' S' _ _ hx w λdl2 S2 w2=>⟨m-1,by omega,by omega,w2⟩⟩
 ·rename_i d hn hx
  obtain⟨zs,e1,_⟩:=hall k _ hx
  exact absurd e1 (hn zs)
 ·rename_i hx
  have l:k=xs.length:=by
   have:=VaC.mp hx
   omega
  exact he dl' S' (l ▸ w)
def zfh (zero:Bool)(s:Int×Int):Int:=if zero then 0 else if s.2 > 0 then s.2 else 0
theorem ztZ (zero:Bool)(s:Int×Int):zaT s (0,zfh zero s)=zc9 zero s:=by
 unfold zc9 zfh
 cases zero with
 | true=>rfl
 | false=>
  have e:(if s.2 > 0 then s.2 else 0)=mx0 s.2:=by
   unfold mx0
   split <;> split <;> omega
  show zaT s (0,if s.2 > 0 then s.2 else 0)=zaT s (0,mx0 s.2)
  rw[e]
theorem zuI {S:Sto}{Q:DK}(hq:Q (.bl false) S):zbY (zdA 1) .non .non S Q:=by
 rw[zcr]
 exact hq
structure zbE (K:PySem.W.Frag)(mg:Str→Option Value) where
 C:Addr
 m:mg "Number"=some (.ref C)
 cl:Cls K C
 n_bottom:zbs K C "bottom"
 n_top:zbs K C "top"
 makes:PySem.W.makesIn K C=true
 kp:PySem.W.keepIn K (.ref C)=true
structure zbH (K:PySem.W.Frag)(mg:Str→Option Value) where
 C:Addr
 m:mg "Unknown"=some (.ref C)
 cl:Cls K C
 n_place:zbs K C "place"
 makes:PySem.W.makesIn K C=true
 kp:PySem.W.keepIn K (.ref C)=true
structure zbx (K:PySem.W.Frag)(mg:Str→Option Value) where
 C:Addr
 m:mg "Plus"=some (.ref C)
 cl:Cls K C
 n_other:zbs K C "other"
 n_one:zbs K C "one"
 makes:PySem.W.makesIn K C=true
 kp:PySem.W.keepIn K (.ref C)=true
structure zbt (K:PySem.W.Frag)(mg:Str→Option Value) where
 C:Addr
 m:mg "Minus"=some (.ref C)
 cl:Cls K C
 n_other:zbs K C "other"
 n_one:zbs K C "one"
 makes:PySem.W.makesIn K C=true
 kp:PySem.W.keepIn K (.ref C)=true
structure zbr (K:PySem.W.Frag)(mg:Str→Option Value) where
 C:Addr
 m:mg "Times"=some (.ref C)
 cl:Cls K C
 n_other:zbs K C "other"
 n_one:zbs K C "one"
 makes:PySem.W.makesIn K C=true
 kp:PySem.W.keepIn K (.ref C)=true
structure zbD (K:PySem.W.Frag)(mg:Str→Option Value) where
 C:Addr
 m:mg "Power"=some (.ref C)
 cl:Cls K C
 n_many:zbs K C "many"
 n_one:zbs K C "one"
 makes:PySem.W.makesIn K C=true
 kp:PySem.W.keepIn K (.ref C)=true
def zhv:Sd:=λds S Q ex=>match ds with
 | [.int _]=>∀g:Int,1≤g→g≤1000000→Q (.int g) S
 | _=>False
theorem zvL:Ln (zhv) 1:=λds S Q ex h=>by unfold zhv at h; split at h <;> first | rfl | exact h.elim
def zgA:Sd:=λds S Q ex=>match ds with
 | [.int a,.int b]=>(0≤a∧0≤b)∧Q (.int ((Int.gcd a b:Nat):Int)) S
 | _=>False
theorem zrI:Ln (zgA) 2:=λds S Q ex h=>by unfold zgA at h; split at h <;> first | rfl | exact h.elim
def zeb:Sd:=λds S Q ex=>match ds with
 | [.int T,.int B]=>(0<B∧Sz 4000 B)∧∀t b:Int,1≤b→Int.gcd t b=1→t*B=T*b→t.natAbs≤T.natAbs→b≤B→Q (.tup [.int t,.int b]) S
 | _=>False
theorem zs0:Ln (zeb) 2:=λds S Q ex h=>by unfold zeb at h; split at h <;> first | rfl | exact h.elim
def zgB:Sd:=λds S Q ex=>match ds with
 | [.int _]=>∀t b:Int,(1≤b∧b≤10^9)→Int.gcd t b=1→t.natAbs≤10^9→Q (.tup [.str "number",.int t,.int b]) S
 | _=>False
theorem zxI:Ln (zgB) 1:=λds S Q ex h=>by unfold zgB at h; split at h <;> first | rfl | exact h.elim
def zgN:Sd:=λds S Q ex=>match ds with
 | [.int _,.int m,.int q]=>(0≤m∧m≤1000∧1≤q∧q≤4)∧∀v:Nd,v.ok m q→Q v.d S
 | _=>False
theorem zyp:Ln (zgN) 3:=λds S Q ex h=>by unfold zgN at h; split at h <;> first | rfl | exact h.elim
def zey:Sd:=λds S Q ex=>match ds with
 | [d,.ref n]=>∃(v:Nd) (ws:List Nat) (q:Int),d=v.d∧S[n]?=some (Ob.lst (ws.map wtD))∧v.ok ws.length q∧(∀i:Int,inR ws.length i→ws.getD i.toNat 0≤16)∧Q (.int (v.wt ws:Nat)) S
 | _=>False
theorem zsT:Ln (zey) 2:=λds S Q ex h=>by unfold zey at h; split at h <;> first | rfl | exact h.elim
def zhH:Sd:=λds S Q ex=>match ds with
 | [.ref c,.int q,.bl _,.int h16,.int most]=>∃(cs:List D) (qn hv:Nat),S[c]?=some (.lst cs)∧(∀x∈cs,∃i:Int,x=.int i)∧q=qn∧(1≤qn∧qn≤4)∧h16=(hv:Int)∧(1≤hv∧hv≤16)∧(1≤most∧most≤60)∧∀(ns:List Nd) (ws:List Nat) (T:Sto) (m:Nat),zaM qn ns ws→Hv hv ws→1≤ns.length→ns.length≤60→Pre S T→S.length≤m→T[m]?=some (.lst (ns.map Nd.d))→Q (.ref m) T
 | _=>False
theorem zvT:Ln (zhH) 5:=λds S Q ex h=>by unfold zhH at h; split at h <;> first | rfl | exact h.elim
def zdi:Sd:=λds S Q ex=>match ds with
 | [.int x,.int n]=>(0≤n∧n≤6∧Sz 2000 x)∧Q (.int (x^n.toNat)) S
 | _=>False
theorem ztN:Ln (zdi) 2:=λds S Q ex h=>by unfold zdi at h; split at h <;> first | rfl | exact h.elim
def zf9:Sd:=λds S Q ex=>match ds with
 | [d,.ref w,.ref p,.int g]=>∃(v:Nd) (vs bs:List (Int×Int)),d=v.d∧S[w]?=some (.lst (vs.map frD))∧S[p]?=some (.lst (bs.map frD))∧v.ok vs.length bs.length∧Spn 1400 vs∧(1≤g∧g≤1000000)∧Q (frD (v.fw vs bs g)) S
 | _=>False
theorem zut:Ln (zf9) 4:=λds S Q ex h=>by unfold zf9 at h; split at h <;> first | rfl | exact h.elim
def zfP:Sd:=λds S Q ex=>match ds with
 | [.ref a,.ref b,.int g]=>∃(ns:List Nd) (ws:List Nat) (bs:List (Int×Int)),S[a]?=some (.lst (ns.map Nd.d))∧S[b]?=some (.lst (bs.map frD))∧zaM bs.length ns ws∧Spn 51 bs∧(1≤g∧g≤1000000)∧ns.length≤70∧∀(T:Sto) (m:Nat),Pre S T→S.length≤m→T[m]?=some (.lst ((zaD bs g ns).map frD))→Q (.ref m) T
 | _=>False
theorem ztE:Ln (zfP) 3:=λds S Q ex h=>by unfold zfP at h; split at h <;> first | rfl | exact h.elim
def zhk:Sd:=λds S Q ex=>match ds with
 | [.ref a,.ref b,.int g,.int f,.int _]=>∃(ns:List Nd) (ws:List Nat) (bs:List (Int×Int)),S[a]?=some (.lst (ns.map Nd.d))∧S[b]?=some (.lst (bs.map frD))∧a≠b∧zaM bs.length ns ws∧Hv 14 ws∧Spn 51 bs∧(1≤g∧g≤1000000)∧1≤ns.length∧ns.length≤60∧∀(T:Sto) (w:Str) (zero:Bool) (k:Nat) (ns':List Nd) (ws':List Nat),rwW zero w→Gr bs.length a 2 S ns ws T ns' ws'→k<ns'.length→Q (.tup [.str w,.int (k:Int)]) T
 | _=>False
theorem ztY:Ln (zhk) 5:=λds S Q ex h=>by unfold zhk at h; split at h <;> first | rfl | exact h.elim
def zf5:Sd:=λds S Q ex=>match ds with
 | [.int c]=>0≤c∧∀lo hi:Int,lo≤hi→lo.natAbs≤10^15→hi.natAbs≤10^15→Q (.tup [.int lo,.int hi]) S
 | _=>False
theorem zwY:Ln (zf5) 1:=λds S Q ex h=>by unfold zf5 at h; split at h <;> first | rfl | exact h.elim
def zgn:Sd:=λds S Q ex=>match ds with
 | [.int c,.int m,.int q]=>(0≤m∧m≤1000∧1≤q∧q≤4∧0≤c)∧∀v:Nd,v.ok m q→Q v.d S
 | _=>False
theorem zul:Ln (zgn) 3:=λds S Q ex h=>by unfold zgn at h; split at h <;> first | rfl | exact h.elim
def zh0:Sd:=λds S Q ex=>match ds with
 | [.ref s]=>∃ns:List Int,s=0∧S=[.frz (ns.map D.int)]∧ns.length≤63∧∀(T:Sto) (g:Int) (k:Nat) (bs:List (Int×Int)) (vs:List Nd) (ws:List Nat) (m1 m2:Nat) (w:Str) (zero:Bool),Pre S T→(1≤g∧g≤1000000)→T[m1]?=some (.lst (bs.map frD))→T[m2]?=some (.lst (vs.map Nd.d))→zaM bs.length vs ws→Spn 51 bs→(1≤bs.length∧bs.length≤4)→vs.length≤70→rwW zero w→k<vs.length→Q (.tup [.int g,.ref m1,.ref m2,.tup [.str w,.int (k:Int)]]) T
 | _=>False
theorem ztL:Ln (zh0) 1:=λds S Q ex h=>by unfold zh0 at h; split at h <;> first | rfl | exact h.elim
def zgG:Sd:=λds S Q ex=>match ds with
 | [.ref n,.int k]=>∃ns:List Int,S[n]?=some (.frz (ns.map D.int))∧0≤k∧Q (.int (ns.getD k.toNat 0)) S
 | _=>False
theorem zwq:Ln (zgG) 2:=λds S Q ex h=>by unfold zgG at h; split at h <;> first | rfl | exact h.elim
def zhi:Sd:=λds S Q ex=>match ds with
 | [.int _]=>∀lo hi:Int,lo≤hi→lo.natAbs≤10^15→hi.natAbs≤10^15→Q (.tup [.int lo,.int hi]) S
 | _=>False
theorem zwz:Ln (zhi) 1:=λds S Q ex h=>by unfold zhi at h; split at h <;> first | rfl | exact h.elim
def zgS:Sd:=λds S Q ex=>match ds with
 | [.ref s]=>∃ns:List Int,s=0∧S=[.frz (ns.map D.int)]∧ns.length≤63∧∀(T:Sto) (g:Int) (k:Nat) (bs:List (Int×Int)) (vs:List Nd) (ws:List Nat) (m1 m2:Nat) (w:Str) (zero:Bool),Pre S T→(1≤g∧g≤1000000)→T[m1]?=some (.lst (bs.map frD))→T[m2]?=some (.lst (vs.map Nd.d))→zaM bs.length vs ws→Spn 51 bs→(1≤bs.length∧bs.length≤4)→vs.length≤70→rwW zero w→k<vs.length→Q (.tup [.int g,.ref m1,.ref m2,.tup [.str w,.int (k:Int)]]) T
 | _=>False
theorem zyj:Ln (zgS) 1:=λds S Q ex h=>by unfold zgS at h; split at h <;> first | rfl | exact h.elim
def zge:Sd:=λds S Q ex=>match ds with
 | [.tup [.int a,.int b],.tup [.int c,.int d]]=>(IntMulOk a d∧IntMulOk c b)∧Q (.bl (decide (a*d<c*b))) S
 | _=>False
theorem zrL:Ln (zge) 2:=λds S Q ex h=>by unfold zge at h; split at h <;> first | rfl | exact h.elim
def zdB:Sd:=λds S Q ex=>match ds with
 | [.int t,.int b]=>CFd 0 b∧Q (.int (-(-t/b))) S
 | _=>False
theorem zue:Ln (zdB) 2:=λds S Q ex h=>by unfold zdB at h; split at h <;> first | rfl | exact h.elim
def zgb:Sd:=λds S Q ex=>match ds with
 | [.tup [.int a,.int b],.tup [.int c,.int d],.int g]=>((IntMulOk c b∧IntMulOk a d)∧¬ c*b<a*d∧IntMulOk a g∧IntMulOk c g∧CFd 0 b∧CFd 0 d)∧Q (.tup [.int (a*g/b),.int (-(-(c*g)/d))]) S
 | _=>False
theorem ztb:Ln (zgb) 3:=λds S Q ex h=>by unfold zgb at h; split at h <;> first | rfl | exact h.elim
def zeL (cNumber:Addr)(cUnknown:Addr)(cPlus:Addr)(cMinus:Addr)(cTimes:Addr)(cPower:Addr):Sd:=λds S Q ex=>match ds with
 | [.ref n,.ref w,.ref p,.int g]=>∃(x y:Int) (vs bs:List (Int×Int)),S[n]?=some (Nd.ob cNumber cUnknown cPlus cMinus cTimes cPower (Nd.number x y))∧S[w]?=some (.lst (vs.map frD))∧S[p]?=some (.lst (bs.map frD))∧Nd.ok vs.length bs.length (Nd.number x y)∧Spn 1400 vs∧(1≤g∧g≤1000000)∧Q (frD (Nd.fw vs bs g (Nd.number x y))) S
 | _=>False
theorem zsZ (cNumber:Addr)(cUnknown:Addr)(cPlus:Addr)(cMinus:Addr)(cTimes:Addr)(cPower:Addr):Ln (zeL cNumber cUnknown cPlus cMinus cTimes cPower) 4:=λds S Q ex h=>by unfold zeL at h; split at h <;> first | rfl | exact h.elim
def zfQ (cNumber:Addr)(cUnknown:Addr)(cPlus:Addr)(cMinus:Addr)(cTimes:Addr)(cPower:Addr):Sd:=λds S Q ex=>match ds with
 | [.ref n,.ref w,.ref p,.int g]=>∃(k:Int) (vs bs:List (Int×Int)),S[n]?=some (Nd.ob cNumber cUnknown cPlus cMinus cTimes cPower (Nd.unknown k))∧S[w]?=some (.lst (vs.map frD))∧S[p]?=some (.lst (bs.map frD))∧Nd.ok vs.length bs.length (Nd.unknown k)∧Spn 1400 vs∧(1≤g∧g≤1000000)∧Q (frD (Nd.fw vs bs g (Nd.unknown k))) S
 | _=>False
theorem zwk (cNumber:Addr)(cUnknown:Addr)(cPlus:Addr)(cMinus:Addr)(cTimes:Addr)(cPower:Addr):Ln (zfQ cNumber cUnknown cPlus cMinus cTimes cPower) 4:=λds S Q ex h=>by unfold zfQ at h; split at h <;> first | rfl | exact h.elim
def zeD:Sd:=λds S Q ex=>match ds with
 | [.tup [.int a,.int b],.tup [.int c,.int d]]=>Q (.tup [.int (a+c),.int (b+d)]) S
 | _=>False
theorem zxK:Ln (zeD) 2:=λds S Q ex h=>by unfold zeD at h; split at h <;> first | rfl | exact h.elim
def zev (cNumber:Addr)(cUnknown:Addr)(cPlus:Addr)(cMinus:Addr)(cTimes:Addr)(cPower:Addr):Sd:=λds S Q ex=>match ds with
 | [.ref n,.ref w,.ref p,.int g]=>∃(i j:Int) (vs bs:List (Int×Int)),S[n]?=some (Nd.ob cNumber cUnknown cPlus cMinus cTimes cPower (Nd.plus i j))∧S[w]?=some (.lst (vs.map frD))∧S[p]?=some (.lst (bs.map frD))∧Nd.ok vs.length bs.length (Nd.plus i j)∧Spn 1400 vs∧(1≤g∧g≤1000000)∧Q (frD (Nd.fw vs bs g (Nd.plus i j))) S
 | _=>False
theorem ztw (cNumber:Addr)(cUnknown:Addr)(cPlus:Addr)(cMinus:Addr)(cTimes:Addr)(cPower:Addr):Ln (zev cNumber cUnknown cPlus cMinus cTimes cPower) 4:=λds S Q ex h=>by unfold zev at h; split at h <;> first | rfl | exact h.elim
def zdD:Sd:=λds S Q ex=>match ds with
 | [.tup [.int a,.int b],.tup [.int c,.int d]]=>Q (.tup [.int (a-d),.int (b-c)]) S
 | _=>False
theorem zve:Ln (zdD) 2:=λds S Q ex h=>by unfold zdD at h; split at h <;> first | rfl | exact h.elim
def zfK (cNumber:Addr)(cUnknown:Addr)(cPlus:Addr)(cMinus:Addr)(cTimes:Addr)(cPower:Addr):Sd:=λds S Q ex=>match ds with
 | [.ref n,.ref w,.ref p,.int g]=>∃(i j:Int) (vs bs:List (Int×Int)),S[n]?=some (Nd.ob cNumber cUnknown cPlus cMinus cTimes cPower (Nd.minus i j))∧S[w]?=some (.lst (vs.map frD))∧S[p]?=some (.lst (bs.map frD))∧Nd.ok vs.length bs.length (Nd.minus i j)∧Spn 1400 vs∧(1≤g∧g≤1000000)∧Q (frD (Nd.fw vs bs g (Nd.minus i j))) S
 | _=>False
theorem zwF (cNumber:Addr)(cUnknown:Addr)(cPlus:Addr)(cMinus:Addr)(cTimes:Addr)(cPower:Addr):Ln (zfK cNumber cUnknown cPlus cMinus cTimes cPower) 4:=λds S Q ex h=>by unfold zfK at h; split at h <;> first | rfl | exact h.elim
def zfX:Sd:=λds S Q ex=>match ds with
 | [.tup [.int a,.int b],.tup [.int c,.int d],.int g]=>((IntMulOk a c∧IntMulOk a d∧IntMulOk b c∧IntMulOk b d)∧CFd 0 g)∧∀mn mx:Int,zed a b c d mn mx→Q (.tup [.int (mn/g),.int (-(-mx/g))]) S
 | _=>False
theorem zuj:Ln (zfX) 3:=λds S Q ex h=>by unfold zfX at h; split at h <;> first | rfl | exact h.elim
def zeF (cNumber:Addr)(cUnknown:Addr)(cPlus:Addr)(cMinus:Addr)(cTimes:Addr)(cPower:Addr):Sd:=λds S Q ex=>match ds with
 | [.ref n,.ref w,.ref p,.int g]=>∃(i j:Int) (vs bs:List (Int×Int)),S[n]?=some (Nd.ob cNumber cUnknown cPlus cMinus cTimes cPower (Nd.times i j))∧S[w]?=some (.lst (vs.map frD))∧S[p]?=some (.lst (bs.map frD))∧Nd.ok vs.length bs.length (Nd.times i j)∧Spn 1400 vs∧(1≤g∧g≤1000000)∧Q (frD (Nd.fw vs bs g (Nd.times i j))) S
 | _=>False
theorem zvO (cNumber:Addr)(cUnknown:Addr)(cPlus:Addr)(cMinus:Addr)(cTimes:Addr)(cPower:Addr):Ln (zeF cNumber cUnknown cPlus cMinus cTimes cPower) 4:=λds S Q ex h=>by unfold zeF at h; split at h <;> first | rfl | exact h.elim
def zc2:Sd:=λds S Q ex=>match ds with
 | [.int x,.int n]=>(0≤n∧n≤6∧Sz 2000 x)∧Q (.int (x^n.toNat)) S
 | _=>False
theorem zwe:Ln (zc2) 2:=λds S Q ex h=>by unfold zc2 at h; split at h <;> first | rfl | exact h.elim
def zgj:Sd:=λds S Q ex=>match ds with
 | [.tup [.int a,.int b],.int n,.int g]=>(2≤n∧n≤6∧Sz 1400 a∧Sz 1400 b∧1≤g∧Sz 1400 g)∧∀m M:Int,zcO a b n.toNat m M→Q (.tup [.int (m/g^(n.toNat-1)),.int (-(-M/g^(n.toNat-1)))]) S
 | _=>False
theorem zrX:Ln (zgj) 3:=λds S Q ex h=>by unfold zgj at h; split at h <;> first | rfl | exact h.elim
def ze0 (cNumber:Addr)(cUnknown:Addr)(cPlus:Addr)(cMinus:Addr)(cTimes:Addr)(cPower:Addr):Sd:=λds S Q ex=>match ds with
 | [.ref n,.ref w,.ref p,.int g]=>∃(i m:Int) (vs bs:List (Int×Int)),S[n]?=some (Nd.ob cNumber cUnknown cPlus cMinus cTimes cPower (Nd.power i m))∧S[w]?=some (.lst (vs.map frD))∧S[p]?=some (.lst (bs.map frD))∧Nd.ok vs.length bs.length (Nd.power i m)∧Spn 1400 vs∧(1≤g∧g≤1000000)∧Q (frD (Nd.fw vs bs g (Nd.power i m))) S
 | _=>False
theorem zsO (cNumber:Addr)(cUnknown:Addr)(cPlus:Addr)(cMinus:Addr)(cTimes:Addr)(cPower:Addr):Ln (ze0 cNumber cUnknown cPlus cMinus cTimes cPower) 4:=λds S Q ex h=>by unfold ze0 at h; split at h <;> first | rfl | exact h.elim
def zg7 (cPower:Addr):Sd:=λds S Q ex=>match ds with
 | [.ref n,x,y]=>∃T:Sto,S=T++[.ins cPower []]∧n=T.length∧Q .non (T++[.ins cPower [("one",x),("many",y)]])
 | _=>False
theorem zvI (cPower:Addr):Ln (zg7 cPower) 3:=λds S Q ex h=>by unfold zg7 at h; split at h <;> first | rfl | exact h.elim
def zhd (cNumber:Addr):Sd:=λds S Q ex=>match ds with
 | [.ref n,x,y]=>∃T:Sto,S=T++[.ins cNumber []]∧n=T.length∧Q .non (T++[.ins cNumber [("top",x),("bottom",y)]])
 | _=>False
theorem zxg (cNumber:Addr):Ln (zhd cNumber) 3:=λds S Q ex h=>by unfold zhd at h; split at h <;> first | rfl | exact h.elim
def zhL (cUnknown:Addr):Sd:=λds S Q ex=>match ds with
 | [.ref n,x]=>∃T:Sto,S=T++[.ins cUnknown []]∧n=T.length∧Q .non (T++[.ins cUnknown [("place",x)]])
 | _=>False
theorem zvr (cUnknown:Addr):Ln (zhL cUnknown) 2:=λds S Q ex h=>by unfold zhL at h; split at h <;> first | rfl | exact h.elim
def zhT (cPlus:Addr):Sd:=λds S Q ex=>match ds with
 | [.ref n,x,y]=>∃T:Sto,S=T++[.ins cPlus []]∧n=T.length∧Q .non (T++[.ins cPlus [("one",x),("other",y)]])
 | _=>False
theorem zyz (cPlus:Addr):Ln (zhT cPlus) 3:=λds S Q ex h=>by unfold zhT at h; split at h <;> first | rfl | exact h.elim
def zhA (cMinus:Addr):Sd:=λds S Q ex=>match ds with
 | [.ref n,x,y]=>∃T:Sto,S=T++[.ins cMinus []]∧n=T.length∧Q .non (T++[.ins cMinus [("one",x),("other",y)]])
 | _=>False
theorem zuE (cMinus:Addr):Ln (zhA cMinus) 3:=λds S Q ex h=>by unfold zhA at h; split at h <;> first | rfl | exact h.elim
def zgx (cTimes:Addr):Sd:=λds S Q ex=>match ds with
 | [.ref n,x,y]=>∃T:Sto,S=T++[.ins cTimes []]∧n=T.length∧Q .non (T++[.ins cTimes [("one",x),("other",y)]])
 | _=>False
theorem zxv (cTimes:Addr):Ln (zgx cTimes) 3:=λds S Q ex h=>by unfold zgx at h; split at h <;> first | rfl | exact h.elim
def zeC (cNumber:Addr)(cUnknown:Addr)(cPlus:Addr)(cMinus:Addr)(cTimes:Addr)(cPower:Addr):Sd:=λds S Q ex=>match ds with
 | [d]=>∃v:Nd,d=v.d∧Q (.ref S.length) (S++[v.ob cNumber cUnknown cPlus cMinus cTimes cPower])
 | _=>False
theorem zxj (cNumber:Addr)(cUnknown:Addr)(cPlus:Addr)(cMinus:Addr)(cTimes:Addr)(cPower:Addr):Ln (zeC cNumber cUnknown cPlus cMinus cTimes cPower) 1:=λds S Q ex h=>by unfold zeC at h; split at h <;> first | rfl | exact h.elim
def zhj:Sd:=λds S Q ex=>match ds with
 | [.ref a,.ref b,.int g]=>∃(ns:List Nd) (ws:List Nat) (bs:List (Int×Int)),S[a]?=some (.lst (ns.map Nd.d))∧S[b]?=some (.lst (bs.map frD))∧zaM bs.length ns ws∧Spn 51 bs∧(1≤g∧g≤1000000)∧ns.length≤70∧∀(T:Sto) (m:Nat),Pre S T→S.length≤m→T[m]?=some (.lst ((zaD bs g ns).map frD))→Q (.ref m) T
 | _=>False
theorem zwG:Ln (zhj) 3:=λds S Q ex h=>by unfold zhj at h; split at h <;> first | rfl | exact h.elim
def zc3:Sd:=λds S Q ex=>match ds with
 | [.tup [.int a,.int b],.tup [.int c,.int d]]=>(zaT (a,b) (c,d)=none→Q .non S)∧∀p,zaT (a,b) (c,d)=some p→Q (frD p) S
 | _=>False
theorem zxu:Ln (zc3) 2:=λds S Q ex h=>by unfold zc3 at h; split at h <;> first | rfl | exact h.elim
def zgP:Sd:=λds S Q ex=>match ds with
 | [.str w,.tup [.int a,.int b]]=>∃zero:Bool,rwW zero w∧(zc9 zero (a,b)=none→Q .non S)∧∀p,zc9 zero (a,b)=some p→Q (frD p) S
 | _=>False
theorem zsW:Ln (zgP) 2:=λds S Q ex h=>by unfold zgP at h; split at h <;> first | rfl | exact h.elim
def zeB (cNumber:Addr)(cUnknown:Addr)(cPlus:Addr)(cMinus:Addr)(cTimes:Addr)(cPower:Addr):Sd:=λds S Q ex=>match ds with
 | [.ref n,.ref w,.tup [.int z0,.int z1],.int g]=>∃(x y:Int) (vs:List (Int×Int)) (q:Int),S[n]?=some (Nd.ob cNumber cUnknown cPlus cMinus cTimes cPower (Nd.number x y))∧S[w]?=some (.lst (vs.map frD))∧Nd.ok vs.length q (Nd.number x y)∧Spn 1000 vs∧(z0≤z1∧Sz 1000 z0∧Sz 1000 z1)∧(1≤g∧g≤1000000)∧(Nd.bk vs (z0,z1) g (Nd.number x y)=none→Q .non S)∧∀l,Nd.bk vs (z0,z1) g (Nd.number x y)=some l→Q (.ref S.length) (S++[.lst (l.map ptD)])
 | _=>False
theorem zvz (cNumber:Addr)(cUnknown:Addr)(cPlus:Addr)(cMinus:Addr)(cTimes:Addr)(cPower:Addr):Ln (zeB cNumber cUnknown cPlus cMinus cTimes cPower) 4:=λds S Q ex h=>by unfold zeB at h; split at h <;> first | rfl | exact h.elim
def zfH (cNumber:Addr)(cUnknown:Addr)(cPlus:Addr)(cMinus:Addr)(cTimes:Addr)(cPower:Addr):Sd:=λds S Q ex=>match ds with
 | [.ref n,.ref w,.tup [.int z0,.int z1],.int g]=>∃(k:Int) (vs:List (Int×Int)) (q:Int),S[n]?=some (Nd.ob cNumber cUnknown cPlus cMinus cTimes cPower (Nd.unknown k))∧S[w]?=some (.lst (vs.map frD))∧Nd.ok vs.length q (Nd.unknown k)∧Spn 1000 vs∧(z0≤z1∧Sz 1000 z0∧Sz 1000 z1)∧(1≤g∧g≤1000000)∧(Nd.bk vs (z0,z1) g (Nd.unknown k)=none→Q .non S)∧∀l,Nd.bk vs (z0,z1) g (Nd.unknown k)=some l→Q (.ref S.length) (S++[.lst (l.map ptD)])
 | _=>False
theorem zuW (cNumber:Addr)(cUnknown:Addr)(cPlus:Addr)(cMinus:Addr)(cTimes:Addr)(cPower:Addr):Ln (zfH cNumber cUnknown cPlus cMinus cTimes cPower) 4:=λds S Q ex h=>by unfold zfH at h; split at h <;> first | rfl | exact h.elim
def zgV:Sd:=λds S Q ex=>match ds with
 | [.ref _,.tup [.int z0,.int z1],.tup [.int x0,.int x1],.tup [.int y0,.int y1],.int _]=>(zaT (x0,x1) (z0-y1,z1-y0)=none→Q .non S)∧∀p,zaT (x0,x1) (z0-y1,z1-y0)=some p→Q (frD p) S
 | _=>False
theorem zrv:Ln (zgV) 5:=λds S Q ex h=>by unfold zgV at h; split at h <;> first | rfl | exact h.elim
def zih:Sd:=λds S Q ex=>match ds with
 | [.ref _,.tup [.int z0,.int z1],.tup [.int x0,.int x1],.tup [.int y0,.int y1],.int _]=>(zaT (y0,y1) (z0-x1,z1-x0)=none→Q .non S)∧∀p,zaT (y0,y1) (z0-x1,z1-x0)=some p→Q (frD p) S
 | _=>False
theorem zrs:Ln (zih) 5:=λds S Q ex h=>by unfold zih at h; split at h <;> first | rfl | exact h.elim
def zff (cNumber:Addr)(cUnknown:Addr)(cPlus:Addr)(cMinus:Addr)(cTimes:Addr)(cPower:Addr):Sd:=λds S Q ex=>match ds with
 | [.ref n,.ref w,.tup [.int z0,.int z1],.int g]=>∃(i j:Int) (vs:List (Int×Int)) (q:Int),S[n]?=some (Nd.ob cNumber cUnknown cPlus cMinus cTimes cPower (Nd.plus i j))∧S[w]?=some (.lst (vs.map frD))∧Nd.ok vs.length q (Nd.plus i j)∧Spn 1000 vs∧(z0≤z1∧Sz 1000 z0∧Sz 1000 z1)∧(1≤g∧g≤1000000)∧(Nd.bk vs (z0,z1) g (Nd.plus i j)=none→Q .non S)∧∀l,Nd.bk vs (z0,z1) g (Nd.plus i j)=some l→Q (.ref S.length) (S++[.lst (l.map ptD)])
 | _=>False
theorem zw1 (cNumber:Addr)(cUnknown:Addr)(cPlus:Addr)(cMinus:Addr)(cTimes:Addr)(cPower:Addr):Ln (zff cNumber cUnknown cPlus cMinus cTimes cPower) 4:=λds S Q ex h=>by unfold zff at h; split at h <;> first | rfl | exact h.elim
def zgD:Sd:=λds S Q ex=>match ds with
 | [.ref _,.tup [.int z0,.int z1],.tup [.int x0,.int x1],.tup [.int y0,.int y1],.int _]=>(zaT (x0,x1) (z0+y0,z1+y1)=none→Q .non S)∧∀p,zaT (x0,x1) (z0+y0,z1+y1)=some p→Q (frD p) S
 | _=>False
theorem zt8:Ln (zgD) 5:=λds S Q ex h=>by unfold zgD at h; split at h <;> first | rfl | exact h.elim
def zhb:Sd:=λds S Q ex=>match ds with
 | [.ref _,.tup [.int z0,.int z1],.tup [.int x0,.int x1],.tup [.int y0,.int y1],.int _]=>(zaT (y0,y1) (x0-z1,x1-z0)=none→Q .non S)∧∀p,zaT (y0,y1) (x0-z1,x1-z0)=some p→Q (frD p) S
 | _=>False
theorem zuz:Ln (zhb) 5:=λds S Q ex h=>by unfold zhb at h; split at h <;> first | rfl | exact h.elim
def zfB (cNumber:Addr)(cUnknown:Addr)(cPlus:Addr)(cMinus:Addr)(cTimes:Addr)(cPower:Addr):Sd:=λds S Q ex=>match ds with
 | [.ref n,.ref w,.tup [.int z0,.int z1],.int g]=>∃(i j:Int) (vs:List (Int×Int)) (q:Int),S[n]?=some (Nd.ob cNumber cUnknown cPlus cMinus cTimes cPower (Nd.minus i j))∧S[w]?=some (.lst (vs.map frD))∧Nd.ok vs.length q (Nd.minus i j)∧Spn 1000 vs∧(z0≤z1∧Sz 1000 z0∧Sz 1000 z1)∧(1≤g∧g≤1000000)∧(Nd.bk vs (z0,z1) g (Nd.minus i j)=none→Q .non S)∧∀l,Nd.bk vs (z0,z1) g (Nd.minus i j)=some l→Q (.ref S.length) (S++[.lst (l.map ptD)])
 | _=>False
theorem zsl (cNumber:Addr)(cUnknown:Addr)(cPlus:Addr)(cMinus:Addr)(cTimes:Addr)(cPower:Addr):Ln (zfB cNumber cUnknown cPlus cMinus cTimes cPower) 4:=λds S Q ex h=>by unfold zfB at h; split at h <;> first | rfl | exact h.elim
def zhq:Sd:=λds S Q ex=>match ds with
 | [.tup [.int a,.int b]]=>Q (.bl (decide (a≤0)&&decide (0≤b))) S
 | _=>False
theorem zww:Ln (zhq) 1:=λds S Q ex h=>by unfold zhq at h; split at h <;> first | rfl | exact h.elim
def zeS:Sd:=λds S Q ex=>match ds with
 | [.tup [.int x0,.int x1],.tup [.int l0,.int l1],.tup [.int h0,.int h1]]=>(ptB (x0,x1) (l0,l1) (h0,h1)=none→Q .non S)∧∀p,ptB (x0,x1) (l0,l1) (h0,h1)=some p→Q (frD p) S
 | _=>False
theorem ztK:Ln (zeS) 3:=λds S Q ex h=>by unfold zeS at h; split at h <;> first | rfl | exact h.elim
def zf2:Sd:=λds S Q ex=>match ds with
 | [.int t,.int b]=>CFd 0 b∧Q (.tup [.int (t/b),.int (-(-t/b))]) S
 | _=>False
theorem zrS:Ln (zf2) 2:=λds S Q ex h=>by unfold zf2 at h; split at h <;> first | rfl | exact h.elim
def zgy:Sd:=λds S Q ex=>match ds with
 | [.tup [.int lo,.int hi],.tup [.int x0,.int x1],.tup [.int c,.int d]]=>(0≤c∧0<d∧Sz 1400 c∧Sz 1400 d)∧(sdS lo hi (x0,x1) c d=none→Q .non S)∧∀p,sdS lo hi (x0,x1) c d=some p→Q (frD p) S
 | _=>False
theorem zvs:Ln (zgy) 3:=λds S Q ex h=>by unfold zgy at h; split at h <;> first | rfl | exact h.elim
def zgv:Sd:=λds S Q ex=>match ds with
 | [.tup [.int a,.int b],.tup [.int c,.int d]]=>Q (.tup [.int (if c<a then c else a),.int (if d > b then d else b)]) S
 | _=>False
theorem zrC:Ln (zgv) 2:=λds S Q ex h=>by unfold zgv at h; split at h <;> first | rfl | exact h.elim
def zfn:Sd:=λds S Q ex=>match ds with
 | [.non,y]=>Q y S
 | [.tup [.int a,.int b],.non]=>Q (.tup [.int a,.int b]) S
 | [.tup [.int a,.int b],.tup [.int c,.int d]]=>Q (.tup [.int (if c<a then c else a),.int (if d > b then d else b)]) S
 | _=>False
theorem zsK:Ln (zfn) 2:=λds S Q ex h=>by unfold zfn at h; split at h <;> first | rfl | exact h.elim
def zds:Sd:=λds S Q ex=>match ds with
 | [.tup [.int a,.int b]]=>Q (.tup [.int (-b),.int (-a)]) S
 | _=>False
theorem zup:Ln (zds) 1:=λds S Q ex h=>by unfold zds at h; split at h <;> first | rfl | exact h.elim
def zfR:Sd:=λds S Q ex=>match ds with
 | [.tup [.int z0,.int z1],.tup [.int x0,.int x1],.tup [.int y0,.int y1],.int g]=>(y0≤y1∧Sz 1100 z0∧Sz 1100 z1∧Sz 1100 y0∧Sz 1100 y1∧Sz 30 g)∧(btS (z0,z1) (x0,x1) (y0,y1) g=none→Q .non S)∧∀p,btS (z0,z1) (x0,x1) (y0,y1) g=some p→Q (frD p) S
 | _=>False
theorem zvH:Ln (zfR) 4:=λds S Q ex h=>by unfold zfR at h; split at h <;> first | rfl | exact h.elim
def zga:Sd:=λds S Q ex=>match ds with
 | [.ref _,.tup [.int z0,.int z1],.tup [.int x0,.int x1],.tup [.int y0,.int y1],.int g]=>(y0≤y1∧Sz 1100 z0∧Sz 1100 z1∧Sz 1100 y0∧Sz 1100 y1∧Sz 30 g)∧(btS (z0,z1) (x0,x1) (y0,y1) g=none→Q .non S)∧∀p,btS (z0,z1) (x0,x1) (y0,y1) g=some p→Q (frD p) S
 | _=>False
theorem zxM:Ln (zga) 5:=λds S Q ex h=>by unfold zga at h; split at h <;> first | rfl | exact h.elim
def zhn:Sd:=λds S Q ex=>match ds with
 | [.ref _,.tup [.int z0,.int z1],.tup [.int x0,.int x1],.tup [.int y0,.int y1],.int g]=>(x0≤x1∧Sz 1100 z0∧Sz 1100 z1∧Sz 1100 x0∧Sz 1100 x1∧Sz 30 g)∧(btS (z0,z1) (y0,y1) (x0,x1) g=none→Q .non S)∧∀p,btS (z0,z1) (y0,y1) (x0,x1) g=some p→Q (frD p) S
 | _=>False
theorem zxd:Ln (zhn) 5:=λds S Q ex h=>by unfold zhn at h; split at h <;> first | rfl | exact h.elim
def zes (cNumber:Addr)(cUnknown:Addr)(cPlus:Addr)(cMinus:Addr)(cTimes:Addr)(cPower:Addr):Sd:=λds S Q ex=>match ds with
 | [.ref n,.ref w,.tup [.int z0,.int z1],.int g]=>∃(i j:Int) (vs:List (Int×Int)) (q:Int),S[n]?=some (Nd.ob cNumber cUnknown cPlus cMinus cTimes cPower (Nd.times i j))∧S[w]?=some (.lst (vs.map frD))∧Nd.ok vs.length q (Nd.times i j)∧Spn 1000 vs∧(z0≤z1∧Sz 1000 z0∧Sz 1000 z1)∧(1≤g∧g≤1000000)∧(Nd.bk vs (z0,z1) g (Nd.times i j)=none→Q .non S)∧∀l,Nd.bk vs (z0,z1) g (Nd.times i j)=some l→Q (.ref S.length) (S++[.lst (l.map ptD)])
 | _=>False
theorem zwV (cNumber:Addr)(cUnknown:Addr)(cPlus:Addr)(cMinus:Addr)(cTimes:Addr)(cPower:Addr):Ln (zes cNumber cUnknown cPlus cMinus cTimes cPower) 4:=λds S Q ex h=>by unfold zes at h; split at h <;> first | rfl | exact h.elim
def zig:Sd:=λds S Q ex=>match ds with
 | [.int g,.int N,.int n]=>(2≤n∧n≤6∧0<g∧Sz 800 g)∧Q (.int (((n-1)*g+N/g^(n-1).toNat)/n)) S
 | _=>False
theorem zvA:Ln (zig) 3:=λds S Q ex h=>by unfold zig at h; split at h <;> first | rfl | exact h.elim
def zft:Sd:=λds S Q ex=>match ds with
 | [.int N,.int n]=>(2≤n∧n≤6∧0≤N∧Sz 1300 N)∧∀r:Int,0≤r→Sz 800 r→r^n.toNat≤N→N<(r+1)^n.toNat→Q (.int r) S
 | _=>False
theorem zs6:Ln (zft) 2:=λds S Q ex h=>by unfold zft at h; split at h <;> first | rfl | exact h.elim
def zhV:Sd:=λds S Q ex=>match ds with
 | [.int N,.int n]=>(2≤n∧n≤6∧0≤N∧Sz 1300 N)∧Q (frD (rt0 N n.toNat)) S
 | _=>False
theorem zst:Ln (zhV) 2:=λds S Q ex h=>by unfold zhV at h; split at h <;> first | rfl | exact h.elim
def zg8:Sd:=λds S Q ex=>match ds with
 | [.int N,.int n]=>(2≤n∧n≤6∧(n%2=1∨0≤N)∧Sz 1300 N)∧Q (frD (rtS N n.toNat)) S
 | _=>False
theorem zwc:Ln (zg8) 2:=λds S Q ex h=>by unfold zg8 at h; split at h <;> first | rfl | exact h.elim
def zha:Sd:=λds S Q ex=>match ds with
 | [.tup [.int z0,.int z1],.tup [.int x0,.int x1],.int n,.int g]=>(2≤n∧n≤6∧1≤g∧Sz 30 g∧Sz 1100 z0∧Sz 1100 z1)∧(bpS (z0,z1) (x0,x1) n g=none→Q .non S)∧∀p,bpS (z0,z1) (x0,x1) n g=some p→Q (frD p) S
 | _=>False
theorem zrz:Ln (zha) 4:=λds S Q ex h=>by unfold zha at h; split at h <;> first | rfl | exact h.elim
def zep (cNumber:Addr)(cUnknown:Addr)(cPlus:Addr)(cMinus:Addr)(cTimes:Addr)(cPower:Addr):Sd:=λds S Q ex=>match ds with
 | [.ref n,.ref w,.tup [.int z0,.int z1],.int g]=>∃(i m:Int) (vs:List (Int×Int)) (q:Int),S[n]?=some (Nd.ob cNumber cUnknown cPlus cMinus cTimes cPower (Nd.power i m))∧S[w]?=some (.lst (vs.map frD))∧Nd.ok vs.length q (Nd.power i m)∧Spn 1000 vs∧(z0≤z1∧Sz 1000 z0∧Sz 1000 z1)∧(1≤g∧g≤1000000)∧(Nd.bk vs (z0,z1) g (Nd.power i m)=none→Q .non S)∧∀l,Nd.bk vs (z0,z1) g (Nd.power i m)=some l→Q (.ref S.length) (S++[.lst (l.map ptD)])
 | _=>False
theorem zx6 (cNumber:Addr)(cUnknown:Addr)(cPlus:Addr)(cMinus:Addr)(cTimes:Addr)(cPower:Addr):Ln (zep cNumber cUnknown cPlus cMinus cTimes cPower) 4:=λds S Q ex h=>by unfold zep at h; split at h <;> first | rfl | exact h.elim
def zic:Sd:=λds S Q ex=>match ds with
 | [.ref a,.tup [.str w,.int k],.ref b,.int g]=>∃(ns:List Nd) (ws:List Nat) (bs:List (Int×Int)) (zero:Bool),S[a]?=some (.lst (ns.map Nd.d))∧S[b]?=some (.lst (bs.map frD))∧rwW zero w∧inR ns.length k∧zaM bs.length ns ws∧Spn 51 bs∧(1≤g∧g≤1000000)∧ns.length≤70∧(sbS ns zero k.toNat bs g=none→∀T:Sto,Pre S T→Q .non T)∧∀(us:List (Int×Int)) (T:Sto) (m:Nat),sbS ns zero k.toNat bs g=some us→Pre S T→S.length≤m→T[m]?=some (.lst (us.map frD))→Q (.ref m) T
 | _=>False
theorem zsB:Ln (zic) 4:=λds S Q ex h=>by unfold zic at h; split at h <;> first | rfl | exact h.elim
def zgK:Sd:=λds S Q ex=>match ds with
 | [.ref a,.tup [.str w,.int k],.ref b,.int g]=>∃(ns:List Nd) (ws:List Nat) (bs:List (Int×Int)) (zero:Bool),S[a]?=some (.lst (ns.map Nd.d))∧S[b]?=some (.lst (bs.map frD))∧rwW zero w∧inR ns.length k∧zaM bs.length ns ws∧Spn 51 bs∧(1≤g∧g≤1000000)∧ns.length≤70∧(nwS ns zero k.toNat bs g=none→∀T:Sto,Pre S T→Q .non T)∧∀(us:List (Int×Int)) (T:Sto) (m:Nat),nwS ns zero k.toNat bs g=some us→Pre S T→S.length≤m→T[m]?=some (.lst (us.map frD))→Q (.ref m) T
 | _=>False
theorem zuZ:Ln (zgK) 4:=λds S Q ex h=>by unfold zgK at h; split at h <;> first | rfl | exact h.elim
def ze9:Sd:=λds S Q ex=>match ds with
 | [.tup [.int a,.int b],.tup [.int c,.int d]]=>(zaT (a,b) (c,d)=none→Q .non S)∧∀p,zaT (a,b) (c,d)=some p→Q (frD p) S
 | _=>False
theorem zx3:Ln (ze9) 2:=λds S Q ex h=>by unfold ze9 at h; split at h <;> first | rfl | exact h.elim
def ze6:Sd:=λds S Q ex=>match ds with
 | [.ref a]=>∃os:List (Option (Int×Int)),S[a]?=some (.lst (os.map opD))∧os.length≤10∧(hlS os=none→∀T:Sto,Pre S T→Q .non T)∧∀p,hlS os=some p→∀T:Sto,Pre S T→Q (frD p) T
 | _=>False
theorem zte:Ln (ze6) 1:=λds S Q ex h=>by unfold ze6 at h; split at h <;> first | rfl | exact h.elim
def zgO:Sd:=λds S Q ex=>match ds with
 | [.tup [.int x0,.int x1],d]=>∃l h:Option (Int×Int),d=pcD (l,h)∧(Sz 1100 x0∧Sz 1100 x1)∧(∀a,l=some a→0<a.2∧Sz 1100 a.2)∧(∀b,h=some b→0<b.2∧Sz 1100 b.2)∧(kpS (x0,x1) l h=none→Q .non S)∧∀p,kpS (x0,x1) l h=some p→Q (frD p) S
 | _=>False
theorem zuX:Ln (zgO) 2:=λds S Q ex h=>by unfold zgO at h; split at h <;> first | rfl | exact h.elim
def zik:Sd:=λds S Q ex=>match ds with
 | [.int lo,.int hi,.tup [.int y0,.int y1]]=>(y0≤y1∧Sz 1100 lo∧Sz 1100 hi∧Sz 1100 y0∧Sz 1100 y1)∧∀(T:Sto) (m:Nat) (ps:List (Option (Int×Int)×Option (Int×Int))),Pre S T→T[m]?=some (.lst (ps.map pcD))→zmg lo hi (y0,y1) ps→Q (.ref m) T
 | _=>False
theorem zvC:Ln (zik) 3:=λds S Q ex h=>by unfold zik at h; split at h <;> first | rfl | exact h.elim
def zh7:Sd:=λds S Q ex=>match ds with
 | [.tup [.int z0,.int z1],.tup [.int x0,.int x1],.tup [.int y0,.int y1],.int g]=>((z0≤z1∧x0≤x1∧y0≤y1)∧(1≤g∧g≤1000000)∧Sz 1000 z0∧Sz 1000 z1∧Sz 1000 x0∧Sz 1000 x1∧Sz 1000 y0∧Sz 1000 y1)∧(btS (z0,z1) (x0,x1) (y0,y1) g=none→∀T:Sto,Pre S T→Q .non T)∧∀p,btS (z0,z1) (x0,x1) (y0,y1) g=some p→∀T:Sto,Pre S T→Q (frD p) T
 | _=>False
theorem zxs:Ln (zh7) 4:=λds S Q ex h=>by unfold zh7 at h; split at h <;> first | rfl | exact h.elim
def zh9:Sd:=λds S Q ex=>match ds with
 | [d,.tup [.int z0,.int z1],.tup [.int x0,.int x1],.tup [.int y0,.int y1],.int g,.bl b]=>∃v:Nd,d=v.d∧zox v∧((z0≤z1∧x0≤x1∧y0≤y1)∧(1≤g∧g≤1000000)∧Sz 1000 z0∧Sz 1000 z1∧Sz 1000 x0∧Sz 1000 x1∧Sz 1000 y0∧Sz 1000 y1)∧(hfS (z0,z1) (x0,x1) (y0,y1) g b v=none→∀T:Sto,Pre S T→Q .non T)∧∀p,hfS (z0,z1) (x0,x1) (y0,y1) g b v=some p→∀T:Sto,Pre S T→Q (frD p) T
 | _=>False
theorem zuU:Ln (zh9) 6:=λds S Q ex h=>by unfold zh9 at h; split at h <;> first | rfl | exact h.elim
def zgL:Sd:=λds S Q ex=>match ds with
 | [.int N,.int n,.int m]=>(2≤n∧n≤6∧0≤N∧0≤m∧Sz 1100 m)∧Q (.int (if rbS N n.toNat<m then rbS N n.toNat else m)) S
 | _=>False
theorem zvy:Ln (zgL) 3:=λds S Q ex h=>by unfold zgL at h; split at h <;> first | rfl | exact h.elim
def zhm:Sd:=λds S Q ex=>match ds with
 | [.int N,.int n,.int m]=>(2≤n∧n≤6∧0≤m∧Sz 1100 m)∧Q (.int (dnS N n.toNat m)) S
 | _=>False
theorem zrw:Ln (zhm) 3:=λds S Q ex h=>by unfold zhm at h; split at h <;> first | rfl | exact h.elim
def zhX:Sd:=λds S Q ex=>match ds with
 | [.tup [.int x0,.int x1],.int lo,.int hi,.int n]=>(2≤n∧n≤6∧x0≤x1∧Sz 1000 x0∧Sz 1000 x1)∧(ptB (x0,x1) (rtS lo n.toNat) (rtS hi n.toNat)=none→Q .non S)∧∀p,ptB (x0,x1) (rtS lo n.toNat) (rtS hi n.toNat)=some p→Q (frD p) S
 | _=>False
theorem zrJ:Ln (zhX) 4:=λds S Q ex h=>by unfold zhX at h; split at h <;> first | rfl | exact h.elim
def zfV:Sd:=λds S Q ex=>match ds with
 | [.tup [.int z0,.int z1],.tup [.int x0,.int x1],.int n,.int g]=>(2≤n∧n≤6∧(1≤g∧g≤1000000)∧x0≤x1∧Sz 1000 z0∧Sz 1000 z1∧Sz 1000 x0∧Sz 1000 x1)∧(bpS (z0,z1) (x0,x1) n g=none→∀T:Sto,Pre S T→Q .non T)∧∀p,bpS (z0,z1) (x0,x1) n g=some p→∀T:Sto,Pre S T→Q (frD p) T
 | _=>False
theorem zsR:Ln (zfV) 4:=λds S Q ex h=>by unfold zfV at h; split at h <;> first | rfl | exact h.elim
def zgz:Sd:=λds S Q ex=>match ds with
 | [d,.ref w,.tup [.int z0,.int z1],.int g]=>∃(v:Nd) (vs:List (Int×Int)) (q:Int),d=v.d∧S[w]?=some (.lst (vs.map frD))∧v.ok vs.length q∧Spn 1000 vs∧(z0≤z1∧Sz 1000 z0∧Sz 1000 z1)∧(1≤g∧g≤1000000)∧(v.bk vs (z0,z1) g=none→∀T:Sto,Pre S T→Q .non T)∧∀l,v.bk vs (z0,z1) g=some l→∀(T:Sto) (m:Nat),Pre S T→S.length≤m→T[m]?=some (.lst (l.map ptD))→Q (.ref m) T
 | _=>False
theorem zye:Ln (zgz) 4:=λds S Q ex h=>by unfold zgz at h; split at h <;> first | rfl | exact h.elim
def zf4:Sd:=λds S Q ex=>match ds with
 | [.ref a,.tup [.str w,.int k],.ref b,.int g]=>∃(ns:List Nd) (ws:List Nat) (bs:List (Int×Int)) (zero:Bool),S[a]?=some (.lst (ns.map Nd.d))∧S[b]?=some (.lst (bs.map frD))∧rwW zero w∧inR ns.length k∧zaM bs.length ns ws∧Spn 51 bs∧(1≤g∧g≤1000000)∧ns.length≤70∧(nwS ns zero k.toNat bs g=none→∀T:Sto,Pre S T→Q .non T)∧∀(us:List (Int×Int)) (T:Sto) (m:Nat),nwS ns zero k.toNat bs g=some us→Pre S T→S.length≤m→T[m]?=some (.lst (us.map frD))→Q (.ref m) T
 | _=>False
theorem ztF:Ln (zf4) 4:=λds S Q ex h=>by unfold zf4 at h; split at h <;> first | rfl | exact h.elim
def zhy:Sd:=λds S Q ex=>match ds with
 | [.int _]=>Q (.bl true) S
 | _=>False
theorem zrt:Ln (zhy) 1:=λds S Q ex h=>by unfold zhy at h; split at h <;> first | rfl | exact h.elim
def zgs:Sd:=λds S Q ex=>match ds with
 | [.tup [.int a,.int b]]=>a≤b∧Q (.bl true) S
 | _=>False
theorem zw0:Ln (zgs) 1:=λds S Q ex h=>by unfold zgs at h; split at h <;> first | rfl | exact h.elim
def zgf:Sd:=λds S Q ex=>match ds with
 | [.ref a,.int m]=>∃vs:List (Int×Int),S[a]?=some (.lst (vs.map frD))∧m=vs.length∧(∀p∈vs,p.1≤p.2)∧Q (.bl true) S
 | _=>False
theorem zud:Ln (zgf) 2:=λds S Q ex h=>by unfold zgf at h; split at h <;> first | rfl | exact h.elim
section
variable {P:Program}{w:World}{K:PySem.W.Frag}{mg:Str→Option Value}{base:Heap}
def ztc  (zi9:Df K mg "_law_grid" zjK zhD):Fk P w K mg base 1 "_law_grid" zhD zhv:=
 zi9.mk' (zeN (zax (k:=0) zi9.F zqy (zeu (zvL)) λcdv A outer s H E hr=>⟨_,(zae (zal (i:=1) zqy.nd rfl (Or.inl rfl) (zaf zba (dv 0) (zaf zdm zab zab))) (zag (zak (zaf zaV zab (zaf zba (zaf zba (zaf zaP (zaf zb7 (dv 1) zab) zab) zab) (zaJ (za6 (zaa zab (zaa zab (zaa zab (zaa zab zac))))) (zaf zbb (dv 1) zab) (λ_ _=>rfl))))))),λds S Q ex h=>by
  obtain⟨Q0,ex0,rfl,rfl,h⟩:=h
  unfold zhv at h
  split at h
  ·rename_i c
   have r0:=za7 (a:=c) (b:=10^Int.toNat 20) (by decide)
   have e20:(10:Int)^Int.toNat 20=100000000000000000000:=rfl
   have s0:Sz 70 (c%10^Int.toNat 20):=Sz.of (10^20) (by omega)
   have mo:=zaH (m:=70) (n:=17) (s0.div (j:=4) (by decide)) (j:=48271) (by unfold Sz; decide)
   refine⟨show (0:Int)<10^Int.toNat 20 by decide,mo,show (0:Int)<2147483647 by decide,?_⟩
   have four:∀i:Int,inR 4 i→∃x:Int,(1≤x∧x≤1000000)∧atI [D.int 1,D.int 12,D.int 1000,D.int 1000000] i=some (.int x):=λi hi=>by
    obtain⟨h0,h3⟩:=hi
    have z:i=0∨i=1∨i=2∨i=3:=by omega
    rcases z with rfl | rfl | rfl | rfl
    ·exact⟨_,by decide,rfl⟩
    ·exact⟨_,by decide,rfl⟩
    ·exact⟨_,by decide,rfl⟩
    ·exact⟨_,by decide,rfl⟩
   obtain⟨x,hx,ex'⟩:=four (c%10^Int.toNat 20%4) (za7 (by decide))
   refine zaB (o:=.lst [.int 1,.int 12,.int 1000,.int 1000000]) (zaC _ _) ex' ?_
   have px:0<x:=by omega
   have rx:=za7 (a:=c%10^Int.toNat 20/4*48271%2147483647) px
   exact⟨px,Pre.refl.push,.int _,h _ (by omega) (by omega)⟩
  ·exact h.elim⟩))
def zsp  (zkG:Df K mg "_law_divisor" zkr zh6):Fk P w K mg base 1 "_law_divisor" zh6 zgA:=
 zkG.mk' (zax (k:=0) zkG.F zlO (zrI) λcdv A outer s H E hr=>⟨_,(zae (zoD PassesOwn.never (zar zb8 (dv 1) zab (zap _)) (zae (zal (i:=2) zlO.nd rfl (Or.inl rfl) (zaf zba (dv 0) (dv 1))) (zae (zal (i:=0) zlO.nd rfl (Or.inl rfl) (dv 1)) (zag (zal (i:=1) zlO.nd rfl (Or.inl rfl) (dv 2)))))) (zag (zak (dv 0)))),λds S Q ex h=>by
  unfold zgA at h
  split at h
  ·rename_i a b
   obtain⟨⟨ha,hb⟩,h⟩:=h
   refine⟨λm dl' S'=>S'=S∧∃(x y:Int) (o:Option D),dl'=[some (.int x),some (.int y),o]∧0≤x∧0≤y∧Int.gcd x y=Int.gcd a b∧m=y.toNat,⟨b.toNat,rfl,a,b,none,rfl,ha,hb,rfl,rfl⟩,?_⟩
   rintro m dl' S' ⟨rfl,x,y,o,rfl,hx,hy,hg,rfl⟩
   refine ifD (λc'=>?_) (λc=>?_)
   ·exact⟨c',⟨(x%y).toNat,by have:=za7 (a:=x) c'; omega,rfl,y,x%y,_,rfl,hy,(za7 (a:=x) c').1,(zsa x y).trans hg,rfl⟩⟩
   ·have c:y=0:=by omega
    subst c
    have e:((Int.gcd a b:Nat):Int)=x:=by rw[← hg,Int.gcd_zero_right]; omega
    rw[e] at h
    exact h
  ·exact h.elim⟩)
def ztp  (znc:Df K mg "_law_fraction" zmy zd0)(znr:Fk P w K mg base 1 "_law_divisor" zh6 zgA)(zbi:mg "abs"=none):Fk P w K mg base 2 "_law_fraction" zd0 zeb:=
 znc.mk' (zax (k:=1) znc.F zpW (zs0) λcdv A outer s H E hr=>⟨_,(zae (zal (i:=2) zpW.nd rfl (Or.inl rfl) (zaq znr hr (zaa (zaG zdh rfl zbi Boot.«abs» (zaa (dv 0) zac)) (zaa (dv 1) zac)))) (zag (zak (zaz (zaa (zaf zbj (dv 0) (dv 2)) (zaa (zaf zbj (dv 1) (dv 2)) zac)))))),λds S Q ex h=>by
  unfold zeb at h
  split at h
  ·rename_i T B
   obtain⟨⟨hB,sB⟩,h⟩:=h
   refine⟨⟨zsG T,by omega⟩,?_⟩
   have eg:Int.gcd (if T<0 then -T else T) B=Int.gcd T B:=by
    have z:=zwJ T B
    rw[show zdx B=B by unfold zdx; split <;> omega] at z
    exact z
   rw[eg]
   have f:=zsh (T:=T) (B:=B) (d:=((Int.gcd T B:Nat):Int)) (by omega) (by rw[if_neg (by omega)])
   obtain⟨f1,f2,f3,f4,f5,f6⟩:=f
   have gp:(0:Int)<((Int.gcd T B:Nat):Int):=by omega
   have gle:((Int.gcd T B:Nat):Int)≤B:=Int.le_of_dvd hB (Int.gcd_dvd_right T B)
   have sg:Sz 4000 ((Int.gcd T B:Nat):Int):=by
    unfold Sz at sB ⊢
    omega
   refine⟨sg.fd gp,sg.fd gp,?_⟩
   have e1:T/((Int.gcd T B:Nat):Int)=T.fdiv ((Int.gcd T B:Nat):Int):=(Int.fdiv_eq_ediv_of_nonneg _ (by omega)).symm
   have e2:B/((Int.gcd T B:Nat):Int)=B.fdiv ((Int.gcd T B:Nat):Int):=(Int.fdiv_eq_ediv_of_nonneg _ (by omega)).symm
   have q:=h _ _ f4 f5 f6 (zqG f1 f2) (by have:=zqG f1 f3; omega)
   rw[← e1,← e2] at q
   exact q
  ·exact h.elim⟩)
def zxS  (zk8:Df K mg "_law_number" zlB zhf)(zcM:Fk P w K mg base 2 "_law_fraction" zd0 zeb):Fk P w K mg base 3 "_law_number" zhf zgB:=
 zk8.mk' (zax (k:=2) zk8.F zi8 (zxI) λcdv A outer s H E hr=>⟨_,(zae (zal (i:=1) zi8.nd rfl (Or.inl rfl) (zaf zba (dv 0) (zaf zdm zab zab))) (zae (zau (zar (zaI hr) (zaf zbb (dv 1) zab) zab (zap _)) (zag (zal (i:=2) zi8.nd rfl (Or.inl rfl) (zaq zcM hr (zaa (zaf zbf (zaf zba (zaf zb7 (dv 1) zab) zab) zab) (zaa (zaf zaV zab (zaf zbb (zaf zaP (dv 1) zab) zab)) zac))))) (zag (zal (i:=2) zi8.nd rfl (Or.inl rfl) (zaq zcM hr (zaa (zaf zbf (zaf zbb (zaf zb7 (dv 1) zab) zab) zab) (zaa (zaf zaV zab (zaf zbb (zaf zba (zaf zaP (dv 1) zab) zab) zab)) zac)))))) (zag (zak (zaz (zaa zaL (zaa (zad (dv 2) zab (λ_ _=>rfl)) (zaa (zad (dv 2) zab (λ_ _=>rfl)) zac)))))))),λds S Q ex h=>by
  unfold zgB at h
  split at h
  ·rename_i c
   have r0:=za7 (a:=c) (b:=10^Int.toNat 40) (by decide)
   have s0:Sz 140 (c%10^Int.toNat 40):=Sz.of (10^40) (by have e:(10:Int)^Int.toNat 40=10000000000000000000000000000000000000000:=rfl; omega)
   have k1:Sz 17 48271:=by unfold Sz; decide
   have mo:=zaH (m:=140) (n:=17) s0 k1
   refine⟨show (0:Int)<10^Int.toNat 40 by decide,?_⟩
   refine ifD (λe=>?_) (λe=>?_)
   ·have r1:=za7 (a:=c%10^Int.toNat 40/4) (b:=1999999999) (by decide)
    have r2:=za7 (a:=c%10^Int.toNat 40*48271) (b:=999999999) (by decide)
    refine⟨show (0:Int)<1999999999 by decide,mo,?_⟩
    refine⟨⟨show 0<1+c%10^Int.toNat 40*48271%999999999 by omega,Sz.of (10^10) (by show (1+c%10^Int.toNat 40*48271%999999999).natAbs≤_; omega)⟩,λt b h1 h2 h3 h4 h5=>?_⟩
    exact h t b ⟨h1,by omega⟩ h2 (by omega)
   ·have r2:=za7 (a:=c%10^Int.toNat 40*48271%2147483647) (b:=6) (by decide)
    refine⟨mo,show (0:Int)<2147483647 by decide,?_⟩
    refine⟨⟨show 0<1+c%10^Int.toNat 40*48271%2147483647%6 by omega,Sz.of (10^10) (by show (1+c%10^Int.toNat 40*48271%2147483647%6).natAbs≤_; omega)⟩,λt b h1 h2 h3 h4 h5=>?_⟩
    exact h t b ⟨h1,by omega⟩ h2 (by omega)
  ·exact h.elim⟩)
def zyk  (zmu:Df K mg "_law_node" zkE zhY)(zor:Fk P w K mg base 3 "_law_number" zhf zgB):Fk P w K mg base 4 "_law_node" zhY zgN:=
 zmu.mk' (zeN (zax (k:=3) zmu.F zfl (zeu (zyp)) λcdv A outer s H E hr=>⟨_,(zae (zal (i:=3) zfl.nd rfl (Or.inl rfl) (zaf zba (dv 0) (zaf zdm zab zab))) (zae (zal (i:=4) zfl.nd rfl (Or.inl rfl) (zaf zbb (dv 3) zab)) (zae (zal (i:=3) zfl.nd rfl (Or.inl rfl) (zaf zb7 (dv 3) zab)) (zae (zau (zar (zaI hr) (dv 4) zab (zap _)) (zag (zak (zaq zor hr (zaa (dv 3) zac)))) zav) (zae (zau (PDW.pt (zcG (zar (zaI hr) (dv 4) zab (zap _)) (zcU (zar (zaI hr) (dv 1) zab (zap _))))) (zag (zak (zaz (zaa zaL (zaa (zaf zba (dv 3) (dv 2)) zac))))) zav) (zae (zal (i:=5) zfl.nd rfl (Or.inl rfl) (zaf zba (dv 3) (dv 1))) (zae (zau (zar (zaI hr) (zaf zbb (dv 3) zab) zab (zap _)) (zag (zal (i:=5) zfl.nd rfl (Or.inl rfl) (zaf zbf (dv 1) zab))) zav) (zae (zau (zar (zaI hr) (dv 4) zab (zap _)) (zag (zak (zaz (zaa zaL (zaa (dv 5) (zaa (zaf zaV zab (zaf zbb (zaf zba (zaf zaP (dv 3) zab) zab) zab)) zac)))))) zav) (zag (zak (zaz (zaa (zaJ (za6 (zaa zaL (zaa zaL (zaa zaL zac)))) (zaf zbb (dv 4) zab) (λ_ _=>rfl)) (zaa (dv 5) (zaa (zaf zba (zaf zba (zaf zaP (dv 3) zab) zab) (dv 1)) zac)))))))))))))),λds S Q ex h=>by
  obtain⟨Q0,ex0,rfl,rfl,h⟩:=h
  unfold zgN at h
  split at h
  ·rename_i c m q
   obtain⟨⟨m0,m1,q0,q1⟩,h⟩:=h
   have h':∀v:Nd,v.ok m q→Gc S Q0 v.d S:=λv z=>⟨Pre.refl,zdz v,h v z⟩
   have r0:=za7 (a:=c) (b:=10^Int.toNat 40) (by decide)
   have s0:Sz 140 (c%10^Int.toNat 40):=Sz.of (10^40) (by have e:(10:Int)^Int.toNat 40=10000000000000000000000000000000000000000:=rfl; omega)
   have s1:=s0.div (j:=8) (by decide)
   refine⟨show (0:Int)<10^Int.toNat 40 by decide,?_⟩
   refine ifD (λe=>?_) (λe=>?_)
   ·exact λt b h1 h2 h3=>h' (.number t b) ⟨h1,h2,h3⟩
   have pq:0<q:=by omega
   have rq:=za7 (a:=c%10^Int.toNat 40/8) pq
   have un:=h' (.unknown (c%10^Int.toNat 40/8%q)) rq
   refine ifD (λe=>⟨pq,un⟩) (λe=>?_)
   refine ifD (λe=>⟨pq,un⟩) (λe=>?_)
   have pm:0<m:=by omega
   have rm:=za7 (a:=c%10^Int.toNat 40/8) pm
   have r5:=za7 (a:=c%10^Int.toNat 40/8*69621%2147483629) (b:=5) (by decide)
   have rj:=za7 (a:=c%10^Int.toNat 40/8*48271%2147483647) pm
   have k1:Sz 17 48271:=by unfold Sz; decide
   have k2:Sz 17 69621:=by unfold Sz; decide
   refine⟨pm,?_⟩
   have last:∀(i:Int),inR m i→∀(x:Str),(x="plus"∨x="minus"∨x="times")→Gc S Q0 (.tup [.str x,.int i,.int (c%10^Int.toNat 40/8*48271%2147483647%m)]) (S++[.lst [.str "plus",.str "minus",.str "times"]]):=λi hi x hx=>by
    rcases hx with rfl | rfl | rfl
    ·exact⟨Pre.refl.push,zdz (.plus i _),h (.plus i _) ⟨hi,rj⟩⟩
    ·exact⟨Pre.refl.push,zdz (.minus i _),h (.minus i _) ⟨hi,rj⟩⟩
    ·exact⟨Pre.refl.push,zdz (.times i _),h (.times i _) ⟨hi,rj⟩⟩
   have three:∀i:Int,inR 3 i→∃x:Str,(x="plus"∨x="minus"∨x="times")∧atI [D.str "plus",D.str "minus",D.str "times"] i=some (.str x):=λi hi=>by
    obtain⟨h0,h3⟩:=hi
    have z:i=0∨i=1∨i=2:=by omega
    rcases z with rfl | rfl | rfl
    ·exact⟨_,.inl rfl,rfl⟩
    ·exact⟨_,.inr (.inl rfl),rfl⟩
    ·exact⟨_,.inr (.inr rfl),rfl⟩
   obtain⟨x,hx,ex'⟩:=three (c%10^Int.toNat 40%8%3) (za7 (by decide))
   refine ifD (λe=>?_) (λe=>?_)
   ·refine ifD (λe=>?_) (λe=>?_)
    ·exact⟨zaH (m:=140) (n:=17) s1 k2,show (0:Int)<2147483629 by decide,h' (.power (m-1) _) ⟨⟨by omega,by omega⟩,by omega,by omega⟩⟩
    ·refine zaB (o:=.lst [.str "plus",.str "minus",.str "times"]) (zaC _ _) ex' ?_
     exact⟨zaH (m:=140) (n:=17) s1 k1,show (0:Int)<2147483647 by decide,pm,last _ ⟨by omega,by omega⟩ x hx⟩
   ·refine ifD (λe=>?_) (λe=>?_)
    ·exact⟨zaH (m:=140) (n:=17) s1 k2,show (0:Int)<2147483629 by decide,h' (.power (c%10^Int.toNat 40/8%m) _) ⟨rm,by omega,by omega⟩⟩
    ·refine zaB (o:=.lst [.str "plus",.str "minus",.str "times"]) (zaC _ _) ex' ?_
     exact⟨zaH (m:=140) (n:=17) s1 k1,show (0:Int)<2147483647 by decide,pm,last _ rm x hx⟩
  ·exact h.elim⟩))
def zv4  (zlu:Df K mg "_law_weight" zkt zfo):Fk P w K mg base 1 "_law_weight" zfo zey:=
 zlu.mk' (zax (k:=0) zlu.F zyn (zsT) λcdv A outer s H E hr=>⟨_,(zae (zau (PDW.pt (zcG (zar (zaI hr) (zad (dv 0) zab (λ_ _=>rfl)) zaL (zap _)) (zcU (zar (zaI hr) (zad (dv 0) zab (λ_ _=>rfl)) zaL (zap _))))) (zag (zak zab)) zav) (zae (zau (zar (zaI hr) (zad (dv 0) zab (λ_ _=>rfl)) zaL (zap _)) (zag (zak (zaf zaP (zad (dv 0) zab (λ_ _=>rfl)) (zaJ (dv 1) (zad (dv 0) zab (λ_ _=>rfl)) (λ_ _=>rfl))))) zav) (zag (zak (zaf zaV (zaJ (dv 1) (zad (dv 0) zab (λ_ _=>rfl)) (λ_ _=>rfl)) (zaJ (dv 1) (zad (dv 0) zab (λ_ _=>rfl)) (λ_ _=>rfl))))))),λds S Q ex h=>by
  unfold zey at h
  split at h
  ·rename_i d r
   obtain⟨v,ws,q,rfl,hl,ok,sm,h⟩:=h
   cases v with
   | number t b=>exact h
   | unknown k=>exact h
   | power i n=>
    obtain⟨hi,n2,n6⟩:=ok
    have b:=sm i hi
    refine zaB (o:=.lst (ws.map wtD)) hl (zee hi) ?_
    refine⟨zaH (m:=400) (n:=400) (Sz.of (10^20) (by omega)) (Sz.of (10^20) (by omega)),?_⟩
    have e:n*((ws.getD i.toNat 0:Nat):Int)=((Nd.wt ws (.power i n):Nat):Int):=by
     simp only[Nd.wt]
     rw[Int.natCast_mul]
     rw[Int.toNat_of_nonneg (by omega)]
    show Q (.int (n*((ws.getD i.toNat 0:Nat):Int))) S
    rw[e]
    exact h
   | plus i j=>
    refine zaB (o:=.lst (ws.map wtD)) hl (zee ok.1) ?_
    exact zaB (o:=.lst (ws.map wtD)) hl (zee ok.2) h
   | minus i j=>
    refine zaB (o:=.lst (ws.map wtD)) hl (zee ok.1) ?_
    exact zaB (o:=.lst (ws.map wtD)) hl (zee ok.2) h
   | times i j=>
    refine zaB (o:=.lst (ws.map wtD)) hl (zee ok.1) ?_
    exact zaB (o:=.lst (ws.map wtD)) hl (zee ok.2) h
  ·exact h.elim⟩)
def zrx  (ziY:Df K mg "_law_net" zeo zgX)(zeW:Fk P w K mg base 1 "_law_weight" zfo zey)(znN:Fk P w K mg base 4 "_law_node" zhY zgN)(za1:mg "len"=none)(zbe:mg "range"=none):Fk P w K mg base 5 "_law_net" zgX zhH:=
 ziY.mk' (zax (k:=4) ziY.F zdR (zvT) λcdv A outer s H E hr=>⟨_,(zae (zal (i:=5) zdR.nd rfl (Or.inl rfl) (za6 zac)) (zae (zau (zc1 (dv 2)) (zag (zo2 (x:="_law_k") (N:=[]) (caps:=[]) (ar:=zas zeo) rfl rfl csc rfl (by decide) (i:=5) zdR.nd rfl rfl rfl zbe (zaa (dv 1) zac) (λ_ _ _ _ _ _=>zdg) (λ_ _ _ _ _ _=>(zaz (zaa zaL (zaa (dv 0) zac)))))) zav) (zae (zo9 (x:="_law_node_here") (N:=[]) (caps:=[]) (ar:=zas zeo) rfl rfl csc rfl (by decide) (i:=6) zdR.nd rfl rfl (dv 5) (λ_ _ _ _ _ _=>zdg) (λ_ _ _ _ _ _=>zab)) (zae (zcN (i:=7) PassesOwn.never rfl zdR.nd rfl (Or.inl rfl) (dv 0) (zae (zal (i:=8) zdR.nd rfl (Or.inl rfl) (zaq znN hr (zaa (dv 7) (zaa (zaG (zbh zcp) rfl za1 Boot.«len» (zaa (dv 5) zac)) (zaa (dv 1) zac))))) (zae (zal (i:=9) zdR.nd rfl (Or.inl rfl) (zaq zeW hr (zaa (dv 8) (zaa (dv 6) zac)))) (zag (zau (PDW.pt (zcY (zar zcy (dv 9) (dv 3) (zap _)) (zcY (zar zbp (zaG (zbh zcp) rfl za1 Boot.«len» (zaa (dv 5) zac)) (dv 4) (zap _)) (zd9 (zar (zjk hr) (dv 8) (dv 5) rfl))))) (zae (zb6 (zbZ (dv 5) (dv 8))) (zag (zb6 (zbZ (dv 6) (dv 9))))) zav))))) (zae (zau (zar (zaI hr) (zaG (zbh zcp) rfl za1 Boot.«len» (zaa (dv 5) zac)) zab (zap _)) (zag (zb6 (zbZ (dv 5) (zaz (zaa zaL (zaa zab zac)))))) zav) (zag (zak (dv 5)))))))),λds S Q ex h=>by
  unfold zhH at h
  split at h
  ·rename_i c q b h16 most
   obtain⟨cs,qn,hv,hc,hint,rfl,hq,rfl,⟨hv1,hv2⟩,hm,h⟩:=h
   refine zdX (λdl2 S2=>∃(ns:List Nd) (m:Nat),zaM qn ns (ns.map λ_=>1)∧ns.length≤4∧Pre S S2∧S.length≤m∧S2[m]?=some (.lst (ns.map Nd.d))∧dl2=[some (.ref c),some (.int (qn:Nat)),some (.bl b),some (.int (hv:Int)),some (.int most),some (.ref m),none,none,none,none]) (λnx hn=>?_) ?_
   ·cases b with
    | false=>exact hn _ _ ⟨[],S.length,zaM.nil _,by decide,Pre.refl.push,Vab _,zaC _ _,rfl⟩
    | true=>
     refine zt3 (j:=(qn:Nat)) (S1:=S++[.lst []]) (λk=>.tup [.str "unknown",.int (k:Int)]) (λK hK=>by exact hK) ⟨by omega,by omega⟩ (λk hk S2 K pr hK=>by exact hK) ?_
     have z:=zu0 qn
     have e:((List.range ((qn:Nat):Int).toNat).map λ(k:Nat)=>D.tup [.str "unknown",.int (k:Int)])=((List.range qn).map λ(k:Nat)=>Nd.unknown (k:Int)).map Nd.d:=by
      rw[VaX,Vav]
      rfl
     rw[e]
     refine hn _ _ ⟨(List.range qn).map λ(k:Nat)=>Nd.unknown (k:Int),(S++[Ob.lst []]).length,?_,by simp; omega,Pre.refl.push.push,by simp,zaC _ _,rfl⟩
     rw[VaX]
     exact z
   rintro dl2 S2 ⟨ns,m,net,l4,pr,hm2,hS,rfl⟩
   refine zfw (n:=m) (o:=.lst (ns.map Nd.d)) (λ_=>.int 1) (λK hK=>by exact hK) hS (by show (ns.map Nd.d).length≤1000; rw[Vaa]; omega) (λx hx S3 K _ hK=>by exact hK) ?_
   have ew:(zat (.lst (ns.map Nd.d))).map (λ_=>D.int 1)=(ns.map λ_=>(1:Nat)).map wtD:=by
    show (ns.map Nd.d).map (λ_=>D.int 1)=_
    rw[VaX]
    rw[VaX]
    rfl
   rw[ew]
   dsimp only
   refine zot (λdl2 S3=>∃(ns:List Nd) (ws:List Nat),zaM qn ns ws∧Hv hv ws∧ns.length≤60∧Pre S S3∧S3[m]?=some (.lst (ns.map Nd.d))∧∃u6 u7 u8 u9:Option D,dl2=[some (.ref c),some (.int (qn:Nat)),some (.bl b),some (.int (hv:Int)),some (.int most),some (.ref m),u6,u7,u8,u9]) (λnx hn=>?_) ?_
   ·have lm:=zb9 hS
    refine zcj (n:=c) (o:=.lst cs) (λk dl' S'=>∃(ns:List Nd) (ws:List Nat),zaM qn ns ws∧Hv hv ws∧ns.length≤60∧Pre S S'∧S'[m]?=some (.lst (ns.map Nd.d))∧S'[S2.length]?=some (.lst (ws.map wtD))∧∃u7 u8 u9:Option D,dl'=[some (.ref c),some (.int (qn:Nat)),some (.bl b),some (.int (hv:Int)),some (.int most),some (.ref m),some (.ref S2.length),u7,u8,u9]) ⟨ns,_,net,zrE hv1 ns,by omega,pr.push,zaF hS,zaC _ _,_,_,_,rfl⟩ (λk dl' S' ⟨_,_,_,_,_,p,_⟩=>p _ _ hc) ?_ (λdl' S' ⟨ns,ws,a1,a0,a2,a3,a4,_,u7,u8,u9,e⟩=>hn _ _ ⟨ns,ws,a1,a0,a2,a3,a4,_,_,_,_,e⟩)
    rintro k x dl' S' nx ct ex' ⟨ns,ws,net,hvw,l60,pr',hS',hW',u7,u8,u9,rfl⟩ hn
    obtain⟨i,rfl⟩:=hint _ (Vak ex')
    refine zcD hS' ?_
    rw[Vaa]
    refine⟨⟨by omega,by omega,by omega,by omega⟩,λv ok=>?_⟩
    have okw:v.ok ws.length (qn:Nat):=by rw[net.len]; exact ok
    refine⟨v,ws,_,rfl,hW',okw,λi hi=>(net.w1 (by rw[← net.len]; exact hi)).2,?_⟩
    have on:=hn _ _ ⟨ns,ws,net,hvw,l60,pr',hS',hW',some (.int i),some v.d,some (.int (v.wt ws:Nat)),rfl⟩
    refine ifD (λe1=>?_) (λe1=>on)
    refine zcD hS' ?_
    rw[Vaa]
    refine ifD (λe2=>?_) (λe2=>on)
    refine zq4 hS' λb=>?_
    cases b with
    | false=>exact on
    | true=>
     refine zcd (n:=m) (S1:=S') (xs:=ns.map Nd.d) (y:=v.d) (λK hK=>by exact hK) hS' (λK hK=>by exact hK) (by rw[Vaa]; omega) ?_
     have nmm:m≠S2.length:=by omega
     refine zcd (n:=S2.length) (S1:=S'.set m (.lst (ns.map Nd.d++[v.d]))) (xs:=ws.map wtD) (y:=wtD (v.wt ws)) (λK hK=>by exact hK) (zbk hW' nmm) (λK hK=>by exact hK) (by rw[Vaa,net.len]; omega) ?_
     have l2:S.length≤S2.length:=by omega
     refine hn _ _ ⟨ns++[v],ws++[v.wt ws],net.snoc ok (by omega),zqW hvw (by omega),by simp; omega,zbA (zbA pr' hm2) l2,?_,?_,_,_,_,rfl⟩
     ·rw[Vaz]
      exact zbk (zbm hS') (Ne.symm nmm)
     ·rw[Vaz]
      exact zbm (zbk hW' nmm)
   rintro dl2 S3 ⟨ns,ws,net,hvw,l60,pr',hS',u6,u7,u8,u9,rfl⟩
   refine zcD hS' ?_
   rw[Vaa]
   refine ifD (λe=>?_) (λe=>?_)
   ·refine zcd (n:=m) (S1:=S3) (xs:=ns.map Nd.d) (y:=Nd.d (.unknown 0)) (λK hK=>by exact hK) hS' (λK hK=>by exact hK) (by rw[Vaa]; omega) ?_
    have e0:ns=[]:=List.eq_nil_of_length_eq_zero (by omega)
    subst e0
    have w0:ws=[]:=List.eq_nil_of_length_eq_zero net.len
    subst w0
    exact h [.unknown 0] [1] _ _ (zaM.snoc (zaM.nil _) (v:=.unknown 0) ⟨by decide,by omega⟩ (show 1≤16 by decide)) (zqW (ztC hv) hv1) (by decide) (by decide) (zbA pr' hm2) hm2 (zbm hS')
   ·exact h ns ws _ _ net hvw (by omega) l60 pr' hm2 hS'
  ·exact h.elim⟩)
def zxH  (zmk:Df K mg "_law_power" zmC zdp)(zbe:mg "range"=none):Fk P w K mg base 1 "_law_power" zdp zdi:=
 zmk.mk' (zax (k:=0) zmk.F zjI (ztN) λcdv A outer s H E hr=>⟨_,(zae (zal (i:=2) zjI.nd rfl (Or.inl rfl) zab) (zae (zo7 (i:=3) PassesOwn.never rfl zjI.nd rfl (Or.inl rfl) rfl zbe (zaa (dv 1) zac) (zag (zal (i:=2) zjI.nd rfl (Or.inl rfl) (zaf zaP (dv 2) (dv 0))))) (zag (zak (dv 2))))),λds S Q ex h=>by
  unfold zdi at h
  split at h
  ·rename_i x n
   obtain⟨⟨h0,h6,sx⟩,h⟩:=h
   refine⟨⟨by omega,by omega⟩,λk dl' S'=>S'=S∧k≤n.toNat∧∃(z:Int) (o:Option D),z=x^k∧dl'=[some (.int x),some (.int n),some (.int z),o],⟨rfl,Vax _,1,none,(VaO x).symm,rfl⟩,?_⟩
   rintro k dl' S' ⟨rfl,hk,z,o,rfl,rfl⟩
   refine zeG (λc=>?_) (λc=>?_)
   ·exact⟨zaH (m:=12001) (n:=2000) ((sx.pow k).mono (by omega)) sx,rfl,by omega,_,_,(Vaf x k).symm,rfl⟩
   ·have e:k=n.toNat:=by omega
    subst e
    exact h
  ·exact h.elim⟩)
def ztf  (zkQ:Df K mg "_law_forth" zmx zgu)(zb4:Fk P w K mg base 1 "_law_power" zdp zdi)(zaE:mg "max"=none)(zaU:mg "min"=none):Fk P w K mg base 2 "_law_forth" zgu zf9:=
 zkQ.mk' (zeN (zax (k:=1) zkQ.F zdO (zeu (zut)) λcdv A outer s H E hr=>⟨_,(zae (zau (zar (zaI hr) (zad (dv 0) zab (λ_ _=>rfl)) zaL (zap _)) (zag (zak (zaz (zaa (zaf zbj (zaf zaP (zad (dv 0) zab (λ_ _=>rfl)) (dv 3)) (zad (dv 0) zab (λ_ _=>rfl))) (zaa (zaZ za0 (zaf zbj (zaf zaP (zaZ za0 (zad (dv 0) zab (λ_ _=>rfl))) (dv 3)) (zad (dv 0) zab (λ_ _=>rfl)))) zac))))) zav) (zae (zau (zar (zaI hr) (zad (dv 0) zab (λ_ _=>rfl)) zaL (zap _)) (zag (zak (zaJ (dv 2) (zad (dv 0) zab (λ_ _=>rfl)) (λ_ _=>rfl)))) zav) (zae (zal (i:=4) zdO.nd rfl (Or.inl rfl) (zaJ (dv 1) (zad (dv 0) zab (λ_ _=>rfl)) (λ_ _=>rfl))) (zae (zau (zar (zaI hr) (zad (dv 0) zab (λ_ _=>rfl)) zaL (zap _)) (zae (zal (i:=5) zdO.nd rfl (Or.inl rfl) (zaq zb4 hr (zaa (dv 3) (zaa (zaf zbf (zad (dv 0) zab (λ_ _=>rfl)) zab) zac)))) (zae (zal (i:=6) zdO.nd rfl (Or.inl rfl) (za6 (zaa (zaq zb4 hr (zaa (zad (dv 4) zab (λ_ _=>rfl)) (zaa (zad (dv 0) zab (λ_ _=>rfl)) zac))) (zaa (zaq zb4 hr (zaa (zad (dv 4) zab (λ_ _=>rfl)) (zaa (zad (dv 0) zab (λ_ _=>rfl)) zac))) zac)))) (zae (zal (i:=7) zdO.nd rfl (Or.inl rfl) (zaG (zbh (zcn rfl)) rfl zaU Boot.«min» (zaa (dv 6) zac))) (zae (zau (PDW.pt (zcY (zar (zaI hr) (zaf zbb (zad (dv 0) zab (λ_ _=>rfl)) zab) zab (zap _)) (zd9 (zmm zcy zcy (zad (dv 4) zab (λ_ _=>rfl)) zab (zad (dv 4) zab (λ_ _=>rfl)))))) (zag (zal (i:=7) zdO.nd rfl (Or.inl rfl) zab)) zav) (zag (zak (zaz (zaa (zaf zbj (dv 7) (dv 5)) (zaa (zaZ za0 (zaf zbj (zaZ za0 (zaG (zbh (zbn rfl)) rfl zaE Boot.«max» (zaa (dv 6) zac))) (dv 5))) zac))))))))) zav) (zae (zal (i:=8) zdO.nd rfl (Or.inl rfl) (zaJ (dv 1) (zad (dv 0) zab (λ_ _=>rfl)) (λ_ _=>rfl))) (zae (zau (zar (zaI hr) (zad (dv 0) zab (λ_ _=>rfl)) zaL (zap _)) (zag (zak (zaz (zaa (zaf zaV (zad (dv 4) zab (λ_ _=>rfl)) (zad (dv 8) zab (λ_ _=>rfl))) (zaa (zaf zaV (zad (dv 4) zab (λ_ _=>rfl)) (zad (dv 8) zab (λ_ _=>rfl))) zac))))) zav) (zae (zau (zar (zaI hr) (zad (dv 0) zab (λ_ _=>rfl)) zaL (zap _)) (zag (zak (zaz (zaa (zaf zbf (zad (dv 4) zab (λ_ _=>rfl)) (zad (dv 8) zab (λ_ _=>rfl))) (zaa (zaf zbf (zad (dv 4) zab (λ_ _=>rfl)) (zad (dv 8) zab (λ_ _=>rfl))) zac))))) zav) (zae (zal (i:=6) zdO.nd rfl (Or.inl rfl) (za6 (zaa (zaf zaP (zad (dv 4) zab (λ_ _=>rfl)) (zad (dv 8) zab (λ_ _=>rfl))) (zaa (zaf zaP (zad (dv 4) zab (λ_ _=>rfl)) (zad (dv 8) zab (λ_ _=>rfl))) (zaa (zaf zaP (zad (dv 4) zab (λ_ _=>rfl)) (zad (dv 8) zab (λ_ _=>rfl))) (zaa (zaf zaP (zad (dv 4) zab (λ_ _=>rfl)) (zad (dv 8) zab (λ_ _=>rfl))) zac)))))) (zag (zak (zaz (zaa (zaf zbj (zaG (zbh (zcn rfl)) rfl zaU Boot.«min» (zaa (dv 6) zac)) (dv 3)) (zaa (zaZ za0 (zaf zbj (zaZ za0 (zaG (zbh (zbn rfl)) rfl zaE Boot.«max» (zaa (dv 6) zac))) (dv 3))) zac))))))))))))),λds S Q ex h=>by
  obtain⟨Q0,ex0,rfl,rfl,h⟩:=h
  unfold zf9 at h
  split at h
  ·rename_i d w p g
   obtain⟨v,vs,bs,rfl,hw,hp,ok,s1,hg,h⟩:=h
   have sg:Sz 21 g:=Sz.of 1000000 (by omega)
   cases v with
   | number x y=>
    have sx:Sz 31 x:=Sz.of (10^9) ok.2.2
    have sy:Sz 31 y:=Sz.of (10^9) (by have:=ok.1; omega)
    refine⟨zaH sx sg,sy.fd (by have:=ok.1; omega),zaH sx.neg sg,sy.fd (by have:=ok.1; omega),Pre.refl,zce,?_⟩
    have e:-x*g=-(x*g):=Vah _ _
    show Q0 (.tup [.int (x*g/y),.int (-(-x*g/y))]) S
    rw[e]
    exact h
   | unknown k=>exact zaB (o:=.lst (bs.map frD)) hp (zaQ ok) ⟨Pre.refl,zvJ _,h⟩
   | power i m=>
    have a:=s1.at ok.1
    obtain⟨ok1,m2,m6⟩:=ok
    refine zaB (o:=.lst (vs.map frD)) hw (zaQ ok1) ?_
    refine⟨⟨by omega,by omega,sg.mono (by decide)⟩,?_⟩
    refine⟨⟨by omega,m6,a.2.1.mono (by decide)⟩,⟨by omega,m6,a.2.2.mono (by decide)⟩,?_⟩
    have gp:(0:Int)<g^(m.toNat-1):=VaB (by omega)
    have egs:(m-1).toNat=m.toNat-1:=by omega
    have zs:Sz 200 (g^(m.toNat-1)):=(sg.pow _).mono (by omega)
    have zf:CFd 0 (g^(m-1).toNat):=by rw[egs]; exact zs.fd gp
    have fin:∀lo hi:Int,lo=zcz (gt vs i).1 (gt vs i).2 m.toNat→hi=zcS (gt vs i).1 (gt vs i).2 m.toNat→Q0 (.tup [.int (lo/g^(m-1).toNat),.int (-(-hi/g^(m-1).toNat))]) S:=λlo hi e1 e2=>by
     subst e1 e2
     rw[egs]
     exact h
    refine zbC (n:=S.length) (o:=.lst [.int ((gt vs i).1^m.toNat),.int ((gt vs i).2^m.toNat)]) (xs:=[(gt vs i).1^m.toNat,(gt vs i).2^m.toNat]) (zaC _ _) rfl (by simp) λmn q1 q2=>?_
    simp only[Vad,Vas,or_false] at q1
    have q3:=q2 ((gt vs i).1^m.toNat) (by simp)
    have q4:=q2 ((gt vs i).2^m.toNat) (by simp)
    refine ifD (λe=>?_) (λe=>?_)
    ·refine ifD (λc1=>?_) (λc1=>?_)
     ·refine ifD (λc2=>?_) (λc2=>?_)
      ·skip
       refine⟨zf,?_⟩
       refine zbC (n:=S.length) (o:=.lst [.int ((gt vs i).1^m.toNat),.int ((gt vs i).2^m.toNat)]) (xs:=[(gt vs i).1^m.toNat,(gt vs i).2^m.toNat]) (zaC _ _) rfl (by simp) λmx x1 x2=>?_
       simp only[Vad,Vas,or_false] at x1
       have x3:=x2 ((gt vs i).1^m.toNat) (by simp)
       have x4:=x2 ((gt vs i).2^m.toNat) (by simp)
       refine⟨zf,Pre.refl.push,zce,fin _ _ ?_ ?_⟩
       ·unfold zcz
        rw[if_pos ⟨by omega,c1,c2⟩]
       ·unfold zcS
        omega
      ·skip
       refine⟨zf,?_⟩
       refine zbC (n:=S.length) (o:=.lst [.int ((gt vs i).1^m.toNat),.int ((gt vs i).2^m.toNat)]) (xs:=[(gt vs i).1^m.toNat,(gt vs i).2^m.toNat]) (zaC _ _) rfl (by simp) λmx x1 x2=>?_
       simp only[Vad,Vas,or_false] at x1
       have x3:=x2 ((gt vs i).1^m.toNat) (by simp)
       have x4:=x2 ((gt vs i).2^m.toNat) (by simp)
       refine⟨zf,Pre.refl.push,zce,fin _ _ ?_ ?_⟩
       ·unfold zcz
        rw[if_neg (λc=>c2 c.2.2)]
        omega
       ·unfold zcS
        omega
     ·skip
      refine⟨zf,?_⟩
      refine zbC (n:=S.length) (o:=.lst [.int ((gt vs i).1^m.toNat),.int ((gt vs i).2^m.toNat)]) (xs:=[(gt vs i).1^m.toNat,(gt vs i).2^m.toNat]) (zaC _ _) rfl (by simp) λmx x1 x2=>?_
      simp only[Vad,Vas,or_false] at x1
      have x3:=x2 ((gt vs i).1^m.toNat) (by simp)
      have x4:=x2 ((gt vs i).2^m.toNat) (by simp)
      refine⟨zf,Pre.refl.push,zce,fin _ _ ?_ ?_⟩
      ·unfold zcz
       rw[if_neg (λc=>c1 c.2.1)]
       omega
      ·unfold zcS
       omega
    ·skip
     refine⟨zf,?_⟩
     refine zbC (n:=S.length) (o:=.lst [.int ((gt vs i).1^m.toNat),.int ((gt vs i).2^m.toNat)]) (xs:=[(gt vs i).1^m.toNat,(gt vs i).2^m.toNat]) (zaC _ _) rfl (by simp) λmx x1 x2=>?_
     simp only[Vad,Vas,or_false] at x1
     have x3:=x2 ((gt vs i).1^m.toNat) (by simp)
     have x4:=x2 ((gt vs i).2^m.toNat) (by simp)
     refine⟨zf,Pre.refl.push,zce,fin _ _ ?_ ?_⟩
     ·unfold zcz
      rw[if_neg (λc=>e (by have:=c.1; omega))]
      omega
     ·unfold zcS
      omega
   | times i j=>
    have a:=s1.at ok.1
    have b:=s1.at ok.2
    refine zaB (o:=.lst (vs.map frD)) hw (zaQ ok.1) ?_
    refine zaB (o:=.lst (vs.map frD)) hw (zaQ ok.2) ?_
    refine⟨zaH a.2.1 b.2.1,zaH a.2.1 b.2.2,zaH a.2.2 b.2.1,zaH a.2.2 b.2.2,?_⟩
    apply zbC
    ·exact zaC _ _
    ·rfl
    ·simp
    intro mn n1 n2
    refine⟨sg.fd (by omega),?_⟩
    apply zbC
    ·exact zaC _ _
    ·rfl
    ·simp
    intro mx x1 x2
    refine⟨sg.fd (by omega),Pre.refl.push,zce,?_⟩
    obtain⟨rfl,rfl⟩:=(zed.of n1 n2 x1 x2).eq
    exact h
   | plus i j=>
    refine zaB (o:=.lst (vs.map frD)) hw (zaQ ok.1) ?_
    refine zaB (o:=.lst (vs.map frD)) hw (zaQ ok.2) ?_
    exact⟨Pre.refl,zce,h⟩
   | minus i j=>
    refine zaB (o:=.lst (vs.map frD)) hw (zaQ ok.1) ?_
    refine zaB (o:=.lst (vs.map frD)) hw (zaQ ok.2) ?_
    exact⟨Pre.refl,zce,h⟩
  ·exact h.elim⟩))
def zsn  (zjZ:Df K mg "_law_worths" zky zfr)(zn2:Fk P w K mg base 2 "_law_forth" zgu zf9):Fk P w K mg base 3 "_law_worths" zfr zfP:=
 zjZ.mk' (zax (k:=2) zjZ.F zof (ztE) λcdv A outer s H E hr=>⟨_,(zae (zal (i:=3) zof.nd rfl (Or.inl rfl) (za6 zac)) (zae (zcN (i:=4) PassesOwn.never rfl zof.nd rfl (Or.inl rfl) (dv 0) (zag (zb6 (zbZ (dv 3) (zaq zn2 hr (zaa (dv 4) (zaa (dv 3) (zaa (dv 1) (zaa (dv 2) zac))))))))) (zag (zak (dv 3))))),λds S Q ex h=>by
  unfold zfP at h
  split at h
  ·rename_i a b g
   obtain⟨ns,ws,bs,ha,hb,net,sb,hg,hl,h⟩:=h
   refine zcj (n:=a) (o:=.lst (ns.map Nd.d)) (λk dl' S'=>k≤ns.length∧Pre S S'∧S'[S.length]?=some (.lst ((zaD bs g (ns.take k)).map frD))∧∃u:Option D,dl'=[some (.ref a),some (.ref b),some (.int g),some (.ref S.length),u]) ⟨Vax _,Pre.refl.push,zaC _ _,_,rfl⟩ (λk dl' S' w=>w.2.1 _ _ ha) ?_ ?_
   ·rintro k x dl' S' nx ct ex' ⟨hk,pr,hf,u,rfl⟩ hn
    have ex2:(ns.map Nd.d)[k]?=some x:=ex'
    rw[Vae] at ex2
    obtain⟨v,hv,rfl⟩:=Vai.mp ex2
    have hk':=(Vac.mp hv).1
    have ln:(zaD bs g (ns.take k)).length=k:=by rw[zcX,Vau]; omega
    have okv:v.ok (zaD bs g (ns.take k)).length bs.length:=by rw[ln]; exact(net.ok k v hv).1
    refine zqO (n:=S.length) (S1:=S') (S2:=S') (xs:=(zaD bs g (ns.take k)).map frD) (y:=frD (v.fw (zaD bs g (ns.take k)) bs g)) (λK hK=>by exact hK) hf (λK hK=>?_) hf (by rw[Vaa,ln]; omega) ?_
    ·exact⟨v,_,bs,rfl,hf,pr _ _ hb,okv,(zd2 net rfl sb hg k hk).mono (by decide),hg,hK⟩
    ·refine hn _ _ ⟨by omega,zbA pr (Vab _),?_,_,rfl⟩
     rw[zbG hv,zk1,Vaz]
     exact zbm hf
   ·rintro dl' S' ⟨hk,pr,hf,u,rfl⟩
    refine h _ _ pr (Vab _) ?_
    have e:ns.take (zat (.lst (ns.map Nd.d))).length=ns:=by
     show ns.take (ns.map Nd.d).length=ns
     rw[Vaa,VaM]
    rw[e] at hf
    exact hf
  ·exact h.elim⟩)
def zus  (zk9:Df K mg "_law_row_by" zkA zgh)(zcM:Fk P w K mg base 2 "_law_fraction" zd0 zeb)(zfs:Fk P w K mg base 3 "_law_worths" zfr zfP)(zbi:mg "abs"=none)(zaE:mg "max"=none)(za1:mg "len"=none):Fk P w K mg base 4 "_law_row_by" zgh zhk:=
 zk9.mk' (zax (k:=3) zk9.F zdU (ztY) λcdv A outer s H E hr=>⟨_,(zae (zal (i:=5) zdU.nd rfl (Or.inl rfl) (zaG (zbn rfl) rfl zaE Boot.«max» (zaa zab (zaa (zaf zbf (zaf zbf (zaG (zbh zcp) rfl za1 Boot.«len» (zaa (dv 0) zac)) zab) (zaf zbb (dv 3) zab)) zac)))) (zae (zal (i:=6) zdU.nd rfl (Or.inl rfl) (zaJ (za6 (zaa zaL (zaa zaL (zaa zaL (zaa zaL zac))))) (zaf zbb (zaf zb7 (dv 3) zab) zab) (λ_ _=>rfl))) (zae (zal (i:=7) zdU.nd rfl (Or.inl rfl) (zaJ (zaq zfs hr (zaa (dv 0) (zaa (dv 1) (zaa (dv 2) zac)))) (dv 5) (λ_ _=>rfl))) (zae (zal (i:=8) zdU.nd rfl (Or.inl rfl) (zaq zcM hr (zaa (zaf zaV (zad (dv 7) zab (λ_ _=>rfl)) (zaf zba (dv 4) (zaf zaV (zaf zbf (zad (dv 7) zab (λ_ _=>rfl)) (zad (dv 7) zab (λ_ _=>rfl))) zab))) (zaa (dv 2) zac)))) (zae (zau (PDW.pt (zcG (zar (zaI hr) (zaf zbb (zaf zb7 (dv 3) zab) zab) zab (zap _)) (zcG (zar zoF (zaG zdh rfl zbi Boot.«abs» (zaa (zad (dv 8) zab (λ_ _=>rfl)) zac)) (zaf zdm zab zab) (zap _)) (zcU (zar zoF (zad (dv 8) zab (λ_ _=>rfl)) (zaf zdm zab zab) (zap _)))))) (zag (zak (zaz (zaa (dv 6) (zaa (dv 5) zac))))) zav) (zae (zal (i:=9) zdU.nd rfl (Or.inl rfl) (zaz (zaa zaL (zaa (zad (dv 8) zab (λ_ _=>rfl)) (zaa (zad (dv 8) zab (λ_ _=>rfl)) zac))))) (zae (zau (zar (zjk hr) (dv 9) (dv 0) rfl) (zag (zb6 (zbZ (dv 0) (dv 9)))) zav) (zae (zal (i:=10) zdU.nd rfl (Or.inl rfl) (zaz (zaa zaL (zaa (dv 5) (zaa (zqr (k:=1) hr (by decide) (dv 0) (zaa (dv 9) zac)) zac))))) (zae (zau (zar (zjk hr) (dv 10) (dv 0) rfl) (zag (zb6 (zbZ (dv 0) (dv 10)))) zav) (zag (zak (zaz (zaa (dv 6) (zaa (zqr (k:=1) hr (by decide) (dv 0) (zaa (dv 10) zac)) zac)))))))))))))),λds S Q ex h=>by
  unfold zhk at h
  split at h
  ·rename_i a b g f c
   obtain⟨ns,ws,bs,ha,hb,ab,net,hv,sb,hg,l1,l60,h⟩:=h
   refine zcD ha ?_
   rw[Vaa]
   have four:∀i:Int,inR 4 i→∃(x:Str) (zero:Bool),rwW zero x∧atI [D.str "zero",D.str "zero",D.str "zero",D.str "least"] i=some (.str x):=λi hi=>by
    obtain⟨h0,h3⟩:=hi
    have z:i=0∨i=1∨i=2∨i=3:=by omega
    rcases z with rfl | rfl | rfl | rfl
    ·exact⟨_,true,.inl ⟨rfl,rfl⟩,rfl⟩
    ·exact⟨_,true,.inl ⟨rfl,rfl⟩,rfl⟩
    ·exact⟨_,true,.inl ⟨rfl,rfl⟩,rfl⟩
    ·exact⟨_,false,.inr ⟨rfl,rfl⟩,rfl⟩
   obtain⟨x,zero,hx,ex'⟩:=four (f/12%4) (za7 (by decide))
   have atR:inR ((ns.length:Nat):Int) (if ((ns.length:Nat):Int)-1-f%3 > 0 then ((ns.length:Nat):Int)-1-f%3 else 0):=by
    have:=za7 (a:=f) (b:=3) (by decide)
    unfold inR
    split <;> omega
   refine zaB (o:=.lst [.str "zero",.str "zero",.str "zero",.str "least"]) (zaC _ _) ex' ?_
   refine⟨ns,ws,bs,zaF ha,zaF hb,net,sb,hg,by omega,λT m pr lm hf=>?_⟩
   have prS:Pre S T:=λn o e=>pr n o (zaF e)
   have s1:Spn 1000 (zaD bs g ns):=by
    have z:=zd2 net rfl sb hg ns.length (Vab _)
    rwa [VaM] at z
   have ik:inR (((zaD bs g ns).length:Nat):Int) (if ((ns.length:Nat):Int)-1-f%3 > 0 then ((ns.length:Nat):Int)-1-f%3 else 0):=by rw[zcX]; exact atR
   refine zaB (o:=.lst ((zaD bs g ns).map frD)) hf (zaQ ik) ?_
   have sk:=s1.at ik
   have lT:S.length≤T.length:=zb0 prS
   have g0:=Gr.pre net ha prS lT
   obtain⟨tn,et⟩:∃tn:Nat,(if ((ns.length:Nat):Int)-1-f%3 > 0 then ((ns.length:Nat):Int)-1-f%3 else 0)=(tn:Int):=⟨((if ((ns.length:Nat):Int)-1-f%3 > 0 then ((ns.length:Nat):Int)-1-f%3 else 0)).toNat,by have:=atR.1; omega⟩
   rw[et] at atR sk ik
   have htn:tn<ns.length:=by have:=atR.2; omega
   have ret:Q (.tup [.str x,.int (if ((ns.length:Nat):Int)-1-f%3 > 0 then ((ns.length:Nat):Int)-1-f%3 else 0)]) T:=by
    rw[et]
    exact h T x zero tn ns ws hx (g0.mono (by decide)) htn
   refine⟨show 0<(gt (zaD bs g ns) (if ((ns.length:Nat):Int)-1-f%3 > 0 then ((ns.length:Nat):Int)-1-f%3 else 0)).2-(gt (zaD bs g ns) (if ((ns.length:Nat):Int)-1-f%3 > 0 then ((ns.length:Nat):Int)-1-f%3 else 0)).1+1 by rw[et]; omega,?_⟩
   refine⟨⟨by omega,Sz.of (n:=4000) 1000000 (by omega) (Vap (show 1000000<2^21 by decide) (Nat.pow_le_pow_right (by decide) (by decide)))⟩,λt u q1 q2 q3 q4 q5=>?_⟩
   refine ifD (λe=>ret) (λ_=>?_)
   refine ifD (λe=>ret) (λc2=>?_)
   refine ifD (λe=>ret) (λc3=>?_)
   have e2':=nine (Int.not_le.mp c2)
   have e3':=nine3 (Int.not_le.mp c3)
   dsimp only[L3.zmi]
   refine zdX (λdl2 S2=>∃(n1:List Nd) (w1:List Nat) (j:Nat),Gr bs.length a 1 T ns ws S2 n1 w1∧n1[j]?=some (.number t u)∧dl2=[some (.ref a),some (.ref b),some (.int g),some (.int f),some (.int c),some (.int (if ((ns.length:Nat):Int)-1-f%3 > 0 then ((ns.length:Nat):Int)-1-f%3 else 0)),some (.str x),some (frD (gt (zaD bs g ns) (if ((ns.length:Nat):Int)-1-f%3 > 0 then ((ns.length:Nat):Int)-1-f%3 else 0))),some (.tup [.int t,.int u]),some (.tup [.str "number",.int t,.int u]),none]) (λnx hn=>?_) ?_
   ·obtain⟨o,e1,e2,e3⟩:=zhI (.number t u) ns
    refine zpY (o:=o) g0.nd e2 ?_
    cases o with
    | some j=>
     refine zbM ?_
     exact hn _ _ ⟨ns,ws,j,(Gr.refl g0.net g0.nd).mono (by decide),e3 j rfl,rfl⟩
    | none=>
     refine zcc ?_
     refine zcd (n:=a) (S1:=T) (xs:=List.map Nd.d ns) (y:=Nd.d (.number t u)) (λK hK=>by exact hK) g0.nd (λK hK=>by exact hK) (by rw[Vaa]; omega) ?_
     exact hn _ _ ⟨ns++[.number t u],ws++[Nd.wt ws (.number t u)],List.length ns,⟨g0.net.snoc (v:=.number t u) ⟨⟨q1,e3'⟩,q2,e2'⟩ (show 1≤16 by decide),⟨[.number t u],rfl,by simp⟩,⟨_,rfl⟩,by rw[Vaz]; exact zbm g0.nd,by simp,λx o hx e=>zbk e (Ne.symm hx)⟩,by simp,rfl⟩
   rintro dl2 S2 ⟨n1,w1,j0,g1,hj0,rfl⟩
   obtain⟨o,f1,f2,f3⟩:=zhI (.number t u) n1
   cases o with
   | none=>exact absurd f2 (any_some hj0)
   | some j1=>
    have hj1:=f3 j1 rfl
    have lj1:=(Vac.mp hj1).1
    have nl:=g1.ln
    have w1e:w1.getD j1 0=1:=(g1.net.ok j1 _ hj1).2.1
    have wte:=g1.wt net htn
    have ht:=hv tn
    have w16:Nd.wt w1 (.minus (tn:Int) (j1:Int))≤16:=by
     show w1.getD ((tn:Nat):Int).toNat 0+w1.getD ((j1:Nat):Int).toNat 0≤16
     rw[Vav,Vav]
     omega
    refine zdX (λdl2 S3=>∃(n2:List Nd) (w2:List Nat) (j:Nat),Gr bs.length a 1 S2 n1 w1 S3 n2 w2∧n2[j]?=some (.minus (tn:Int) (j1:Int))∧dl2=[some (.ref a),some (.ref b),some (.int g),some (.int f),some (.int c),some (.int (tn:Int)),some (.str x),some (frD (gt (zaD bs g ns) (tn:Int))),some (.tup [.int t,.int u]),some (.tup [.str "number",.int t,.int u]),some (.tup [.str "minus",.int (tn:Int),.int (j1:Int)])]) (λnx hn=>?_) ?_
    ·refine zp1 (n:=a) (v:=.number t u) (ns:=n1) (λK hK=>by exact hK) (λK hK=>by exact hK) g1.nd f1 ?_
     rw[et]
     obtain⟨o,e1,e2,e3⟩:=zhI (.minus (tn:Int) (j1:Int)) n1
     refine zpY (v:=.minus (tn:Int) (j1:Int)) (o:=o) g1.nd e2 ?_
     cases o with
     | some j=>
      refine zbM ?_
      exact hn _ _ ⟨n1,w1,j,(Gr.refl g1.net g1.nd).mono (by decide),e3 j rfl,rfl⟩
     | none=>
      refine zcc ?_
      refine zcd (n:=a) (S1:=S2) (xs:=List.map Nd.d n1) (y:=Nd.d (.minus (tn:Int) (j1:Int))) (λK hK=>by exact hK) g1.nd (λK hK=>by exact hK) (by rw[Vaa]; omega) ?_
      exact hn _ _ ⟨n1++[.minus (tn:Int) (j1:Int)],w1++[Nd.wt w1 (.minus (tn:Int) (j1:Int))],List.length n1,⟨g1.net.snoc (v:=.minus (tn:Int) (j1:Int)) ⟨⟨by omega,by omega⟩,⟨by omega,by omega⟩⟩ w16,⟨[.minus (tn:Int) (j1:Int)],rfl,by simp⟩,⟨_,rfl⟩,by rw[Vaz]; exact zbm g1.nd,by simp,λx o hx e=>zbk e (Ne.symm hx)⟩,by simp,rfl⟩
    rintro dl2 S3 ⟨n2,w2,j2,g3,hj2,rfl⟩
    obtain⟨o,k1,k2,k3⟩:=zhI (.minus (tn:Int) (j1:Int)) n2
    cases o with
    | none=>exact absurd k2 (any_some hj2)
    | some j3=>
     have hj3:=k3 j3 rfl
     refine zp1 (n:=a) (v:=.minus (tn:Int) (j1:Int)) (ns:=n2) (λK hK=>by exact hK) (λK hK=>by exact hK) g3.nd k1 ?_
     exact h S3 x zero j3 n2 w2 hx (((g0.trans g1).trans g3).mono (by decide)) (Vac.mp hj3).1
  ·exact h.elim⟩)
def zx7  (zlv:Df K mg "_law_digit_span" zm4 zhW):Fk P w K mg base 1 "_law_digit_span" zhW zf5:=
 zlv.mk' (zax (k:=0) zlv.F zpw (zwY) λcdv A outer s H E hr=>⟨_,(zae (zal (i:=1) zpw.nd rfl (Or.inl rfl) (zaf zbf (zaf zba (dv 0) zab) zab)) (zag (zak (zaz (zaa (dv 1) (zaa (zaf zaV (dv 1) (zaf zba (zaf zbj (dv 0) zab) (zaf zbf zab (dv 1)))) zac)))))),λds S Q ex h=>by
  unfold zf5 at h
  split at h
  ·rename_i c
   obtain⟨c0,h⟩:=h
   have r0:=za7 (a:=c) (b:=1999999999999999) (by decide)
   have pd:(0:Int)<1000000000000000-(c%1999999999999999-999999999999999):=by omega
   have r1:=za7 (a:=c/1999999999999999) pd
   refine⟨show (0:Int)<1999999999999999 by decide,?_⟩
   refine⟨(Sz.of (n:=60) 1999999999999999 (by decide):Sz 60 1999999999999999).fd (by decide),?_⟩
   refine⟨pd,?_⟩
   exact h _ _ (by omega) (by omega) (by omega)
  ·exact h.elim⟩)
def ztT  (zlV:Df K mg "_law_digit_node" zkJ zhF)(zcM:Fk P w K mg base 2 "_law_fraction" zd0 zeb):Fk P w K mg base 3 "_law_digit_node" zhF zgn:=
 zlV.mk' (zeN (zax (k:=2) zlV.F zi2 (zeu (zul)) λcdv A outer s H E hr=>⟨_,(zae (zal (i:=3) zi2.nd rfl (Or.inl rfl) (zaf zbb (dv 0) zab)) (zae (zal (i:=0) zi2.nd rfl (Or.inl rfl) (zaf zb7 (dv 0) zab)) (zae (zau (zar (zaI hr) (dv 3) zab (zap _)) (zae (zal (i:=4) zi2.nd rfl (Or.inl rfl) (zaq zcM hr (zaa (zaf zbf (zaf zba (dv 0) zab) zab) (zaa (zaf zaV zab (zaf zbb (zaf zbj (dv 0) zab) zab)) zac)))) (zag (zak (zaz (zaa zaL (zaa (zad (dv 4) zab (λ_ _=>rfl)) (zaa (zad (dv 4) zab (λ_ _=>rfl)) zac))))))) zav) (zae (zau (PDW.pt (zcG (zar (zaI hr) (dv 3) zab (zap _)) (zcU (zar (zaI hr) (dv 1) zab (zap _))))) (zag (zak (zaz (zaa zaL (zaa (zaf zba (dv 0) (dv 2)) zac))))) zav) (zae (zau (zar (zaI hr) (dv 3) zab (zap _)) (zag (zak (zaz (zaa zaL (zaa (zaf zba (dv 0) (dv 1)) (zaa (zaf zaV zab (zaf zbb (zaf zbj (dv 0) (dv 1)) zab)) zac)))))) zav) (zag (zak (zaz (zaa (zaJ (za6 (zaa zaL (zaa zaL (zaa zaL zac)))) (zaf zbf (dv 3) zab) (λ_ _=>rfl)) (zaa (zaf zba (dv 0) (dv 1)) (zaa (zaf zba (zaf zbj (dv 0) (dv 1)) (dv 1)) zac))))))))))),λds S Q ex h=>by
  obtain⟨Q0,ex0,rfl,rfl,h⟩:=h
  unfold zgn at h
  split at h
  ·rename_i c m q
   obtain⟨⟨m0,m1,q0,q1,c0⟩,h⟩:=h
   have h':∀v:Nd,v.ok m q→Gc S Q0 v.d S:=λv z=>⟨Pre.refl,zdz v,h v z⟩
   refine ifD (λe=>?_) (λe=>?_)
   ·have r1:=za7 (a:=c/6) (b:=1999999999) (by decide)
    have r2:=za7 (a:=c/6/1999999999) (b:=999999999) (by decide)
    refine⟨show (0:Int)<1999999999 by decide,?_⟩
    refine⟨(Sz.of (n:=60) 1999999999 (by decide):Sz 60 1999999999).fd (by decide),?_⟩
    refine⟨⟨show 0<1+c/6/1999999999%999999999 by omega,Sz.of (10^10) (by show (1+c/6/1999999999%999999999).natAbs≤_; omega)⟩,λt b h1 h2 h3 h4 h5=>?_⟩
    exact h' (.number t b) ⟨⟨h1,by omega⟩,h2,by omega⟩
   have pq:0<q:=by omega
   have rq:=za7 (a:=c/6) pq
   have un:=h' (.unknown (c/6%q)) rq
   refine ifD (λe=>⟨pq,un⟩) (λe1=>?_)
   refine ifD (λe=>⟨pq,un⟩) (λe2=>?_)
   have pm:0<m:=by omega
   have rm:=za7 (a:=c/6) pm
   have fm:CFd 0 m:=(Sz.of (n:=20) 1000 (by omega):Sz 20 m).fd pm
   refine ifD (λe=>?_) (λe3=>?_)
   ·have r5:=za7 (a:=c/6/m) (b:=5) (by decide)
    exact⟨pm,fm,h' (.power (c/6%m) _) ⟨rm,by omega,by omega⟩⟩
   have rj:=za7 (a:=c/6/m) pm
   have three:∀i:Int,inR 3 i→∃x:Str,(x="plus"∨x="minus"∨x="times")∧atI [D.str "plus",D.str "minus",D.str "times"] i=some (.str x):=λi hi=>by
    obtain⟨h0,h3⟩:=hi
    have z:i=0∨i=1∨i=2:=by omega
    rcases z with rfl | rfl | rfl
    ·exact⟨_,.inl rfl,rfl⟩
    ·exact⟨_,.inr (.inl rfl),rfl⟩
    ·exact⟨_,.inr (.inr rfl),rfl⟩
   obtain⟨x,hx,ex'⟩:=three (c%6-3) ⟨by omega,by omega⟩
   refine zaB (o:=.lst [.str "plus",.str "minus",.str "times"]) (zaC _ _) ex' ?_
   refine⟨pm,fm,pm,?_⟩
   rcases hx with rfl | rfl | rfl
   ·exact⟨Pre.refl.push,zdz (.plus _ _),h (.plus _ _) ⟨rm,rj⟩⟩
   ·exact⟨Pre.refl.push,zdz (.minus _ _),h (.minus _ _) ⟨rm,rj⟩⟩
   ·exact⟨Pre.refl.push,zdz (.times _ _),h (.times _ _) ⟨rm,rj⟩⟩
  ·exact h.elim⟩))
def zvV  (ziV:Df K mg "_law_by_digits" zfJ zh2)(zeW:Fk P w K mg base 1 "_law_weight" zfo zey)(zoi:Fk P w K mg base 3 "_law_digit_node" zhF zgn)(znJ:Fk P w K mg base 1 "_law_digit_span" zhW zf5)(za1:mg "len"=none)(zbe:mg "range"=none)(zbi:mg "abs"=none):Fk P w K mg base 4 "_law_by_digits" zh2 zh0:=
 ziV.mk' (zax (k:=3) ziV.F zcT (ztL) λcdv A outer s H E hr=>⟨_,(zae (zal (i:=1) zcT.nd rfl (Or.inr rfl) (zaf zwy (zmZ (x:="_law_cell_here") (N:=[]) (caps:=[]) (ar:=zas zfJ) rfl rfl csc rfl (by decide) (dv 0) (λ_ _ _ _ _ _=>zdg) (λ_ _ _ _ _ _=>(zaG zdh rfl zbi Boot.«abs» (zaa (dv 0) zac)))) (za6 (zaa zab (zaa zab (zaa zab (zaa zab (zaa zab (zaa zab (zaa zab zac)))))))))) (zae (zal (i:=2) zcT.nd rfl (Or.inl rfl) (zaf zaV zab (zaf zbb (zaJ (dv 1) zab (λ_ _=>rfl)) zab))) (zae (zo2 (x:="_law_k") (N:=["_law_some"]) (caps:=[1]) (ar:=zas zfJ) rfl rfl csc rfl (by decide) (i:=3) zcT.nd rfl rfl rfl zbe (zaa (dv 2) zac) (λ_ _ _ _ _ _=>zdg) (λ_ _ _ _ _ _=>(zaq znJ hr (zaa (zaJ (dv 1) (zaf zaV zab (dv 0)) (λ_ _=>rfl)) zac)))) (zae (zal (i:=4) zcT.nd rfl (Or.inl rfl) (za6 zac)) (zae (zal (i:=5) zcT.nd rfl (Or.inl rfl) (za6 zac)) (zae (zcN (i:=6) PassesOwn.never rfl zcT.nd rfl (Or.inl rfl) (zjj (dv 1) (zeK zab) (zeK zab)) (zae (zal (i:=7) zcT.nd rfl (Or.inl rfl) (zaq zoi hr (zaa (dv 6) (zaa (zaG (zbh zcp) rfl za1 Boot.«len» (zaa (dv 4) zac)) (zaa (dv 2) zac))))) (zae (zal (i:=8) zcT.nd rfl (Or.inl rfl) (zaq zeW hr (zaa (dv 7) (zaa (dv 5) zac)))) (zag (zau (PDW.pt (zcY (zar zcy (dv 8) zab (zap _)) (zcY (zar zbp (zaG (zbh zcp) rfl za1 Boot.«len» (zaa (dv 4) zac)) zab (zap _)) (zd9 (zar (zjk hr) (dv 7) (dv 4) rfl))))) (zae (zb6 (zbZ (dv 4) (dv 7))) (zag (zb6 (zbZ (dv 5) (dv 8))))) zav))))) (zae (zau (zar (zaI hr) (zaG (zbh zcp) rfl za1 Boot.«len» (zaa (dv 4) zac)) zab (zap _)) (zag (zb6 (zbZ (dv 4) (zaz (zaa zaL (zaa zab zac)))))) zav) (zae (zal (i:=9) zcT.nd rfl (Or.inl rfl) (zaz (zaa (zaJ (za6 (zaa zaL (zaa zaL zac))) (zaf zbb (zaf zb7 (zaJ (dv 1) zab (λ_ _=>rfl)) zab) zab) (λ_ _=>rfl)) (zaa (zaf zba (zaf zb7 (zaJ (dv 1) zab (λ_ _=>rfl)) zab) (zaG (zbh zcp) rfl za1 Boot.«len» (zaa (dv 4) zac))) zac)))) (zag (zak (zaz (zaa (zaf zaV zab (zaf zbb (zaJ (dv 1) zab (λ_ _=>rfl)) zab)) (zaa (dv 3) (zaa (dv 4) (zaa (dv 9) zac))))))))))))))),λds S Q ex h=>by
  unfold zh0 at h
  split at h
  ·rename_i s
   obtain⟨ns,rfl,rfl,hl,h⟩:=h
   refine zp0 (n:=0) (o:=.frz (ns.map D.int)) (S1:=[.frz (ns.map D.int)]) (λ_ d=>∃c:Int,d=.int c∧0≤c) (λK hK=>by exact hK) rfl (by show (ns.map D.int).length≤1000; rw[Vaa]; omega) (λk x hx S2 K pr hK=>?_) (λxs lx hx=>?_)
   ·have hx2:(ns.map D.int)[k]?=some x:=hx
    rw[Vae] at hx2
    obtain⟨c,_,rfl⟩:=Vai.mp hx2
    exact hK _ ⟨_,rfl,by split <;> omega⟩
   have lx2:xs.length=ns.length:=by rw[lx]; exact Vaa ..
   obtain⟨as,rfl,nas⟩:=nn_of hx
   rw[Vaa] at lx2
   refine zya (n:=1) (m:=2) (xs:=as.map D.int) (ys:=[0,0,0,0,0,0,0].map D.int) rfl rfl (by rw[Vaa,Vaa]; show as.length+7≤1000; omega) ?_
   rw[← Vaz]
   have ncs:∀c∈as++[0,0,0,0,0,0,0],(0:Int)≤c:=λc hc=>by
    rcases VaI.mp hc with z | z
    ·exact nas c z
    ·simp only[Vad,Vas,or_false] at z
     omega
   have lcs:(as++[0,0,0,0,0,0,0]).length=as.length+7:=by simp
   generalize as++[0,0,0,0,0,0,0]=cs at ncs lcs
   have cat:∀ {i:Int},0≤i→i≤6→atI (cs.map D.int) i=some (.int (cs.getD i.toNat 0)):=λ{i} h0 h6=>zt5 ⟨h0,by omega⟩
   refine zaB (n:=3) (o:=.lst (cs.map D.int)) (i:=2) rfl (cat (by decide) (by decide)) ?_
   have c2:=zph ncs (2:Int).toNat
   have a2:=cat (i:=2) (by decide) (by decide)
   generalize cs.getD (2:Int).toNat 0=x2 at c2 a2
   have dr:∀a b:Int,a≤b→a.natAbs≤10^15→b.natAbs≤10^15→∃p:Int×Int,(D.tup [.int a,.int b])=frD p∧(p.1≤p.2∧Sz 51 p.1∧Sz 51 p.2):=λa b h1 h2 h3=>⟨(a,b),rfl,h1,(Sz.of (n:=51) (10^15) h2),(Sz.of (n:=51) (10^15) h3)⟩
   refine zpV (j:=1+x2%4) (S1:=[Ob.frz (ns.map D.int),Ob.lst (as.map D.int),Ob.lst ([0,0,0,0,0,0,0].map D.int),Ob.lst (cs.map D.int)]) (λ_ d=>∃p,d=frD p∧(p.1≤p.2∧Sz 51 p.1∧Sz 51 p.2)) (λK hK=>by exact hK) ⟨by omega,by omega⟩ (λk hk S2 K pr hK=>?_) (λxs lx hx=>?_)
   ·refine zaB (n:=3) (o:=.lst (cs.map D.int)) (i:=3+(k:Int)) (pr 3 _ rfl) (cat (by omega) (by omega)) ?_
    exact⟨zph ncs _,λt b h1 h2 h3=>hK _ (dr t b h1 h2 h3)⟩
   obtain⟨ps,rfl,gp⟩:=zn7 xs hx
   rw[Vaa] at lx
   have epl:1+x2%4=((ps.length:Nat):Int):=by omega
   have pl:1≤ps.length∧ps.length≤4:=by omega
   have lc:(zbv (cs.map D.int) (some 7) (some 63)).length≤70:=by
    have z:=zxL (α:=Nat) (xs:=cs.map D.int) (lo:=some 7) (hi:=some 63)
    rw[Vaa] at z
    omega
   refine zjX (n:=3) (o:=.lst (cs.map D.int)) (lo:=some 7) (hi:=some 63) (S3:=[Ob.frz (ns.map D.int),Ob.lst (as.map D.int),Ob.lst ([0,0,0,0,0,0,0].map D.int),Ob.lst (cs.map D.int)]++[Ob.lst (ps.map frD)]++[Ob.lst []]++[Ob.lst []]) (λK hK=>by exact hK) (λK hK=>by exact hK) (λK hK=>by exact hK) rfl ?_
   rw[show zat (Ob.lst (cs.map D.int))=cs.map D.int from rfl]
   refine zcj (n:=7) (o:=.lst (zbv (cs.map D.int) (some 7) (some 63))) (λi dl' S'=>∃(vs:List Nd) (ws:List Nat),zaM ps.length vs ws∧vs.length≤60∧Pre ([Ob.frz (ns.map D.int),Ob.lst (as.map D.int),Ob.lst ([0,0,0,0,0,0,0].map D.int),Ob.lst (cs.map D.int)]++[Ob.lst (ps.map frD)]) S'∧S'[5]?=some (.lst (vs.map Nd.d))∧S'[6]?=some (.lst (ws.map wtD))∧S'[7]?=some (.lst (zbv (cs.map D.int) (some 7) (some 63)))∧∃u6 u7 u8:Option D,dl'=[some (.ref 0),some (.ref 3),some (.int (1+x2%4)),some (.ref 4),some (.ref 5),some (.ref 6),u6,u7,u8,none]) ⟨[],[],zaM.nil _,by decide,λn o e=>zaF (zaF (zaF e)),rfl,rfl,rfl,_,_,_,rfl⟩ (λi dl' S' ⟨_,_,_,_,_,_,_,q,_⟩=>q) ?_ ?_
   ·rintro i x dl' S' nx ct ex' ⟨vs,ws,net,l60,pr',hS',hW',hC',u6,u7,u8,rfl⟩ hn
    have ex2:(zbv (cs.map D.int) (some 7) (some 63))[i]?=some x:=ex'
    have hxm:x∈cs.map D.int:=zs4 (Vak ex2)
    obtain⟨c,hcm,rfl⟩:=Va3.mp hxm
    refine zcD hS' ?_
    rw[Vaa]
    refine⟨⟨by omega,by omega,by omega,by omega,ncs c hcm⟩,λv ok=>?_⟩
    rw[epl] at ok
    have okw:v.ok ws.length ((ps.length:Nat):Int):=by rw[net.len]; exact ok
    refine⟨v,ws,_,rfl,hW',okw,λi hi=>(net.w1 (by rw[← net.len]; exact hi)).2,?_⟩
    have on:=hn _ _ ⟨vs,ws,net,l60,pr',hS',hW',hC',some (.int c),some v.d,some (.int (v.wt ws:Nat)),rfl⟩
    refine ifD (λe1=>?_) (λe1=>on)
    refine zcD hS' ?_
    rw[Vaa]
    refine ifD (λe2=>?_) (λe2=>on)
    refine zq4 hS' λb=>?_
    cases b with
    | false=>exact on
    | true=>
     refine zcd (n:=5) (S1:=S') (xs:=vs.map Nd.d) (y:=v.d) (λK hK=>by exact hK) hS' (λK hK=>by exact hK) (by rw[Vaa]; omega) ?_
     refine zcd (n:=6) (S1:=S'.set 5 (.lst (vs.map Nd.d++[v.d]))) (xs:=ws.map wtD) (y:=wtD (v.wt ws)) (λK hK=>by exact hK) (zbk hW' (by decide)) (λK hK=>by exact hK) (by rw[Vaa,net.len]; omega) ?_
     refine hn _ _ ⟨vs++[v],ws++[v.wt ws],net.snoc ok (by omega),by simp; omega,zbA (zbA pr' (show 5≤5 by decide)) (show 5≤6 by decide),?_,?_,zbk (zbk hC' (by decide)) (by decide),_,_,_,rfl⟩
     ·rw[Vaz]
      exact zbk (zbm hS') (by decide)
     ·rw[Vaz]
      exact zbm (zbk hW' (by decide))
   rintro dl' S' ⟨vs,ws,net,l60,pr',hS',hW',hC',u6,u7,u8,rfl⟩
   have c1:=zph ncs (1:Int).toNat
   have r1:=za7 (a:=cs.getD (1:Int).toNat 0) (b:=1000000) (by decide)
   have two:∀i:Int,inR 2 i→∃(x:Str) (zero:Bool),rwW zero x∧atI [D.str "zero",D.str "least"] i=some (.str x):=λi hi=>by
    obtain⟨h0,h3⟩:=hi
    have z:i=0∨i=1:=by omega
    rcases z with rfl | rfl
    ·exact⟨_,true,.inl ⟨rfl,rfl⟩,rfl⟩
    ·exact⟨_,false,.inr ⟨rfl,rfl⟩,rfl⟩
   have pre0:∀ {U:Sto},Pre ([Ob.frz (ns.map D.int),Ob.lst (as.map D.int),Ob.lst ([0,0,0,0,0,0,0].map D.int),Ob.lst (cs.map D.int)]++[Ob.lst (ps.map frD)]) U→Pre [Ob.frz (ns.map D.int)] U:=λq n o e=>q _ _ (by cases n with | zero=>exact e | succ n=>cases e)
   dsimp only
   refine zot (λdl2 S3=>∃(vs:List Nd) (ws:List Nat),zaM ps.length vs ws∧vs.length≤60∧1≤vs.length∧Pre ([Ob.frz (ns.map D.int),Ob.lst (as.map D.int),Ob.lst ([0,0,0,0,0,0,0].map D.int),Ob.lst (cs.map D.int)]++[Ob.lst (ps.map frD)]) S3∧S3[5]?=some (.lst (vs.map Nd.d))∧dl2=[some (.ref 0),some (.ref 3),some (.int (1+x2%4)),some (.ref 4),some (.ref 5),some (.ref 6),u6,u7,u8,none]) (λnx hn=>?_) ?_
   ·refine zcD hS' ?_
    rw[Vaa]
    refine ifD (λe=>?_) (λe=>?_)
    ·refine zcd (n:=5) (S1:=S') (xs:=vs.map Nd.d) (y:=Nd.d (.unknown 0)) (λK hK=>by exact hK) hS' (λK hK=>by exact hK) (by rw[Vaa]; omega) ?_
     have e0:vs=[]:=List.eq_nil_of_length_eq_zero (by omega)
     subst e0
     have w0:ws=[]:=List.eq_nil_of_length_eq_zero net.len
     subst w0
     exact hn _ _ ⟨[.unknown 0],[1],zaM.snoc (zaM.nil _) (v:=.unknown 0) ⟨by decide,by omega⟩ (show 1≤16 by decide),by decide,by decide,zbA pr' (show 5≤5 by decide),zbm hS',rfl⟩
    ·exact hn _ _ ⟨vs,ws,net,l60,by omega,pr',hS',rfl⟩
   clear hS' hW' hC' pr' net l60
   rintro dl2 S3 ⟨vs,ws,net,l60,l1,pr',hS',rfl⟩
   obtain⟨x,zero,hx,ex'⟩:=two (x2/4%2) (za7 (by decide))
   have pv:(0:Int)<((vs.length:Nat):Int):=by omega
   have rv:=za7 (a:=x2/8) pv
   obtain⟨kn,ek⟩:∃kn:Nat,x2/8%((vs.length:Nat):Int)=(kn:Int):=⟨(x2/8%((vs.length:Nat):Int)).toNat,by omega⟩
   refine zaB (n:=3) (o:=.lst (cs.map D.int)) (i:=2) (zaF (pr' 3 _ rfl)) a2 ?_
   refine zaB (o:=.lst [.str "zero",.str "least"]) (zaC _ _) ex' ?_
   refine zaB (n:=3) (o:=.lst (cs.map D.int)) (i:=2) (zaF (pr' 3 _ rfl)) a2 ?_
   refine zcD (zaF hS') ?_
   rw[Vaa]
   refine⟨pv,?_⟩
   refine zaB (n:=3) (o:=.lst (cs.map D.int)) (i:=1) (zaF (pr' 3 _ rfl)) (cat (by decide) (by decide)) ?_
   have z:=h (S3++[.lst [.str "zero",.str "least"]]) (1+cs.getD (1:Int).toNat 0%1000000) kn ps vs ws 4 5 x zero (zbz (pre0 pr') _) ⟨by omega,by omega⟩ (zaF (pr' 4 _ rfl)) (zaF hS') net gp pl (by omega) hx (by omega)
   rw[← ek] at z
   exact z
  ·exact h.elim⟩)
def zt1  (ziZ:Df K mg "_law_cell" zlQ zh1)(za1:mg "len"=none):Fk P w K mg base 1 "_law_cell" zh1 zgG:=
 ziZ.mk' (zax (k:=0) ziZ.F zwC (zwq) λcdv A outer s H E hr=>⟨_,(zae (zau (zar zbp (dv 1) (zaG zcp rfl za1 Boot.«len» (zaa (dv 0) zac)) (zap _)) (zag (zak (zad (dv 0) (dv 1) (λ_ _=>rfl)))) zav) (zag (zak zab))),λds S Q ex h=>by
  unfold zgG at h
  split at h
  ·rename_i n k
   obtain⟨ns,h1,h2,h3⟩:=h
   simp only[zmi,zcF,zqL,dRet,dRetN,dIf,zlp,zkj,dC,dOp,dUn,wI,wI0,wIf,zmB,dNot,dAnd,dOr,zqH,dOrV,zpK,dIfE,zkf,dNil,zqT,dTup,dLst,wIx,ziF,ziL,zqC,wAbs,zej,zhU,wEq,wNe,wIsN,zqk,wNeg,zen,Vam,List.map_nil,VaK,List.length_nil,List.cons_append,List.nil_append,Nat.reduceAdd,Nat.reduceSub,List.replicate,List.getElem?_cons_zero,List.getElem?_cons_succ,List.set_cons_zero,List.set_cons_succ,ite_true,ite_false,if_true,if_false,Nat.reduceLeDiff,eq_self,p40,p41,p20,zgr,powB,Int.reduceLT,Int.reduceLE,Int.reduceNeg,decide_true,Bool.and_self,Bool.and_true,Bool.true_and,L3.eq1,L3.eq2,L3.eqT,L3.eqF,L3.eqL]
   have hA:lAt S n=some (.frz (ns.map D.int)):=za9 h1 rfl
   simp only[hA,zat,Vaa]
   refine zeG (λc=>?_) (λc=>?_)
   ·have c':k<(ns.length:Int):=of_decide_eq_true c
    have hk:k.toNat<ns.length:=(by omega)
    have e:atI (ns.map D.int) k=some (.int ns[k.toNat]):=by
     have z:=zdH (xs:=ns.map D.int) (j:=k.toNat) (v:=.int ns[k.toNat]) (by simp[hk])
     rw[show ((k.toNat:Nat):Int)=k by omega] at z
     exact z
    simp only[e]
    rw[Vaw,Vaj hk] at h3
    exact h3
   ·have c':¬ k<(ns.length:Int):=λz=>c (decide_eq_true z)
    rw[Vaw,List.getElem?_eq_none (by omega)] at h3
    exact h3
  ·exact h.elim⟩)
def zuF  (zir:Df K mg "_law_span" zlG zgJ)(zaU:mg "min"=none):Fk P w K mg base 1 "_law_span" zgJ zhi:=
 zir.mk' (zax (k:=0) zir.F zdJ (zwz) λcdv A outer s H E hr=>⟨_,(zae (zal (i:=1) zdJ.nd rfl (Or.inl rfl) (zaf zba (dv 0) (zaf zdm zab zab))) (zae (zal (i:=2) zdJ.nd rfl (Or.inl rfl) (zaf zbb (dv 1) zab)) (zae (zal (i:=1) zdJ.nd rfl (Or.inl rfl) (zaf zb7 (dv 1) zab)) (zae (zau (zar (zaI hr) (dv 2) zab (zap _)) (zae (zal (i:=3) zdJ.nd rfl (Or.inl rfl) (zaf zbf (zaf zba (dv 1) zab) zab)) (zag (zak (zaz (zaa (dv 3) (zaa (zaG (zcn rfl) rfl zaU Boot.«min» (zaa zab (zaa (zaf zaV (dv 3) (zaf zba (zaf zaP (dv 1) zab) (zaf zdm zab zab))) zac))) zac)))))) zav) (zae (zal (i:=3) zdJ.nd rfl (Or.inl rfl) (zaf zbf (zaf zbb (dv 1) zab) zab)) (zae (zal (i:=4) zdJ.nd rfl (Or.inl rfl) (zaf zbb (zaf zba (zaf zaP (dv 1) zab) zab) zab)) (zae (zau (zar (zaI hr) (dv 2) zab (zap _)) (zag (zal (i:=4) zdJ.nd rfl (Or.inl rfl) (zaf zbb (dv 4) zab))) zav) (zae (zau (zar (zaI hr) (dv 2) zab (zap _)) (zag (zak (zaz (zaa (zaf zaP (dv 3) zab) (zaa (zaf zaV (zaf zaP (dv 3) zab) (zaf zaP (dv 4) zab)) zac))))) zav) (zag (zak (zaz (zaa (dv 3) (zaa (zaf zaV (dv 3) (dv 4)) zac))))))))))))),λds S Q ex h=>by
  unfold zhi at h
  split at h
  ·rename_i c
   have r0:=za7 (a:=c) (b:=10^Int.toNat 40) (by decide)
   have e16:(10:Int)^Int.toNat 16=10000000000000000:=rfl
   have s0:Sz 140 (c%10^Int.toNat 40):=Sz.of (10^40) (by have e:(10:Int)^Int.toNat 40=10000000000000000000000000000000000000000:=rfl; omega)
   have mo:=zaH (m:=140) (n:=17) (s0.div (j:=5) (by decide)) (j:=48271) (by unfold Sz; decide)
   have r1:=za7 (a:=c%10^Int.toNat 40/5*48271%2147483647) (b:=120) (by decide)
   refine⟨show (0:Int)<10^Int.toNat 40 by decide,?_⟩
   refine ifD (λe=>?_) (λe=>?_)
   ·have r2:=za7 (a:=c%10^Int.toNat 40/5*48271) (b:=10^Int.toNat 16) (by decide)
    refine⟨show (0:Int)<1999999999999999 by decide,mo,show (0:Int)<10^Int.toNat 16 by decide,?_⟩
    refine h _ _ ?_ (by omega) ?_
    ·dsimp only
     split <;> omega
    ·dsimp only
     split <;> omega
   ·refine⟨mo,show (0:Int)<2147483647 by decide,?_⟩
    refine ifD (λe=>?_) (λe=>?_)
    ·refine ifD (λe2=>absurd (e.symm.trans e2) (by decide)) (λe2=>?_)
     exact h _ _ (by omega) (by omega) (by omega)
    ·refine ifD (λe2=>?_) (λe2=>?_)
     ·have k1:=zaH (m:=20) (n:=20) (i:=c%10^Int.toNat 40/5%201-100) (j:=37) (Sz.of 100000 (by omega)) (by unfold Sz; decide)
      have k2:=zaH (m:=20) (n:=20) (i:=c%10^Int.toNat 40/5*48271%2147483647%120) (j:=41) (Sz.of 100000 (by omega)) (by unfold Sz; decide)
      exact⟨k1,k1,k2,h _ _ (by omega) (by omega) (by omega)⟩
     ·exact h _ _ (by omega) (by omega) (by omega)
  ·exact h.elim⟩)
def zvt  (zj6:Df K mg "_law_drawn" zfZ zhM)(zoh:Fk P w K mg base 4 "_law_row_by" zgh zhk)(zd8:Fk P w K mg base 1 "_law_cell" zh1 zgG)(zn6:Fk P w K mg base 5 "_law_net" zgX zhH)(znB:Fk P w K mg base 1 "_law_span" zgJ zhi)(zo6:Fk P w K mg base 1 "_law_grid" zhD zhv)(zoZ:Fk P w K mg base 4 "_law_by_digits" zh2 zh0)(zbe:mg "range"=none):Fk P w K mg base 6 "_law_drawn" zhM zgS:=
 zj6.mk' (zax (k:=5) zj6.F zd5 (zyj) λcdv A outer s H E hr=>⟨_,(zae (zau (zar (zaI hr) (zaf zbb (zaq zd8 hr (zaa (dv 0) (zaa zab zac))) zab) zab (zap _)) (zag (zak (zaq zoZ hr (zaa (dv 0) zac)))) zav) (zae (zal (i:=1) zd5.nd rfl (Or.inl rfl) (zaq zo6 hr (zaa (zaf zb7 (zaq zd8 hr (zaa (dv 0) (zaa zab zac))) zab) zac))) (zae (zal (i:=2) zd5.nd rfl (Or.inl rfl) (zaf zba (zaq zd8 hr (zaa (dv 0) (zaa zab zac))) (zaf zdm zab zab))) (zae (zal (i:=3) zd5.nd rfl (Or.inl rfl) (zaf zaV zab (zaf zbb (dv 2) zab))) (zae (zo2 (x:="_law_k") (N:=["_law_script"]) (caps:=[0]) (ar:=zas zfZ) rfl rfl csc rfl (by decide) (i:=4) zd5.nd rfl rfl rfl zbe (zaa (dv 3) zac) (λ_ _ _ _ _ _=>zdg) (λ_ _ _ _ _ _=>(zaq znB hr (zaa (zaq zd8 hr (zaa (dv 1) (zaa (zaf zaV zab (dv 0)) zac))) zac)))) (zae (zal (i:=5) zd5.nd rfl (Or.inl rfl) (zaq zn6 hr (zaa (zjj (dv 0) (zeK zab) (zeK zab)) (zaa (dv 3) (zaa (zeg (zaI hr) (zaf zbb (zaf zb7 (dv 2) zab) zab) zab (zap _)) (zaa zab (zaa zab zac))))))) (zae (zal (i:=6) zd5.nd rfl (Or.inl rfl) (zaq zoh hr (zaa (dv 5) (zaa (dv 4) (zaa (dv 1) (zaa (zaf zb7 (dv 2) zab) (zaa (zaq zd8 hr (zaa (dv 0) (zaa zab zac))) zac))))))) (zag (zak (zaz (zaa (dv 1) (zaa (dv 4) (zaa (dv 5) (zaa (dv 6) zac)))))))))))))),λds S Q ex h=>by
  unfold zgS at h
  split at h
  ·rename_i s
   obtain⟨ns,rfl,rfl,hl,h⟩:=h
   refine⟨ns,rfl,by decide,?_⟩
   refine ifD (λe=>?_) (λe=>?_)
   ·exact⟨ns,rfl,rfl,hl,h⟩
   ·refine⟨ns,rfl,by decide,?_⟩
    intro g hg g2
    refine⟨ns,rfl,by decide,?_⟩
    refine⟨show (0:Int)<10^Int.toNat 6 by decide,?_⟩
    have dr:∀a b:Int,a≤b→a.natAbs≤10^15→b.natAbs≤10^15→∃p:Int×Int,(D.tup [.int a,.int b])=frD p∧(p.1≤p.2∧Sz 51 p.1∧Sz 51 p.2):=λa b h1 h2 h3=>⟨(a,b),rfl,h1,(Sz.of (n:=51) (10^15) h2),(Sz.of (n:=51) (10^15) h3)⟩
    refine zpV (j:=(1+ns.getD (1:Int).toNat 0%10^Int.toNat 6%4)) (S1:=[.frz (ns.map D.int)]) (λ_ d=>∃p,d=frD p∧(p.1≤p.2∧Sz 51 p.1∧Sz 51 p.2)) (λK hK=>by exact hK) ⟨by omega,by omega⟩ (λk hk S2 K pr hK=>?_) (λxs lx hx=>?_)
    ·refine⟨ns,ztr pr rfl,show (0:Int)≤2+(k:Int) by omega,?_⟩
     exact λt b h1 h2 h3=>hK _ (dr t b h1 h2 h3)
    obtain⟨ps,rfl,gp⟩:=zn7 xs hx
    rw[Vaa] at lx
    have epl:(1+ns.getD (1:Int).toNat 0%10^Int.toNat 6%4)=((ps.length:Nat):Int):=by omega
    refine zjX (n:=0) (o:=.frz (ns.map D.int)) (lo:=some 8) (hi:=some 63) (S3:=[Ob.frz (ns.map D.int),Ob.lst (ps.map frD)]) (λK hK=>by exact hK) (λK hK=>by exact hK) (λK hK=>by exact hK) rfl ?_
    refine⟨zbv (ns.map D.int) (some 8) (some 63),ps.length,14,zaC _ _,λx hx=>?_,epl,⟨by omega,by omega⟩,rfl,⟨by decide,by decide⟩,⟨by decide,by decide⟩,λvs ws T m net hv l1 l60 pr lm hT=>?_⟩
    ·obtain⟨k,hk⟩:=List.mem_iff_getElem?.mp hx
     exact zx2 hk
    have prT:Pre [Ob.frz (ns.map D.int),Ob.lst (ps.map frD)] T:=λn o e=>pr _ _ (zaF e)
    have lm':3≤m:=lm
    refine⟨ns,prT 0 _ rfl,by decide,?_⟩
    refine⟨vs,ws,ps,hT,prT 1 _ rfl,(by show m≠1; omega),net,hv,gp,⟨hg,g2⟩,l1,l60,λT2 w zero k ns' ws' hw gr lk=>?_⟩
    have gl:=gr.ln
    exact h T2 g k ps ns' ws' 1 m w zero (λn o e=>gr.kp n o (by have:=zb9 e; have e1:([Ob.frz (ns.map D.int)]:Sto).length=1:=rfl; omega) (prT _ _ (show ([Ob.frz (ns.map D.int),Ob.lst (ps.map frD)]:Sto)[n]?=some o from zaF e))) ⟨hg,g2⟩ (gr.kp 1 _ (by omega) (prT 1 _ rfl)) gr.nd gr.net gp ⟨by omega,by omega⟩ (by omega) hw lk
  ·exact h.elim⟩)
def ztP  (zmL:Df K mg "less" zjC zgT):Fk P w K mg base 1 "less" zgT zge:=
 zmL.mk' (zax (k:=0) zmL.F zw9 (zrL) λcdv A outer s H E hr=>⟨_,(zag (zak (zeg zbp (zaf zaP (zad (dv 0) zab (λ_ _=>rfl)) (zad (dv 1) zab (λ_ _=>rfl))) (zaf zaP (zad (dv 1) zab (λ_ _=>rfl)) (zad (dv 0) zab (λ_ _=>rfl))) (zap _)))),λds S Q ex h=>by
  unfold zge at h
  split at h
  ·obtain⟨⟨h1,h2⟩,h⟩:=h
   exact⟨h1,h2,h⟩
  ·exact h.elim⟩)
def zuL  (zku:Df K mg "rounded_up" zit zdG):Fk P w K mg base 1 "rounded_up" zdG zdB:=
 zku.mk' (zax (k:=0) zku.F zt6 (zue) λcdv A outer s H E hr=>⟨_,(zag (zak (zaZ za0 (zaf zbj (zaZ za0 (dv 0)) (dv 1))))),λds S Q ex h=>by
  unfold zdB at h
  split at h
  ·exact h
  ·exact h.elim⟩)
def zsQ  (zmE:Df K mg "span_of" zke zhK)(zcs:Fk P w K mg base 1 "rounded_up" zdG zdB)(zop:Fk P w K mg base 1 "less" zgT zge):Fk P w K mg base 2 "span_of" zhK zgb:=
 zmE.mk' (zax (k:=1) zmE.F zxc (ztb) λcdv A outer s H E hr=>⟨_,(zae (zau (zc1 (zaq zop hr (zaa (dv 1) (zaa (dv 0) zac)))) (zag zsu) zav) (zag (zak (zaz (zaa (zaf zbj (zaf zaP (zad (dv 0) zab (λ_ _=>rfl)) (dv 2)) (zad (dv 0) zab (λ_ _=>rfl))) (zaa (zaq zcs hr (zaa (zaf zaP (zad (dv 1) zab (λ_ _=>rfl)) (dv 2)) (zaa (zad (dv 1) zab (λ_ _=>rfl)) zac))) zac)))))),λds S Q ex h=>by
  unfold zgb at h
  split at h
  ·obtain⟨⟨⟨m1,m2⟩,nl,m3,m4,f1,f2⟩,h⟩:=h
   refine⟨⟨m1,m2⟩,ifF (decide_eq_false nl) ?_⟩
   exact⟨m3,f1,m4,f2,h⟩
  ·exact h.elim⟩)
def zsP  (zan:zbE K mg)(zao:zbH K mg)(zaj:zbx K mg)(zah:zbt K mg)(zai:zbr K mg)(zam:zbD K mg)(zj2:Dm K zan.C "forth" "Number.forth" zlb zgR)(zoX:Fk P w K mg base 2 "span_of" zhK zgb):Fm P w K mg base 3 zan.C "forth" zgR (zeL zan.C zao.C zaj.C zah.C zai.C zam.C):=
 zj2.mk' (zax (k:=2) zj2.F zqY (zsZ zan.C zao.C zaj.C zah.C zai.C zam.C) λcdv A outer s H E hr=>⟨_,(zae (zal (i:=4) zqY.nd rfl (Or.inl rfl) (zaz (zaa (zaW zan.cl zan.n_top (dv 0)) (zaa (zaW zan.cl zan.n_bottom (dv 0)) zac)))) (zag (zak (zaq zoX hr (zaa (dv 4) (zaa (dv 4) (zaa (dv 3) zac))))))),λds S Q ex h=>by
  unfold zeL at h
  split at h
  ·rename_i n w p g
   obtain⟨x,y,vs,bs,hn,hw,hp,ok,s1,hg,h⟩:=h
   have sg:Sz 21 g:=Sz.of 1000000 (by omega)
   have sx:Sz 31 x:=Sz.of (10^9) ok.2.2
   have sy:Sz 31 y:=Sz.of (10^9) (by have:=ok.1; omega)
   refine zaR (n:=n) (λK hK=>by exact hK) hn rfl ?_
   refine zaR (n:=n) (λK hK=>by exact hK) hn rfl ?_
   exact⟨⟨⟨zaH sx sy,zaH sx sy⟩,by omega,zaH sx sg,zaH sx sg,sy.fd (by have:=ok.1; omega),sy.fd (by have:=ok.1; omega)⟩,h⟩
  ·exact h.elim⟩)
def zx0  (zao:zbH K mg)(zan:zbE K mg)(zaj:zbx K mg)(zah:zbt K mg)(zai:zbr K mg)(zam:zbD K mg)(zjp:Dm K zao.C "forth" "Unknown.forth" zl0 zhR):Fm P w K mg base 1 zao.C "forth" zhR (zfQ zan.C zao.C zaj.C zah.C zai.C zam.C):=
 zjp.mk' (zax (k:=0) zjp.F zxE (zwk zan.C zao.C zaj.C zah.C zai.C zam.C) λcdv A outer s H E hr=>⟨_,(zag (zak (zaJ (dv 2) (zaW zao.cl zao.n_place (dv 0)) (λ_ _=>rfl)))),λds S Q ex h=>by
  unfold zfQ at h
  split at h
  ·rename_i n w p g
   obtain⟨k,vs,bs,hn,hw,hp,ok,s1,hg,h⟩:=h
   refine zaR (n:=n) (λK hK=>by exact hK) hn rfl ?_
   exact zaB (o:=.lst (bs.map frD)) hp (zaQ ok) h
  ·exact h.elim⟩)
def zuJ  (zlE:Df K mg "add_spans" zmJ zeR):Fk P w K mg base 1 "add_spans" zeR zeD:=
 zlE.mk' (zax (k:=0) zlE.F zrA (zxK) λcdv A outer s H E hr=>⟨_,(zag (zak (zaz (zaa (zaf zaV (zad (dv 0) zab (λ_ _=>rfl)) (zad (dv 1) zab (λ_ _=>rfl))) (zaa (zaf zaV (zad (dv 0) zab (λ_ _=>rfl)) (zad (dv 1) zab (λ_ _=>rfl))) zac))))),λds S Q ex h=>by
  unfold zeD at h
  split at h
  ·exact h
  ·exact h.elim⟩)
def zsC  (zaj:zbx K mg)(zan:zbE K mg)(zao:zbH K mg)(zah:zbt K mg)(zai:zbr K mg)(zam:zbD K mg)(zmD:Dm K zaj.C "forth" "Plus.forth" zmW zhC)(zfb:Fk P w K mg base 1 "add_spans" zeR zeD):Fm P w K mg base 2 zaj.C "forth" zhC (zev zan.C zao.C zaj.C zah.C zai.C zam.C):=
 zmD.mk' (zax (k:=1) zmD.F zuC (ztw zan.C zao.C zaj.C zah.C zai.C zam.C) λcdv A outer s H E hr=>⟨_,(zag (zak (zaq zfb hr (zaa (zaJ (dv 1) (zaW zaj.cl zaj.n_one (dv 0)) (λ_ _=>rfl)) (zaa (zaJ (dv 1) (zaW zaj.cl zaj.n_other (dv 0)) (λ_ _=>rfl)) zac))))),λds S Q ex h=>by
  unfold zev at h
  split at h
  ·rename_i n w p g
   obtain⟨i,j,vs,bs,hn,hw,hp,ok,s1,hg,h⟩:=h
   refine zaR (n:=n) (λK hK=>by exact hK) hn rfl ?_
   refine zaB (o:=.lst (vs.map frD)) hw (zaQ ok.1) ?_
   refine zaR (n:=n) (λK hK=>by exact hK) hn rfl ?_
   refine zaB (o:=.lst (vs.map frD)) hw (zaQ ok.2) ?_
   exact h
  ·exact h.elim⟩)
def zv8  (zmQ:Df K mg "take_spans" zmK zdr):Fk P w K mg base 1 "take_spans" zdr zdD:=
 zmQ.mk' (zax (k:=0) zmQ.F zvN (zve) λcdv A outer s H E hr=>⟨_,(zag (zak (zaz (zaa (zaf zbf (zad (dv 0) zab (λ_ _=>rfl)) (zad (dv 1) zab (λ_ _=>rfl))) (zaa (zaf zbf (zad (dv 0) zab (λ_ _=>rfl)) (zad (dv 1) zab (λ_ _=>rfl))) zac))))),λds S Q ex h=>by
  unfold zdD at h
  split at h
  ·exact h
  ·exact h.elim⟩)
def zsi  (zah:zbt K mg)(zan:zbE K mg)(zao:zbH K mg)(zaj:zbx K mg)(zai:zbr K mg)(zam:zbD K mg)(zjD:Dm K zah.C "forth" "Minus.forth" zkF zhu)(zcw:Fk P w K mg base 1 "take_spans" zdr zdD):Fm P w K mg base 2 zah.C "forth" zhu (zfK zan.C zao.C zaj.C zah.C zai.C zam.C):=
 zjD.mk' (zax (k:=1) zjD.F zwL (zwF zan.C zao.C zaj.C zah.C zai.C zam.C) λcdv A outer s H E hr=>⟨_,(zag (zak (zaq zcw hr (zaa (zaJ (dv 1) (zaW zah.cl zah.n_one (dv 0)) (λ_ _=>rfl)) (zaa (zaJ (dv 1) (zaW zah.cl zah.n_other (dv 0)) (λ_ _=>rfl)) zac))))),λds S Q ex h=>by
  unfold zfK at h
  split at h
  ·rename_i n w p g
   obtain⟨i,j,vs,bs,hn,hw,hp,ok,s1,hg,h⟩:=h
   refine zaR (n:=n) (λK hK=>by exact hK) hn rfl ?_
   refine zaB (o:=.lst (vs.map frD)) hw (zaQ ok.1) ?_
   refine zaR (n:=n) (λK hK=>by exact hK) hn rfl ?_
   refine zaB (o:=.lst (vs.map frD)) hw (zaQ ok.2) ?_
   exact h
  ·exact h.elim⟩)
def zs9  (zkD:Df K mg "mul_spans" zkl zgd)(zcs:Fk P w K mg base 1 "rounded_up" zdG zdB)(zaE:mg "max"=none)(zaU:mg "min"=none):Fk P w K mg base 2 "mul_spans" zgd zfX:=
 zkD.mk' (zeN (zax (k:=1) zkD.F zpX (zeu (zuj)) λcdv A outer s H E hr=>⟨_,(zae (zal (i:=3) zpX.nd rfl (Or.inl rfl) (za6 (zaa (zaf zaP (zad (dv 0) zab (λ_ _=>rfl)) (zad (dv 1) zab (λ_ _=>rfl))) (zaa (zaf zaP (zad (dv 0) zab (λ_ _=>rfl)) (zad (dv 1) zab (λ_ _=>rfl))) (zaa (zaf zaP (zad (dv 0) zab (λ_ _=>rfl)) (zad (dv 1) zab (λ_ _=>rfl))) (zaa (zaf zaP (zad (dv 0) zab (λ_ _=>rfl)) (zad (dv 1) zab (λ_ _=>rfl))) zac)))))) (zag (zak (zaz (zaa (zaf zbj (zaG (zbh (zcn rfl)) rfl zaU Boot.«min» (zaa (dv 3) zac)) (dv 2)) (zaa (zaq zcs hr (zaa (zaG (zbh (zbn rfl)) rfl zaE Boot.«max» (zaa (dv 3) zac)) (zaa (dv 2) zac))) zac)))))),λds S Q ex h=>by
  obtain⟨Q0,ex0,rfl,rfl,h⟩:=h
  unfold zfX at h
  split at h
  ·rename_i a b c d g
   obtain⟨⟨⟨m1,m2,m3,m4⟩,hg⟩,h⟩:=h
   refine⟨m1,m2,m3,m4,?_⟩
   apply zbC
   ·exact zaC _ _
   ·rfl
   ·simp
   intro mn n1 n2
   refine⟨hg,?_⟩
   apply zbC
   ·exact zaC _ _
   ·rfl
   ·simp
   intro mx x1 x2
   refine⟨hg,?_⟩
   exact⟨Pre.refl.push,zce,h mn mx (zed.of n1 n2 x1 x2)⟩
  ·exact h.elim⟩))
def zv3  (zai:zbr K mg)(zan:zbE K mg)(zao:zbH K mg)(zaj:zbx K mg)(zah:zbt K mg)(zam:zbD K mg)(zlT:Dm K zai.C "forth" "Times.forth" ziC zf6)(znO:Fk P w K mg base 2 "mul_spans" zgd zfX):Fm P w K mg base 3 zai.C "forth" zf6 (zeF zan.C zao.C zaj.C zah.C zai.C zam.C):=
 zlT.mk' (zax (k:=2) zlT.F zxb (zvO zan.C zao.C zaj.C zah.C zai.C zam.C) λcdv A outer s H E hr=>⟨_,(zag (zak (zaq znO hr (zaa (zaJ (dv 1) (zaW zai.cl zai.n_one (dv 0)) (λ_ _=>rfl)) (zaa (zaJ (dv 1) (zaW zai.cl zai.n_other (dv 0)) (λ_ _=>rfl)) (zaa (dv 3) zac)))))),λds S Q ex h=>by
  unfold zeF at h
  split at h
  ·rename_i n w p g
   obtain⟨i,j,vs,bs,hn,hw,hp,ok,s1,hg,h⟩:=h
   refine zaR (n:=n) (λK hK=>by exact hK) hn rfl ?_
   refine zaB (o:=.lst (vs.map frD)) hw (zaQ ok.1) ?_
   refine zaR (n:=n) (λK hK=>by exact hK) hn rfl ?_
   refine zaB (o:=.lst (vs.map frD)) hw (zaQ ok.2) ?_
   have a:=s1.at ok.1
   have b:=s1.at ok.2
   have sg:Sz 21 g:=Sz.of 1000000 (by omega)
   refine⟨⟨⟨zaH a.2.1 b.2.1,zaH a.2.1 b.2.2,zaH a.2.2 b.2.1,zaH a.2.2 b.2.2⟩,sg.fd (by omega)⟩,λmn mx hc=>?_⟩
   obtain⟨rfl,rfl⟩:=hc.eq
   exact h
  ·exact h.elim⟩)
def zsk  (zlF:Df K mg "raised" zkH zdf)(zbe:mg "range"=none):Fk P w K mg base 1 "raised" zdf zc2:=
 zlF.mk' (zax (k:=0) zlF.F zk7 (zwe) λcdv A outer s H E hr=>⟨_,(zae (zal (i:=2) zk7.nd rfl (Or.inl rfl) zab) (zae (zo7 (i:=3) PassesOwn.never rfl zk7.nd rfl (Or.inl rfl) rfl zbe (zaa (dv 1) zac) (zag (zal (i:=2) zk7.nd rfl (Or.inl rfl) (zaf zaP (dv 2) (dv 0))))) (zag (zak (dv 2))))),λds S Q ex h=>by
  unfold zc2 at h
  split at h
  ·rename_i x n
   obtain⟨⟨h0,h6,sx⟩,h⟩:=h
   refine⟨⟨by omega,by omega⟩,λk dl' S'=>S'=S∧k≤n.toNat∧∃(z:Int) (o:Option D),z=x^k∧dl'=[some (.int x),some (.int n),some (.int z),o],⟨rfl,Vax _,1,none,(VaO x).symm,rfl⟩,?_⟩
   rintro k dl' S' ⟨rfl,hk,z,o,rfl,rfl⟩
   refine zeG (λc=>?_) (λc=>?_)
   ·exact⟨zaH (m:=12001) (n:=2000) ((sx.pow k).mono (by omega)) sx,rfl,by omega,_,_,(Vaf x k).symm,rfl⟩
   ·have e:k=n.toNat:=by omega
    subst e
    exact h
  ·exact h.elim⟩)
def zv5  (zjY:Df K mg "raise_span" zhO zf8)(zcs:Fk P w K mg base 1 "rounded_up" zdG zdB)(zbJ:Fk P w K mg base 1 "raised" zdf zc2)(zaE:mg "max"=none)(zaU:mg "min"=none):Fk P w K mg base 2 "raise_span" zf8 zgj:=
 zjY.mk' (zeN (zax (k:=1) zjY.F zi1 (zeu (zrX)) λcdv A outer s H E hr=>⟨_,(zae (zal (i:=3) zi1.nd rfl (Or.inl rfl) (za6 (zaa (zad (dv 0) zab (λ_ _=>rfl)) (zaa (zad (dv 0) zab (λ_ _=>rfl)) zac)))) (zae (zau (zmm zbp zbp (zad (dv 0) zab (λ_ _=>rfl)) zab (zad (dv 0) zab (λ_ _=>rfl))) (zag (zb6 (zbZ (dv 3) zab))) zav) (zae (zo9 (x:="place") (N:=["grid","many"]) (caps:=[2,1]) (ar:=zas zhO) rfl rfl csc rfl (by decide) (i:=4) zi1.nd rfl rfl (dv 3) (λ_ _ _ _ _ _=>zdg) (λ_ _ _ _ _ _=>(zaf zaP (zaq zbJ hr (zaa (dv 0) (zaa (dv 2) zac))) (dv 1)))) (zae (zal (i:=5) zi1.nd rfl (Or.inl rfl) (zaq zbJ hr (zaa (dv 2) (zaa (dv 1) zac)))) (zag (zak (zaz (zaa (zaf zbj (zaG (zbh (zcn rfl)) rfl zaU Boot.«min» (zaa (dv 4) zac)) (dv 5)) (zaa (zaq zcs hr (zaa (zaG (zbh (zbn rfl)) rfl zaE Boot.«max» (zaa (dv 4) zac)) (zaa (dv 5) zac))) zac))))))))),λds S Q ex h=>by
  obtain⟨Q0,ex0,rfl,rfl,h⟩:=h
  unfold zgj at h
  split at h
  ·rename_i a b n g
   obtain⟨⟨n2,n6,za,zb,hg,zg⟩,h⟩:=h
   refine ifD (λc1=>?_) (λc1=>?_)
   ·refine ifD (λc2=>?_) (λc2=>?_)
    ·refine zcd (n:=S.length) (λK hK=>hK) (zaC _ _) (λK hK=>hK) (by simp) ?_
     refine zfw (n:=S.length) (o:=.lst [.int a,.int b,.int 0]) (λd=>match d with | .int v=>.int (v^n.toNat*g) | _=>.non) (λK hK=>hK) (by simp) (by simp[zat]) (λx hx S2 K _ hK=>?_) ?_
     ·have hx':x=.int a∨x=.int b∨x=.int 0:=by simpa [zat] using hx
      rcases hx' with rfl | rfl | rfl
      all_goals exact⟨⟨by omega,n6,by first | exact za.mono (by decide) | exact zb.mono (by decide) | exact Sz.of (n:=2000) 0 (by decide)⟩,zaH (m:=12001) (n:=1400) (((Sz.mono (n:=2000) (by first | exact za | exact zb | exact Sz.of (n:=1400) 0 (by decide)) (by decide)).pow _).mono (by omega)) zg,hK⟩
     refine⟨⟨by omega,n6,zg.mono (by decide)⟩,?_⟩
     have gp:(0:Int)<g^n.toNat:=VaB (by omega)
     have zgp:Sz 8401 (g^n.toNat):=(zg.pow _).mono (by omega)
     apply zbC
     ·exact zaC _ _
     ·rfl
     ·simp
     intro mn q1 q2
     refine⟨zgp.fd gp,?_⟩
     apply zbC
     ·exact zaC _ _
     ·rfl
     ·simp
     intro mx x1 x2
     refine⟨zgp.fd gp,?_⟩
     obtain⟨m,M,hP,rfl,rfl⟩:=zcO.of (n:=n.toNat) hg (.inr ⟨rfl,c1,c2⟩) (by omega) q1 q2 x1 x2
     have r:=h m M hP
     rw[← zfI hg (by omega),← zfI hg (by omega),Vah] at r
     exact⟨(λi o e=>zjn (by rw[List.set_append_right _ _ (Vab _),Vao (Vac.mp e).1]; exact e)),zce,r⟩
    ·skip
     refine zfw (n:=S.length) (o:=.lst [.int a,.int b]) (λd=>match d with | .int v=>.int (v^n.toNat*g) | _=>.non) (λK hK=>hK) (zaC _ _) (by simp[zat]) (λx hx S2 K _ hK=>?_) ?_
     ·have hx':x=.int a∨x=.int b:=by simpa [zat] using hx
      rcases hx' with rfl | rfl
      all_goals exact⟨⟨by omega,n6,by first | exact za.mono (by decide) | exact zb.mono (by decide) | exact Sz.of (n:=2000) 0 (by decide)⟩,zaH (m:=12001) (n:=1400) (((Sz.mono (n:=2000) (by first | exact za | exact zb | exact Sz.of (n:=1400) 0 (by decide)) (by decide)).pow _).mono (by omega)) zg,hK⟩
     refine⟨⟨by omega,n6,zg.mono (by decide)⟩,?_⟩
     have gp:(0:Int)<g^n.toNat:=VaB (by omega)
     have zgp:Sz 8401 (g^n.toNat):=(zg.pow _).mono (by omega)
     apply zbC
     ·exact zaC _ _
     ·rfl
     ·simp
     intro mn q1 q2
     refine⟨zgp.fd gp,?_⟩
     apply zbC
     ·exact zaC _ _
     ·rfl
     ·simp
     intro mx x1 x2
     refine⟨zgp.fd gp,?_⟩
     obtain⟨m,M,hP,rfl,rfl⟩:=zcO.of (n:=n.toNat) hg (.inl ⟨rfl,λc=>c2 c.2⟩) (by omega) q1 q2 x1 x2
     have r:=h m M hP
     rw[← zfI hg (by omega),← zfI hg (by omega),Vah] at r
     exact⟨Pre.refl.push.push,zce,r⟩
   ·skip
    refine zfw (n:=S.length) (o:=.lst [.int a,.int b]) (λd=>match d with | .int v=>.int (v^n.toNat*g) | _=>.non) (λK hK=>hK) (zaC _ _) (by simp[zat]) (λx hx S2 K _ hK=>?_) ?_
    ·have hx':x=.int a∨x=.int b:=by simpa [zat] using hx
     rcases hx' with rfl | rfl
     all_goals exact⟨⟨by omega,n6,by first | exact za.mono (by decide) | exact zb.mono (by decide) | exact Sz.of (n:=2000) 0 (by decide)⟩,zaH (m:=12001) (n:=1400) (((Sz.mono (n:=2000) (by first | exact za | exact zb | exact Sz.of (n:=1400) 0 (by decide)) (by decide)).pow _).mono (by omega)) zg,hK⟩
    refine⟨⟨by omega,n6,zg.mono (by decide)⟩,?_⟩
    have gp:(0:Int)<g^n.toNat:=VaB (by omega)
    have zgp:Sz 8401 (g^n.toNat):=(zg.pow _).mono (by omega)
    apply zbC
    ·exact zaC _ _
    ·rfl
    ·simp
    intro mn q1 q2
    refine⟨zgp.fd gp,?_⟩
    apply zbC
    ·exact zaC _ _
    ·rfl
    ·simp
    intro mx x1 x2
    refine⟨zgp.fd gp,?_⟩
    obtain⟨m,M,hP,rfl,rfl⟩:=zcO.of (n:=n.toNat) hg (.inl ⟨rfl,λc=>c1 c.1⟩) (by omega) q1 q2 x1 x2
    have r:=h m M hP
    rw[← zfI hg (by omega),← zfI hg (by omega),Vah] at r
    exact⟨Pre.refl.push.push,zce,r⟩
  ·exact h.elim⟩))
def zts  (zam:zbD K mg)(zan:zbE K mg)(zao:zbH K mg)(zaj:zbx K mg)(zah:zbt K mg)(zai:zbr K mg)(zmr:Dm K zam.C "forth" "Power.forth" zkV zib)(zoY:Fk P w K mg base 2 "raise_span" zf8 zgj):Fm P w K mg base 3 zam.C "forth" zib (ze0 zan.C zao.C zaj.C zah.C zai.C zam.C):=
 zmr.mk' (zax (k:=2) zmr.F zso (zsO zan.C zao.C zaj.C zah.C zai.C zam.C) λcdv A outer s H E hr=>⟨_,(zag (zak (zaq zoY hr (zaa (zaJ (dv 1) (zaW zam.cl zam.n_one (dv 0)) (λ_ _=>rfl)) (zaa (zaW zam.cl zam.n_many (dv 0)) (zaa (dv 3) zac)))))),λds S Q ex h=>by
  unfold ze0 at h
  split at h
  ·rename_i n w p g
   obtain⟨i,m,vs,bs,hn,hw,hp,ok,s1,hg,h⟩:=h
   refine zaR (n:=n) (λK hK=>by exact hK) hn rfl ?_
   refine zaB (o:=.lst (vs.map frD)) hw (zaQ ok.1) ?_
   refine zaR (n:=n) (λK hK=>by exact hK) hn rfl ?_
   have a:=s1.at ok.1
   have sg:Sz 21 g:=Sz.of 1000000 (by omega)
   refine⟨⟨ok.2.1,ok.2.2,a.2.1,a.2.2,hg.1,sg.mono (by decide)⟩,λm' M' hP=>?_⟩
   obtain⟨rfl,rfl⟩:=hP.eq (by have:=ok.2.1; omega)
   exact h
  ·exact h.elim⟩)
def zsr  (zam:zbD K mg)(zmR:Dm K zam.C "__init__" "Power.__init__" ziH zht):Fm P w K mg base 1 zam.C "__init__" zht (zg7 zam.C):=
 zmR.mk' (zax (k:=0) zmR.F zuu (zvI zam.C) λcdv A outer s H E hr=>⟨_,(zae (zcL zam.cl zam.n_one (dv 0) (dv 1)) (zag (zcL zam.cl zam.n_many (dv 0) (dv 2)))),λds S Q ex h=>by
  unfold zg7 at h
  split at h
  ·rename_i n x y
   obtain⟨T,rfl,rfl,h⟩:=h
   refine zcA (v:=x) (S1:=T++[Ob.ins zam.C []]) (S2:=T++[Ob.ins zam.C []]) (n:=T.length) (fs:=[]) (λK hK=>by exact hK) (λK hK=>by exact hK) (zcI ..) (by simp) ?_
   rw[zcC]
   refine zcA (v:=y) (S1:=T++[Ob.ins zam.C [("one",x)]]) (S2:=T++[Ob.ins zam.C [("one",x)]]) (n:=T.length) (fs:=[("one",x)]) (λK hK=>by exact hK) (λK hK=>by exact hK) (zcI ..) (by simp) ?_
   rw[zcC]
   exact h
  ·exact h.elim⟩)
def zuN  (zan:zbE K mg)(zlg:Dm K zan.C "__init__" "Number.__init__" zlX zhN):Fm P w K mg base 1 zan.C "__init__" zhN (zhd zan.C):=
 zlg.mk' (zax (k:=0) zlg.F ztm (zxg zan.C) λcdv A outer s H E hr=>⟨_,(zae (zcL zan.cl zan.n_top (dv 0) (dv 1)) (zag (zcL zan.cl zan.n_bottom (dv 0) (dv 2)))),λds S Q ex h=>by
  unfold zhd at h
  split at h
  ·rename_i n x y
   obtain⟨T,rfl,rfl,h⟩:=h
   refine zcA (v:=x) (S1:=T++[Ob.ins zan.C []]) (S2:=T++[Ob.ins zan.C []]) (n:=T.length) (fs:=[]) (λK hK=>by exact hK) (λK hK=>by exact hK) (zcI ..) (by simp) ?_
   rw[zcC]
   refine zcA (v:=y) (S1:=T++[Ob.ins zan.C [("top",x)]]) (S2:=T++[Ob.ins zan.C [("top",x)]]) (n:=T.length) (fs:=[("top",x)]) (λK hK=>by exact hK) (λK hK=>by exact hK) (zcI ..) (by simp) ?_
   rw[zcC]
   exact h
  ·exact h.elim⟩)
def zur  (zao:zbH K mg)(zkR:Dm K zao.C "__init__" "Unknown.__init__" ziE zhh):Fm P w K mg base 1 zao.C "__init__" zhh (zhL zao.C):=
 zkR.mk' (zax (k:=0) zkR.F zrR (zvr zao.C) λcdv A outer s H E hr=>⟨_,(zag (zcL zao.cl zao.n_place (dv 0) (dv 1))),λds S Q ex h=>by
  unfold zhL at h
  split at h
  ·rename_i n x
   obtain⟨T,rfl,rfl,h⟩:=h
   refine zcA (v:=x) (S1:=T++[Ob.ins zao.C []]) (S2:=T++[Ob.ins zao.C []]) (n:=T.length) (fs:=[]) (λK hK=>by exact hK) (λK hK=>by exact hK) (zcI ..) (by simp) ?_
   rw[zcC]
   exact h
  ·exact h.elim⟩)
def zsJ  (zaj:zbx K mg)(zlw:Dm K zaj.C "__init__" "Pair.__init__" zmF zh8):Fm P w K mg base 1 zaj.C "__init__" zh8 (zhT zaj.C):=
 zlw.mk' (zax (k:=0) zlw.F zvU (zyz zaj.C) λcdv A outer s H E hr=>⟨_,(zae (zcL zaj.cl zaj.n_one (dv 0) (dv 1)) (zag (zcL zaj.cl zaj.n_other (dv 0) (dv 2)))),λds S Q ex h=>by
  unfold zhT at h
  split at h
  ·rename_i n x y
   obtain⟨T,rfl,rfl,h⟩:=h
   refine zcA (v:=x) (S1:=T++[Ob.ins zaj.C []]) (S2:=T++[Ob.ins zaj.C []]) (n:=T.length) (fs:=[]) (λK hK=>by exact hK) (λK hK=>by exact hK) (zcI ..) (by simp) ?_
   rw[zcC]
   refine zcA (v:=y) (S1:=T++[Ob.ins zaj.C [("one",x)]]) (S2:=T++[Ob.ins zaj.C [("one",x)]]) (n:=T.length) (fs:=[("one",x)]) (λK hK=>by exact hK) (λK hK=>by exact hK) (zcI ..) (by simp) ?_
   rw[zcC]
   exact h
  ·exact h.elim⟩)
def zty  (zah:zbt K mg)(zmT:Dm K zah.C "__init__" "Pair.__init__" zi6 zfU):Fm P w K mg base 1 zah.C "__init__" zfU (zhA zah.C):=
 zmT.mk' (zax (k:=0) zmT.F zt2 (zuE zah.C) λcdv A outer s H E hr=>⟨_,(zae (zcL zah.cl zah.n_one (dv 0) (dv 1)) (zag (zcL zah.cl zah.n_other (dv 0) (dv 2)))),λds S Q ex h=>by
  unfold zhA at h
  split at h
  ·rename_i n x y
   obtain⟨T,rfl,rfl,h⟩:=h
   refine zcA (v:=x) (S1:=T++[Ob.ins zah.C []]) (S2:=T++[Ob.ins zah.C []]) (n:=T.length) (fs:=[]) (λK hK=>by exact hK) (λK hK=>by exact hK) (zcI ..) (by simp) ?_
   rw[zcC]
   refine zcA (v:=y) (S1:=T++[Ob.ins zah.C [("one",x)]]) (S2:=T++[Ob.ins zah.C [("one",x)]]) (n:=T.length) (fs:=[("one",x)]) (λK hK=>by exact hK) (λK hK=>by exact hK) (zcI ..) (by simp) ?_
   rw[zcC]
   exact h
  ·exact h.elim⟩)
def zsD  (zai:zbr K mg)(zlh:Dm K zai.C "__init__" "Pair.__init__" ziw zgH):Fm P w K mg base 1 zai.C "__init__" zgH (zgx zai.C):=
 zlh.mk' (zax (k:=0) zlh.F zwl (zxv zai.C) λcdv A outer s H E hr=>⟨_,(zae (zcL zai.cl zai.n_one (dv 0) (dv 1)) (zag (zcL zai.cl zai.n_other (dv 0) (dv 2)))),λds S Q ex h=>by
  unfold zgx at h
  split at h
  ·rename_i n x y
   obtain⟨T,rfl,rfl,h⟩:=h
   refine zcA (v:=x) (S1:=T++[Ob.ins zai.C []]) (S2:=T++[Ob.ins zai.C []]) (n:=T.length) (fs:=[]) (λK hK=>by exact hK) (λK hK=>by exact hK) (zcI ..) (by simp) ?_
   rw[zcC]
   refine zcA (v:=y) (S1:=T++[Ob.ins zai.C [("one",x)]]) (S2:=T++[Ob.ins zai.C [("one",x)]]) (n:=T.length) (fs:=[("one",x)]) (λK hK=>by exact hK) (λK hK=>by exact hK) (zcI ..) (by simp) ?_
   rw[zcC]
   exact h
  ·exact h.elim⟩)
def zr6  (zam:zbD K mg)(zai:zbr K mg)(zah:zbt K mg)(zaj:zbx K mg)(zao:zbH K mg)(zan:zbE K mg)(zlz:Df K mg "kind_of" zmc zer)(ze2:Fm P w K mg base 1 zam.C "__init__" zht (zg7 zam.C))(zfx:Fm P w K mg base 1 zai.C "__init__" zgH (zgx zai.C))(zeT:Fm P w K mg base 1 zah.C "__init__" zfU (zhA zah.C))(zeP:Fm P w K mg base 1 zaj.C "__init__" zh8 (zhT zaj.C))(zfu:Fm P w K mg base 1 zao.C "__init__" zhh (zhL zao.C))(zfm:Fm P w K mg base 1 zan.C "__init__" zhN (zhd zan.C)):Fk P w K mg base 3 "kind_of" zer (zeC zan.C zao.C zaj.C zah.C zai.C zam.C):=
 zlz.mk' (zax (k:=2) zlz.F zxk (zxj zan.C zao.C zaj.C zah.C zai.C zam.C) λcdv A outer s H E hr=>⟨_,(zae (zau (zar (zaI hr) (zad (dv 0) zab (λ_ _=>rfl)) zaL (zap _)) (zag (zak (zfv ⟨zan.makes,zfm.m.at_,zfm.m.fn,zan.kp⟩ zfm.ok (hr.mono (by decide)) rfl zan.m zfm.b zfG (zaa (zad (dv 0) zab (λ_ _=>rfl)) (zaa (zad (dv 0) zab (λ_ _=>rfl)) zac))))) zav) (zae (zau (zar (zaI hr) (zad (dv 0) zab (λ_ _=>rfl)) zaL (zap _)) (zag (zak (zfv ⟨zao.makes,zfu.m.at_,zfu.m.fn,zao.kp⟩ zfu.ok (hr.mono (by decide)) rfl zao.m zfu.b zfG (zaa (zad (dv 0) zab (λ_ _=>rfl)) zac)))) zav) (zae (zau (zar (zaI hr) (zad (dv 0) zab (λ_ _=>rfl)) zaL (zap _)) (zag (zak (zfv ⟨zaj.makes,zeP.m.at_,zeP.m.fn,zaj.kp⟩ zeP.ok (hr.mono (by decide)) rfl zaj.m zeP.b zfG (zaa (zad (dv 0) zab (λ_ _=>rfl)) (zaa (zad (dv 0) zab (λ_ _=>rfl)) zac))))) zav) (zae (zau (zar (zaI hr) (zad (dv 0) zab (λ_ _=>rfl)) zaL (zap _)) (zag (zak (zfv ⟨zah.makes,zeT.m.at_,zeT.m.fn,zah.kp⟩ zeT.ok (hr.mono (by decide)) rfl zah.m zeT.b zfG (zaa (zad (dv 0) zab (λ_ _=>rfl)) (zaa (zad (dv 0) zab (λ_ _=>rfl)) zac))))) zav) (zae (zau (zar (zaI hr) (zad (dv 0) zab (λ_ _=>rfl)) zaL (zap _)) (zag (zak (zfv ⟨zai.makes,zfx.m.at_,zfx.m.fn,zai.kp⟩ zfx.ok (hr.mono (by decide)) rfl zai.m zfx.b zfG (zaa (zad (dv 0) zab (λ_ _=>rfl)) (zaa (zad (dv 0) zab (λ_ _=>rfl)) zac))))) zav) (zag (zak (zfv ⟨zam.makes,ze2.m.at_,ze2.m.fn,zam.kp⟩ ze2.ok (hr.mono (by decide)) rfl zam.m ze2.b zfG (zaa (zad (dv 0) zab (λ_ _=>rfl)) (zaa (zad (dv 0) zab (λ_ _=>rfl)) zac)))))))))),λds S Q ex h=>by
  unfold zeC at h
  split at h
  ·obtain⟨v,rfl,h⟩:=h
   cases v <;> exact⟨S,rfl,rfl,rfl,h⟩
  ·exact h.elim⟩)
def zvK  (zam:zbD K mg)(zai:zbr K mg)(zah:zbt K mg)(zaj:zbx K mg)(zao:zbH K mg)(zan:zbE K mg)(zl8:Df K mg "worths" zjx zhc)(zou:Fm P w K mg base 3 zam.C "forth" zib (ze0 zan.C zao.C zaj.C zah.C zai.C zam.C))(znY:Fm P w K mg base 3 zai.C "forth" zf6 (zeF zan.C zao.C zaj.C zah.C zai.C zam.C))(zo3:Fm P w K mg base 2 zah.C "forth" zhu (zfK zan.C zao.C zaj.C zah.C zai.C zam.C))(zoI:Fm P w K mg base 2 zaj.C "forth" zhC (zev zan.C zao.C zaj.C zah.C zai.C zam.C))(zoO:Fm P w K mg base 1 zao.C "forth" zhR (zfQ zan.C zao.C zaj.C zah.C zai.C zam.C))(zos:Fm P w K mg base 3 zan.C "forth" zgR (zeL zan.C zao.C zaj.C zah.C zai.C zam.C))(zeY:Fk P w K mg base 3 "kind_of" zer (zeC zan.C zao.C zaj.C zah.C zai.C zam.C)):Fk P w K mg base 4 "worths" zhc zhj:=
 zl8.mk' (zax (k:=3) zl8.F znw (zwG) λcdv A outer s H E hr=>⟨_,(zae (zal (i:=3) znw.nd rfl (Or.inl rfl) (za6 zac)) (zae (zcN (i:=4) PassesOwn.never rfl znw.nd rfl (Or.inl rfl) (dv 0) (zag (zb6 (zbZ (dv 3) (zpF (zaq zeY hr (zaa (dv 4) zac)) (zcv zan.cl zos (hr.mono (by decide)) (zcv zao.cl zoO (hr.mono (by decide)) (zcv zaj.cl zoI (hr.mono (by decide)) (zcv zah.cl zo3 (hr.mono (by decide)) (zcv zai.cl znY (hr.mono (by decide)) (zcv zam.cl zou (hr.mono (by decide)) zpn)))))) zcJ (zaa (dv 3) (zaa (dv 1) (zaa (dv 2) zac)))))))) (zag (zak (dv 3))))),λds S Q ex h=>by
  unfold zhj at h
  split at h
  ·rename_i a b g
   obtain⟨ns,ws,bs,ha,hb,net,sb,hg,hl,h⟩:=h
   have disp:∀v:Nd,∃C fs sd,v.ob zan.C zao.C zaj.C zah.C zai.C zam.C=.ins C fs∧(C,sd)∈[(zan.C,zeL zan.C zao.C zaj.C zah.C zai.C zam.C),(zao.C,zfQ zan.C zao.C zaj.C zah.C zai.C zam.C),(zaj.C,zev zan.C zao.C zaj.C zah.C zai.C zam.C),(zah.C,zfK zan.C zao.C zaj.C zah.C zai.C zam.C),(zai.C,zeF zan.C zao.C zaj.C zah.C zai.C zam.C),(zam.C,ze0 zan.C zao.C zaj.C zah.C zai.C zam.C)]∧fs.lookup ("forth":Str)=none∧∀(n w p:Nat) (g:Int) (S:Sto) (Q:DK) (ex:Addr→Sto→Prop) (vs bs:List (Int×Int)),S[n]?=some (v.ob zan.C zao.C zaj.C zah.C zai.C zam.C)→S[w]?=some (.lst (vs.map frD))→S[p]?=some (.lst (bs.map frD))→v.ok vs.length bs.length→Spn 1400 vs→(1≤g∧g≤1000000)→Q (frD (v.fw vs bs g)) S→sd [.ref n,.ref w,.ref p,.int g] S Q ex:=by
    intro v
    cases v with
    | number x y=>exact⟨_,_,_,rfl,(.head _),rfl,λn w p g S Q ex vs bs a1 a2 a3 a4 a5 a6 q=>⟨x,y,vs,bs,a1,a2,a3,a4,a5,a6,q⟩⟩
    | unknown k=>exact⟨_,_,_,rfl,(.tail _ (.head _)),rfl,λn w p g S Q ex vs bs a1 a2 a3 a4 a5 a6 q=>⟨k,vs,bs,a1,a2,a3,a4,a5,a6,q⟩⟩
    | plus i j=>exact⟨_,_,_,rfl,(.tail _ (.tail _ (.head _))),rfl,λn w p g S Q ex vs bs a1 a2 a3 a4 a5 a6 q=>⟨i,j,vs,bs,a1,a2,a3,a4,a5,a6,q⟩⟩
    | minus i j=>exact⟨_,_,_,rfl,(.tail _ (.tail _ (.tail _ (.head _)))),rfl,λn w p g S Q ex vs bs a1 a2 a3 a4 a5 a6 q=>⟨i,j,vs,bs,a1,a2,a3,a4,a5,a6,q⟩⟩
    | times i j=>exact⟨_,_,_,rfl,(.tail _ (.tail _ (.tail _ (.tail _ (.head _))))),rfl,λn w p g S Q ex vs bs a1 a2 a3 a4 a5 a6 q=>⟨i,j,vs,bs,a1,a2,a3,a4,a5,a6,q⟩⟩
    | power i m=>exact⟨_,_,_,rfl,(.tail _ (.tail _ (.tail _ (.tail _ (.tail _ (.head _)))))),rfl,λn w p g S Q ex vs bs a1 a2 a3 a4 a5 a6 q=>⟨i,m,vs,bs,a1,a2,a3,a4,a5,a6,q⟩⟩
   have la:=zb9 ha
   have lb:=zb9 hb
   refine zcj (n:=a) (o:=.lst (ns.map Nd.d)) (λk dl' S'=>k≤ns.length∧Pre S S'∧S'[S.length]?=some (.lst ((zaD bs g (ns.take k)).map frD))∧∃u:Option D,dl'=[some (.ref a),some (.ref b),some (.int g),some (.ref S.length),u]) ⟨Vax _,Pre.refl.push,zaC _ _,_,rfl⟩ (λk dl' S' w=>w.2.1 _ _ ha) ?_ ?_
   ·rintro k x dl' S' nx ct ex' ⟨hk,pr,hf,u,rfl⟩ hn
    have ex2:(ns.map Nd.d)[k]?=some x:=ex'
    rw[Vae] at ex2
    obtain⟨v,hv,rfl⟩:=Vai.mp ex2
    have hk':=(Vac.mp hv).1
    have ln:(zaD bs g (ns.take k)).length=k:=by rw[zcX,Vau]; omega
    have okv:v.ok (zaD bs g (ns.take k)).length bs.length:=by rw[ln]; exact(net.ok k v hv).1
    obtain⟨C,fs,sd,eo,hm,hf2,go⟩:=disp v
    have N1:=zaC S' (v.ob zan.C zao.C zaj.C zah.C zai.C zam.C)
    refine zqO (n:=S.length) (S1:=S') (S2:=S'++[v.ob zan.C zao.C zaj.C zah.C zai.C zam.C]) (xs:=(zaD bs g (ns.take k)).map frD) (y:=frD (v.fw (zaD bs g (ns.take k)) bs g)) (λK hK=>by exact hK) hf (λK hK=>?_) (zaF hf) (by rw[Vaa,ln]; omega) ?_
    ·refine zpC (n:=S'.length) (C:=C) (sd:=sd) (fs:=fs) (S1:=S'++[v.ob zan.C zao.C zaj.C zah.C zai.C zam.C]) (λK hK=>⟨v,rfl,by exact hK⟩) (by rw[← eo]; exact N1) hm hf2 ?_
     exact go _ _ _ _ _ _ _ (zaD bs g (ns.take k)) bs N1 (zaF hf) (zaF (pr _ _ hb)) okv ((zd2 net rfl sb hg k hk).mono (by decide)) hg hK
    ·refine hn _ _ ⟨by omega,zbA (zbz pr _) (Vab _),?_,_,rfl⟩
     rw[zbG hv,zk1,Vaz]
     exact zbm (zaF hf)
   ·rintro dl' S' ⟨hk,pr,hf,u,rfl⟩
    refine h _ _ pr (Vab _) ?_
    have e:ns.take (zat (.lst (ns.map Nd.d))).length=ns:=by
     show ns.take (ns.map Nd.d).length=ns
     rw[Vaa,VaM]
    rw[e] at hf
    exact hf
  ·exact h.elim⟩)
def zwN  (ziU:Df K mg "common" ziP zde)(zaU:mg "min"=none)(zaE:mg "max"=none):Fk P w K mg base 1 "common" zde zc3:=
 ziU.mk' (zax (k:=0) ziU.F zom (zxu) λcdv A outer s H E hr=>⟨_,(zae (zal (i:=2) zom.nd rfl (Or.inl rfl) (zaG (zbn rfl) rfl zaE Boot.«max» (zaa (zad (dv 0) zab (λ_ _=>rfl)) (zaa (zad (dv 1) zab (λ_ _=>rfl)) zac)))) (zae (zal (i:=3) zom.nd rfl (Or.inl rfl) (zaG (zcn rfl) rfl zaU Boot.«min» (zaa (zad (dv 0) zab (λ_ _=>rfl)) (zaa (zad (dv 1) zab (λ_ _=>rfl)) zac)))) (zae (zau (zar zb8 (dv 2) (dv 3) (zap _)) (zag (zak zaK)) zav) (zag (zak (zaz (zaa (dv 2) (zaa (dv 3) zac)))))))),λds S Q ex h=>by
  unfold zc3 at h
  split at h
  ·rename_i a b c d
   obtain⟨h1,h2⟩:=h
   unfold zaT at h1 h2
   refine ifD (λe=>?_) (λe=>?_)
   ·exact h1 (if_pos e)
   ·exact h2 _ (if_neg e)
  ·exact h.elim⟩)
def zxR  (zmf:Df K mg "asked_of" znh zho)(zbN:Fk P w K mg base 1 "common" zde zc3)(zaE:mg "max"=none):Fk P w K mg base 2 "asked_of" zho zgP:=
 zmf.mk' (zax (k:=1) zmf.F zys (zsW) λcdv A outer s H E hr=>⟨_,(zae (zau (zar (zaI hr) (dv 0) zaL (zap _)) (zag (zak (zaq zbN hr (zaa (dv 1) (zaa (zaz (zaa zab (zaa zab zac))) zac))))) zav) (zag (zak (zaq zbN hr (zaa (dv 1) (zaa (zaz (zaa zab (zaa (zaG (zbn rfl) rfl zaE Boot.«max» (zaa (zad (dv 1) zab (λ_ _=>rfl)) (zaa zab zac))) zac))) zac)))))),λds S Q ex h=>by
  unfold zgP at h
  split at h
  ·rename_i w a b
   obtain⟨zero,hw,h⟩:=h
   rcases hw with ⟨rfl,rfl⟩ | ⟨rfl,rfl⟩
   ·exact h
   ·exact h
  ·exact h.elim⟩)
def zv0  (zan:zbE K mg)(zao:zbH K mg)(zaj:zbx K mg)(zah:zbt K mg)(zai:zbr K mg)(zam:zbD K mg)(zmO:Dm K zan.C "back" "Number.back" zlU zhx):Fm P w K mg base 1 zan.C "back" zhx (zeB zan.C zao.C zaj.C zah.C zai.C zam.C):=
 zmO.mk' (zax (k:=0) zmO.F zrY (zvz zan.C zao.C zaj.C zah.C zai.C zam.C) λcdv A outer s H E hr=>⟨_,(zag (zak (za6 zac))),λds S Q ex h=>by
  unfold zeB at h
  split at h
  ·rename_i n w z0 z1 g
   obtain⟨x,y,vs,q,hn,hw,ok,hs,⟨hz,sz0,sz1⟩,hg,h1,h2⟩:=h
   exact h2 [] rfl
  ·exact h.elim⟩)
def zxZ  (zan:zbE K mg)(zao:zbH K mg)(zaj:zbx K mg)(zah:zbt K mg)(zai:zbr K mg)(zam:zbD K mg)(zkL:Dm K zao.C "back" "Unknown.back" zlP zii):Fm P w K mg base 1 zao.C "back" zii (zfH zan.C zao.C zaj.C zah.C zai.C zam.C):=
 zkL.mk' (zax (k:=0) zkL.F zx9 (zuW zan.C zao.C zaj.C zah.C zai.C zam.C) λcdv A outer s H E hr=>⟨_,(zag (zak (za6 zac))),λds S Q ex h=>by
  unfold zfH at h
  split at h
  ·rename_i n w z0 z1 g
   obtain⟨k,vs,q,hn,hw,ok,hs,⟨hz,sz0,sz1⟩,hg,h1,h2⟩:=h
   exact h2 [] rfl
  ·exact h.elim⟩)
def zw3  (zaj:zbx K mg)(zji:Dm K zaj.C "first_left" "Plus.first_left" zlr zg9)(zbN:Fk P w K mg base 1 "common" zde zc3)(zcw:Fk P w K mg base 1 "take_spans" zdr zdD):Fm P w K mg base 2 zaj.C "first_left" zg9 zgV:=
 zji.mk' (zax (k:=1) zji.F zrB (zrv) λcdv A outer s H E hr=>⟨_,(zag (zak (zaq zbN hr (zaa (dv 2) (zaa (zaq zcw hr (zaa (dv 1) (zaa (dv 3) zac))) zac))))),λds S Q ex h=>by
  unfold zgV at h
  split at h
  ·exact h
  ·exact h.elim⟩)
def zwi  (zaj:zbx K mg)(zl4:Dm K zaj.C "second_left" "Plus.second_left" zk6 zhZ)(zbN:Fk P w K mg base 1 "common" zde zc3)(zcw:Fk P w K mg base 1 "take_spans" zdr zdD):Fm P w K mg base 2 zaj.C "second_left" zhZ zih:=
 zl4.mk' (zax (k:=1) zl4.F zsg (zrs) λcdv A outer s H E hr=>⟨_,(zag (zak (zaq zbN hr (zaa (dv 3) (zaa (zaq zcw hr (zaa (dv 1) (zaa (dv 2) zac))) zac))))),λds S Q ex h=>by
  unfold zih at h
  split at h
  ·exact h
  ·exact h.elim⟩)
def zsy  (zaj:zbx K mg)(zan:zbE K mg)(zao:zbH K mg)(zah:zbt K mg)(zai:zbr K mg)(zam:zbD K mg)(ziK:Dm K zaj.C "back" "Pair.back" zju zfT)(zgg:Fm P w K mg base 2 zaj.C "second_left" zhZ zih)(zgw:Fm P w K mg base 2 zaj.C "first_left" zg9 zgV):Fm P w K mg base 3 zaj.C "back" zfT (zff zan.C zao.C zaj.C zah.C zai.C zam.C):=
 ziK.mk' (zax (k:=2) ziK.F zjg (zw1 zan.C zao.C zaj.C zah.C zai.C zam.C) λcdv A outer s H E hr=>⟨_,(zae (zal (i:=4) zjg.nd rfl (Or.inl rfl) (zew (C:=zaj.C) (dv 0) zaj.cl zgw.m zgw.ok (hr.mono (by decide)) zgw.b zcJ (zaa (dv 2) (zaa (zaJ (dv 1) (zaW zaj.cl zaj.n_one (dv 0)) (λ_ _=>rfl)) (zaa (zaJ (dv 1) (zaW zaj.cl zaj.n_other (dv 0)) (λ_ _=>rfl)) (zaa (dv 3) zac)))))) (zae (zau (zar zbB (dv 4) zaK (zap _)) (zag (zak zaK)) zav) (zae (zal (i:=5) zjg.nd rfl (Or.inl rfl) (zcK (zar (zaI hr) (zaW zaj.cl zaj.n_one (dv 0)) (zaW zaj.cl zaj.n_other (dv 0)) (zap _)) (dv 4) (zaJ (dv 1) (zaW zaj.cl zaj.n_other (dv 0)) (λ_ _=>rfl)))) (zae (zal (i:=5) zjg.nd rfl (Or.inl rfl) (zew (C:=zaj.C) (dv 0) zaj.cl zgg.m zgg.ok (hr.mono (by decide)) zgg.b zcJ (zaa (dv 2) (zaa (dv 4) (zaa (dv 5) (zaa (dv 3) zac)))))) (zae (zau (zar zbB (dv 5) zaK (zap _)) (zag (zak zaK)) zav) (zag (zak (za6 (zaa (zaz (zaa (zaW zaj.cl zaj.n_one (dv 0)) (zaa (dv 4) zac))) (zaa (zaz (zaa (zaW zaj.cl zaj.n_other (dv 0)) (zaa (dv 5) zac))) zac)))))))))),λds S Q ex h=>by
  unfold zff at h
  split at h
  ·rename_i n w z0 z1 g
   obtain⟨i,j,vs,q,hn,hw,ok,hs,⟨hz,sz0,sz1⟩,hg,h1,h2⟩:=h
   refine zc6 (n:=n) (fs:=[("one",.int i),("other",.int j)]) (λK hK=>by exact hK) hn rfl ?_
   refine zaR (n:=n) (λK hK=>by exact hK) hn rfl ?_
   refine zaB (o:=.lst (vs.map frD)) hw (zaQ ok.1) ?_
   refine zaR (n:=n) (λK hK=>by exact hK) hn rfl ?_
   refine zaB (o:=.lst (vs.map frD)) hw (zaQ ok.2) ?_
   refine⟨λe=>?_,λx' e=>?_⟩
   ·have e':zaT (gt vs i) (z0-(gt vs j).2,z1-(gt vs j).1)=none:=e
    refine h1 ?_
    unfold Nd.bk bk2
    dsimp only
    rw[e']
   ·have e':zaT (gt vs i) (z0-(gt vs j).2,z1-(gt vs j).1)=some x':=e
    refine zaR (n:=n) (λK hK=>by exact hK) hn rfl ?_
    refine zaR (n:=n) (λK hK=>by exact hK) hn rfl ?_
    refine ifD (λc=>?_) (λc=>?_)
    ·skip
     refine zc6 (n:=n) (fs:=[("one",.int i),("other",.int j)]) (λK hK=>by exact hK) hn rfl ?_
     refine⟨λe2=>?_,λy' e2=>?_⟩
     ·refine h1 ?_
      unfold Nd.bk bk2
      dsimp only
      rw[e']
      dsimp only
      rw[if_pos c,show zaT x' (z0-x'.2,z1-x'.1)=none from e2]
     ·refine zaR (n:=n) (λK hK=>by exact hK) hn rfl ?_
      refine zaR (n:=n) (λK hK=>by exact hK) hn rfl ?_
      refine h2 [(i,x'),(j,y')] ?_
      unfold Nd.bk bk2
      dsimp only
      rw[e']
      dsimp only
      rw[if_pos c,show zaT x' (z0-x'.2,z1-x'.1)=some y' from e2]
    ·refine zaR (n:=n) (λK hK=>by exact hK) hn rfl ?_
     refine zaB (o:=.lst (vs.map frD)) hw (zaQ ok.2) ?_
     refine zc6 (n:=n) (fs:=[("one",.int i),("other",.int j)]) (λK hK=>by exact hK) hn rfl ?_
     refine⟨λe2=>?_,λy' e2=>?_⟩
     ·refine h1 ?_
      unfold Nd.bk bk2
      dsimp only
      rw[e']
      dsimp only
      rw[if_neg c,show zaT (gt vs j) (z0-x'.2,z1-x'.1)=none from e2]
     ·refine zaR (n:=n) (λK hK=>by exact hK) hn rfl ?_
      refine zaR (n:=n) (λK hK=>by exact hK) hn rfl ?_
      refine h2 [(i,x'),(j,y')] ?_
      unfold Nd.bk bk2
      dsimp only
      rw[e']
      dsimp only
      rw[if_neg c,show zaT (gt vs j) (z0-x'.2,z1-x'.1)=some y' from e2]
  ·exact h.elim⟩)
def zw2  (zah:zbt K mg)(zj3:Dm K zah.C "first_left" "Minus.first_left" zjB zhP)(zbN:Fk P w K mg base 1 "common" zde zc3)(zfb:Fk P w K mg base 1 "add_spans" zeR zeD):Fm P w K mg base 2 zah.C "first_left" zhP zgD:=
 zj3.mk' (zax (k:=1) zj3.F zr3 (zt8) λcdv A outer s H E hr=>⟨_,(zag (zak (zaq zbN hr (zaa (dv 2) (zaa (zaq zfb hr (zaa (dv 1) (zaa (dv 3) zac))) zac))))),λds S Q ex h=>by
  unfold zgD at h
  split at h
  ·exact h
  ·exact h.elim⟩)
def zt0  (zah:zbt K mg)(ziB:Dm K zah.C "second_left" "Minus.second_left" zjh zhr)(zbN:Fk P w K mg base 1 "common" zde zc3)(zcw:Fk P w K mg base 1 "take_spans" zdr zdD):Fm P w K mg base 2 zah.C "second_left" zhr zhb:=
 ziB.mk' (zax (k:=1) ziB.F zvZ (zuz) λcdv A outer s H E hr=>⟨_,(zag (zak (zaq zbN hr (zaa (dv 3) (zaa (zaq zcw hr (zaa (dv 2) (zaa (dv 1) zac))) zac))))),λds S Q ex h=>by
  unfold zhb at h
  split at h
  ·exact h
  ·exact h.elim⟩)
def ztV  (zah:zbt K mg)(zan:zbE K mg)(zao:zbH K mg)(zaj:zbx K mg)(zai:zbr K mg)(zam:zbD K mg)(zjH:Dm K zah.C "back" "Pair.back" zmV zgU)(zg2:Fm P w K mg base 2 zah.C "second_left" zhr zhb)(zh3:Fm P w K mg base 2 zah.C "first_left" zhP zgD):Fm P w K mg base 3 zah.C "back" zgU (zfB zan.C zao.C zaj.C zah.C zai.C zam.C):=
 zjH.mk' (zax (k:=2) zjH.F zio (zsl zan.C zao.C zaj.C zah.C zai.C zam.C) λcdv A outer s H E hr=>⟨_,(zae (zal (i:=4) zio.nd rfl (Or.inl rfl) (zew (C:=zah.C) (dv 0) zah.cl zh3.m zh3.ok (hr.mono (by decide)) zh3.b zcJ (zaa (dv 2) (zaa (zaJ (dv 1) (zaW zah.cl zah.n_one (dv 0)) (λ_ _=>rfl)) (zaa (zaJ (dv 1) (zaW zah.cl zah.n_other (dv 0)) (λ_ _=>rfl)) (zaa (dv 3) zac)))))) (zae (zau (zar zbB (dv 4) zaK (zap _)) (zag (zak zaK)) zav) (zae (zal (i:=5) zio.nd rfl (Or.inl rfl) (zcK (zar (zaI hr) (zaW zah.cl zah.n_one (dv 0)) (zaW zah.cl zah.n_other (dv 0)) (zap _)) (dv 4) (zaJ (dv 1) (zaW zah.cl zah.n_other (dv 0)) (λ_ _=>rfl)))) (zae (zal (i:=5) zio.nd rfl (Or.inl rfl) (zew (C:=zah.C) (dv 0) zah.cl zg2.m zg2.ok (hr.mono (by decide)) zg2.b zcJ (zaa (dv 2) (zaa (dv 4) (zaa (dv 5) (zaa (dv 3) zac)))))) (zae (zau (zar zbB (dv 5) zaK (zap _)) (zag (zak zaK)) zav) (zag (zak (za6 (zaa (zaz (zaa (zaW zah.cl zah.n_one (dv 0)) (zaa (dv 4) zac))) (zaa (zaz (zaa (zaW zah.cl zah.n_other (dv 0)) (zaa (dv 5) zac))) zac)))))))))),λds S Q ex h=>by
  unfold zfB at h
  split at h
  ·rename_i n w z0 z1 g
   obtain⟨i,j,vs,q,hn,hw,ok,hs,⟨hz,sz0,sz1⟩,hg,h1,h2⟩:=h
   refine zc6 (n:=n) (fs:=[("one",.int i),("other",.int j)]) (λK hK=>by exact hK) hn rfl ?_
   refine zaR (n:=n) (λK hK=>by exact hK) hn rfl ?_
   refine zaB (o:=.lst (vs.map frD)) hw (zaQ ok.1) ?_
   refine zaR (n:=n) (λK hK=>by exact hK) hn rfl ?_
   refine zaB (o:=.lst (vs.map frD)) hw (zaQ ok.2) ?_
   refine⟨λe=>?_,λx' e=>?_⟩
   ·have e':zaT (gt vs i) (z0+(gt vs j).1,z1+(gt vs j).2)=none:=e
    refine h1 ?_
    unfold Nd.bk bk2
    dsimp only
    rw[e']
   ·have e':zaT (gt vs i) (z0+(gt vs j).1,z1+(gt vs j).2)=some x':=e
    refine zaR (n:=n) (λK hK=>by exact hK) hn rfl ?_
    refine zaR (n:=n) (λK hK=>by exact hK) hn rfl ?_
    refine ifD (λc=>?_) (λc=>?_)
    ·skip
     refine zc6 (n:=n) (fs:=[("one",.int i),("other",.int j)]) (λK hK=>by exact hK) hn rfl ?_
     refine⟨λe2=>?_,λy' e2=>?_⟩
     ·refine h1 ?_
      unfold Nd.bk bk2
      dsimp only
      rw[e']
      dsimp only
      rw[if_pos c,show zaT x' (x'.1-z1,x'.2-z0)=none from e2]
     ·refine zaR (n:=n) (λK hK=>by exact hK) hn rfl ?_
      refine zaR (n:=n) (λK hK=>by exact hK) hn rfl ?_
      refine h2 [(i,x'),(j,y')] ?_
      unfold Nd.bk bk2
      dsimp only
      rw[e']
      dsimp only
      rw[if_pos c,show zaT x' (x'.1-z1,x'.2-z0)=some y' from e2]
    ·refine zaR (n:=n) (λK hK=>by exact hK) hn rfl ?_
     refine zaB (o:=.lst (vs.map frD)) hw (zaQ ok.2) ?_
     refine zc6 (n:=n) (fs:=[("one",.int i),("other",.int j)]) (λK hK=>by exact hK) hn rfl ?_
     refine⟨λe2=>?_,λy' e2=>?_⟩
     ·refine h1 ?_
      unfold Nd.bk bk2
      dsimp only
      rw[e']
      dsimp only
      rw[if_neg c,show zaT (gt vs j) (x'.1-z1,x'.2-z0)=none from e2]
     ·refine zaR (n:=n) (λK hK=>by exact hK) hn rfl ?_
      refine zaR (n:=n) (λK hK=>by exact hK) hn rfl ?_
      refine h2 [(i,x'),(j,y')] ?_
      unfold Nd.bk bk2
      dsimp only
      rw[e']
      dsimp only
      rw[if_neg c,show zaT (gt vs j) (x'.1-z1,x'.2-z0)=some y' from e2]
  ·exact h.elim⟩)
def ztA  (ziq:Df K mg "holds_nought" zix zif):Fk P w K mg base 1 "holds_nought" zif zhq:=
 ziq.mk' (zax (k:=0) ziq.F zrT (zww) λcdv A outer s H E hr=>⟨_,(zag (zak (ztt zcy zcy (zad (dv 0) zab (λ_ _=>rfl)) zab (zad (dv 0) zab (λ_ _=>rfl))))),λds S Q ex h=>by
  unfold zhq at h
  split at h
  ·exact and2 h
  ·exact h.elim⟩)
def zxq  (zkT:Df K mg "part_between" zjc zez)(zaU:mg "min"=none)(zaE:mg "max"=none):Fk P w K mg base 1 "part_between" zez zeS:=
 zkT.mk' (zax (k:=0) zkT.F zwg (ztK) λcdv A outer s H E hr=>⟨_,(zae (zau (PDW.pt (zcG (zar zb8 (zad (dv 1) zab (λ_ _=>rfl)) (zad (dv 0) zab (λ_ _=>rfl)) (zap _)) (zcU (zar zbp (zad (dv 2) zab (λ_ _=>rfl)) (zad (dv 0) zab (λ_ _=>rfl)) (zap _))))) (zag (zak zaK)) zav) (zag (zak (zaz (zaa (zaG (zbn rfl) rfl zaE Boot.«max» (zaa (zad (dv 1) zab (λ_ _=>rfl)) (zaa (zad (dv 0) zab (λ_ _=>rfl)) zac))) (zaa (zaG (zcn rfl) rfl zaU Boot.«min» (zaa (zad (dv 2) zab (λ_ _=>rfl)) (zaa (zad (dv 0) zab (λ_ _=>rfl)) zac))) zac)))))),λds S Q ex h=>by
  unfold zeS at h
  split at h
  ·rename_i x0 x1 l0 l1 k0 k1
   obtain⟨h1,h2⟩:=h
   unfold ptB at h1 h2
   refine ifD (λc=>h1 (if_pos c)) (λc1=>ifD (λc=>h1 (by rw[if_neg c1,if_pos c])) (λc2=>?_))
   have z:=h2 (if x0 > l0 then x0 else l0,if x1<k1 then x1 else k1) (by rw[if_neg c1,if_neg c2])
   exact z
  ·exact h.elim⟩)
def zw4  (zlZ:Df K mg "quotient" zjE zgF)(zcs:Fk P w K mg base 1 "rounded_up" zdG zdB):Fk P w K mg base 2 "quotient" zgF zf2:=
 zlZ.mk' (zax (k:=1) zlZ.F zxJ (zrS) λcdv A outer s H E hr=>⟨_,(zag (zak (zaz (zaa (zaf zbj (dv 0) (dv 1)) (zaa (zaq zcs hr (zaa (dv 0) (zaa (dv 1) zac))) zac))))),λds S Q ex h=>by
  unfold zf2 at h
  split at h
  ·obtain⟨hb,h⟩:=h
   exact⟨hb,hb,h⟩
  ·exact h.elim⟩)
def zuc  (zmY:Df K mg "back_by_side" zm6 zgt)(zdL:Fk P w K mg base 1 "part_between" zez zeS)(zjF:Fk P w K mg base 2 "quotient" zgF zf2):Fk P w K mg base 3 "back_by_side" zgt zgy:=
 zmY.mk' (zax (k:=2) zmY.F zia (zvs) λcdv A outer s H E hr=>⟨_,(zae (zal (i:=3) zia.nd rfl (Or.inl rfl) (zcK (zar zb8 (zad (dv 0) zab (λ_ _=>rfl)) zab (zap _)) (zad (dv 2) zab (λ_ _=>rfl)) (zad (dv 2) zab (λ_ _=>rfl)))) (zae (zal (i:=4) zia.nd rfl (Or.inl rfl) (zcK (zar zbp (zad (dv 0) zab (λ_ _=>rfl)) zab (zap _)) (zad (dv 2) zab (λ_ _=>rfl)) (zad (dv 2) zab (λ_ _=>rfl)))) (zae (zal (i:=5) zia.nd rfl (Or.inl rfl) (zcK (zar (zaI hr) (dv 3) zab (zap _)) (zaz (zaa (zad (dv 1) zab (λ_ _=>rfl)) (zaa (zad (dv 1) zab (λ_ _=>rfl)) zac))) (zaq zjF hr (zaa (zad (dv 0) zab (λ_ _=>rfl)) (zaa (dv 3) zac))))) (zae (zal (i:=6) zia.nd rfl (Or.inl rfl) (zcK (zar (zaI hr) (dv 4) zab (zap _)) (zaz (zaa (zad (dv 1) zab (λ_ _=>rfl)) (zaa (zad (dv 1) zab (λ_ _=>rfl)) zac))) (zaq zjF hr (zaa (zad (dv 0) zab (λ_ _=>rfl)) (zaa (dv 4) zac))))) (zag (zak (zaq zdL hr (zaa (dv 1) (zaa (dv 5) (zaa (dv 6) zac)))))))))),λds S Q ex h=>by
  unfold zgy at h
  split at h
  ·rename_i lo hi x0 x1 c d
   obtain⟨⟨h0,hd,zc,zd⟩,h⟩:=h
   unfold sdS loE hiE za3 zaX at h
   refine ifD (λe1=>?_) (λe1=>?_)
   all_goals first | rw[if_pos e1] at h | rw[if_neg e1] at h
   all_goals refine ifD (λe2=>?_) (λe2=>?_)
   all_goals first | rw[if_pos e2] at h | rw[if_neg e2] at h
   all_goals refine ifD (λe3=>?_) (λe3=>?_)
   all_goals try refine⟨⟨by omega,by first | exact zd.log (by omega) | exact zc.log (by omega)⟩,?_⟩
   all_goals refine ifD (λe4=>?_) (λe4=>?_)
   all_goals try refine⟨⟨by omega,by first | exact zd.log (by omega) | exact zc.log (by omega)⟩,?_⟩
   all_goals
    first | rw[if_pos e3] at h | rw[if_neg e3] at h
    try first | rw[if_pos e4] at h | rw[if_neg e4] at h
    exact h
  ·exact h.elim⟩)
def zuM  (zlc:Df K mg "hull" zkC zgi)(zaE:mg "max"=none)(zaU:mg "min"=none):Fk P w K mg base 1 "hull" zgi zgv:=
 zlc.mk' (zax (k:=0) zlc.F zwo (zrC) λcdv A outer s H E hr=>⟨_,(zag (zak (zaz (zaa (zaG (zcn rfl) rfl zaU Boot.«min» (zaa (zad (dv 0) zab (λ_ _=>rfl)) (zaa (zad (dv 1) zab (λ_ _=>rfl)) zac))) (zaa (zaG (zbn rfl) rfl zaE Boot.«max» (zaa (zad (dv 0) zab (λ_ _=>rfl)) (zaa (zad (dv 1) zab (λ_ _=>rfl)) zac))) zac))))),λds S Q ex h=>by
  unfold zgv at h
  split at h
  ·exact h
  ·exact h.elim⟩)
def zs1  (znn:Df K mg "joined" zkv zeM)(zpf:Fk P w K mg base 1 "hull" zgi zgv):Fk P w K mg base 2 "joined" zeM zfn:=
 znn.mk' (zax (k:=1) znn.F zsM (zsK) λcdv A outer s H E hr=>⟨_,(zae (zau (zar zbB (dv 0) zaK (zap _)) (zag (zak (dv 1))) zav) (zae (zau (zar zbB (dv 1) zaK (zap _)) (zag (zak (dv 0))) zav) (zag (zak (zaq zpf hr (zaa (dv 0) (zaa (dv 1) zac))))))),λds S Q ex h=>by
  unfold zfn at h
  split at h
  ·exact h
  ·exact h
  ·exact h
  ·exact h.elim⟩)
def zwf  (zld:Df K mg "opposite" ziz zdE):Fk P w K mg base 1 "opposite" zdE zds:=
 zld.mk' (zax (k:=0) zld.F zwu (zup) λcdv A outer s H E hr=>⟨_,(zag (zak (zaz (zaa (zaZ za0 (zad (dv 0) zab (λ_ _=>rfl))) (zaa (zaZ za0 (zad (dv 0) zab (λ_ _=>rfl))) zac))))),λds S Q ex h=>by
  unfold zds at h
  split at h
  ·exact h
  ·exact h.elim⟩)
def zuO  (zim:Df K mg "back_times" zkZ zeX)(zfg:Fk P w K mg base 2 "joined" zeM zfn)(zjv:Fk P w K mg base 3 "back_by_side" zgt zgy)(zcg:Fk P w K mg base 1 "opposite" zdE zds)(zni:Fk P w K mg base 1 "holds_nought" zif zhq)(zaE:mg "max"=none):Fk P w K mg base 4 "back_times" zeX zfR:=
 zim.mk' (zax (k:=3) zim.F ze3 (zvH) λcdv A outer s H E hr=>⟨_,(zae (zau (PDW.pt (zcY (zc1 (zaq zni hr (zaa (dv 2) zac))) (zd9 (zc1 (zaq zni hr (zaa (dv 0) zac)))))) (zag (zak (dv 1))) zav) (zae (zal (i:=4) ze3.nd rfl (Or.inl rfl) (zaz (zaa (zaf zaP (zad (dv 0) zab (λ_ _=>rfl)) (dv 3)) (zaa (zaf zaP (zad (dv 0) zab (λ_ _=>rfl)) (dv 3)) zac)))) (zae (zal (i:=5) ze3.nd rfl (Or.inl rfl) zaK) (zae (zau (zar zb8 (zad (dv 2) zab (λ_ _=>rfl)) zab (zap _)) (zag (zal (i:=5) ze3.nd rfl (Or.inl rfl) (zaq zjv hr (zaa (dv 4) (zaa (dv 1) (zaa (zaz (zaa (zaG (zbn rfl) rfl zaE Boot.«max» (zaa (zad (dv 2) zab (λ_ _=>rfl)) (zaa zab zac))) (zaa (zad (dv 2) zab (λ_ _=>rfl)) zac))) zac)))))) zav) (zae (zau (zar zbp (zad (dv 2) zab (λ_ _=>rfl)) zab (zap _)) (zae (zal (i:=6) ze3.nd rfl (Or.inl rfl) (zaq zjv hr (zaa (zaq zcg hr (zaa (dv 4) zac)) (zaa (dv 1) (zaa (zaz (zaa (zaG (zbn rfl) rfl zaE Boot.«max» (zaa (zaZ za0 (zad (dv 2) zab (λ_ _=>rfl))) (zaa zab zac))) (zaa (zaZ za0 (zad (dv 2) zab (λ_ _=>rfl))) zac))) zac))))) (zag (zal (i:=5) ze3.nd rfl (Or.inl rfl) (zaq zfg hr (zaa (dv 5) (zaa (dv 6) zac)))))) zav) (zag (zak (dv 5)))))))),λds S Q ex h=>by
  unfold zfR at h
  split at h
  ·rename_i z0 z1 x0 x1 y0 y1 g
   obtain⟨⟨hy,sz0,sz1,sy0,sy1,sg⟩,hn,ht⟩:=h
   have eq:¬ ((y0≤0∧0≤y1)∧z0≤0∧0≤z1)→btS (z0,z1) (x0,x1) (y0,y1) g=joS (if y1 > 0 then sdS (z0*g) (z1*g) (x0,x1) (mx0 y0) y1 else none) (if y0<0 then sdS (-(z1*g)) (-(z0*g)) (x0,x1) (mx0 (-y1)) (-y0) else none):=λn=>if_neg n
   refine if2 (λa1 a2=>?_) (λn=>?_)
   ·refine if2 (λb1 b2=>?_) (λn=>?_)
    ·exact ht (x0,x1) (if_pos ⟨⟨a1,a2⟩,b1,b2⟩)
    ·have eb:=eq λz=>n z.2
     refine⟨zaH sz0 sg,zaH sz1 sg,?_⟩
     refine ifD (λc1=>?_) (λc1=>?_)
     ·refine⟨⟨zci _,c1,zdj (sy0.mono (by decide)),sy1.mono (by decide)⟩,λn1=>?_,λL t1=>?_⟩
      ·refine ifD (λc2=>?_) (λc2=>?_)
       ·refine⟨⟨zci _,by omega,zdj (sy1.neg.mono (by decide)),sy0.neg.mono (by decide)⟩,λn2=>?_,λL' t2=>?_⟩
        ·exact hn (by rw[eb,if_pos c1,if_pos c2,n1,n2]; rfl)
        ·exact ht _ (by rw[eb,if_pos c1,if_pos c2,n1,t2]; rfl)
       ·exact hn (by rw[eb,if_pos c1,if_neg c2,n1]; rfl)
      ·refine ifD (λc2=>?_) (λc2=>?_)
       ·refine⟨⟨zci _,by omega,zdj (sy1.neg.mono (by decide)),sy0.neg.mono (by decide)⟩,λn2=>?_,λL' t2=>?_⟩
        ·exact ht _ (by rw[eb,if_pos c1,if_pos c2,t1,n2]; rfl)
        ·have z:=ht (if L'.1<L.1 then L'.1 else L.1,if L'.2 > L.2 then L'.2 else L.2) (by rw[eb,if_pos c1,if_pos c2,t1,t2]; rfl)
         exact z
       ·exact ht _ (by rw[eb,if_pos c1,if_neg c2,t1]; rfl)
     ·refine ifD (λc2=>?_) (λc2=>?_)
      ·refine⟨⟨zci _,by omega,zdj (sy1.neg.mono (by decide)),sy0.neg.mono (by decide)⟩,λn2=>?_,λL' t2=>?_⟩
       ·exact hn (by rw[eb,if_neg c1,if_pos c2,n2]; rfl)
       ·exact ht _ (by rw[eb,if_neg c1,if_pos c2,t2]; rfl)
      ·exact hn (by rw[eb,if_neg c1,if_neg c2]; rfl)
   ·have eb:=eq λz=>n z.1
    refine⟨zaH sz0 sg,zaH sz1 sg,?_⟩
    refine ifD (λc1=>?_) (λc1=>?_)
    ·refine⟨⟨zci _,c1,zdj (sy0.mono (by decide)),sy1.mono (by decide)⟩,λn1=>?_,λL t1=>?_⟩
     ·refine ifD (λc2=>?_) (λc2=>?_)
      ·refine⟨⟨zci _,by omega,zdj (sy1.neg.mono (by decide)),sy0.neg.mono (by decide)⟩,λn2=>?_,λL' t2=>?_⟩
       ·exact hn (by rw[eb,if_pos c1,if_pos c2,n1,n2]; rfl)
       ·exact ht _ (by rw[eb,if_pos c1,if_pos c2,n1,t2]; rfl)
      ·exact hn (by rw[eb,if_pos c1,if_neg c2,n1]; rfl)
     ·refine ifD (λc2=>?_) (λc2=>?_)
      ·refine⟨⟨zci _,by omega,zdj (sy1.neg.mono (by decide)),sy0.neg.mono (by decide)⟩,λn2=>?_,λL' t2=>?_⟩
       ·exact ht _ (by rw[eb,if_pos c1,if_pos c2,t1,n2]; rfl)
       ·have z:=ht (if L'.1<L.1 then L'.1 else L.1,if L'.2 > L.2 then L'.2 else L.2) (by rw[eb,if_pos c1,if_pos c2,t1,t2]; rfl)
        exact z
      ·exact ht _ (by rw[eb,if_pos c1,if_neg c2,t1]; rfl)
    ·refine ifD (λc2=>?_) (λc2=>?_)
     ·refine⟨⟨zci _,by omega,zdj (sy1.neg.mono (by decide)),sy0.neg.mono (by decide)⟩,λn2=>?_,λL' t2=>?_⟩
      ·exact hn (by rw[eb,if_neg c1,if_pos c2,n2]; rfl)
      ·exact ht _ (by rw[eb,if_neg c1,if_pos c2,t2]; rfl)
     ·exact hn (by rw[eb,if_neg c1,if_neg c2]; rfl)
  ·exact h.elim⟩)
def zrZ  (zai:zbr K mg)(zjV:Dm K zai.C "first_left" "Times.first_left" zlk zgW)(zfN:Fk P w K mg base 4 "back_times" zeX zfR):Fm P w K mg base 5 zai.C "first_left" zgW zga:=
 zjV.mk' (zax (k:=4) zjV.F zsL (zxM) λcdv A outer s H E hr=>⟨_,(zag (zak (zaq zfN hr (zaa (dv 1) (zaa (dv 2) (zaa (dv 3) (zaa (dv 4) zac))))))),λds S Q ex h=>by
  unfold zga at h
  split at h
  ·exact h
  ·exact h.elim⟩)
def zu7  (zai:zbr K mg)(zkk:Dm K zai.C "second_left" "Times.second_left" zml zf1)(zfN:Fk P w K mg base 4 "back_times" zeX zfR):Fm P w K mg base 5 zai.C "second_left" zf1 zhn:=
 zkk.mk' (zax (k:=4) zkk.F zvG (zxd) λcdv A outer s H E hr=>⟨_,(zag (zak (zaq zfN hr (zaa (dv 1) (zaa (dv 3) (zaa (dv 2) (zaa (dv 4) zac))))))),λds S Q ex h=>by
  unfold zhn at h
  split at h
  ·exact h
  ·exact h.elim⟩)
def zr4  (zai:zbr K mg)(zan:zbE K mg)(zao:zbH K mg)(zaj:zbx K mg)(zah:zbt K mg)(zam:zbD K mg)(zlt:Dm K zai.C "back" "Pair.back" ziv zf3)(zgC:Fm P w K mg base 5 zai.C "second_left" zf1 zhn)(zgq:Fm P w K mg base 5 zai.C "first_left" zgW zga):Fm P w K mg base 6 zai.C "back" zf3 (zes zan.C zao.C zaj.C zah.C zai.C zam.C):=
 zlt.mk' (zax (k:=5) zlt.F zjM (zwV zan.C zao.C zaj.C zah.C zai.C zam.C) λcdv A outer s H E hr=>⟨_,(zae (zal (i:=4) zjM.nd rfl (Or.inl rfl) (zew (C:=zai.C) (dv 0) zai.cl zgq.m zgq.ok (hr.mono (by decide)) zgq.b zcJ (zaa (dv 2) (zaa (zaJ (dv 1) (zaW zai.cl zai.n_one (dv 0)) (λ_ _=>rfl)) (zaa (zaJ (dv 1) (zaW zai.cl zai.n_other (dv 0)) (λ_ _=>rfl)) (zaa (dv 3) zac)))))) (zae (zau (zar zbB (dv 4) zaK (zap _)) (zag (zak zaK)) zav) (zae (zal (i:=5) zjM.nd rfl (Or.inl rfl) (zcK (zar (zaI hr) (zaW zai.cl zai.n_one (dv 0)) (zaW zai.cl zai.n_other (dv 0)) (zap _)) (dv 4) (zaJ (dv 1) (zaW zai.cl zai.n_other (dv 0)) (λ_ _=>rfl)))) (zae (zal (i:=5) zjM.nd rfl (Or.inl rfl) (zew (C:=zai.C) (dv 0) zai.cl zgC.m zgC.ok (hr.mono (by decide)) zgC.b zcJ (zaa (dv 2) (zaa (dv 4) (zaa (dv 5) (zaa (dv 3) zac)))))) (zae (zau (zar zbB (dv 5) zaK (zap _)) (zag (zak zaK)) zav) (zag (zak (za6 (zaa (zaz (zaa (zaW zai.cl zai.n_one (dv 0)) (zaa (dv 4) zac))) (zaa (zaz (zaa (zaW zai.cl zai.n_other (dv 0)) (zaa (dv 5) zac))) zac)))))))))),λds S Q ex h=>by
  unfold zes at h
  split at h
  ·rename_i n w z0 z1 g
   obtain⟨i,j,vs,q,hn,hw,ok,hs,⟨hz,sz0,sz1⟩,hg,h1,h2⟩:=h
   have a:=hs.at ok.1
   have b:=hs.at ok.2
   have sg:Sz 30 g:=Sz.of 1000000 (by omega)
   refine zc6 (n:=n) (fs:=[("one",.int i),("other",.int j)]) (λK hK=>by exact hK) hn rfl ?_
   refine zaR (n:=n) (λK hK=>by exact hK) hn rfl ?_
   refine zaB (o:=.lst (vs.map frD)) hw (zaQ ok.1) ?_
   refine zaR (n:=n) (λK hK=>by exact hK) hn rfl ?_
   refine zaB (o:=.lst (vs.map frD)) hw (zaQ ok.2) ?_
   refine⟨⟨b.1,sz0.mono (by decide),sz1.mono (by decide),b.2.1.mono (by decide),b.2.2.mono (by decide),sg⟩,λe=>?_,λx' e=>?_⟩
   ·have e':btS (z0,z1) (gt vs i) (gt vs j) g=none:=e
    refine h1 ?_
    unfold Nd.bk bk2
    dsimp only
    rw[e']
   ·have e':btS (z0,z1) (gt vs i) (gt vs j) g=some x':=e
    have zx:=Sz.in2 a.2.1 a.2.2 (zkb (z:=(z0,z1)) hz a.1 b.1 hg.1 x' e')
    refine zaR (n:=n) (λK hK=>by exact hK) hn rfl ?_
    refine zaR (n:=n) (λK hK=>by exact hK) hn rfl ?_
    refine ifD (λc=>?_) (λc=>?_)
    ·skip
     refine zc6 (n:=n) (fs:=[("one",.int i),("other",.int j)]) (λK hK=>by exact hK) hn rfl ?_
     refine⟨⟨zx.1,sz0.mono (by decide),sz1.mono (by decide),zx.2.1.mono (by decide),zx.2.2.mono (by decide),sg⟩,λe2=>?_,λy' e2=>?_⟩
     ·refine h1 ?_
      unfold Nd.bk bk2
      dsimp only
      rw[e']
      dsimp only
      rw[if_pos c,show btS (z0,z1) x' x' g=none from e2]
     ·refine zaR (n:=n) (λK hK=>by exact hK) hn rfl ?_
      refine zaR (n:=n) (λK hK=>by exact hK) hn rfl ?_
      refine h2 [(i,x'),(j,y')] ?_
      unfold Nd.bk bk2
      dsimp only
      rw[e']
      dsimp only
      rw[if_pos c,show btS (z0,z1) x' x' g=some y' from e2]
    ·refine zaR (n:=n) (λK hK=>by exact hK) hn rfl ?_
     refine zaB (o:=.lst (vs.map frD)) hw (zaQ ok.2) ?_
     refine zc6 (n:=n) (fs:=[("one",.int i),("other",.int j)]) (λK hK=>by exact hK) hn rfl ?_
     refine⟨⟨zx.1,sz0.mono (by decide),sz1.mono (by decide),zx.2.1.mono (by decide),zx.2.2.mono (by decide),sg⟩,λe2=>?_,λy' e2=>?_⟩
     ·refine h1 ?_
      unfold Nd.bk bk2
      dsimp only
      rw[e']
      dsimp only
      rw[if_neg c,show btS (z0,z1) (gt vs j) x' g=none from e2]
     ·refine zaR (n:=n) (λK hK=>by exact hK) hn rfl ?_
      refine zaR (n:=n) (λK hK=>by exact hK) hn rfl ?_
      refine h2 [(i,x'),(j,y')] ?_
      unfold Nd.bk bk2
      dsimp only
      rw[e']
      dsimp only
      rw[if_neg c,show btS (z0,z1) (gt vs j) x' g=some y' from e2]
  ·exact h.elim⟩)
def zsI  (zi3:Df K mg "next_guess" zlj zhg)(zbJ:Fk P w K mg base 1 "raised" zdf zc2):Fk P w K mg base 2 "next_guess" zhg zig:=
 zi3.mk' (zax (k:=1) zi3.F zvw (zvA) λcdv A outer s H E hr=>⟨_,(zag (zak (zaf zbj (zaf zaV (zaf zaP (zaf zbf (dv 2) zab) (dv 0)) (zaf zbj (dv 1) (zaq zbJ hr (zaa (dv 0) (zaa (zaf zbf (dv 2) zab) zac))))) (dv 2)))),λds S Q ex h=>by
  unfold zig at h
  split at h
  ·rename_i g N n
   obtain⟨⟨n2,n6,hg,sg⟩,h⟩:=h
   have zn:Sz 800 (n-1):=Sz.of 6 (by omega)
   have gp:(0:Int)<g^(n-1).toNat:=VaB hg
   exact⟨zaH zn sg,⟨by omega,by omega,sg.mono (by decide)⟩,((sg.pow (n-1).toNat).mono (show _≤4001 by omega)).fd gp,(Sz.of (n:=800) 6 (by omega):Sz 800 n).fd (by omega),h⟩
  ·exact h.elim⟩)
def zuP  (zj5:Df K mg "root_below" zms ze1)(zkc:Fk P w K mg base 2 "next_guess" zhg zig):Fk P w K mg base 3 "root_below" ze1 zft:=
 zj5.mk' (zax (k:=2) zj5.F zhB (zs6) λcdv A outer s H E hr=>⟨_,(zae (zau (zar (zaI hr) (dv 0) zab (zap _)) (zag (zak zab)) zav) (zae (zal (i:=2) zhB.nd rfl (Or.inl rfl) (zaf ztD zab (zaf zaV (zaf zbj (zv6 (dv 0)) (dv 1)) zab))) (zae (zal (i:=3) zhB.nd rfl (Or.inl rfl) (zaq zkc hr (zaa (dv 2) (zaa (dv 0) (zaa (dv 1) zac))))) (zae (zoD PassesOwn.never (zar zbp (dv 3) (dv 2) (zap _)) (zae (zal (i:=2) zhB.nd rfl (Or.inl rfl) (dv 3)) (zag (zal (i:=3) zhB.nd rfl (Or.inl rfl) (zaq zkc hr (zaa (dv 2) (zaa (dv 0) (zaa (dv 1) zac)))))))) (zag (zak (dv 2))))))),λds S Q ex h=>by
  unfold zft at h
  split at h
  ·rename_i N n
   obtain⟨⟨n2,n6,h0,sN⟩,h⟩:=h
   have hn:1≤n.toNat:=by omega
   refine ifD (λc=>?_) (λc=>?_)
   ·subst c
    exact h 0 (by omega) (Sz.of 0 (by decide)) (by rw[zeI hn]; omega) (by
     have:(0:Int)<(0+1)^n.toNat:=VaB (by omega)
     exact this)
   ·obtain⟨r,r0,r1,r2⟩:=znz hn h0
    have rp:1≤r:=by
     by_cases z:r=0
     ·subst z
      have e:((0:Int)+1)^n.toNat=1:=by rw[Int.zero_add]; exact Int.one_pow
      omega
     ·omega
    refine⟨(Sz.of (n:=800) 6 (by omega):Sz 800 n).fd (by omega),?_⟩
    have d3:=Int.ediv_nonneg (show (0:Int)≤(Builtin.Int.intBits N:Int) by omega) (show 0≤n by omega)
    have d4:(Builtin.Int.intBits N:Int)/n≤(Builtin.Int.intBits N:Int):=Int.ediv_le_self _ (by omega)
    have d5:=sN.bits
    refine⟨⟨by omega,by omega,by decide⟩,?_⟩
    have s0:=(zxi n2 sN).mono (show 652≤800 by decide)
    have g0:(0:Int)<1*2^((Builtin.Int.intBits N:Int)/n+1).toNat:=by rw[Int.one_mul]; exact VaB (by decide)
    have rg:r≤1*2^((Builtin.Int.intBits N:Int)/n+1).toNat:=by
     have:=plt (n:=n.toNat) (Vag g0) (Int.lt_of_le_of_lt r1 (zvD h0 (by omega)))
     omega
    refine⟨⟨n2,n6,g0,s0⟩,?_⟩
    refine⟨λm dl' S'=>S'=S∧∃x:Int,dl'=[some (.int N),some (.int n),some (.int x),some (.int (((n-1)*x+N/x^(n-1).toNat)/n))]∧0<x∧r≤x∧Sz 800 x∧m=x.toNat,⟨_,rfl,_,rfl,g0,rg,s0,rfl⟩,?_⟩
    rintro m dl' S' ⟨rfl,x,rfl,x0,rx,sx,rfl⟩
    have e:=zrW (n:=n) (g:=x) (N:=N) (by omega)
    have ge:=zt9 hn r0 x0 r1
    rw[← e] at ge
    refine ifD (λc=>?_) (λc=>?_)
    ·have s1:Sz 800 (((n-1)*x+N/x^(n-1).toNat)/n):=Sz.mid (a:=0) (Sz.of 0 (by decide)) sx (by omega) (by omega)
     exact⟨⟨n2,n6,by omega,s1⟩,_,by omega,rfl,_,rfl,by omega,by omega,s1,rfl⟩
    ·have xr:x=r:=by
      by_cases z:N<x^n.toNat
      ·have lt:=zrp hn x0 z
       rw[← e] at lt
       omega
      ·have:=plt (n:=n.toNat) (show 0≤r+1 by omega) (show x^n.toNat<(r+1)^n.toNat by omega)
       omega
     subst xr
     exact h x r0 sx r1 r2
  ·exact h.elim⟩)
def ztI (zc7:Df K mg "root" zg1 zcZ)(zbJ:Fk P w K mg base 1 "raised" zdf zc2)(zeU:Fk P w K mg base 3 "root_below" ze1 zft)(zcg:Fk P w K mg base 1 "opposite" zdE zds)(zoP:Fk P w K mg base 0 "root" zcZ zqV):Fk P w K mg base 4 "root" zcZ zhV:=
 zc7.mk' (zax (k:=3) zc7.F zmj zst λcdv A outer s H E hr=>⟨_,(zae (zau (zar zbp (dv 0) zab (zap _)) (zag (zak (zaq zcg hr (zaa (znE zoP (hr.mono (by decide)) zcJ rfl (zaa (zaZ za0 (dv 0)) (zaa (dv 1) zac))) zac)))) zav) (zae (zal (i:=2) zmj.nd rfl (Or.inl rfl) (zaq zeU hr (zaa (dv 0) (zaa (dv 1) zac)))) (zae (zau (zar (zaI hr) (zaq zbJ hr (zaa (dv 2) (zaa (dv 1) zac))) (dv 0) (zap _)) (zag (zak (zaz (zaa (dv 2) (zaa (dv 2) zac))))) zav) (zag (zak (zaz (zaa (dv 2) (zaa (zaf zaV (dv 2) zab) zac)))))))),λds S Q ex h=>by
  unfold zhV at h
  split at h
  ·rename_i N n
   obtain⟨⟨n2,n6,h0,sN⟩,h⟩:=h
   refine ifD (λc=>absurd c (by omega)) (λc=>?_)
   refine⟨⟨n2,n6,h0,sN⟩,λr r0 sr r1 r2=>?_⟩
   have e:=zex r0 r1 r2
   unfold rt0 at h
   rw[← e] at h
   refine⟨⟨by omega,n6,sr.mono (by decide)⟩,?_⟩
   refine ifD (λe2=>?_) (λe2=>?_)
   ·rw[if_pos e2] at h
    exact h
   ·rw[if_neg e2] at h
    exact h
  ·exact h.elim⟩)
def zuH (zc7:Df K mg "root" zg1 zcZ)(zbJ:Fk P w K mg base 1 "raised" zdf zc2)(zeU:Fk P w K mg base 3 "root_below" ze1 zft)(zcg:Fk P w K mg base 1 "opposite" zdE zds)(zoP:Fk P w K mg base 4 "root" zcZ zhV):Fk P w K mg base 5 "root" zcZ zg8:=
 zc7.mk' (zax (k:=4) zc7.F zmj zwc λcdv A outer s H E hr=>⟨_,(zae (zau (zar zbp (dv 0) zab (zap _)) (zag (zak (zaq zcg hr (zaa (znE zoP (hr.mono (by decide)) zcJ rfl (zaa (zaZ za0 (dv 0)) (zaa (dv 1) zac))) zac)))) zav) (zae (zal (i:=2) zmj.nd rfl (Or.inl rfl) (zaq zeU hr (zaa (dv 0) (zaa (dv 1) zac)))) (zae (zau (zar (zaI hr) (zaq zbJ hr (zaa (dv 2) (zaa (dv 1) zac))) (dv 0) (zap _)) (zag (zak (zaz (zaa (dv 2) (zaa (dv 2) zac))))) zav) (zag (zak (zaz (zaa (dv 2) (zaa (zaf zaV (dv 2) zab) zac)))))))),λds S Q ex h=>by
  unfold zg8 at h
  split at h
  ·rename_i N n
   obtain⟨⟨n2,n6,ok,sN⟩,h⟩:=h
   unfold rtS at h
   refine ifD (λc=>?_) (λc=>?_)
   ·rw[if_pos c] at h
    exact⟨⟨n2,n6,by omega,sN.neg⟩,h⟩
   ·have h0:0≤N:=by omega
    rw[if_neg c] at h
    refine⟨⟨n2,n6,h0,sN⟩,λr r0 sr r1 r2=>?_⟩
    have e:=zex r0 r1 r2
    unfold rt0 at h
    rw[← e] at h
    refine⟨⟨by omega,n6,sr.mono (by decide)⟩,?_⟩
    refine ifD (λe2=>?_) (λe2=>?_)
    ·rw[if_pos e2] at h
     exact h
    ·rw[if_neg e2] at h
     exact h
  ·exact h.elim⟩)
def zw8  (zlx:Df K mg "back_power" zlK zg5)(zfg:Fk P w K mg base 2 "joined" zeM zfn)(zdL:Fk P w K mg base 1 "part_between" zez zeS)(zcg:Fk P w K mg base 1 "opposite" zdE zds)(zfj:Fk P w K mg base 5 "root" zcZ zg8)(zbJ:Fk P w K mg base 1 "raised" zdf zc2)(zaE:mg "max"=none):Fk P w K mg base 6 "back_power" zg5 zha:=
 zlx.mk' (zax (k:=5) zlx.F zgo (zrz) λcdv A outer s H E hr=>⟨_,(zae (zal (i:=4) zgo.nd rfl (Or.inl rfl) (zaq zbJ hr (zaa (dv 3) (zaa (zaf zbf (dv 2) zab) zac)))) (zae (zal (i:=5) zgo.nd rfl (Or.inl rfl) (zaz (zaa (zaf zaP (zad (dv 0) zab (λ_ _=>rfl)) (dv 4)) (zaa (zaf zaP (zad (dv 0) zab (λ_ _=>rfl)) (dv 4)) zac)))) (zae (zau (zar (zaI hr) (zaf zbb (dv 2) zab) zab (zap _)) (zag (zak (zaq zdL hr (zaa (dv 1) (zaa (zaq zfj hr (zaa (zad (dv 5) zab (λ_ _=>rfl)) (zaa (dv 2) zac))) (zaa (zaq zfj hr (zaa (zad (dv 5) zab (λ_ _=>rfl)) (zaa (dv 2) zac))) zac)))))) zav) (zae (zau (zar zbp (zad (dv 5) zab (λ_ _=>rfl)) zab (zap _)) (zag (zak zaK)) zav) (zae (zal (i:=6) zgo.nd rfl (Or.inl rfl) (zaq zfj hr (zaa (zaG (zbn rfl) rfl zaE Boot.«max» (zaa (zad (dv 5) zab (λ_ _=>rfl)) (zaa zab zac))) (zaa (dv 2) zac)))) (zae (zal (i:=7) zgo.nd rfl (Or.inl rfl) (zaq zfj hr (zaa (zad (dv 5) zab (λ_ _=>rfl)) (zaa (dv 2) zac)))) (zag (zak (zaq zfg hr (zaa (zaq zdL hr (zaa (dv 1) (zaa (dv 6) (zaa (dv 7) zac)))) (zaa (zaq zdL hr (zaa (dv 1) (zaa (zaq zcg hr (zaa (dv 7) zac)) (zaa (zaq zcg hr (zaa (dv 6) zac)) zac)))) zac))))))))))),λds S Q ex h=>by
  unfold zha at h
  split at h
  ·rename_i z0 z1 x0 x1 n g
   obtain⟨⟨n2,n6,g1,sg,sz0,sz1⟩,hn,ht⟩:=h
   refine⟨⟨by omega,by omega,sg.mono (by decide)⟩,?_⟩
   have sgp:Sz 181 (g^(n-1).toNat):=(sg.pow _).mono (by omega)
   refine⟨zaH sz0 sgp,zaH sz1 sgp,?_⟩
   have slo:Sz 1300 (z0*g^(n-1).toNat):=(sz0.mul sgp).mono (by decide)
   have shi:Sz 1300 (z1*g^(n-1).toNat):=(sz1.mul sgp).mono (by decide)
   unfold bpS at hn ht
   dsimp only at hn ht
   generalize g^(n-1).toNat=G at *
   refine ifD (λe=>?_) (λe=>?_)
   ·rw[if_pos e] at hn ht
    exact⟨⟨n2,n6,.inl e,slo⟩,⟨n2,n6,.inl e,shi⟩,hn,ht⟩
   ·rw[if_neg e] at hn ht
    refine ifD (λe2=>?_) (λe2=>?_)
    ·exact hn (if_pos e2)
    ·rw[if_neg e2] at hn ht
     refine⟨⟨n2,n6,.inr (zci _),(by show Sz 1300 (mx0 (z0*G)); unfold mx0; split; exact Sz.of 0 (by decide) (Nat.pow_pos (by decide)); exact slo)⟩,?_⟩
     refine⟨⟨n2,n6,.inr (by omega),shi⟩,?_⟩
     refine⟨λq1=>?_,λp1 q1=>?_⟩
     ·refine⟨λq2=>hn ?_,λp2 q2=>ht _ ?_⟩
      ·rw[q1,q2]; rfl
      ·rw[q1,q2]; rfl
     ·refine⟨λq2=>ht _ ?_,λp2 q2=>?_⟩
      ·rw[q1,q2]; rfl
      ·have z:=ht (if p2.1<p1.1 then p2.1 else p1.1,if p2.2 > p1.2 then p2.2 else p1.2) (by rw[q1,q2]; rfl)
       exact z
  ·exact h.elim⟩)
def zvv  (zam:zbD K mg)(zan:zbE K mg)(zao:zbH K mg)(zaj:zbx K mg)(zah:zbt K mg)(zai:zbr K mg)(ziy:Dm K zam.C "back" "Power.back" zle zfS)(zns:Fk P w K mg base 6 "back_power" zg5 zha):Fm P w K mg base 7 zam.C "back" zfS (zep zan.C zao.C zaj.C zah.C zai.C zam.C):=
 ziy.mk' (zax (k:=6) ziy.F zrb (zx6 zan.C zao.C zaj.C zah.C zai.C zam.C) λcdv A outer s H E hr=>⟨_,(zae (zal (i:=4) zrb.nd rfl (Or.inl rfl) (zaq zns hr (zaa (dv 2) (zaa (zaJ (dv 1) (zaW zam.cl zam.n_one (dv 0)) (λ_ _=>rfl)) (zaa (zaW zam.cl zam.n_many (dv 0)) (zaa (dv 3) zac)))))) (zae (zau (zar zbB (dv 4) zaK (zap _)) (zag (zak zaK)) zav) (zag (zak (za6 (zaa (zaz (zaa (zaW zam.cl zam.n_one (dv 0)) (zaa (dv 4) zac))) zac)))))),λds S Q ex h=>by
  unfold zep at h
  split at h
  ·rename_i n w z0 z1 g
   obtain⟨i,m,vs,q,hn,hw,ok,hs,⟨hz,sz0,sz1⟩,hg,h1,h2⟩:=h
   refine zaR (n:=n) (λK hK=>by exact hK) hn rfl ?_
   refine zaB (o:=.lst (vs.map frD)) hw (zaQ ok.1) ?_
   refine zaR (n:=n) (λK hK=>by exact hK) hn rfl ?_
   have sg:Sz 30 g:=Sz.of 1000000 (by omega)
   refine⟨⟨ok.2.1,ok.2.2,hg.1,sg,sz0.mono (by decide),sz1.mono (by decide)⟩,λe=>?_,λx' e=>?_⟩
   ·refine h1 ?_
    show (match bpS (z0,z1) (gt vs i) m g with | none=>none | some x=>some [(i,x)])=none
    rw[show bpS (z0,z1) (gt vs i) m g=none from e]
   ·refine zaR (n:=n) (λK hK=>by exact hK) hn rfl ?_
    refine h2 [(i,x')] ?_
    show (match bpS (z0,z1) (gt vs i) m g with | none=>none | some x=>some [(i,x)])=_
    rw[show bpS (z0,z1) (gt vs i) m g=some x' from e]
  ·exact h.elim⟩)
def zv1  (zam:zbD K mg)(zai:zbr K mg)(zah:zbt K mg)(zaj:zbx K mg)(zao:zbH K mg)(zan:zbE K mg)(zls:Df K mg "spans_back" zmN zhw)(znF:Fm P w K mg base 7 zam.C "back" zfS (zep zan.C zao.C zaj.C zah.C zai.C zam.C))(zoS:Fm P w K mg base 6 zai.C "back" zf3 (zes zan.C zao.C zaj.C zah.C zai.C zam.C))(zo4:Fm P w K mg base 3 zah.C "back" zgU (zfB zan.C zao.C zaj.C zah.C zai.C zam.C))(zpc:Fm P w K mg base 3 zaj.C "back" zfT (zff zan.C zao.C zaj.C zah.C zai.C zam.C))(zn1:Fm P w K mg base 1 zao.C "back" zii (zfH zan.C zao.C zaj.C zah.C zai.C zam.C))(zn8:Fm P w K mg base 1 zan.C "back" zhx (zeB zan.C zao.C zaj.C zah.C zai.C zam.C))(zeY:Fk P w K mg base 3 "kind_of" zer (zeC zan.C zao.C zaj.C zah.C zai.C zam.C))(zno:Fk P w K mg base 2 "asked_of" zho zgP)(zok:Fk P w K mg base 4 "worths" zhc zhj)(zbe:mg "range"=none):Fk P w K mg base 8 "spans_back" zhw zic:=
 zls.mk' (zax (k:=7) zls.F zd6 (zsB) λcdv A outer s H E hr=>⟨_,(zae (zal (i:=4) zd6.nd rfl (Or.inl rfl) (zad (dv 1) zab (λ_ _=>rfl))) (zae (zal (i:=5) zd6.nd rfl (Or.inl rfl) (zaq zok hr (zaa (zjj (dv 0) zqw (zeK (zaf zaV (dv 4) zab))) (zaa (dv 2) (zaa (dv 3) zac))))) (zae (zal (i:=6) zd6.nd rfl (Or.inl rfl) (zaq zno hr (zaa (zad (dv 1) zab (λ_ _=>rfl)) (zaa (zaJ (dv 5) (dv 4) (λ_ _=>rfl)) zac)))) (zae (zau (zar zbB (dv 6) zaK (zap _)) (zag (zak zaK)) zav) (zae (zfk (dv 5) (dv 4) (dv 6)) (zae (zp7 (i:=7) PassesOwn.never rfl zd6.nd rfl (Or.inl rfl) rfl zbe (zaa (dv 4) (zaa (zaZ za0 zab) (zaa (zaZ za0 zab) zac))) (zae (zal (i:=8) zd6.nd rfl (Or.inl rfl) (zpF (zaq zeY hr (zaa (zaJ (dv 0) (dv 7) (λ_ _=>rfl)) zac)) (zcv zan.cl zn8 (hr.mono (by decide)) (zcv zao.cl zn1 (hr.mono (by decide)) (zcv zaj.cl zpc (hr.mono (by decide)) (zcv zah.cl zo4 (hr.mono (by decide)) (zcv zai.cl zoS (hr.mono (by decide)) (zcv zam.cl znF (hr.mono (by decide)) zpn)))))) zcJ (zaa (dv 5) (zaa (zaJ (dv 5) (dv 7) (λ_ _=>rfl)) (zaa (dv 3) zac))))) (zae (zau (zar zbB (dv 8) zaK (zap _)) (zag (zak zaK)) zav) (zag (zcN (i:=9) PassesOwn.never rfl zd6.nd rfl (Or.inl rfl) (dv 8) (zag (zfk (dv 5) (zad (dv 9) zab (λ_ _=>rfl)) (zad (dv 9) zab (λ_ _=>rfl))))))))) (zag (zak (dv 5))))))))),λds S Q ex h=>by
  unfold zic at h
  split at h
  ·rename_i a w k b g
   obtain⟨ns,ws,bs,zero,ha,hb,hw,⟨k0,k1⟩,net,sb,hg,hl,h1,h2⟩:=h
   have disp:∀v:Nd,∃C fs sd,v.ob zan.C zao.C zaj.C zah.C zai.C zam.C=.ins C fs∧(C,sd)∈[(zan.C,zeB zan.C zao.C zaj.C zah.C zai.C zam.C),(zao.C,zfH zan.C zao.C zaj.C zah.C zai.C zam.C),(zaj.C,zff zan.C zao.C zaj.C zah.C zai.C zam.C),(zah.C,zfB zan.C zao.C zaj.C zah.C zai.C zam.C),(zai.C,zes zan.C zao.C zaj.C zah.C zai.C zam.C),(zam.C,zep zan.C zao.C zaj.C zah.C zai.C zam.C)]∧fs.lookup ("back":Str)=none∧∀(n w:Nat) (z:Int×Int) (g q:Int) (S:Sto) (Q:DK) (ex:Addr→Sto→Prop) (vs:List (Int×Int)),S[n]?=some (v.ob zan.C zao.C zaj.C zah.C zai.C zam.C)→S[w]?=some (.lst (vs.map frD))→v.ok vs.length q→Spn 1000 vs→(z.1≤z.2∧Sz 1000 z.1∧Sz 1000 z.2)→(1≤g∧g≤1000000)→(v.bk vs z g=none→Q .non S)→(∀l,v.bk vs z g=some l→Q (.ref S.length) (S++[.lst (l.map ptD)]))→sd [.ref n,.ref w,frD z,.int g] S Q ex:=by
    intro v
    cases v with
    | number x y=>exact⟨_,_,_,rfl,(.head _),rfl,λn w z g q S Q ex vs a1 a2 a3 a4 a5 a6 q1 q2=>⟨x,y,vs,q,a1,a2,a3,a4,a5,a6,q1,q2⟩⟩
    | unknown k=>exact⟨_,_,_,rfl,(.tail _ (.head _)),rfl,λn w z g q S Q ex vs a1 a2 a3 a4 a5 a6 q1 q2=>⟨k,vs,q,a1,a2,a3,a4,a5,a6,q1,q2⟩⟩
    | plus i j=>exact⟨_,_,_,rfl,(.tail _ (.tail _ (.head _))),rfl,λn w z g q S Q ex vs a1 a2 a3 a4 a5 a6 q1 q2=>⟨i,j,vs,q,a1,a2,a3,a4,a5,a6,q1,q2⟩⟩
    | minus i j=>exact⟨_,_,_,rfl,(.tail _ (.tail _ (.tail _ (.head _)))),rfl,λn w z g q S Q ex vs a1 a2 a3 a4 a5 a6 q1 q2=>⟨i,j,vs,q,a1,a2,a3,a4,a5,a6,q1,q2⟩⟩
    | times i j=>exact⟨_,_,_,rfl,(.tail _ (.tail _ (.tail _ (.tail _ (.head _))))),rfl,λn w z g q S Q ex vs a1 a2 a3 a4 a5 a6 q1 q2=>⟨i,j,vs,q,a1,a2,a3,a4,a5,a6,q1,q2⟩⟩
    | power i m=>exact⟨_,_,_,rfl,(.tail _ (.tail _ (.tail _ (.tail _ (.tail _ (.head _)))))),rfl,λn w z g q S Q ex vs a1 a2 a3 a4 a5 a6 q1 q2=>⟨i,m,vs,q,a1,a2,a3,a4,a5,a6,q1,q2⟩⟩
   obtain⟨kn,rfl⟩:∃kn:Nat,k=(kn:Int):=⟨k.toNat,by omega⟩
   rw[Vav] at h1 h2
   have hk:kn<ns.length:=by omega
   refine zjX (n:=a) (o:=.lst (ns.map Nd.d)) (lo:=none) (hi:=some ((kn:Int)+1)) (S3:=S) (λK hK=>by exact hK) (λK hK=>by exact hK) (λK hK=>by exact hK) ha ?_
   have ec:zbv (ns.map Nd.d) none (some ((kn:Int)+1))=(ns.take (kn+1)).map Nd.d:=by
    rw[zqi (by omega) (by rw[Vaa]; omega),List.map_take]
    rfl
   rw[show zat (Ob.lst (ns.map Nd.d))=ns.map Nd.d from rfl,ec]
   refine⟨ns.take (kn+1),ws.take (kn+1),bs,zaC _ _,zaF hb,net.take _,sb,hg,by rw[Vau]; omega,λT m pr lm hf=>?_⟩
   have prS:Pre S T:=λn o e=>pr n o (zaF e)
   have lm':S.length≤m:=by
    have z:(S++[Ob.lst ((ns.take (kn+1)).map Nd.d)]).length≤m:=lm
    rw[Vay] at z
    omega
   have s1:Spn 1000 (zaD bs g (ns.take (kn+1))):=zd2 net rfl sb hg (kn+1) (by omega)
   have l1:(zaD bs g (ns.take (kn+1))).length=kn+1:=by rw[zcX,Vau]; omega
   have ik:inR (((zaD bs g (ns.take (kn+1))).length:Nat):Int) (kn:Int):=⟨by omega,by omega⟩
   have a1:=s1.at ik
   refine zaB (o:=.lst ((zaD bs g (ns.take (kn+1))).map frD)) hf (zaQ ik) ?_
   refine⟨zero,hw,λe=>?_,λwd e=>?_⟩
   ·refine h1 ?_ T prS
    unfold sbS
    rw[show zc9 zero (gt (zaD bs g (ns.take (kn+1))) (kn:Int))=none from e]
   have es:sbS ns zero kn bs g=zcb g ns (kn+1) ((zaD bs g (ns.take (kn+1))).set kn wd):=by
    unfold sbS
    rw[show zc9 zero (gt (zaD bs g (ns.take (kn+1))) (kn:Int))=some wd from e]
   have zw:=Sz.in2 a1.2.1 a1.2.2 (zj8 wd e)
   refine zdV (n:=m) (k:=(kn:Int)) (j:=kn) (xs:=(zaD bs g (ns.take (kn+1))).map frD) (v:=frD wd) (λK hK=>by exact hK) (λK hK=>by exact hK) (λK hK=>by exact hK) hf (by rw[Vaa,zdQ ik]; rfl) ?_
   rw[ze7]
   refine⟨rfl,⟨by omega,by omega,by omega,by omega⟩,λt dl' S'=>t≤kn+1∧Pre S S'∧∃us:List (Int×Int),S'[m]?=some (.lst (us.map frD))∧us.length=kn+1∧Spn 1000 us∧zcb g ns (kn+1-t) us=sbS ns zero kn bs g∧∃u7 u8 u9:Option D,dl'=[some (.ref a),some (.tup [.str w,.int (kn:Int)]),some (.ref b),some (.int g),some (.int (kn:Int)),some (.ref m),some (frD wd),u7,u8,u9],⟨by omega,zbA prS lm',_,zbm hf,by rw[VaG]; exact l1,s1.set2 zw,es.symm,_,_,_,rfl⟩,?_⟩
   rintro t dl' S' ⟨ht,prt,us,hu,lu,su,eb,u7,u8,u9,rfl⟩
   refine zeG (λtc=>?_) (λtc=>?_)
   ·have tc':t<kn+1:=by
     have z:t<((kn:Int) - -1).toNat:=tc
     omega
    obtain⟨j,ej⟩:∃j:Nat,kn=j+t:=⟨kn-t,by omega⟩
    have en:(kn:Int)-(t:Int)=(j:Int):=by omega
    have ek:kn+1-t=j+1:=by omega
    have hv:ns[j]?=some ns[j]:=Vaj (by omega)
    generalize ns[j]=v at hv
    have ok:v.ok us.length bs.length:=zoy (by omega) (net.ok j v hv).1
    have ij:inR ((us.length:Nat):Int) (j:Int):=⟨by omega,by omega⟩
    obtain⟨C,fs,sd,eo,hm,hf2,go⟩:=disp v
    have N1:=zaC S' (v.ob zan.C zao.C zaj.C zah.C zai.C zam.C)
    rw[en]
    rw[ek] at eb
    refine zpC (n:=S'.length) (C:=C) (sd:=sd) (fs:=fs) (S1:=S'++[v.ob zan.C zao.C zaj.C zah.C zai.C zam.C]) (λK hK=>?_) (by rw[← eo]; exact N1) hm hf2 ?_
    ·refine zaB (o:=.lst (ns.map Nd.d)) (prt _ _ ha) (zgQ hv) ?_
     exact⟨v,rfl,by exact hK⟩
    refine zaB (o:=.lst (us.map frD)) (zaF hu) (zaQ ij) ?_
    refine go _ _ (gt us (j:Int)) _ bs.length _ _ _ us N1 (zaF hu) ok su (su.at ij) hg (λe=>?_) (λl e=>?_)
    ·refine h1 ?_ _ (zbz prt _)
     rw[← eb,zo1 hv e]
    have P:=v.bk_pts su (su.at ij).1 hg.1 l ok e
    rw[znG hv e] at eb
    have lS:m<S'.length:=zb9 hu
    refine zcj (n:=(S'++[v.ob zan.C zao.C zaj.C zah.C zai.C zam.C]).length) (o:=.lst (l.map ptD)) (λi dl2 S2=>i≤l.length∧Pre S S2∧S2[m]?=some (.lst ((zbS us (l.take i)).map frD))∧S2[(S'++[v.ob zan.C zao.C zaj.C zah.C zai.C zam.C]).length]?=some (.lst (l.map ptD))∧∃u9:Option D,dl2=[some (.ref a),some (.tup [.str w,.int (kn:Int)]),some (.ref b),some (.int g),some (.int (kn:Int)),some (.ref m),some (frD wd),some (.int (j:Int)),some (.ref (S'++[v.ob zan.C zao.C zaj.C zah.C zai.C zam.C]).length),u9]) ⟨Vax _,zbz (zbz prt _) _,zaF (zaF hu),zaC _ _,_,rfl⟩ (λi dl2 S2 z=>z.2.2.2.1) ?_ ?_
    ·rintro i x dl2 S2 nx ct ex' ⟨hi,pr2,hu2,hl2,u9,rfl⟩ hn
     have ex2:(l.map ptD)[i]?=some x:=ex'
     rw[Vae] at ex2
     obtain⟨p,hp,rfl⟩:=Vai.mp ex2
     have hi':=(Vac.mp hp).1
     have Pp:=P.2 p (Vak hp)
     have ipp:inR (((zbS us (l.take i)).length:Nat):Int) p.1:=by rw[zdZ]; exact Pp.1
     refine zdV (n:=m) (k:=p.1) (j:=p.1.toNat) (xs:=(zbS us (l.take i)).map frD) (v:=frD p.2) (λK hK=>by exact hK) (λK hK=>by exact hK) (λK hK=>by exact hK) hu2 (by rw[Vaa]; exact zdQ ipp) ?_
     rw[ze7,← zrf,← zbG hp]
     refine hn _ _ ⟨by omega,zbA pr2 lm',zbm hu2,zbk hl2 (by rw[Vay]; omega),_,rfl⟩
    ·rintro dl2 S2 ⟨hi,pr2,hu2,hl2,u9,rfl⟩
     have e9:l.take (zat (Ob.lst (l.map ptD))).length=l:=by
      show l.take (l.map ptD).length=l
      rw[Vaa,VaM]
     rw[e9] at hu2
     refine⟨by omega,pr2,_,hu2,by rw[zdZ]; exact lu,zlM l us su λp hp=>(P.2 p hp).2,?_,_,_,_,rfl⟩
     rw[show kn+1-(t+1)=j by omega]
     exact eb
   ·have tc':¬ t<kn+1:=λz=>tc (show t<((kn:Int) - -1).toNat by omega)
    rw[show kn+1-t=0 by omega] at eb
    exact h2 us S' m eb.symm prt lm' hu
  ·exact h.elim⟩)
def zyx  (zjo:Df K mg "narrowed" zlL zhs)(zo0:Fk P w K mg base 8 "spans_back" zhw zic)(zdM:mg "enumerate"=none)(zby:mg "list"=none):Fk P w K mg base 9 "narrowed" zhs zgK:=
 zjo.mk' (zax (k:=8) zjo.F zgI (zuZ) λcdv A outer s H E hr=>⟨_,(zae (zal (i:=4) zgI.nd rfl (Or.inl rfl) (zaq zo0 hr (zaa (dv 0) (zaa (dv 1) (zaa (dv 2) (zaa (dv 3) zac)))))) (zae (zau (zar zbB (dv 4) zaK (zap _)) (zag (zak zaK)) zav) (zae (zal (i:=5) zgI.nd rfl (Or.inl rfl) (zjL (zbh zly) rfl zby Boot.«list» (zaa (dv 2) zac))) (zae (zvX (is:=[6,7]) PassesOwn.never rfl zgI.nd (Nms.cons (i:=6) rfl (Or.inl rfl) (by first | exact .inl rfl | exact .inr rfl) (Nms.cons (i:=7) rfl (Or.inl rfl) (by first | exact .inl rfl | exact .inr rfl) Nms.nil)) rfl rfl zdM Boot.«enumerate» (zaa (dv 4) zac) (zae (zal (i:=8) zgI.nd rfl (Or.inl rfl) (zaJ (dv 0) (dv 6) (λ_ _=>rfl))) (zag (zau (zar (zaI hr) (zad (dv 8) zab (λ_ _=>rfl)) zaL (zap _)) (zag (zfk (dv 5) (zad (dv 8) zab (λ_ _=>rfl)) (dv 7))) zav)))) (zag (zak (dv 5))))))),λds S Q ex h=>by
  unfold zgK at h
  split at h
  ·rename_i a w k b g
   obtain⟨ns,ws,bs,zero,ha,hb,hw,⟨k0,k1⟩,net,sb,hg,hl,h1,h2⟩:=h
   obtain⟨kn,rfl⟩:∃kn:Nat,k=(kn:Int):=⟨k.toNat,by omega⟩
   rw[Vav] at h1 h2
   refine⟨ns,ws,bs,zero,ha,hb,hw,⟨k0,k1⟩,net,sb,hg,hl,?_,?_⟩
   ·rw[Vav]
    intro e T pr
    exact h1 (by unfold nwS; rw[e]; rfl) T pr
   ·rw[Vav]
    intro us T m e pr lm hu
    have lu:=zvF net sb hg (show kn<ns.length by omega) e
    have lz:(ns.zip us).length=kn+1:=by rw[List.length_zip]; omega
    have en:nwS ns zero kn bs g=some (zbo bs (ns.zip us)):=by unfold nwS; rw[e]; rfl
    have lS:m<T.length:=zb9 hu
    refine zli (za9 (pr _ _ hb) rfl) ?_
    refine zwA (n:=m) (xs:=us.map frD) (S1:=T++[.lst (bs.map frD)]) (λi dl' S'=>i≤us.length∧Pre S S'∧S'[m]?=some (.lst (us.map frD))∧S'[T.length]?=some (.lst ((zbo bs ((ns.zip us).take i)).map frD))∧∃u6 u7 u8:Option D,dl'=[some (.ref a),some (.tup [.str w,.int (kn:Int)]),some (.ref b),some (.int g),some (.ref m),some (.ref T.length),u6,u7,u8]) (λK hK=>by exact hK) (λi dl' S' z=>z.2.2.1) ⟨Vax _,zbz pr _,zaF hu,zaC _ _,_,_,_,rfl⟩ ?_ ?_
    ·rintro i x dl' S' nx ct ex' ⟨hi,pr',hu',hl',u6,u7,u8,rfl⟩ hn
     rw[Vae] at ex'
     obtain⟨p,hp,rfl⟩:=Vai.mp ex'
     have hi':=(Vac.mp hp).1
     have hv:ns[i]?=some ns[i]:=Vaj (by omega)
     generalize ns[i]=v at hv
     have hz:=zp2 hv hp
     have lp:=(zpd net rfl (us:=us) (bs:=bs) (λ_ _=>True) (λ_ _=>trivial) (λ_ _ _ _=>trivial) i (by omega)).1
     have es:zbo bs ((ns.zip us).take (i+1))=match v with
      | .unknown u=>(zbo bs ((ns.zip us).take i)).set u.toNat p
      | _=>zbo bs ((ns.zip us).take i):=by
      rw[zbG hz,zoj]
      cases v <;> rfl
     have okv:=(net.ok i v hv).1
     refine zaB (o:=.lst (ns.map Nd.d)) (pr' _ _ ha) (zgQ hv) ?_
     cases v with
     | unknown u=>
      have oku:inR (((zbo bs ((ns.zip us).take i)).length:Nat):Int) u:=by rw[lp]; exact okv
      refine zdV (n:=T.length) (k:=u) (j:=u.toNat) (xs:=(zbo bs ((ns.zip us).take i)).map frD) (v:=frD p) (λK hK=>by exact hK) (λK hK=>by exact hK) (λK hK=>by exact hK) hl' (by rw[Vaa]; exact zdQ oku) ?_
      rw[ze7]
      refine hn _ _ ⟨by omega,zbA pr' (by omega),zbk hu' (by omega),?_,_,_,_,rfl⟩
      rw[es]
      exact zbm hl'
     | number _ _=>exact hn _ _ ⟨by omega,pr',hu',by rw[es]; exact hl',_,_,_,rfl⟩
     | plus _ _=>exact hn _ _ ⟨by omega,pr',hu',by rw[es]; exact hl',_,_,_,rfl⟩
     | minus _ _=>exact hn _ _ ⟨by omega,pr',hu',by rw[es]; exact hl',_,_,_,rfl⟩
     | times _ _=>exact hn _ _ ⟨by omega,pr',hu',by rw[es]; exact hl',_,_,_,rfl⟩
     | power _ _=>exact hn _ _ ⟨by omega,pr',hu',by rw[es]; exact hl',_,_,_,rfl⟩
    ·rintro dl' S' ⟨hi,pr',hu',hl',u6,u7,u8,rfl⟩
     rw[Vaa,List.take_of_length_le (by omega)] at hl'
     exact h2 _ S' T.length en pr' (by omega) hl'
  ·exact h.elim⟩)
def zyg  (zmM:Df K mg "_law_meet" zlC zeJ)(zaU:mg "min"=none)(zaE:mg "max"=none):Fk P w K mg base 1 "_law_meet" zeJ ze9:=
 zmM.mk' (zax (k:=0) zmM.F zvq (zx3) λcdv A outer s H E hr=>⟨_,(zae (zau (zar zb8 (zaG (zbn rfl) rfl zaE Boot.«max» (zaa (zad (dv 0) zab (λ_ _=>rfl)) (zaa (zad (dv 1) zab (λ_ _=>rfl)) zac))) (zaG (zcn rfl) rfl zaU Boot.«min» (zaa (zad (dv 0) zab (λ_ _=>rfl)) (zaa (zad (dv 1) zab (λ_ _=>rfl)) zac))) (zap _)) (zag (zak zaK)) zav) (zag (zak (zaz (zaa (zaG (zbn rfl) rfl zaE Boot.«max» (zaa (zad (dv 0) zab (λ_ _=>rfl)) (zaa (zad (dv 1) zab (λ_ _=>rfl)) zac))) (zaa (zaG (zcn rfl) rfl zaU Boot.«min» (zaa (zad (dv 0) zab (λ_ _=>rfl)) (zaa (zad (dv 1) zab (λ_ _=>rfl)) zac))) zac)))))),λds S Q ex h=>by
  unfold ze9 at h
  split at h
  ·rename_i a b c d
   obtain⟨h1,h2⟩:=h
   unfold zaT at h1 h2
   refine ifD (λe=>?_) (λe=>?_)
   ·exact h1 (if_pos e)
   ·exact h2 _ (if_neg e)
  ·exact h.elim⟩)
def zxr  (zj1:Df K mg "_law_hulled" zdT zeA)(zaE:mg "max"=none)(zaU:mg "min"=none)(za1:mg "len"=none):Fk P w K mg base 1 "_law_hulled" zeA ze6:=
 zj1.mk' (zax (k:=0) zj1.F zrc (zte) λcdv A outer s H E hr=>⟨_,(zae (zo9 (x:="_law_span_here") (N:=[]) (caps:=[]) (ar:=zas zdT) rfl rfl csc rfl (by decide) (i:=1) zrc.nd rfl rfl (dv 0) (λ_ _ _ _ _ _=>zuq (zar zg3 (dv 0) zaK (zap _))) (λ_ _ _ _ _ _=>(dv 0))) (zae (zau (zar (zaI hr) (zaG (zbh zcp) rfl za1 Boot.«len» (zaa (dv 1) zac)) zab (zap _)) (zag (zak zaK)) zav) (zag (zak (zaz (zaa (zaG (zbh (zcn rfl)) rfl zaU Boot.«min» (zaa (zmZ (x:="_law_span_here") (N:=[]) (caps:=[]) (ar:=zas zdT) rfl rfl csc rfl (by decide) (dv 1) (λ_ _ _ _ _ _=>zdg) (λ_ _ _ _ _ _=>(zad (dv 0) zab (λ_ _=>rfl)))) zac)) (zaa (zaG (zbh (zbn rfl)) rfl zaE Boot.«max» (zaa (zmZ (x:="_law_span_here") (N:=[]) (caps:=[]) (ar:=zas zdT) rfl rfl csc rfl (by decide) (dv 1) (λ_ _ _ _ _ _=>zdg) (λ_ _ _ _ _ _=>(zad (dv 0) zab (λ_ _=>rfl)))) zac)) zac))))))),λds S Q ex h=>by
  unfold ze6 at h
  split at h
  ·rename_i a
   obtain⟨os,ha,l10,h1,h2⟩:=h
   have io:zat (Ob.lst (os.map opD))=os.map opD:=rfl
   refine ztl (n:=a) (o:=.lst (os.map opD)) (S1:=S) zfp (λx=>x) (λK hK=>by exact hK) ha (by rw[io,Vaa]; omega) (λx hx S2 K pr hK=>?_) (λx hx b S2 K pr hK=>by exact hK) ?_
   ·obtain⟨o,_,rfl⟩:=Va3.mp hx
    cases o <;> exact hK
   rw[io,zoz,List.map_id']
   have sp:=zoq os
   have lf:=List.length_filterMap_le id os
   generalize os.filterMap id=ps at sp lf
   refine zcD (zaC _ _) ?_
   rw[Vaa]
   refine ifD (λe=>?_) (λe=>?_)
   ·have e0:ps=[]:=List.eq_nil_of_length_eq_zero (by omega)
    exact h1 (sp.1 e0) _ Pre.refl.push
   ·have ne:ps≠[]:=λz=>e (by rw[z]; rfl)
    obtain⟨L,U,eq,l1,l2,u1,u2⟩:=sp.2 ne
    have i1:zat (Ob.lst (ps.map frD))=ps.map frD:=rfl
    refine zfw (n:=S.length) (o:=.lst (ps.map frD)) (S1:=S++[.lst (ps.map frD)]) (λd=>match d with | .tup [x,_]=>x | d=>d) (λK hK=>by exact hK) (zaC _ _) (by rw[i1,Vaa]; omega) (λx hx S2 K pr hK=>?_) ?_
    ·obtain⟨p,_,rfl⟩:=Va3.mp hx
     exact hK
    have m1:(zat (Ob.lst (ps.map frD))).map (λd=>match d with | .tup [x,_]=>x | d=>d)=(ps.map (·.1)).map D.int:=by
     rw[i1,VaX,VaX]
     rfl
    rw[m1]
    refine zbC (xs:=ps.map λp:Int×Int=>p.1) (zaC _ _) (znu _) (by simpa using ne) λmn n1 n2=>?_
    have emn:mn=L:=by
     have a1:=l2 mn n1
     have a2:mn≤L:=n2 L l1
     omega
    subst emn
    refine zfw (n:=S.length) (o:=.lst (ps.map frD)) (S1:=S++[.lst (ps.map frD)]++[.lst ((ps.map (·.1)).map D.int)]) (λd=>match d with | .tup [_,x]=>x | d=>d) (λK hK=>by exact hK) (zaF (zaC _ _)) (by rw[i1,Vaa]; omega) (λx hx S2 K pr hK=>?_) ?_
    ·obtain⟨p,_,rfl⟩:=Va3.mp hx
     exact hK
    have m2:(zat (Ob.lst (ps.map frD))).map (λd=>match d with | .tup [_,x]=>x | d=>d)=(ps.map (·.2)).map D.int:=by
     rw[i1,VaX,VaX]
     rfl
    rw[m2]
    refine zbC (xs:=ps.map λp:Int×Int=>p.2) (zaC _ _) (znu _) (by simpa using ne) λmx x1 x2=>?_
    have emx:mx=U:=by
     have a1:=u2 mx x1
     have a2:mx≥U:=x2 U u1
     omega
    subst emx
    exact h2 _ eq _ (λn o q=>zaF (zaF (zaF q)))
  ·exact h.elim⟩)
def zvP  (ziA:Df K mg "_law_kept" zka zh4)(zaU:mg "min"=none)(zaE:mg "max"=none):Fk P w K mg base 1 "_law_kept" zh4 zgO:=
 ziA.mk' (zax (k:=0) ziA.F zgk (zuX) λcdv A outer s H E hr=>⟨_,(zae (zal (i:=2) zgk.nd rfl (Or.inl rfl) (zad (dv 0) zab (λ_ _=>rfl))) (zae (zal (i:=3) zgk.nd rfl (Or.inl rfl) (zad (dv 0) zab (λ_ _=>rfl))) (zae (zau (zar zg3 (zad (dv 1) zab (λ_ _=>rfl)) zaK (zap _)) (zae (zau (zar zb8 (zad (zad (dv 1) zab (λ_ _=>rfl)) zab (λ_ _=>rfl)) (zaf zaP (zad (dv 0) zab (λ_ _=>rfl)) (zad (zad (dv 1) zab (λ_ _=>rfl)) zab (λ_ _=>rfl))) (zap _)) (zag (zak zaK)) zav) (zag (zal (i:=2) zgk.nd rfl (Or.inl rfl) (zaG (zbn rfl) rfl zaE Boot.«max» (zaa (dv 2) (zaa (zaf zbj (zad (zad (dv 1) zab (λ_ _=>rfl)) zab (λ_ _=>rfl)) (zad (zad (dv 1) zab (λ_ _=>rfl)) zab (λ_ _=>rfl))) zac)))))) zav) (zae (zau (zar zg3 (zad (dv 1) zab (λ_ _=>rfl)) zaK (zap _)) (zae (zau (zar zbp (zad (zad (dv 1) zab (λ_ _=>rfl)) zab (λ_ _=>rfl)) (zaf zaP (zad (dv 0) zab (λ_ _=>rfl)) (zad (zad (dv 1) zab (λ_ _=>rfl)) zab (λ_ _=>rfl))) (zap _)) (zag (zak zaK)) zav) (zag (zal (i:=3) zgk.nd rfl (Or.inl rfl) (zaG (zcn rfl) rfl zaU Boot.«min» (zaa (dv 3) (zaa (zaZ za0 (zaf zbj (zaZ za0 (zad (zad (dv 1) zab (λ_ _=>rfl)) zab (λ_ _=>rfl))) (zad (zad (dv 1) zab (λ_ _=>rfl)) zab (λ_ _=>rfl)))) zac)))))) zav) (zag (zak (zaz (zaa (dv 2) (zaa (dv 3) zac))))))))),λds S Q ex h=>by
  unfold zgO at h
  split at h
  ·rename_i x0 x1 d
   obtain⟨l,hh,rfl,⟨s0,s1⟩,hl,hb,h1,h2⟩:=h
   unfold kpS at h1 h2
   cases l with
   | none=>cases hh with
    | none=>exact h2 (x0,x1) rfl
    | some b=>
     obtain⟨b0,sb⟩:=hb b rfl
     dsimp only at h1 h2
     refine⟨zaH s0 sb,?_⟩
     refine ifD (λc=>h1 (if_pos c)) (λc=>?_)
     refine⟨sb.fd b0,?_⟩
     exact h2 _ (if_neg c)
   | some a=>
    obtain⟨a0,sa⟩:=hl a rfl
    dsimp only at h1 h2
    refine⟨zaH s1 sa,?_⟩
    refine ifD (λc=>?_) (λc=>?_)
    ·rw[if_pos c] at h1
     exact h1 rfl
    rw[if_neg c] at h1 h2
    refine⟨sa.fd a0,?_⟩
    cases hh with
    | none=>exact h2 _ rfl
    | some b=>
     obtain⟨b0,sb⟩:=hb b rfl
     dsimp only at h1 h2
     refine⟨zaH s0 sb,?_⟩
     refine ifD (λd=>h1 (if_pos d)) (λd=>?_)
     refine⟨sb.fd b0,?_⟩
     exact h2 _ (if_neg d)
  ·exact h.elim⟩)
def ztg  (ziJ:Df K mg "_law_pieces" ziM zhG)(zbi:mg "abs"=none):Fk P w K mg base 1 "_law_pieces" zhG zik:=
 ziJ.mk' (zax (k:=0) ziJ.F zck (zvC) λcdv A outer s H E hr=>⟨_,(zae (zau (PDW.pt (zcG (zar zb8 (zad (dv 2) zab (λ_ _=>rfl)) zab (zap _)) (zcU (zar zbp (zad (dv 2) zab (λ_ _=>rfl)) zab (zap _))))) (zae (zal (i:=3) zck.nd rfl (Or.inl rfl) (za6 zac)) (zae (zcN (i:=4) PassesOwn.never rfl zck.nd rfl (Or.inl rfl) (za6 (zaa (dv 0) (zaa (dv 1) zac))) (zag (zcN (i:=5) PassesOwn.never rfl zck.nd rfl (Or.inl rfl) (za6 (zaa (zad (dv 2) zab (λ_ _=>rfl)) (zaa (zad (dv 2) zab (λ_ _=>rfl)) zac))) (zag (zb6 (zbZ (dv 3) (zcK (zar zb8 (dv 5) zab (zap _)) (zaz (zaa (dv 4) (zaa (dv 5) zac))) (zaz (zaa (zaZ za0 (dv 4)) (zaa (zaZ za0 (dv 5)) zac)))))))))) (zae (zal (i:=6) zck.nd rfl (Or.inl rfl) (zaJ (dv 3) zab (λ_ _=>rfl))) (zae (zal (i:=7) zck.nd rfl (Or.inl rfl) (zaJ (dv 3) zab (λ_ _=>rfl))) (zae (zcN (i:=8) PassesOwn.never rfl zck.nd rfl (Or.inl rfl) (dv 3) (zae (zau (zar zbp (zaf zaP (zad (dv 8) zab (λ_ _=>rfl)) (zad (dv 6) zab (λ_ _=>rfl))) (zaf zaP (zad (dv 6) zab (λ_ _=>rfl)) (zad (dv 8) zab (λ_ _=>rfl))) (zap _)) (zag (zal (i:=6) zck.nd rfl (Or.inl rfl) (dv 8))) zav) (zag (zau (zar zb8 (zaf zaP (zad (dv 8) zab (λ_ _=>rfl)) (zad (dv 7) zab (λ_ _=>rfl))) (zaf zaP (zad (dv 7) zab (λ_ _=>rfl)) (zad (dv 8) zab (λ_ _=>rfl))) (zap _)) (zag (zal (i:=7) zck.nd rfl (Or.inl rfl) (dv 8))) zav)))) (zag (zak (za6 (zaa (zaz (zaa (dv 6) (zaa (dv 7) zac))) zac))))))))) zav) (zae (zal (i:=9) zck.nd rfl (Or.inl rfl) (za6 zac)) (zae (zal (i:=10) zck.nd rfl (Or.inl rfl) (dv 0)) (zae (zau (zar zbp (dv 1) zab (zap _)) (zag (zal (i:=10) zck.nd rfl (Or.inl rfl) (dv 1))) zav) (zae (zcN (i:=5) PassesOwn.never rfl zck.nd rfl (Or.inl rfl) (za6 (zaa (zad (dv 2) zab (λ_ _=>rfl)) (zaa (zad (dv 2) zab (λ_ _=>rfl)) zac))) (zag (zau (PDW.pt (zcY (zar (zlN hr) (dv 5) zab (zap _)) (zd9 (zar (zaI hr) (zeg zb8 (dv 10) zab (zap _)) (zeg zb8 (dv 5) zab (zap _)) (zap _))))) (zag (zb6 (zbZ (dv 9) (zaz (zaa (zaz (zaa (zaG zdh rfl zbi Boot.«abs» (zaa (dv 10) zac)) (zaa (zaG zdh rfl zbi Boot.«abs» (zaa (dv 5) zac)) zac))) (zaa zaK zac)))))) (zag (zau (zar (zlN hr) (dv 5) zab (zap _)) (zag (zb6 (zbZ (dv 9) (zaz (zaa zaK (zaa (zaz (zaa (zaZ za0 (zaG zdh rfl zbi Boot.«abs» (zaa (dv 10) zac))) (zaa (zaG zdh rfl zbi Boot.«abs» (zaa (dv 5) zac)) zac))) zac)))))) zav))))) (zag (zak (dv 9)))))))),λds S Q ex h=>by
  unfold zik at h
  split at h
  ·rename_i lo hi y0 y1
   obtain⟨⟨hy,s1,s2,s3,s4⟩,h⟩:=h
   have hes:∀e∈za8 lo hi (y0,y1),Sz 1100 e.1∧Sz 1100 e.2:=λe he=>by
    unfold za8 nrm at he
    simp only[Vad,Vas,or_false] at he
    rcases he with rfl | rfl | rfl | rfl <;> split <;> first | exact⟨s1,s3⟩ | exact⟨s1.neg,s3.neg⟩ | exact⟨s1,s4⟩ | exact⟨s1.neg,s4.neg⟩ | exact⟨s2,s3⟩ | exact⟨s2.neg,s3.neg⟩ | exact⟨s2,s4⟩ | exact⟨s2.neg,s4.neg⟩
   refine ifD (λc=>?_) (λc=>?_)
   ·have out:y0 > 0∨y1<0:=.inl c
    refine zcc ?_
    have pos:=zoa (lo:=lo) (hi:=hi) (y:=(y0,y1)) hy out
    refine zdX (λdl2 S2=>Pre S S2∧S2[S.length]?=some (.lst ((za8 lo hi (y0,y1)).map frD))∧∃u4 u5:Option D,dl2=[some (.int lo),some (.int hi),some (.tup [.int y0,.int y1]),some (.ref S.length),u4,u5,none,none,none,none,none]) (λnx hn=>?_) ?_
    ·refine zcj (n:=(S++[Ob.lst []]).length) (o:=.lst ([lo,hi].map D.int)) (λi dl' S'=>i≤2∧Pre S S'∧S'[S.length]?=some (.lst (((za8 lo hi (y0,y1)).take (2*i)).map frD))∧S'[(S++[Ob.lst []]).length]?=some (.lst ([lo,hi].map D.int))∧∃u4 u5:Option D,dl'=[some (.int lo),some (.int hi),some (.tup [.int y0,.int y1]),some (.ref S.length),u4,u5,none,none,none,none,none]) ⟨by decide,λn o e=>zaF (zaF e),zaF (zaC _ _),zaC _ _,_,_,rfl⟩ (λi dl' S' z=>z.2.2.2.1) ?_ ?_
     ·rintro i x dl' S' nx ct ex' ⟨hi2,pr',hE,hO,u4,u5,rfl⟩ hn
      have ex2:([lo,hi].map D.int)[i]?=some x:=ex'
      rw[Vae] at ex2
      obtain⟨t,ht,rfl⟩:=Vai.mp ex2
      have hi3:=(Vac.mp ht).1
      have l2:[lo,hi].length=2:=rfl
      have lE:=zb9 hE
      have lO:=zb9 hO
      refine zcj (n:=S'.length) (o:=.lst ([y0,y1].map D.int)) (λj dl' S2=>j≤2∧Pre S S2∧S2[S.length]?=some (.lst (((za8 lo hi (y0,y1)).take (2*i+j)).map frD))∧S2[(S++[Ob.lst []]).length]?=some (.lst ([lo,hi].map D.int))∧S2[S'.length]?=some (.lst ([y0,y1].map D.int))∧∃u5:Option D,dl'=[some (.int lo),some (.int hi),some (.tup [.int y0,.int y1]),some (.ref S.length),some (.int t),u5,none,none,none,none,none]) ⟨by decide,zbz pr' _,zaF hE,zaF hO,zaC _ _,_,rfl⟩ (λj dl' S2 z=>z.2.2.2.2.1) ?_ ?_
      ·rintro j x dl' S2 nx ct ex' ⟨hj2,pr2,hE2,hO2,hI2,u5,rfl⟩ hn
       have ex2:([y0,y1].map D.int)[j]?=some x:=ex'
       rw[Vae] at ex2
       obtain⟨b,hb,rfl⟩:=Vai.mp ex2
       have hj3:=(Vac.mp hb).1
       have l3:[y0,y1].length=2:=rfl
       have ea:=zpp ht hb
       refine zcd (n:=S.length) (S1:=S2) (xs:=((za8 lo hi (y0,y1)).take (2*i+j)).map frD) (y:=frD (nrm t b)) (λK hK=>by exact hK) hE2 (λK hK=>?_) (by rw[Vaa,Vau]; omega) ?_
       ·exact zqq rfl hK
       ·refine hn _ _ ⟨by omega,zbA pr2 (Vab _),?_,zbk hO2 (by rw[Vay]; have e1:([Ob.lst []]:Sto).length=1:=rfl; omega),zbk hI2 (by omega),_,rfl⟩
        rw[show 2*i+(j+1)=2*i+j+1 by omega,zbG ea,Vaz]
        exact zbm hE2
      ·rintro dl' S2 ⟨hj2,pr2,hE2,hO2,hI2,u5,rfl⟩
       exact hn _ _ ⟨by omega,pr2,hE2,hO2,_,_,rfl⟩
     ·rintro dl' S' ⟨hi2,pr',hE,hO,u4,u5,rfl⟩
      exact hn _ _ ⟨pr',hE,_,_,rfl⟩
    rintro dl2 T ⟨prT,hE,u4,u5,rfl⟩
    generalize hes4:za8 lo hi (y0,y1)=es at *
    have e0:es[0]?=some (nrm lo y0):=by rw[← hes4]; rfl
    have a0:nrm lo y0∈es:=Vak e0
    have at0:atI (es.map frD) 0=some (frD (nrm lo y0)):=zdH (j:=0) (by rw[Vae,e0]; rfl)
    refine zaB (o:=.lst (es.map frD)) hE at0 ?_
    refine zaB (o:=.lst (es.map frD)) hE at0 ?_
    refine zcj (n:=S.length) (o:=.lst (es.map frD)) (λi dl' S'=>T=S'∧∃(a b:Int×Int) (u8:Option D),a∈es∧(∀x∈es.take i,a.1*x.2≤x.1*a.2)∧b∈es∧(∀x∈es.take i,x.1*b.2≤b.1*x.2)∧dl'=[some (.int lo),some (.int hi),some (.tup [.int y0,.int y1]),some (.ref S.length),u4,u5,some (frD a),some (frD b),u8,none,none]) ⟨rfl,_,_,_,a0,λx hx=>(nomatch hx),a0,λx hx=>(nomatch hx),rfl⟩ (λi dl' S' z=>z.1 ▸ hE) ?_ ?_
    ·rintro i x dl' S' nx ct ex' ⟨rfl,a,b,u8,ha,la,hb,mb,rfl⟩ hn
     have ex2:(es.map frD)[i]?=some x:=ex'
     rw[Vae] at ex2
     obtain⟨e,he,rfl⟩:=Vai.mp ex2
     have em:=Vak he
     have se:=hes e em
     have sa:=hes a ha
     have sb:=hes b hb
     have L:=zqR pos he ha la
     have M:=zqs pos he hb mb
     refine⟨zaH se.1 sa.2,zaH sa.1 se.2,?_⟩
     refine ifD (λc1=>?_) (λc1=>?_)
     ·refine⟨zaH se.1 sb.2,zaH sb.1 se.2,?_⟩
      refine ifD (λc2=>?_) (λc2=>?_)
      ·exact hn _ _ ⟨rfl,e,e,_,em,L.1 c1,em,M.1 c2,rfl⟩
      ·exact hn _ _ ⟨rfl,e,b,_,em,L.1 c1,hb,M.2 c2,rfl⟩
     ·refine⟨zaH se.1 sb.2,zaH sb.1 se.2,?_⟩
      refine ifD (λc2=>?_) (λc2=>?_)
      ·exact hn _ _ ⟨rfl,a,e,_,ha,L.2 c1,em,M.1 c2,rfl⟩
      ·exact hn _ _ ⟨rfl,a,b,_,ha,L.2 c1,hb,M.2 c2,rfl⟩
    ·rintro dl' S' ⟨rfl,a,b,u8,ha,la,hb,mb,rfl⟩
     rw[show (zat (Ob.lst (es.map frD))).length=es.length from Vaa ..,VaM] at la mb
     exact h _ _ [(some a,some b)] (zbz prT _) (zaC _ _) (.inl ⟨out,a,b,by rw[hes4]; exact⟨ha,la⟩,by rw[hes4]; exact⟨hb,mb⟩,rfl⟩)
   refine ifD (λd=>?_) (λd=>?_)
   ·have out:y0 > 0∨y1<0:=.inr d
    have pos:=zoa (lo:=lo) (hi:=hi) (y:=(y0,y1)) hy out
    refine zdX (λdl2 S2=>Pre S S2∧S2[S.length]?=some (.lst ((za8 lo hi (y0,y1)).map frD))∧∃u4 u5:Option D,dl2=[some (.int lo),some (.int hi),some (.tup [.int y0,.int y1]),some (.ref S.length),u4,u5,none,none,none,none,none]) (λnx hn=>?_) ?_
    ·refine zcj (n:=(S++[Ob.lst []]).length) (o:=.lst ([lo,hi].map D.int)) (λi dl' S'=>i≤2∧Pre S S'∧S'[S.length]?=some (.lst (((za8 lo hi (y0,y1)).take (2*i)).map frD))∧S'[(S++[Ob.lst []]).length]?=some (.lst ([lo,hi].map D.int))∧∃u4 u5:Option D,dl'=[some (.int lo),some (.int hi),some (.tup [.int y0,.int y1]),some (.ref S.length),u4,u5,none,none,none,none,none]) ⟨by decide,λn o e=>zaF (zaF e),zaF (zaC _ _),zaC _ _,_,_,rfl⟩ (λi dl' S' z=>z.2.2.2.1) ?_ ?_
     ·rintro i x dl' S' nx ct ex' ⟨hi2,pr',hE,hO,u4,u5,rfl⟩ hn
      have ex2:([lo,hi].map D.int)[i]?=some x:=ex'
      rw[Vae] at ex2
      obtain⟨t,ht,rfl⟩:=Vai.mp ex2
      have hi3:=(Vac.mp ht).1
      have l2:[lo,hi].length=2:=rfl
      have lE:=zb9 hE
      have lO:=zb9 hO
      refine zcj (n:=S'.length) (o:=.lst ([y0,y1].map D.int)) (λj dl' S2=>j≤2∧Pre S S2∧S2[S.length]?=some (.lst (((za8 lo hi (y0,y1)).take (2*i+j)).map frD))∧S2[(S++[Ob.lst []]).length]?=some (.lst ([lo,hi].map D.int))∧S2[S'.length]?=some (.lst ([y0,y1].map D.int))∧∃u5:Option D,dl'=[some (.int lo),some (.int hi),some (.tup [.int y0,.int y1]),some (.ref S.length),some (.int t),u5,none,none,none,none,none]) ⟨by decide,zbz pr' _,zaF hE,zaF hO,zaC _ _,_,rfl⟩ (λj dl' S2 z=>z.2.2.2.2.1) ?_ ?_
      ·rintro j x dl' S2 nx ct ex' ⟨hj2,pr2,hE2,hO2,hI2,u5,rfl⟩ hn
       have ex2:([y0,y1].map D.int)[j]?=some x:=ex'
       rw[Vae] at ex2
       obtain⟨b,hb,rfl⟩:=Vai.mp ex2
       have hj3:=(Vac.mp hb).1
       have l3:[y0,y1].length=2:=rfl
       have ea:=zpp ht hb
       refine zcd (n:=S.length) (S1:=S2) (xs:=((za8 lo hi (y0,y1)).take (2*i+j)).map frD) (y:=frD (nrm t b)) (λK hK=>by exact hK) hE2 (λK hK=>?_) (by rw[Vaa,Vau]; omega) ?_
       ·exact zqq rfl hK
       ·refine hn _ _ ⟨by omega,zbA pr2 (Vab _),?_,zbk hO2 (by rw[Vay]; have e1:([Ob.lst []]:Sto).length=1:=rfl; omega),zbk hI2 (by omega),_,rfl⟩
        rw[show 2*i+(j+1)=2*i+j+1 by omega,zbG ea,Vaz]
        exact zbm hE2
      ·rintro dl' S2 ⟨hj2,pr2,hE2,hO2,hI2,u5,rfl⟩
       exact hn _ _ ⟨by omega,pr2,hE2,hO2,_,_,rfl⟩
     ·rintro dl' S' ⟨hi2,pr',hE,hO,u4,u5,rfl⟩
      exact hn _ _ ⟨pr',hE,_,_,rfl⟩
    rintro dl2 T ⟨prT,hE,u4,u5,rfl⟩
    generalize hes4:za8 lo hi (y0,y1)=es at *
    have e0:es[0]?=some (nrm lo y0):=by rw[← hes4]; rfl
    have a0:nrm lo y0∈es:=Vak e0
    have at0:atI (es.map frD) 0=some (frD (nrm lo y0)):=zdH (j:=0) (by rw[Vae,e0]; rfl)
    refine zaB (o:=.lst (es.map frD)) hE at0 ?_
    refine zaB (o:=.lst (es.map frD)) hE at0 ?_
    refine zcj (n:=S.length) (o:=.lst (es.map frD)) (λi dl' S'=>T=S'∧∃(a b:Int×Int) (u8:Option D),a∈es∧(∀x∈es.take i,a.1*x.2≤x.1*a.2)∧b∈es∧(∀x∈es.take i,x.1*b.2≤b.1*x.2)∧dl'=[some (.int lo),some (.int hi),some (.tup [.int y0,.int y1]),some (.ref S.length),u4,u5,some (frD a),some (frD b),u8,none,none]) ⟨rfl,_,_,_,a0,λx hx=>(nomatch hx),a0,λx hx=>(nomatch hx),rfl⟩ (λi dl' S' z=>z.1 ▸ hE) ?_ ?_
    ·rintro i x dl' S' nx ct ex' ⟨rfl,a,b,u8,ha,la,hb,mb,rfl⟩ hn
     have ex2:(es.map frD)[i]?=some x:=ex'
     rw[Vae] at ex2
     obtain⟨e,he,rfl⟩:=Vai.mp ex2
     have em:=Vak he
     have se:=hes e em
     have sa:=hes a ha
     have sb:=hes b hb
     have L:=zqR pos he ha la
     have M:=zqs pos he hb mb
     refine⟨zaH se.1 sa.2,zaH sa.1 se.2,?_⟩
     refine ifD (λc1=>?_) (λc1=>?_)
     ·refine⟨zaH se.1 sb.2,zaH sb.1 se.2,?_⟩
      refine ifD (λc2=>?_) (λc2=>?_)
      ·exact hn _ _ ⟨rfl,e,e,_,em,L.1 c1,em,M.1 c2,rfl⟩
      ·exact hn _ _ ⟨rfl,e,b,_,em,L.1 c1,hb,M.2 c2,rfl⟩
     ·refine⟨zaH se.1 sb.2,zaH sb.1 se.2,?_⟩
      refine ifD (λc2=>?_) (λc2=>?_)
      ·exact hn _ _ ⟨rfl,a,e,_,ha,L.2 c1,em,M.1 c2,rfl⟩
      ·exact hn _ _ ⟨rfl,a,b,_,ha,L.2 c1,hb,M.2 c2,rfl⟩
    ·rintro dl' S' ⟨rfl,a,b,u8,ha,la,hb,mb,rfl⟩
     rw[show (zat (Ob.lst (es.map frD))).length=es.length from Vaa ..,VaM] at la mb
     exact h _ _ [(some a,some b)] (zbz prT _) (zaC _ _) (.inl ⟨out,a,b,by rw[hes4]; exact⟨ha,la⟩,by rw[hes4]; exact⟨hb,mb⟩,rfl⟩)
   dsimp only[L3.zmi]
   refine ztq (λdl2 S2=>S++[Ob.lst []]=S2∧dl2=[some (.int lo),some (.int hi),some (.tup [.int y0,.int y1]),none,none,none,none,none,none,some (.ref S.length),some (.int (zaY lo hi))]) (λnx hn=>?_) ?_
   ·have ee:∀c:hi<0,zaY lo hi=hi:=λc=>if_pos c
    have en:∀c:¬ hi<0,zaY lo hi=lo:=λc=>if_neg c
    refine ifD (λc=>?_) (λc=>?_)
    ·exact hn _ _ ⟨rfl,by rw[ee c]; rfl⟩
    ·exact hn _ _ ⟨rfl,by rw[en c]; rfl⟩
   rintro dl2 S2 ⟨rfl,rfl⟩
   refine zcj (n:=(S++[Ob.lst []]).length) (o:=.lst ([y0,y1].map D.int)) (λj dl' S'=>j≤2∧Pre S S'∧S'[S.length]?=some (.lst ((pcl (zaY lo hi) ([y0,y1].take j)).map pcD))∧S'[(S++[Ob.lst []]).length]?=some (.lst ([y0,y1].map D.int))∧∃u5:Option D,dl'=[some (.int lo),some (.int hi),some (.tup [.int y0,.int y1]),none,none,u5,none,none,none,some (.ref S.length),some (.int (zaY lo hi))]) ⟨by decide,λn o e=>zaF (zaF e),zaF (zaC _ _),zaC _ _,_,rfl⟩ (λj dl' S' z=>z.2.2.2.1) ?_ ?_
   ·rintro j x dl' S' nx ct ex' ⟨hj2,pr',hP,hO,u5,rfl⟩ hn
    have ex2:([y0,y1].map D.int)[j]?=some x:=ex'
    rw[Vae] at ex2
    obtain⟨b,hb,rfl⟩:=Vai.mp ex2
    have hj3:=(Vac.mp hb).1
    have l3:[y0,y1].length=2:=rfl
    have lP:=zb9 hP
    have en:=znf (zaY lo hi) ([y0,y1].take j) b
    rw[← zbG hb] at en
    have lpc:(pcl (zaY lo hi) ([y0,y1].take j)).length≤2:=by
     rcases j with _ | _ | j
     ·exact Vax _
     ·show (pcl (zaY lo hi) ([]++[y0])).length≤2
      rw[znf]
      split <;> simp[pcl]
     ·omega
    have keep:b=0→nx [some (.int lo),some (.int hi),some (.tup [.int y0,.int y1]),none,none,some (.int b),none,none,none,some (.ref S.length),some (.int (zaY lo hi))] S':=λe=>hn _ _ ⟨by omega,pr',by rw[en,if_pos e,VaS]; exact hP,hO,_,rfl⟩
    have put:∀d:D,b≠0→d=pcD (pcB (zaY lo hi) b)→nx [some (.int lo),some (.int hi),some (.tup [.int y0,.int y1]),none,none,some (.int b),none,none,none,some (.ref S.length),some (.int (zaY lo hi))] (S'.set S.length (.lst ((pcl (zaY lo hi) ([y0,y1].take j)).map pcD++[d]))):=λd e ed=>hn _ _ ⟨by omega,zbA pr' (Vab _),by rw[en,if_neg e,Vaz,ed]; exact zbm hP,zbk hO (by rw[Vay]; have e1:([Ob.lst []]:Sto).length=1:=rfl; omega),_,rfl⟩
    refine ifN (λc1=>?_) (λc1=>?_)
    ·refine ifD (λc2=>?_) (λc2=>?_)
     ·refine zcd (n:=S.length) (S1:=S') (xs:=(pcl (zaY lo hi) ([y0,y1].take j)).map pcD) (y:=.tup [.tup [.int (abI (zaY lo hi)),.int (abI b)],.non]) (λK hK=>by exact hK) hP (λK hK=>by exact hK) (by rw[Vaa]; omega) ?_
      exact put _ c1 (by unfold pcB; rw[if_pos c2]; rfl)
     ·refine ifN (λc3=>?_) (λc3=>absurd c3 c1)
      refine zcd (n:=S.length) (S1:=S') (xs:=(pcl (zaY lo hi) ([y0,y1].take j)).map pcD) (y:=.tup [.non,.tup [.int (-abI (zaY lo hi)),.int (abI b)]]) (λK hK=>by exact hK) hP (λK hK=>by exact hK) (by rw[Vaa]; omega) ?_
      exact put _ c1 (by unfold pcB; rw[if_neg c2]; rfl)
    ·refine ifN (λc3=>absurd c1 c3) (λ_=>?_)
     exact keep c1
   ·rintro dl' S' ⟨hj2,pr',hP,hO,u5,rfl⟩
    refine h S' S.length _ pr' hP (.inr ⟨⟨by omega,by omega⟩,?_⟩)
    show pcl (zaY lo hi) ([]++[y0]++[y1])=_
    rw[znf,znf]
    rfl
  ·exact h.elim⟩)
def zxz  (zkU:Df K mg "_law_quot" zgl zg0)(zeE:Fk P w K mg base 1 "_law_hulled" zeA ze6)(znv:Fk P w K mg base 1 "_law_pieces" zhG zik)(zpa:Fk P w K mg base 1 "_law_kept" zh4 zgO):Fk P w K mg base 2 "_law_quot" zg0 zh7:=
 zkU.mk' (zax (k:=1) zkU.F zxw (zxs) λcdv A outer s H E hr=>⟨_,(zae (zau (PDW.pt (zcY (zmm zcy zcy (zad (dv 0) zab (λ_ _=>rfl)) zab (zad (dv 0) zab (λ_ _=>rfl))) (zd9 (zmm zcy zcy (zad (dv 2) zab (λ_ _=>rfl)) zab (zad (dv 2) zab (λ_ _=>rfl)))))) (zag (zak (dv 1))) zav) (zag (zak (zaq zeE hr (zaa (zmZ (x:="_law_piece") (N:=["_law_x"]) (caps:=[1]) (ar:=zas zgl) rfl rfl csc rfl (by decide) (zaq znv hr (zaa (zaf zaP (zad (dv 0) zab (λ_ _=>rfl)) (dv 3)) (zaa (zaf zaP (zad (dv 0) zab (λ_ _=>rfl)) (dv 3)) (zaa (dv 2) zac)))) (λ_ _ _ _ _ _=>zdg) (λ_ _ _ _ _ _=>(zaq zpa hr (zaa (dv 1) (zaa (dv 0) zac))))) zac))))),λds S Q ex h=>by
  unfold zh7 at h
  split at h
  ·rename_i z0 z1 x0 x1 y0 y1 g
   obtain⟨⟨⟨hz,hx,hy⟩,hg,sz0,sz1,sx0,sx1,sy0,sy1⟩,h1,h2⟩:=h
   have sg:Sz 21 g:=Sz.of 1000000 (by omega)
   have m0:Sz 1100 (z0*g):=(sz0.mul sg).mono (by decide)
   have m1:Sz 1100 (z1*g):=(sz1.mul sg).mono (by decide)
   have m0:Sz 1100 (z0*g):=(sz0.mul sg).mono (by decide)
   have m1:Sz 1100 (z1*g):=(sz1.mul sg).mono (by decide)
   refine zot (λdl2 S2=>S=S2∧¬ ((y0≤0∧0≤y1)∧z0≤0∧0≤z1)∧dl2=[some (.tup [.int z0,.int z1]),some (.tup [.int x0,.int x1]),some (.tup [.int y0,.int y1]),some (.int g)]) (λnx hn=>?_) ?_
   ·refine ifD (λc1=>?_) (λc1=>hn _ _ ⟨rfl,λq=>c1 q.2.1,rfl⟩)
    refine ifD (λc2=>?_) (λc2=>hn _ _ ⟨rfl,λq=>c2 q.2.2,rfl⟩)
    refine ifD (λc3=>?_) (λc3=>hn _ _ ⟨rfl,λq=>c3 q.1.1,rfl⟩)
    refine ifD (λc4=>?_) (λc4=>hn _ _ ⟨rfl,λq=>c4 q.1.2,rfl⟩)
    exact h2 (x0,x1) (if_pos ⟨⟨c3,c4⟩,c1,c2⟩) S Pre.refl
   rintro dl2 S2 ⟨rfl,nb,rfl⟩
   refine zvd (λT m=>Pre S T∧∃ps:List (Option (Int×Int)×Option (Int×Int)),T[m]?=some (.lst (ps.map pcD))∧zmg (z0*g) (z1*g) (y0,y1) ps) (λK hK=>?_) (λT m P tl' htl=>?_)
   ·exact⟨zaH sz0 sg,zaH sz1 sg,⟨hy,m0,m1,sy0.mono (by decide),sy1.mono (by decide)⟩,λT m ps pr hT ok=>hK T m ⟨pr,ps,hT,ok⟩⟩
   obtain⟨pr,ps,hT,ok⟩:=P
   obtain⟨l2,sz⟩:=zuA (y:=(y0,y1)) hy (sy0.mono (by decide)) (sy1.mono (by decide)) ok
   have hl:=zx8 (z:=(z0,z1)) (x:=(x0,x1)) (y:=(y0,y1)) hz hx hy hg.1 nb ok
   have ip:zat (Ob.lst (ps.map pcD))=ps.map pcD:=rfl
   refine zp0 (n:=m) (o:=.lst (ps.map pcD)) (S1:=T) (λk d=>∃pc,ps[k]?=some pc∧d=opD (kpS (x0,x1) pc.1 pc.2)) htl hT (by rw[ip,Vaa]; omega) (λk x hx S2 K pr2 hK=>?_) (λxs lx hx=>?_)
   ·rw[ip,Vae] at hx
    obtain⟨pc,hpc,rfl⟩:=Vai.mp hx
    have z:=sz pc (Vak hpc)
    exact⟨pc.1,pc.2,rfl,⟨sx0.mono (by decide),sx1.mono (by decide)⟩,z.1,z.2,λe=>hK _ ⟨pc,hpc,by rw[e]; rfl⟩,λp e=>hK _ ⟨pc,hpc,by rw[e]; rfl⟩⟩
   have exs:xs=(ps.map λpc=>kpS (x0,x1) pc.1 pc.2).map opD:=by
    refine List.ext_getElem? λk=>?_
    rw[Vae,Vae]
    cases e:xs[k]? with
    | some d=>
     obtain⟨pc,hpc,rfl⟩:=hx k d e
     rw[hpc]
     rfl
    | none=>
     have l:=VaC.mp e
     rw[lx,ip,Vaa] at l
     rw[VaC.mpr l]
     rfl
   subst exs
   refine⟨_,zaC _ _,by rw[Vaa]; omega,λe T2 pr2=>?_,λp e T2 pr2=>?_⟩
   ·exact h1 (by rw[← hl]; exact e) T2 (λn o q=>pr2 _ _ (zaF (pr _ _ q)))
   ·exact h2 p (by rw[← hl]; exact e) T2 (λn o q=>pr2 _ _ (zaF (pr _ _ q)))
  ·exact h.elim⟩)
def zwv  (zmP:Df K mg "_law_half" zk0 zhe)(zdC:Fk P w K mg base 1 "_law_meet" zeJ ze9)(zpk:Fk P w K mg base 2 "_law_quot" zg0 zh7):Fk P w K mg base 3 "_law_half" zhe zh9:=
 zmP.mk' (zax (k:=2) zmP.F zxl (zuU) λcdv A outer s H E hr=>⟨_,(zae (zau (zar (zaI hr) (zad (dv 0) zab (λ_ _=>rfl)) zaL (zap _)) (zag (zak (zaq zdC hr (zaa (dv 2) (zaa (zaz (zaa (zaf zbf (zad (dv 1) zab (λ_ _=>rfl)) (zad (dv 3) zab (λ_ _=>rfl))) (zaa (zaf zbf (zad (dv 1) zab (λ_ _=>rfl)) (zad (dv 3) zab (λ_ _=>rfl))) zac))) zac))))) zav) (zae (zau (zar (zaI hr) (zad (dv 0) zab (λ_ _=>rfl)) zaL (zap _)) (zag (zak (zaq zpk hr (zaa (dv 1) (zaa (dv 2) (zaa (dv 3) (zaa (dv 4) zac))))))) zav) (zae (zau (zc1 (dv 5)) (zag (zak (zaq zdC hr (zaa (dv 2) (zaa (zaz (zaa (zaf zaV (zad (dv 1) zab (λ_ _=>rfl)) (zad (dv 3) zab (λ_ _=>rfl))) (zaa (zaf zaV (zad (dv 1) zab (λ_ _=>rfl)) (zad (dv 3) zab (λ_ _=>rfl))) zac))) zac))))) zav) (zag (zak (zaq zdC hr (zaa (dv 2) (zaa (zaz (zaa (zaf zbf (zad (dv 3) zab (λ_ _=>rfl)) (zad (dv 1) zab (λ_ _=>rfl))) (zaa (zaf zbf (zad (dv 3) zab (λ_ _=>rfl)) (zad (dv 1) zab (λ_ _=>rfl))) zac))) zac)))))))),λds S Q ex h=>by
  unfold zh9 at h
  split at h
  ·rename_i d z0 z1 x0 x1 y0 y1 g b
   obtain⟨v,rfl,hv,hyp,h1,h2⟩:=h
   cases v with
   | plus i j=>exact⟨λe=>h1 e S Pre.refl,λp e=>h2 p e S Pre.refl⟩
   | minus i j=>
    cases b with
    | true=>exact⟨λe=>h1 e S Pre.refl,λp e=>h2 p e S Pre.refl⟩
    | false=>exact⟨λe=>h1 e S Pre.refl,λp e=>h2 p e S Pre.refl⟩
   | times i j=>exact⟨hyp,h1,h2⟩
   | number _ _=>exact hv.elim
   | unknown _=>exact hv.elim
   | power _ _=>exact hv.elim
  ·exact h.elim⟩)
def zuK  (znd:Df K mg "_law_root" zkY zhS)(zb4:Fk P w K mg base 1 "_law_power" zdp zdi):Fk P w K mg base 2 "_law_root" zhS zgL:=
 znd.mk' (zax (k:=1) znd.F zfM (zvy) λcdv A outer s H E hr=>⟨_,(zae (zal (i:=3) zfM.nd rfl (Or.inl rfl) zab) (zae (zal (i:=4) zfM.nd rfl (Or.inl rfl) (zaf zaV (dv 2) zab)) (zae (zoD PassesOwn.never (zar zb8 (zaf zbf (dv 4) (dv 3)) zab (zap _)) (zae (zal (i:=5) zfM.nd rfl (Or.inl rfl) (zaf zb7 (zaf zaV (dv 3) (dv 4)) zab)) (zag (zau (zar zcy (zaq zb4 hr (zaa (dv 5) (zaa (dv 1) zac))) (dv 0) (zap _)) (zag (zal (i:=3) zfM.nd rfl (Or.inl rfl) (dv 5))) (zag (zal (i:=4) zfM.nd rfl (Or.inl rfl) (dv 5))))))) (zag (zak (dv 3)))))),λds S Q ex h=>by
  unfold zgL at h
  split at h
  ·rename_i N n m
   obtain⟨⟨n2,n6,h0,m0,sm⟩,h⟩:=h
   have hn:1≤n.toNat:=by omega
   refine⟨λk dl' S'=>S=S'∧∃(lo hi:Int) (u:Option D),dl'=[some (.int N),some (.int n),some (.int m),some (.int lo),some (.int hi),u]∧0≤lo∧lo<hi∧hi≤m+1∧lo^n.toNat≤N∧(hi=m+1∨N<hi^n.toNat)∧k=(hi-lo).toNat,⟨_,rfl,0,m+1,_,rfl,by omega,by omega,by omega,by rw[zeI hn]; exact h0,.inl rfl,rfl⟩,?_⟩
   rintro k dl' S' ⟨rfl,lo,hi,u,rfl,l0,lh,hm,pl,ph,rfl⟩
   refine ifD (λc=>?_) (λc=>?_)
   ·have b1:lo<(lo+hi)/2:=by omega
    have b2:(lo+hi)/2<hi:=by omega
    have sp:Sz 1101 ((lo+hi)/2):=Sz.mid (a:=0) (b:=m+1) (Sz.of 0 (by decide) (Nat.pow_pos (by decide))) (sm.add (Sz.of (n:=1) 1 (by decide))) (by omega) (by omega)
    refine⟨⟨by omega,n6,sp.mono (by decide)⟩,?_⟩
    refine ifD (λe=>?_) (λe=>?_)
    ·exact⟨_,by omega,rfl,(lo+hi)/2,hi,_,rfl,by omega,b2,hm,e,ph,rfl⟩
    ·exact⟨_,by omega,rfl,lo,(lo+hi)/2,_,rfl,l0,b1,by omega,pl,.inr (by omega),rfl⟩
   ·have eh:hi=lo+1:=by omega
    subst eh
    have z:=ztu hn h0 l0 (show lo≤m by omega) pl (by rcases ph with q | q; exact .inl (by omega); exact .inr q)
    rw[← z] at h
    exact h
  ·exact h.elim⟩)
def zwT  (zja:Df K mg "_law_down" zlf zfY)(zb4:Fk P w K mg base 1 "_law_power" zdp zdi)(zm8:Fk P w K mg base 2 "_law_root" zhS zgL):Fk P w K mg base 3 "_law_down" zfY zhm:=
 zja.mk' (zax (k:=2) zja.F znA (zrw) λcdv A outer s H E hr=>⟨_,(zae (zau (zar zoF (dv 0) zab (zap _)) (zag (zak (zaq zm8 hr (zaa (dv 0) (zaa (dv 1) (zaa (dv 2) zac)))))) zav) (zae (zal (i:=3) znA.nd rfl (Or.inl rfl) (zaq zm8 hr (zaa (zaZ za0 (dv 0)) (zaa (dv 1) (zaa (dv 2) zac))))) (zae (zau (zar zbp (zaq zb4 hr (zaa (dv 3) (zaa (dv 1) zac))) (zaZ za0 (dv 0)) (zap _)) (zag (zal (i:=3) znA.nd rfl (Or.inl rfl) (zaf zaV (dv 3) zab))) zav) (zag (zak (zaZ za0 (dv 3))))))),λds S Q ex h=>by
  unfold zhm at h
  split at h
  ·rename_i N n m
   obtain⟨⟨n2,n6,m0,sm⟩,h⟩:=h
   have hn:1≤n.toNat:=by omega
   refine ifD (λc=>?_) (λc=>?_)
   ·refine⟨⟨n2,n6,c,m0,sm⟩,?_⟩
    unfold dnS at h
    rw[if_pos c] at h
    exact h
   ·refine⟨⟨n2,n6,by omega,m0,sm⟩,?_⟩
    have z:=λr e=>ztW (N:=N) (m:=m) (r:=r) hn (by omega) m0 e
    have b0:=(zk2 (N:=-N) hn (by omega)).1
    have z2:=z _ rfl
    have sr:Sz 2000 (if rbS (-N) n.toNat<m then rbS (-N) n.toNat else m):=Sz.mid (a:=0) (b:=m) (Sz.of 0 (by decide) (Nat.pow_pos (by decide))) (sm.mono (by decide)) (by split <;> omega) (by split <;> omega)
    refine⟨⟨by omega,n6,sr⟩,?_⟩
    rw[← z2] at h
    refine ifD (λe=>?_) (λe=>?_)
    ·rw[if_pos e] at h
     exact h
    ·rw[if_neg e] at h
     exact h
  ·exact h.elim⟩)
def zva  (zln:Df K mg "_law_root_kept" zkX zhQ)(zfC:Fk P w K mg base 3 "_law_down" zfY zhm)(zaU:mg "min"=none)(zaE:mg "max"=none)(zbi:mg "abs"=none):Fk P w K mg base 4 "_law_root_kept" zhQ zhX:=
 zln.mk' (zax (k:=3) zln.F zp3 (zrJ) λcdv A outer s H E hr=>⟨_,(zae (zal (i:=4) zp3.nd rfl (Or.inl rfl) (zaf zaV (zaG (zbn rfl) rfl zaE Boot.«max» (zaa (zaG zdh rfl zbi Boot.«abs» (zaa (zad (dv 0) zab (λ_ _=>rfl)) zac)) (zaa (zaG zdh rfl zbi Boot.«abs» (zaa (zad (dv 0) zab (λ_ _=>rfl)) zac)) zac))) zab)) (zae (zau (PDW.pt (zcG (zar zb8 (zaZ za0 (zaq zfC hr (zaa (zaZ za0 (dv 1)) (zaa (dv 3) (zaa (dv 4) zac))))) (zad (dv 0) zab (λ_ _=>rfl)) (zap _)) (zcU (zar zbp (zaq zfC hr (zaa (dv 2) (zaa (dv 3) (zaa (dv 4) zac)))) (zad (dv 0) zab (λ_ _=>rfl)) (zap _))))) (zag (zak zaK)) zav) (zag (zak (zaz (zaa (zaG (zbn rfl) rfl zaE Boot.«max» (zaa (zad (dv 0) zab (λ_ _=>rfl)) (zaa (zaq zfC hr (zaa (dv 1) (zaa (dv 3) (zaa (dv 4) zac)))) zac))) (zaa (zaG (zcn rfl) rfl zaU Boot.«min» (zaa (zad (dv 0) zab (λ_ _=>rfl)) (zaa (zaZ za0 (zaq zfC hr (zaa (zaZ za0 (dv 2)) (zaa (dv 3) (zaa (dv 4) zac))))) zac))) zac))))))),λds S Q ex h=>by
  unfold zhX at h
  split at h
  ·rename_i x0 x1 lo hi n
   obtain⟨⟨n2,n6,hx,s0,s1⟩,h1,h2⟩:=h
   have hn:1≤n.toNat:=by omega
   have a0:Sz 1000 (if x0<0 then -x0 else x0):=by split; exact s0.neg; exact s0
   have a1:Sz 1000 (if x1<0 then -x1 else x1):=by split; exact s1.neg; exact s1
   have p0:(if x0<0 then -x0 else x0)=(x0.natAbs:Int):=by split <;> omega
   have p1:(if x1<0 then -x1 else x1)=(x1.natAbs:Int):=by split <;> omega
   have big:∀u v:Int,0≤u→0≤v→Sz 1000 u→Sz 1000 v→(u+1≤(if v > u then v else u)+1∧v+1≤(if v > u then v else u)+1)∧Sz 1100 ((if v > u then v else u)+1):=λu v _ _ su sv=>by
    refine⟨by split <;> omega,Sz.mono (m:=1001) (Sz.add (m:=1000) (n:=1) ?_ (Sz.of 1 (by decide))) (by decide)⟩
    split
    ·exact sv
    ·exact su
   obtain⟨⟨m1,m2⟩,sm⟩:=big _ _ (by rw[p0]; omega) (by rw[p1]; omega) a0 a1
   have m1':(x0.natAbs:Int)+1≤((if (if x1<0 then -x1 else x1) > (if x0<0 then -x0 else x0) then (if x1<0 then -x1 else x1) else (if x0<0 then -x0 else x0))+1):=by rw[← p0]; exact m1
   have m2':(x1.natAbs:Int)+1≤((if (if x1<0 then -x1 else x1) > (if x0<0 then -x0 else x0) then (if x1<0 then -x1 else x1) else (if x0<0 then -x0 else x0))+1):=by rw[← p1]; exact m2
   have hr:=rk_eq (x:=(x0,x1)) (lo:=lo) (hi:=hi) (m:=((if (if x1<0 then -x1 else x1) > (if x0<0 then -x0 else x0) then (if x1<0 then -x1 else x1) else (if x0<0 then -x0 else x0))+1)) hn hx m1' m2'
   have m0:0≤((if (if x1<0 then -x1 else x1) > (if x0<0 then -x0 else x0) then (if x1<0 then -x1 else x1) else (if x0<0 then -x0 else x0))+1):=by omega
   rw[← hr] at h1 h2
   unfold rkS at h1 h2
   refine⟨⟨n2,n6,m0,sm⟩,?_⟩
   refine ifD (λc1=>h1 (if_pos (.inl c1))) (λc1=>?_)
   refine⟨⟨n2,n6,m0,sm⟩,?_⟩
   refine ifD (λc2=>h1 (if_pos (.inr c2))) (λc2=>?_)
   refine⟨⟨n2,n6,m0,sm⟩,?_⟩
   refine⟨⟨n2,n6,m0,sm⟩,?_⟩
   have z:=h2 (if dnS lo n.toNat ((if (if x1<0 then -x1 else x1) > (if x0<0 then -x0 else x0) then (if x1<0 then -x1 else x1) else (if x0<0 then -x0 else x0))+1) > x0 then dnS lo n.toNat ((if (if x1<0 then -x1 else x1) > (if x0<0 then -x0 else x0) then (if x1<0 then -x1 else x1) else (if x0<0 then -x0 else x0))+1) else x0,if -dnS (-hi) n.toNat ((if (if x1<0 then -x1 else x1) > (if x0<0 then -x0 else x0) then (if x1<0 then -x1 else x1) else (if x0<0 then -x0 else x0))+1)<x1 then -dnS (-hi) n.toNat ((if (if x1<0 then -x1 else x1) > (if x0<0 then -x0 else x0) then (if x1<0 then -x1 else x1) else (if x0<0 then -x0 else x0))+1) else x1) (if_neg λq=>q.elim c1 c2)
   exact z
  ·exact h.elim⟩)
def zxV  (zl1:Df K mg "_law_rooted" zjq zf7)(zeE:Fk P w K mg base 1 "_law_hulled" zeA ze6)(zhl:Fk P w K mg base 4 "_law_root_kept" zhQ zhX)(zb4:Fk P w K mg base 1 "_law_power" zdp zdi)(zaE:mg "max"=none):Fk P w K mg base 5 "_law_rooted" zf7 zfV:=
 zl1.mk' (zax (k:=4) zl1.F zd7 (zsR) λcdv A outer s H E hr=>⟨_,(zae (zal (i:=4) zd7.nd rfl (Or.inl rfl) (zaq zb4 hr (zaa (dv 3) (zaa (zaf zbf (dv 2) zab) zac)))) (zae (zal (i:=5) zd7.nd rfl (Or.inl rfl) (zaf zaP (zad (dv 0) zab (λ_ _=>rfl)) (dv 4))) (zae (zal (i:=6) zd7.nd rfl (Or.inl rfl) (zaf zaP (zad (dv 0) zab (λ_ _=>rfl)) (dv 4))) (zae (zau (zar (zaI hr) (zaf zbb (dv 2) zab) zab (zap _)) (zag (zak (zaq zhl hr (zaa (dv 1) (zaa (dv 5) (zaa (dv 6) (zaa (dv 2) zac))))))) zav) (zae (zau (zar zbp (dv 6) zab (zap _)) (zag (zak zaK)) zav) (zae (zal (i:=7) zd7.nd rfl (Or.inl rfl) (zaq zhl hr (zaa (dv 1) (zaa (zaG (zbn rfl) rfl zaE Boot.«max» (zaa (dv 5) (zaa zab zac))) (zaa (dv 6) (zaa (dv 2) zac)))))) (zae (zal (i:=8) zd7.nd rfl (Or.inl rfl) (zaq zhl hr (zaa (zaz (zaa (zaZ za0 (zad (dv 1) zab (λ_ _=>rfl))) (zaa (zaZ za0 (zad (dv 1) zab (λ_ _=>rfl))) zac))) (zaa (zaG (zbn rfl) rfl zaE Boot.«max» (zaa (dv 5) (zaa zab zac))) (zaa (dv 6) (zaa (dv 2) zac)))))) (zae (zau (zar zg3 (dv 8) zaK (zap _)) (zag (zal (i:=8) zd7.nd rfl (Or.inl rfl) (zaz (zaa (zaZ za0 (zad (dv 8) zab (λ_ _=>rfl))) (zaa (zaZ za0 (zad (dv 8) zab (λ_ _=>rfl))) zac))))) zav) (zag (zak (zaq zeE hr (zaa (za6 (zaa (dv 7) (zaa (dv 8) zac))) zac)))))))))))),λds S Q ex h=>by
  unfold zfV at h
  split at h
  ·rename_i z0 z1 x0 x1 n g
   obtain⟨⟨n2,n6,hg,hx,sz0,sz1,sx0,sx1⟩,h1,h2⟩:=h
   have sg:Sz 21 g:=Sz.of 1000000 (by omega)
   have gp:Sz 181 (g^(n-1).toNat):=(sg.pow _).mono (by omega)
   refine⟨⟨by omega,by omega,sg.mono (by decide)⟩,?_⟩
   refine⟨zaH sz0 gp,zaH sz1 gp,?_⟩
   unfold bpS at h1 h2
   refine ifD (λe=>?_) (λe=>?_)
   ·rw[if_pos e] at h1 h2
    exact⟨⟨n2,n6,hx,sx0,sx1⟩,λq=>h1 q S Pre.refl,λp q=>h2 p q S Pre.refl⟩
   ·rw[if_neg e] at h1 h2
    refine ifD (λe2=>?_) (λe2=>?_)
    ·exact h1 (if_pos e2) S Pre.refl
    ·rw[if_neg e2] at h1 h2
     rw[← zxp] at h1 h2
     have last:∀o1 o2:Option (Int×Int),o1=ptB (x0,x1) (rtS (mx0 (z0*g^(n-1).toNat)) n.toNat) (rtS (z1*g^(n-1).toNat) n.toNat)→o2=ptB (-x1,-x0) (rtS (mx0 (z0*g^(n-1).toNat)) n.toNat) (rtS (z1*g^(n-1).toNat) n.toNat)→∃os:List (Option (Int×Int)),(S++[Ob.lst [opD o1,opD (zmb o2)]])[S.length]?=some (.lst (os.map opD))∧os.length≤10∧(hlS os=none→∀T:Sto,Pre (S++[Ob.lst [opD o1,opD (zmb o2)]]) T→Q .non T)∧∀p,hlS os=some p→∀T:Sto,Pre (S++[Ob.lst [opD o1,opD (zmb o2)]]) T→Q (frD p) T:=λo1 o2 e1 e2=>by
      subst e1 e2
      exact⟨[_,zmb _],zaC _ _,Nat.le_of_ble_eq_true rfl,λq T pr=>h1 (by rw[hlS,hlS,hlS,zie] at q; exact q) T (λn o y=>pr _ _ (zaF y)),λp q T pr=>h2 p (by rw[hlS,hlS,hlS,zie] at q; exact q) T (λn o y=>pr _ _ (zaF y))⟩
     refine⟨⟨n2,n6,hx,sx0,sx1⟩,λq1=>?_,λr1 q1=>?_⟩
     ·refine⟨⟨n2,n6,by omega,sx1.neg,sx0.neg⟩,λq2=>?_,λr2 q2=>?_⟩
      ·exact last none none q1.symm q2.symm
      ·exact last none (some r2) q1.symm q2.symm
     ·refine⟨⟨n2,n6,by omega,sx1.neg,sx0.neg⟩,λq2=>?_,λr2 q2=>?_⟩
      ·exact last (some r1) none q1.symm q2.symm
      ·exact last (some r1) (some r2) q1.symm q2.symm
  ·exact h.elim⟩)
def zrH  (zjN:Df K mg "_law_back" zmA zhz)(zjT:Fk P w K mg base 3 "_law_half" zhe zh9)(znD:Fk P w K mg base 5 "_law_rooted" zf7 zfV):Fk P w K mg base 6 "_law_back" zhz zgz:=
 zjN.mk' (zax (k:=5) zjN.F zeV (zye) λcdv A outer s H E hr=>⟨_,(zae (zau (PDW.pt (zcG (zar (zaI hr) (zad (dv 0) zab (λ_ _=>rfl)) zaL (zap _)) (zcU (zar (zaI hr) (zad (dv 0) zab (λ_ _=>rfl)) zaL (zap _))))) (zag (zak (za6 zac))) zav) (zae (zal (i:=4) zeV.nd rfl (Or.inl rfl) (zaJ (dv 1) (zad (dv 0) zab (λ_ _=>rfl)) (λ_ _=>rfl))) (zae (zau (zar (zaI hr) (zad (dv 0) zab (λ_ _=>rfl)) zaL (zap _)) (zae (zal (i:=4) zeV.nd rfl (Or.inl rfl) (zaq znD hr (zaa (dv 2) (zaa (dv 4) (zaa (zad (dv 0) zab (λ_ _=>rfl)) (zaa (dv 3) zac)))))) (zag (zak (zcK (zar zbB (dv 4) zaK (zap _)) zaK (za6 (zaa (zaz (zaa (zad (dv 0) zab (λ_ _=>rfl)) (zaa (dv 4) zac))) zac)))))) zav) (zae (zal (i:=5) zeV.nd rfl (Or.inl rfl) (zaJ (dv 1) (zad (dv 0) zab (λ_ _=>rfl)) (λ_ _=>rfl))) (zae (zal (i:=4) zeV.nd rfl (Or.inl rfl) (zaq zjT hr (zaa (dv 0) (zaa (dv 2) (zaa (dv 4) (zaa (dv 5) (zaa (dv 3) (zaa zdw zac)))))))) (zae (zau (zar zbB (dv 4) zaK (zap _)) (zag (zak zaK)) zav) (zae (zal (i:=5) zeV.nd rfl (Or.inl rfl) (zaq zjT hr (zaa (dv 0) (zaa (dv 2) (zaa (zcK (zar (zaI hr) (zad (dv 0) zab (λ_ _=>rfl)) (zad (dv 0) zab (λ_ _=>rfl)) (zap _)) (dv 4) (dv 5)) (zaa (dv 4) (zaa (dv 3) (zaa zdw zac)))))))) (zag (zak (zcK (zar zbB (dv 5) zaK (zap _)) zaK (za6 (zaa (zaz (zaa (zad (dv 0) zab (λ_ _=>rfl)) (zaa (dv 4) zac))) (zaa (zaz (zaa (zad (dv 0) zab (λ_ _=>rfl)) (zaa (dv 5) zac))) zac))))))))))))),λds S Q ex h=>by
  unfold zgz at h
  split at h
  ·rename_i d w z0 z1 g
   obtain⟨v,vs,q,rfl,hw,ok,hs,⟨hz,sz0,sz1⟩,hg,h1,h2⟩:=h
   cases v with
   | number _ _=>exact h2 [] rfl _ _ Pre.refl.push (Vab _) (zaC _ _)
   | unknown _=>exact h2 [] rfl _ _ Pre.refl.push (Vab _) (zaC _ _)
   | power i n=>
    have a:=hs.at ok.1
    refine zaB (o:=.lst (vs.map frD)) hw (zaQ ok.1) ?_
    refine⟨⟨ok.2.1,ok.2.2,hg,a.1,sz0,sz1,a.2.1,a.2.2⟩,λe T pr=>?_,λx' e T pr=>?_⟩
    ·refine h1 ?_ T pr
     show (match bpS (z0,z1) (gt vs i) n g with | none=>none | some x=>some [(i,x)])=none
     rw[show bpS (z0,z1) (gt vs i) n g=none from e]
    ·refine h2 [(i,x')] ?_ _ _ (zbz pr _) (zb0 pr) (zaC _ _)
     show (match bpS (z0,z1) (gt vs i) n g with | none=>none | some x=>some [(i,x)])=_
     rw[show bpS (z0,z1) (gt vs i) n g=some x' from e]
   | plus i j=>
    have ok':inR ((vs.length:Nat):Int) i∧inR ((vs.length:Nat):Int) j:=ok
    have a:=hs.at ok'.1
    have b:=hs.at ok'.2
    have eb:=znx (v:=.plus i j) (vs:=vs) (z:=(z0,z1)) (g:=g) trivial
    refine zaB (o:=.lst (vs.map frD)) hw (zaQ ok'.1) ?_
    refine zaB (o:=.lst (vs.map frD)) hw (zaQ ok'.2) ?_
    refine⟨.plus i j,rfl,trivial,⟨⟨hz,a.1,b.1⟩,hg,sz0,sz1,a.2.1,a.2.2,b.2.1,b.2.2⟩,λe T pr=>?_,λx' e T pr=>?_⟩
    ·refine h1 ?_ T pr
     rw[eb]
     unfold bk2
     rw[show hfS (z0,z1) (gt vs (Nd.ij (.plus i j)).1) (gt vs (Nd.ij (.plus i j)).2) g true (.plus i j)=none from e]
    have zx:=Sz.in2 a.2.1 a.2.2 (znR (v:=.plus i j) (z:=(z0,z1)) trivial hz a.1 b.1 hg.1 x' e)
    have fin:∀Y:Int×Int,Y=(if i=j then x' else gt vs j)→(Y.1≤Y.2∧Sz 1000 Y.1∧Sz 1000 Y.2)∧(hfS (z0,z1) Y x' g false (.plus i j)=none→Nd.bk vs (z0,z1) g (.plus i j)=none)∧∀y',hfS (z0,z1) Y x' g false (.plus i j)=some y'→Nd.bk vs (z0,z1) g (.plus i j)=some [(i,x'),(j,y')]:=λY eY=>by
     refine⟨?_,λe2=>?_,λy' e2=>?_⟩
     ·subst eY
      split
      ·exact zx
      ·exact b
     ·rw[eb]
      unfold bk2
      rw[show hfS (z0,z1) (gt vs (Nd.ij (.plus i j)).1) (gt vs (Nd.ij (.plus i j)).2) g true (.plus i j)=some x' from e]
      dsimp only
      rw[show (if (Nd.ij (.plus i j)).1=(Nd.ij (.plus i j)).2 then x' else gt vs (Nd.ij (.plus i j)).2)=Y from eY.symm,e2]
     ·rw[eb]
      unfold bk2
      rw[show hfS (z0,z1) (gt vs (Nd.ij (.plus i j)).1) (gt vs (Nd.ij (.plus i j)).2) g true (.plus i j)=some x' from e]
      dsimp only
      rw[show (if (Nd.ij (.plus i j)).1=(Nd.ij (.plus i j)).2 then x' else gt vs (Nd.ij (.plus i j)).2)=Y from eY.symm,e2]
      rfl
    refine ifD (λc=>?_) (λc=>?_)
    ·obtain⟨yz,f1,f2⟩:=fin x' (if_pos c).symm
     refine⟨.plus i j,rfl,trivial,⟨⟨hz,yz.1,zx.1⟩,hg,sz0,sz1,yz.2.1,yz.2.2,zx.2.1,zx.2.2⟩,λe2 T2 pr2=>?_,λy' e2 T2 pr2=>?_⟩
     ·exact h1 (f1 e2) T2 (pr.trans pr2)
     ·exact h2 _ (f2 y' e2) _ _ (zbz (pr.trans pr2) _) (by have z1:=zb0 pr; have z2:=zb0 pr2; omega) (zaC _ _)
    ·obtain⟨yz,f1,f2⟩:=fin (gt vs j) (if_neg c).symm
     refine⟨.plus i j,rfl,trivial,⟨⟨hz,yz.1,zx.1⟩,hg,sz0,sz1,yz.2.1,yz.2.2,zx.2.1,zx.2.2⟩,λe2 T2 pr2=>?_,λy' e2 T2 pr2=>?_⟩
     ·exact h1 (f1 e2) T2 (pr.trans pr2)
     ·exact h2 _ (f2 y' e2) _ _ (zbz (pr.trans pr2) _) (by have z1:=zb0 pr; have z2:=zb0 pr2; omega) (zaC _ _)
   | minus i j=>
    have ok':inR ((vs.length:Nat):Int) i∧inR ((vs.length:Nat):Int) j:=ok
    have a:=hs.at ok'.1
    have b:=hs.at ok'.2
    have eb:=znx (v:=.minus i j) (vs:=vs) (z:=(z0,z1)) (g:=g) trivial
    refine zaB (o:=.lst (vs.map frD)) hw (zaQ ok'.1) ?_
    refine zaB (o:=.lst (vs.map frD)) hw (zaQ ok'.2) ?_
    refine⟨.minus i j,rfl,trivial,⟨⟨hz,a.1,b.1⟩,hg,sz0,sz1,a.2.1,a.2.2,b.2.1,b.2.2⟩,λe T pr=>?_,λx' e T pr=>?_⟩
    ·refine h1 ?_ T pr
     rw[eb]
     unfold bk2
     rw[show hfS (z0,z1) (gt vs (Nd.ij (.minus i j)).1) (gt vs (Nd.ij (.minus i j)).2) g true (.minus i j)=none from e]
    have zx:=Sz.in2 a.2.1 a.2.2 (znR (v:=.minus i j) (z:=(z0,z1)) trivial hz a.1 b.1 hg.1 x' e)
    have fin:∀Y:Int×Int,Y=(if i=j then x' else gt vs j)→(Y.1≤Y.2∧Sz 1000 Y.1∧Sz 1000 Y.2)∧(hfS (z0,z1) Y x' g false (.minus i j)=none→Nd.bk vs (z0,z1) g (.minus i j)=none)∧∀y',hfS (z0,z1) Y x' g false (.minus i j)=some y'→Nd.bk vs (z0,z1) g (.minus i j)=some [(i,x'),(j,y')]:=λY eY=>by
     refine⟨?_,λe2=>?_,λy' e2=>?_⟩
     ·subst eY
      split
      ·exact zx
      ·exact b
     ·rw[eb]
      unfold bk2
      rw[show hfS (z0,z1) (gt vs (Nd.ij (.minus i j)).1) (gt vs (Nd.ij (.minus i j)).2) g true (.minus i j)=some x' from e]
      dsimp only
      rw[show (if (Nd.ij (.minus i j)).1=(Nd.ij (.minus i j)).2 then x' else gt vs (Nd.ij (.minus i j)).2)=Y from eY.symm,e2]
     ·rw[eb]
      unfold bk2
      rw[show hfS (z0,z1) (gt vs (Nd.ij (.minus i j)).1) (gt vs (Nd.ij (.minus i j)).2) g true (.minus i j)=some x' from e]
      dsimp only
      rw[show (if (Nd.ij (.minus i j)).1=(Nd.ij (.minus i j)).2 then x' else gt vs (Nd.ij (.minus i j)).2)=Y from eY.symm,e2]
      rfl
    refine ifD (λc=>?_) (λc=>?_)
    ·obtain⟨yz,f1,f2⟩:=fin x' (if_pos c).symm
     refine⟨.minus i j,rfl,trivial,⟨⟨hz,yz.1,zx.1⟩,hg,sz0,sz1,yz.2.1,yz.2.2,zx.2.1,zx.2.2⟩,λe2 T2 pr2=>?_,λy' e2 T2 pr2=>?_⟩
     ·exact h1 (f1 e2) T2 (pr.trans pr2)
     ·exact h2 _ (f2 y' e2) _ _ (zbz (pr.trans pr2) _) (by have z1:=zb0 pr; have z2:=zb0 pr2; omega) (zaC _ _)
    ·obtain⟨yz,f1,f2⟩:=fin (gt vs j) (if_neg c).symm
     refine⟨.minus i j,rfl,trivial,⟨⟨hz,yz.1,zx.1⟩,hg,sz0,sz1,yz.2.1,yz.2.2,zx.2.1,zx.2.2⟩,λe2 T2 pr2=>?_,λy' e2 T2 pr2=>?_⟩
     ·exact h1 (f1 e2) T2 (pr.trans pr2)
     ·exact h2 _ (f2 y' e2) _ _ (zbz (pr.trans pr2) _) (by have z1:=zb0 pr; have z2:=zb0 pr2; omega) (zaC _ _)
   | times i j=>
    have ok':inR ((vs.length:Nat):Int) i∧inR ((vs.length:Nat):Int) j:=ok
    have a:=hs.at ok'.1
    have b:=hs.at ok'.2
    have eb:=znx (v:=.times i j) (vs:=vs) (z:=(z0,z1)) (g:=g) trivial
    refine zaB (o:=.lst (vs.map frD)) hw (zaQ ok'.1) ?_
    refine zaB (o:=.lst (vs.map frD)) hw (zaQ ok'.2) ?_
    refine⟨.times i j,rfl,trivial,⟨⟨hz,a.1,b.1⟩,hg,sz0,sz1,a.2.1,a.2.2,b.2.1,b.2.2⟩,λe T pr=>?_,λx' e T pr=>?_⟩
    ·refine h1 ?_ T pr
     rw[eb]
     unfold bk2
     rw[show hfS (z0,z1) (gt vs (Nd.ij (.times i j)).1) (gt vs (Nd.ij (.times i j)).2) g true (.times i j)=none from e]
    have zx:=Sz.in2 a.2.1 a.2.2 (znR (v:=.times i j) (z:=(z0,z1)) trivial hz a.1 b.1 hg.1 x' e)
    have fin:∀Y:Int×Int,Y=(if i=j then x' else gt vs j)→(Y.1≤Y.2∧Sz 1000 Y.1∧Sz 1000 Y.2)∧(hfS (z0,z1) Y x' g false (.times i j)=none→Nd.bk vs (z0,z1) g (.times i j)=none)∧∀y',hfS (z0,z1) Y x' g false (.times i j)=some y'→Nd.bk vs (z0,z1) g (.times i j)=some [(i,x'),(j,y')]:=λY eY=>by
     refine⟨?_,λe2=>?_,λy' e2=>?_⟩
     ·subst eY
      split
      ·exact zx
      ·exact b
     ·rw[eb]
      unfold bk2
      rw[show hfS (z0,z1) (gt vs (Nd.ij (.times i j)).1) (gt vs (Nd.ij (.times i j)).2) g true (.times i j)=some x' from e]
      dsimp only
      rw[show (if (Nd.ij (.times i j)).1=(Nd.ij (.times i j)).2 then x' else gt vs (Nd.ij (.times i j)).2)=Y from eY.symm,e2]
     ·rw[eb]
      unfold bk2
      rw[show hfS (z0,z1) (gt vs (Nd.ij (.times i j)).1) (gt vs (Nd.ij (.times i j)).2) g true (.times i j)=some x' from e]
      dsimp only
      rw[show (if (Nd.ij (.times i j)).1=(Nd.ij (.times i j)).2 then x' else gt vs (Nd.ij (.times i j)).2)=Y from eY.symm,e2]
      rfl
    refine ifD (λc=>?_) (λc=>?_)
    ·obtain⟨yz,f1,f2⟩:=fin x' (if_pos c).symm
     refine⟨.times i j,rfl,trivial,⟨⟨hz,yz.1,zx.1⟩,hg,sz0,sz1,yz.2.1,yz.2.2,zx.2.1,zx.2.2⟩,λe2 T2 pr2=>?_,λy' e2 T2 pr2=>?_⟩
     ·exact h1 (f1 e2) T2 (pr.trans pr2)
     ·exact h2 _ (f2 y' e2) _ _ (zbz (pr.trans pr2) _) (by have z1:=zb0 pr; have z2:=zb0 pr2; omega) (zaC _ _)
    ·obtain⟨yz,f1,f2⟩:=fin (gt vs j) (if_neg c).symm
     refine⟨.times i j,rfl,trivial,⟨⟨hz,yz.1,zx.1⟩,hg,sz0,sz1,yz.2.1,yz.2.2,zx.2.1,zx.2.2⟩,λe2 T2 pr2=>?_,λy' e2 T2 pr2=>?_⟩
     ·exact h1 (f1 e2) T2 (pr.trans pr2)
     ·exact h2 _ (f2 y' e2) _ _ (zbz (pr.trans pr2) _) (by have z1:=zb0 pr; have z2:=zb0 pr2; omega) (zaC _ _)
  ·exact h.elim⟩)
def zsm  (zne:Df K mg "_law_narrowed" zlD zgm)(znU:Fk P w K mg base 6 "_law_back" zhz zgz)(zdC:Fk P w K mg base 1 "_law_meet" zeJ ze9)(zfs:Fk P w K mg base 3 "_law_worths" zfr zfP)(zbe:mg "range"=none)(zby:mg "list"=none)(zaE:mg "max"=none):Fk P w K mg base 7 "_law_narrowed" zgm zf4:=
 zne.mk' (zax (k:=6) zne.F zdb (ztF) λcdv A outer s H E hr=>⟨_,(zae (zal (i:=4) zdb.nd rfl (Or.inl rfl) (zaq zfs hr (zaa (zjj (dv 0) zqw (zeK (zaf zaV (zad (dv 1) zab (λ_ _=>rfl)) zab))) (zaa (dv 2) (zaa (dv 3) zac))))) (zae (zal (i:=5) zdb.nd rfl (Or.inl rfl) zab) (zae (zau (zar (zaI hr) (zad (dv 1) zab (λ_ _=>rfl)) zaL (zap _)) (zag (zal (i:=5) zdb.nd rfl (Or.inl rfl) (zaG (zbn rfl) rfl zaE Boot.«max» (zaa zab (zaa (zad (zaJ (dv 4) (zad (dv 1) zab (λ_ _=>rfl)) (λ_ _=>rfl)) zab (λ_ _=>rfl)) zac))))) zav) (zae (zfk (dv 4) (zad (dv 1) zab (λ_ _=>rfl)) (zaq zdC hr (zaa (zaJ (dv 4) (zad (dv 1) zab (λ_ _=>rfl)) (λ_ _=>rfl)) (zaa (zaz (zaa zab (zaa (dv 5) zac))) zac)))) (zae (zau (zar zbB (zaJ (dv 4) (zad (dv 1) zab (λ_ _=>rfl)) (λ_ _=>rfl)) zaK (zap _)) (zag (zak zaK)) zav) (zae (zp7 (i:=6) PassesOwn.never rfl zdb.nd rfl (Or.inl rfl) rfl zbe (zaa (zad (dv 1) zab (λ_ _=>rfl)) (zaa (zaZ za0 zab) (zaa (zaZ za0 zab) zac))) (zae (zal (i:=7) zdb.nd rfl (Or.inl rfl) (zaq znU hr (zaa (zaJ (dv 0) (dv 6) (λ_ _=>rfl)) (zaa (dv 4) (zaa (zaJ (dv 4) (dv 6) (λ_ _=>rfl)) (zaa (dv 3) zac)))))) (zae (zau (zar zbB (dv 7) zaK (zap _)) (zag (zak zaK)) zav) (zag (zyb (is:=[8,9]) PassesOwn.never rfl zdb.nd (Nms.cons (i:=8) rfl (Or.inl rfl) (by first | exact .inl rfl | exact .inr rfl) (Nms.cons (i:=9) rfl (Or.inl rfl) (by first | exact .inl rfl | exact .inr rfl) Nms.nil)) (dv 7) (zag (zfk (dv 4) (dv 8) (dv 9)))))))) (zae (zal (i:=10) zdb.nd rfl (Or.inl rfl) (zjL (zbh zly) rfl zby Boot.«list» (zaa (dv 2) zac))) (zae (zo7 (i:=6) PassesOwn.never rfl zdb.nd rfl (Or.inl rfl) rfl zbe (zaa (zaf zaV (zad (dv 1) zab (λ_ _=>rfl)) zab) zac) (zag (zau (zar (zaI hr) (zad (zaJ (dv 0) (dv 6) (λ_ _=>rfl)) zab (λ_ _=>rfl)) zaL (zap _)) (zag (zfk (dv 10) (zad (zaJ (dv 0) (dv 6) (λ_ _=>rfl)) zab (λ_ _=>rfl)) (zaJ (dv 4) (dv 6) (λ_ _=>rfl)))) zav))) (zag (zak (dv 10))))))))))),λds S Q ex h=>by
  unfold zf4 at h
  split at h
  ·rename_i a w k b g
   obtain⟨ns,ws,bs,zero,ha,hb,hw,⟨k0,k1⟩,net,sb,hg,hl,h1,h2⟩:=h
   obtain⟨kn,rfl⟩:∃kn:Nat,k=(kn:Int):=⟨k.toNat,by omega⟩
   rw[Vav] at h1 h2
   have hk:kn<ns.length:=by omega
   refine zjX (n:=a) (o:=.lst (ns.map Nd.d)) (lo:=none) (hi:=some ((kn:Int)+1)) (S3:=S) (λK hK=>by exact hK) (λK hK=>by exact hK) (λK hK=>by exact hK) ha ?_
   have ec:zbv (ns.map Nd.d) none (some ((kn:Int)+1))=(ns.take (kn+1)).map Nd.d:=by
    rw[zqi (by omega) (by rw[Vaa]; omega),List.map_take]
    rfl
   rw[show zat (Ob.lst (ns.map Nd.d))=ns.map Nd.d from rfl,ec]
   refine⟨ns.take (kn+1),ws.take (kn+1),bs,zaC _ _,zaF hb,net.take _,sb,hg,by rw[Vau]; omega,λT m pr lm hf=>?_⟩
   have prS:Pre S T:=λn o e=>pr n o (zaF e)
   have lm':S.length≤m:=by
    have z:(S++[Ob.lst ((ns.take (kn+1)).map Nd.d)]).length≤m:=lm
    rw[Vay] at z
    omega
   have s1:Spn 1000 (zaD bs g (ns.take (kn+1))):=zd2 net rfl sb hg (kn+1) (by omega)
   have l1:(zaD bs g (ns.take (kn+1))).length=kn+1:=by rw[zcX,Vau]; omega
   have ik:inR (((zaD bs g (ns.take (kn+1))).length:Nat):Int) (kn:Int):=⟨by omega,by omega⟩
   have a1:=s1.at ik
   have am:=ztZ zero (gt (zaD bs g (ns.take (kn+1))) (kn:Int))
   dsimp only
   refine zdX (λdl2 S2=>T=S2∧dl2=[some (.ref a),some (.tup [.str w,.int (kn:Int)]),some (.ref b),some (.int g),some (.ref m),some (.int (zfh zero (gt (zaD bs g (ns.take (kn+1))) (kn:Int)))),none,none,none,none,none]) (λnx hn=>?_) ?_
   ·rcases hw with ⟨rfl,rfl⟩ | ⟨rfl,rfl⟩
    ·exact hn _ _ ⟨rfl,rfl⟩
    ·refine zaB (o:=.lst ((zaD bs g (ns.take (kn+1))).map frD)) hf (zaQ ik) ?_
     exact hn _ _ ⟨rfl,rfl⟩
   rintro dl2 S2 ⟨rfl,rfl⟩
   cases ea:zc9 zero (gt (zaD bs g (ns.take (kn+1))) (kn:Int)) with
   | none=>
    refine zdV (n:=m) (k:=(kn:Int)) (j:=kn) (xs:=(zaD bs g (ns.take (kn+1))).map frD) (v:=.non) (λK hK=>?_) (λK hK=>by exact hK) (λK hK=>by exact hK) hf (by rw[Vaa,zdQ ik]; rfl) ?_
    ·refine zaB (o:=.lst ((zaD bs g (ns.take (kn+1))).map frD)) hf (zaQ ik) ?_
     exact⟨λ_=>hK,λp e=>absurd (am.symm.trans e) (by rw[ea]; simp)⟩
    refine zaB (o:=.lst (((zaD bs g (ns.take (kn+1))).map frD).set kn .non)) (zbm hf) (d:=.non) (zdH (by show (((zaD bs g (ns.take (kn+1))).map frD).set kn .non)[kn]?=_; rw[VaQ (by rw[Vaa]; omega)])) ?_
    refine h1 ?_ _ (zbA prS lm')
    unfold nwS sbS
    rw[ea]
    rfl
   | some wd=>
    have es:sbS ns zero kn bs g=zcb g ns (kn+1) ((zaD bs g (ns.take (kn+1))).set kn wd):=by
     unfold sbS
     rw[ea]
    have zw:=Sz.in2 a1.2.1 a1.2.2 (zj8 wd ea)
    refine zdV (n:=m) (k:=(kn:Int)) (j:=kn) (xs:=(zaD bs g (ns.take (kn+1))).map frD) (v:=frD wd) (λK hK=>?_) (λK hK=>by exact hK) (λK hK=>by exact hK) hf (by rw[Vaa,zdQ ik]; rfl) ?_
    ·refine zaB (o:=.lst ((zaD bs g (ns.take (kn+1))).map frD)) hf (zaQ ik) ?_
     refine⟨λe=>absurd (am.symm.trans e) (by rw[ea]; simp),λp e=>?_⟩
     cases (ea.symm.trans (am.symm.trans e))
     exact hK
    rw[ze7]
    have ik2:inR ((((zaD bs g (ns.take (kn+1))).set kn wd).length:Nat):Int) (kn:Int):=by rw[VaG]; exact ik
    refine zaB (o:=.lst (((zaD bs g (ns.take (kn+1))).set kn wd).map frD)) (zbm hf) (zaQ ik2) ?_
    refine⟨rfl,⟨by omega,by omega,by omega,by omega⟩,λt dl' S'=>t≤kn+1∧Pre S S'∧∃us:List (Int×Int),S'[m]?=some (.lst (us.map frD))∧us.length=kn+1∧Spn 1000 us∧zcb g ns (kn+1-t) us=sbS ns zero kn bs g∧∃u6 u7 u8 u9:Option D,dl'=[some (.ref a),some (.tup [.str w,.int (kn:Int)]),some (.ref b),some (.int g),some (.ref m),some (.int (zfh zero (gt (zaD bs g (ns.take (kn+1))) (kn:Int)))),u6,u7,u8,u9,none],⟨by omega,zbA prS lm',_,zbm hf,by rw[VaG]; exact l1,s1.set2 zw,es.symm,_,_,_,_,rfl⟩,?_⟩
    rintro t dl' S' ⟨ht,prt,us,hu,lu,su,eb,u6,u7,u8,u9,rfl⟩
    refine zeG (λtc=>?_) (λtc=>?_)
    ·have tc':t<kn+1:=by
      have z:t<((kn:Int) - -1).toNat:=tc
      omega
     obtain⟨j,ej⟩:∃j:Nat,kn=j+t:=⟨kn-t,by omega⟩
     have en:(kn:Int)-(t:Int)=(j:Int):=by omega
     have ek:kn+1-t=j+1:=by omega
     have hv:ns[j]?=some ns[j]:=Vaj (by omega)
     generalize ns[j]=v at hv
     have ok:v.ok us.length bs.length:=zoy (by omega) (net.ok j v hv).1
     have ij:inR ((us.length:Nat):Int) (j:Int):=⟨by omega,by omega⟩
     rw[en]
     rw[ek] at eb
     refine zaB (o:=.lst (ns.map Nd.d)) (prt _ _ ha) (zgQ hv) ?_
     refine zaB (o:=.lst (us.map frD)) hu (zaQ ij) ?_
     refine⟨v,us,bs.length,rfl,hu,ok,su,su.at ij,hg,λe T9 pr9=>?_,λl e T9 m9 pr9 lm9 h9=>?_⟩
     ·refine h1 ?_ _ (prt.trans pr9)
      unfold nwS
      rw[← eb,zo1 hv e]
      rfl
     have P:=v.bk_pts su (su.at ij).1 hg.1 l ok e
     rw[znG hv e] at eb
     have lS:m<S'.length:=zb9 hu
     refine zwR (n:=m9) (xs:=l.map ptD) (λi dl2 S2=>i≤l.length∧Pre S S2∧S2[m]?=some (.lst ((zbS us (l.take i)).map frD))∧S2[m9]?=some (.lst (l.map ptD))∧∃u8 u9:Option D,dl2=[some (.ref a),some (.tup [.str w,.int (kn:Int)]),some (.ref b),some (.int g),some (.ref m),some (.int (zfh zero (gt (zaD bs g (ns.take (kn+1))) (kn:Int)))),some (.int (j:Int)),some (.ref m9),u8,u9,none]) (λK hK=>by exact hK) ⟨Vax _,prt.trans pr9,pr9 _ _ hu,h9,_,_,rfl⟩ (λi dl2 S2 z=>z.2.2.2.1) (λk d hd=>by rw[Vae] at hd; obtain⟨q,_,rfl⟩:=Vai.mp hd; exact⟨_,rfl,rfl⟩) ?_ ?_
     ·rintro i ys dl2 S2 nx ct ex' ⟨hi,pr2,hu2,hl2,u8,u9,rfl⟩ hn
      rw[Vae] at ex'
      obtain⟨p,hp,ey⟩:=Vai.mp ex'
      cases ey
      have hi':=(Vac.mp hp).1
      have Pp:=P.2 p (Vak hp)
      have ipp:inR (((zbS us (l.take i)).length:Nat):Int) p.1:=by rw[zdZ]; exact Pp.1
      refine zdV (n:=m) (k:=p.1) (j:=p.1.toNat) (xs:=(zbS us (l.take i)).map frD) (v:=frD p.2) (λK hK=>by exact hK) (λK hK=>by exact hK) (λK hK=>by exact hK) hu2 (by rw[Vaa]; exact zdQ ipp) ?_
      rw[ze7,← zrf,← zbG hp]
      refine hn _ _ ⟨by omega,zbA pr2 lm',zbm hu2,zbk hl2 (by omega),_,_,rfl⟩
     ·rintro dl2 S2 ⟨hi,pr2,hu2,hl2,u8,u9,rfl⟩
      rw[Vaa,VaM] at hu2
      refine⟨by omega,pr2,_,hu2,by rw[zdZ]; exact lu,zlM l us su λp hp=>(P.2 p hp).2,?_,_,_,_,_,rfl⟩
      rw[show kn+1-(t+1)=j by omega]
      exact eb
    ·have tc':¬ t<kn+1:=λz=>tc (show t<((kn:Int) - -1).toNat by omega)
     rw[show kn+1-t=0 by omega] at eb
     have e9:nwS ns zero kn bs g=some (zbo bs (ns.zip us)):=by
      unfold nwS
      rw[← eb]
      rfl
     have lz:(ns.zip us).length=kn+1:=by rw[List.length_zip]; omega
     have lS:m<S'.length:=zb9 hu
     refine zli (za9 (prt _ _ hb) rfl) ?_
     refine⟨⟨by omega,by omega⟩,λi dl' S2=>i≤kn+1∧Pre S S2∧S2[m]?=some (.lst (us.map frD))∧S2[S'.length]?=some (.lst ((zbo bs ((ns.zip us).take i)).map frD))∧∃u6 u7 u8 u9:Option D,dl'=[some (.ref a),some (.tup [.str w,.int (kn:Int)]),some (.ref b),some (.int g),some (.ref m),some (.int (zfh zero (gt (zaD bs g (ns.take (kn+1))) (kn:Int)))),u6,u7,u8,u9,some (.ref S'.length)],⟨Vax _,zbz prt _,zaF hu,zaC _ _,_,_,_,_,rfl⟩,?_⟩
     rintro i dl' S2 ⟨hi,pr',hu',hl',u6,u7,u8,u9,rfl⟩
     refine zeG (λic=>?_) (λic=>?_)
     ·have ic':i<kn+1:=by
       have z:i<((kn:Int)+1).toNat:=ic
       omega
      have hp:us[i]?=some us[i]:=Vaj (by omega)
      have hv:ns[i]?=some ns[i]:=Vaj (by omega)
      have eu:us[i]=gt us (i:Int):=(gt_at hp).symm
      generalize us[i]=p at hp eu
      generalize ns[i]=v at hv
      have hz:=zp2 hv hp
      have iu:inR ((us.length:Nat):Int) (i:Int):=⟨by omega,by omega⟩
      have lp:=(zpd net rfl (us:=us) (bs:=bs) (λ_ _=>True) (λ_ _=>trivial) (λ_ _ _ _=>trivial) i (by omega)).1
      have es':zbo bs ((ns.zip us).take (i+1))=match v with
       | .unknown u=>(zbo bs ((ns.zip us).take i)).set u.toNat p
       | _=>zbo bs ((ns.zip us).take i):=by
       rw[zbG hz,zoj]
       cases v <;> rfl
      have okv:=(net.ok i v hv).1
      refine zaB (o:=.lst (ns.map Nd.d)) (pr' _ _ ha) (zgQ hv) ?_
      cases v with
      | unknown u=>
       have oku:inR (((zbo bs ((ns.zip us).take i)).length:Nat):Int) u:=by rw[lp]; exact okv
       refine zdV (n:=S'.length) (k:=u) (j:=u.toNat) (xs:=(zbo bs ((ns.zip us).take i)).map frD) (v:=frD p) (λK hK=>?_) (λK hK=>by exact hK) (λK hK=>?_) hl' (by rw[Vaa]; exact zdQ oku) ?_
       ·refine zaB (o:=.lst (us.map frD)) hu' (zaQ iu) ?_
        rw[← eu]
        exact hK
       ·refine zaB (o:=.lst (ns.map Nd.d)) (pr' _ _ ha) (zgQ hv) ?_
        exact hK
       rw[ze7]
       refine⟨by omega,zbA pr' (by omega),zbk hu' (by omega),?_,_,_,_,_,rfl⟩
       rw[es']
       exact zbm hl'
      | number _ _=>exact⟨by omega,pr',hu',by rw[es']; exact hl',_,_,_,_,rfl⟩
      | plus _ _=>exact⟨by omega,pr',hu',by rw[es']; exact hl',_,_,_,_,rfl⟩
      | minus _ _=>exact⟨by omega,pr',hu',by rw[es']; exact hl',_,_,_,_,rfl⟩
      | times _ _=>exact⟨by omega,pr',hu',by rw[es']; exact hl',_,_,_,_,rfl⟩
      | power _ _=>exact⟨by omega,pr',hu',by rw[es']; exact hl',_,_,_,_,rfl⟩
     ·have ei:i=kn+1:=by
       have z:¬ i<((kn:Int)+1).toNat:=ic
       omega
      subst ei
      rw[List.take_of_length_le (by omega)] at hl'
      exact h2 _ S2 S'.length e9 pr' (by omega) hl'
  ·exact h.elim⟩)
def zwP  (zkg:Df K mg "_law_whole" zm5 zg6)(zbT:mg "isinstance"=none)(zdI:mg "bool"=none)(zdo:mg "int"=none)(zfc:Kit K "bool")(ze8:Kit K "int"):Fk P w K mg base 1 "_law_whole" zg6 zhy:=
 zkg.mk' (zax (k:=0) zkg.F zrN (zrt) λcdv A outer s H E hr=>⟨_,(zag (zak (zk4 (zn3 ze8 rfl zbT rfl zdo Boot.«int» (dv 0)) (zoc (zsw (zn3 zfc rfl zbT rfl zdI Boot.«bool» (dv 0))))))),λds S Q ex h=>by
  unfold zhy at h
  split at h
  ·exact h
  ·exact h.elim⟩)
def zxm  (zlW:Df K mg "_law_span_is" zl2 zf0)(zjd:Fk P w K mg base 1 "_law_whole" zg6 zhy)(za1:mg "len"=none)(zbT:mg "isinstance"=none)(zdt:mg "tuple"=none)(zfE:Kit K "tuple"):Fk P w K mg base 2 "_law_span_is" zf0 zgs:=
 zlW.mk' (zax (k:=1) zlW.F zrq (zw0) λcdv A outer s H E hr=>⟨_,(zae (zau (PDW.pt (zcG (zmv (zc1 (zn3 zfE rfl zbT rfl zdt Boot.«tuple» (dv 0)))) (zcU (zar (zlN hr) (zaG zcp rfl za1 Boot.«len» (zaa (dv 0) zac)) zab (zap _))))) (zag (zak zdw)) zav) (zag (zak (zk4 (zaq zjd hr (zaa (zad (dv 0) zab (λ_ _=>rfl)) zac)) (zk4 (zaq zjd hr (zaa (zad (dv 0) zab (λ_ _=>rfl)) zac)) (zoc (zeg zcy (zad (dv 0) zab (λ_ _=>rfl)) (zad (dv 0) zab (λ_ _=>rfl)) (zap _)))))))),λds S Q ex h=>by
  unfold zgs at h
  split at h
  ·obtain⟨hab,h⟩:=h
   exact qt (Q:=Q) (decide_eq_true hab) h
  ·exact h.elim⟩)
def zuw  (zm1:Df K mg "_law_spans_are" zkn zgc)(znQ:Fk P w K mg base 2 "_law_span_is" zf0 zgs)(za1:mg "len"=none)(zbT:mg "isinstance"=none)(zby:mg "list"=none):Fk P w K mg base 3 "_law_spans_are" zgc zgf:=
 zm1.mk' (zax (k:=2) zm1.F zrd (zud) λcdv A outer s H E hr=>⟨_,(zae (zau (PDW.pt (zcG (zmv (zc1 (zrQ (zyi _) rfl zbT rfl zby Boot.«list» (dv 0)))) (zcU (zar (zlN hr) (zaG (zbh zcp) rfl za1 Boot.«len» (zaa (dv 0) zac)) (dv 1) (zap _))))) (zag (zak zdw)) zav) (zae (zcN (i:=2) PassesOwn.never rfl zrd.nd rfl (Or.inl rfl) (dv 0) (zag (zau (zmv (zc1 (zaq znQ hr (zaa (dv 2) zac)))) (zag (zak zdw)) zav))) (zag (zak zdw)))),λds S Q ex h=>by
  unfold zgf at h
  split at h
  ·rename_i a m
   obtain⟨vs,h1,rfl,hp,h⟩:=h
   refine zv2 (n:=a) (λK hK=>by exact hK) h1 ?_
   refine zbM ?_
   refine zcD h1 ?_
   rw[Vaa]
   refine ifN (λc=>absurd rfl c) (λ_=>?_)
   refine zcj (n:=a) (o:=.lst (vs.map frD)) (λk dl' S'=>S'=S∧∃u:Option D,dl'=[some (.ref a),some (.int (vs.length:Nat)),u]) ⟨rfl,_,rfl⟩ (λk dl' S' w=>by rw[w.1]; exact h1) ?_ (λdl' S' w=>by rw[w.1]; exact h)
   rintro k x dl' S' nx ct ex' ⟨rfl,u,rfl⟩ hn
   obtain⟨p,hpm,rfl⟩:=Va3.mp (Vak ex')
   refine⟨hp p hpm,?_⟩
   exact hn _ _ ⟨rfl,_,rfl⟩
  ·exact h.elim⟩)
def zru  (zjr:Df K mg "law" zdP zko)(zoR:Fk P w K mg base 7 "_law_narrowed" zgm zf4)(zoW:Fk P w K mg base 3 "_law_spans_are" zgc zgf)(zpe:Fk P w K mg base 9 "narrowed" zhs zgK)(zn4:Fk P w K mg base 6 "_law_drawn" zhM zgS)(zby:mg "list"=none)(za1:mg "len"=none):Fk P w K mg base 10 "law" zko zfq:=
 zjr.mk' (zax (k:=9) zjr.F zfA zuv λcdv A outer s H E hr=>⟨_,(zae (zwS (is:=[1,2,3,4]) rfl zfA.nd (Nms.cons (i:=1) rfl (Or.inl rfl) (by first | exact .inl rfl | exact .inr rfl) (Nms.cons (i:=2) rfl (Or.inl rfl) (by first | exact .inl rfl | exact .inr rfl) (Nms.cons (i:=3) rfl (Or.inl rfl) (by first | exact .inl rfl | exact .inr rfl) (Nms.cons (i:=4) rfl (Or.inl rfl) (by first | exact .inl rfl | exact .inr rfl) Nms.nil)))) (zaq zn4 hr (zaa (dv 0) zac))) (zae (zal (i:=5) zfA.nd rfl (Or.inl rfl) (zaG (zbh zcp) rfl za1 Boot.«len» (zaa (dv 2) zac))) (zae (zal (i:=6) zfA.nd rfl (Or.inl rfl) (zjL (zbh zly) rfl zby Boot.«list» (zaa (dv 3) zac))) (zae (zal (i:=7) zfA.nd rfl (Or.inl rfl) (zjL (zbh zly) rfl zby Boot.«list» (zaa (dv 2) zac))) (zae (zal (i:=8) zfA.nd rfl (Or.inl rfl) (zaq zpe hr (zaa (dv 6) (zaa (dv 4) (zaa (dv 7) (zaa (dv 1) zac)))))) (zae (zau (PDW.pt (zcY (zar zg3 (dv 8) zaK (zap _)) (zd9 (zmv (zc1 (zaq zoW hr (zaa (dv 8) (zaa (dv 5) zac)))))))) (zag (zak zdw)) zav) (zae (zau (zar (zyd hr) (dv 8) (zaq zoR hr (zaa (dv 3) (zaa (dv 4) (zaa (dv 2) (zaa (dv 1) zac))))) (zap _)) (zag (zak zdw)) zav) (zag (zak (zk4 (zeg (zq5 hr) (dv 6) (dv 3) (zap _)) (zoc (zeg (zq5 hr) (dv 7) (dv 2) (zap _))))))))))))),λds S Q ex h=>by
  obtain⟨ns,rfl,rfl,hl,h⟩:=h
  refine⟨ns,rfl,rfl,hl,λT0 g k bs vs ws m1 m2 w zero pr0 hg hB hN net sb lb l70 hw lk=>?_⟩
  have hkk:inR ((vs.length:Nat):Int) (k:Int):=⟨by omega,by omega⟩
  refine⟨rfl,?_⟩
  refine zcD hB ?_
  rw[Vaa]
  refine zli (za9 hN rfl) ?_
  refine zli (za9 (zaF hB) rfl) ?_
  have H1:=zaF (T:=[.lst (bs.map frD)]) (zaC T0 (.lst (vs.map Nd.d)))
  have O1:=zaC (T0++[.lst (vs.map Nd.d)]) (.lst (bs.map frD))
  have lf:∀ {n:Nat} {o:Ob},T0[n]?=some o→(T0++[Ob.lst (vs.map Nd.d)]++[Ob.lst (bs.map frD)])[n]?=some o:=λe=>zaF (zaF e)
  have N1:=lf hN
  have B1:=lf hB
  dsimp only
  refine zdX (λdl2 S3=>Pre (T0++[Ob.lst (vs.map Nd.d)]++[Ob.lst (bs.map frD)]) S3∧∃fd:D,FdAt (nwS vs zero k bs g) 0 S3 fd∧dl2=[some (.ref 0),some (.int g),some (.ref m1),some (.ref m2),some (.tup [.str w,.int (k:Int)]),some (.int ((bs.length:Nat):Int)),some (.ref T0.length),some (.ref (T0++[Ob.lst (vs.map Nd.d)]).length),some fd]) (λnx hn=>?_) ?_
  ·refine⟨vs,ws,bs,zero,H1,O1,hw,hkk,net,sb,hg,l70,?_,?_⟩
   ·rw[Vav]
    intro e T3 pr3
    exact hn _ _ ⟨pr3,.non,.inl ⟨rfl,e⟩,rfl⟩
   ·rw[Vav]
    intro r T3 mf e pr3 lm3 hr
    obtain⟨lr,sr⟩:=zxX net sb hg lk e
    refine⟨r,hr,by rw[lr],λp hp=>(sr p hp).1,?_⟩
    exact hn _ _ ⟨pr3,.ref mf,.inr ⟨r,mf,rfl,e,hr,Vax _⟩,rfl⟩
  rintro dl2 S3 ⟨prU,fd,hfd,rfl⟩
  refine⟨vs,ws,bs,zero,prU _ _ N1,prU _ _ B1,hw,hkk,net,sb,hg,l70,?_,?_⟩
  ·rw[Vav]
   intro e T4 pr4
   rcases hfd with ⟨rfl,_⟩ | ⟨r,mf,rfl,er,_⟩
   ·refine zuI ?_
    refine zbM ?_
    refine zlq (b:=true) (pr4 _ _ (prU _ _ H1)) (pr4 _ _ (prU _ _ N1)) (zoA _) ?_
    refine zlq (b:=true) (pr4 _ _ (prU _ _ O1)) (pr4 _ _ (prU _ _ B1)) (zjG _) ?_
    exact h _
   ·exact absurd (e.symm.trans er) (by simp)
  ·rw[Vav]
   intro r T4 m4 e pr4 lm4 hr4
   rcases hfd with ⟨rfl,en⟩ | ⟨r',mf,rfl,er,hmf,_⟩
   ·exact absurd (en.symm.trans e) (by simp)
   ·cases (er.symm.trans e)
    refine zuo (k:=1) (b:=true) (za9 (pr4 _ _ hmf) rfl) (za9 hr4 rfl) (zjG _) ?_
    refine zbM ?_
    refine zlq (b:=true) (pr4 _ _ (prU _ _ H1)) (pr4 _ _ (prU _ _ N1)) (zoA _) ?_
    refine zlq (b:=true) (pr4 _ _ (prU _ _ O1)) (pr4 _ _ (prU _ _ B1)) (zjG _) ?_
    exact h _⟩)
end
theorem zvc {l:PySem.W.OpenLaw}{w:World}{K:PySem.W.Frag}{h:Heap}{mg:Str→Option Value}{fa:Addr}(X:K.In h)(G:h.Ns mainGlobals mg)(hfa:mg "law"=some (.ref fa))
  {zcm:Addr}(zmp:PySem.W.nsIn K mainGlobals "Number"=some (some (.ref zcm)))(zj7:PySem.W.plainGet K zcm Str.empty=true)(zmt:PySem.W.hasDictIn K zcm=true)(zmG:PySem.W.plainOver K zcm=true)(zkx:PySem.W.findIn K (.ref zcm) "__setattr__"=some (some (.builtin "object.__setattr__")))(zj9:PySem.W.makesIn K zcm=true)(zjS:PySem.W.keepIn K (.ref zcm)=true)
  (zjl:PySem.W.findIn K (.ref zcm) "bottom"=some none)
  (zis:PySem.W.findIn K (.ref zcm) "top"=some none)
  {zcx:Addr}(ziu:PySem.W.nsIn K mainGlobals "Unknown"=some (some (.ref zcx)))(ziW:PySem.W.plainGet K zcx Str.empty=true)(ziS:PySem.W.hasDictIn K zcx=true)(zme:PySem.W.plainOver K zcx=true)(zjU:PySem.W.findIn K (.ref zcx) "__setattr__"=some (some (.builtin "object.__setattr__")))(zkm:PySem.W.makesIn K zcx=true)(zkW:PySem.W.keepIn K (.ref zcx)=true)
  (zl5:PySem.W.findIn K (.ref zcx) "place"=some none)
  {zbU:Addr}(zkI:PySem.W.nsIn K mainGlobals "Plus"=some (some (.ref zbU)))(zki:PySem.W.plainGet K zbU Str.empty=true)(znm:PySem.W.hasDictIn K zbU=true)(zjs:PySem.W.plainOver K zbU=true)(zkp:PySem.W.findIn K (.ref zbU) "__setattr__"=some (some (.builtin "object.__setattr__")))(zkP:PySem.W.makesIn K zbU=true)(zl3:PySem.W.keepIn K (.ref zbU)=true)
  (zk3:PySem.W.findIn K (.ref zbU) "other"=some none)
  (ziI:PySem.W.findIn K (.ref zbU) "one"=some none)
  {zbW:Addr}(znk:PySem.W.nsIn K mainGlobals "Minus"=some (some (.ref zbW)))(zmU:PySem.W.plainGet K zbW Str.empty=true)(zm3:PySem.W.hasDictIn K zbW=true)(zjJ:PySem.W.plainOver K zbW=true)(zjQ:PySem.W.findIn K (.ref zbW) "__setattr__"=some (some (.builtin "object.__setattr__")))(zma:PySem.W.makesIn K zbW=true)(zmh:PySem.W.keepIn K (.ref zbW)=true)
  (zjm:PySem.W.findIn K (.ref zbW) "other"=some none)
  (zmS:PySem.W.findIn K (.ref zbW) "one"=some none)
  {zbR:Addr}(zlY:PySem.W.nsIn K mainGlobals "Times"=some (some (.ref zbR)))(ziD:PySem.W.plainGet K zbR Str.empty=true)(zlS:PySem.W.hasDictIn K zbR=true)(ziT:PySem.W.plainOver K zbR=true)(zkM:PySem.W.findIn K (.ref zbR) "__setattr__"=some (some (.builtin "object.__setattr__")))(zks:PySem.W.makesIn K zbR=true)(zi5:PySem.W.keepIn K (.ref zbR)=true)
  (zkB:PySem.W.findIn K (.ref zbR) "other"=some none)
  (zm7:PySem.W.findIn K (.ref zbR) "one"=some none)
  {zcl:Addr}(zll:PySem.W.nsIn K mainGlobals "Power"=some (some (.ref zcl)))(zlR:PySem.W.plainGet K zcl Str.empty=true)(zmq:PySem.W.hasDictIn K zcl=true)(zjz:PySem.W.plainOver K zcl=true)(zjP:PySem.W.findIn K (.ref zcl) "__setattr__"=some (some (.builtin "object.__setattr__")))(zlH:PySem.W.makesIn K zcl=true)(znj:PySem.W.keepIn K (.ref zcl)=true)
  (zlA:PySem.W.findIn K (.ref zcl) "many"=some none)
  (zlJ:PySem.W.findIn K (.ref zcl) "one"=some none)
  {f0 h0:Addr}{m0:Value}(a0:nsA K "_law_grid" f0)(l0:lkA K f0 "_law_grid" "_law_grid" zjK m0 h0)(c0:cdA K h0 "_law_grid")
  {f1 h1:Addr}{m1:Value}(a1:nsA K "_law_divisor" f1)(l1:lkA K f1 "_law_divisor" "_law_divisor" zkr m1 h1)(c1:cdA K h1 "_law_divisor")
  {f2 h2:Addr}{m2:Value}(a2:nsA K "_law_fraction" f2)(l2:lkA K f2 "_law_fraction" "_law_fraction" zmy m2 h2)(c2:cdA K h2 "_law_fraction")
  {f3 h3:Addr}{m3:Value}(a3:nsA K "_law_number" f3)(l3:lkA K f3 "_law_number" "_law_number" zlB m3 h3)(c3:cdA K h3 "_law_number")
  {f4 h4:Addr}{m4:Value}(a4:nsA K "_law_node" f4)(l4:lkA K f4 "_law_node" "_law_node" zkE m4 h4)(c4:cdA K h4 "_law_node")
  {f5 h5:Addr}{m5:Value}(a5:nsA K "_law_weight" f5)(l5:lkA K f5 "_law_weight" "_law_weight" zkt m5 h5)(c5:cdA K h5 "_law_weight")
  {f6 h6:Addr}{m6:Value}(a6:nsA K "_law_net" f6)(l6:lkA K f6 "_law_net" "_law_net" zeo m6 h6)(c6:cdA K h6 "_law_net")
  {f7 h7:Addr}{m7:Value}(a7:nsA K "_law_power" f7)(l7:lkA K f7 "_law_power" "_law_power" zmC m7 h7)(c7:cdA K h7 "_law_power")
  {f8 h8:Addr}{m8:Value}(a8:nsA K "_law_forth" f8)(l8:lkA K f8 "_law_forth" "_law_forth" zmx m8 h8)(c8:cdA K h8 "_law_forth")
  {f9 h9:Addr}{m9:Value}(a9:nsA K "_law_worths" f9)(l9:lkA K f9 "_law_worths" "_law_worths" zky m9 h9)(c9:cdA K h9 "_law_worths")
  {f10 h10:Addr}{m10:Value}(a10:nsA K "_law_row_by" f10)(l10:lkA K f10 "_law_row_by" "_law_row_by" zkA m10 h10)(c10:cdA K h10 "_law_row_by")
  {f11 h11:Addr}{m11:Value}(a11:nsA K "_law_digit_span" f11)(l11:lkA K f11 "_law_digit_span" "_law_digit_span" zm4 m11 h11)(c11:cdA K h11 "_law_digit_span")
  {f12 h12:Addr}{m12:Value}(a12:nsA K "_law_digit_node" f12)(l12:lkA K f12 "_law_digit_node" "_law_digit_node" zkJ m12 h12)(c12:cdA K h12 "_law_digit_node")
  {f13 h13:Addr}{m13:Value}(a13:nsA K "_law_by_digits" f13)(l13:lkA K f13 "_law_by_digits" "_law_by_digits" zfJ m13 h13)(c13:cdA K h13 "_law_by_digits")
  {f14 h14:Addr}{m14:Value}(a14:nsA K "_law_cell" f14)(l14:lkA K f14 "_law_cell" "_law_cell" zlQ m14 h14)(c14:cdA K h14 "_law_cell")
  {f15 h15:Addr}{m15:Value}(a15:nsA K "_law_span" f15)(l15:lkA K f15 "_law_span" "_law_span" zlG m15 h15)(c15:cdA K h15 "_law_span")
  {f16 h16:Addr}{m16:Value}(a16:nsA K "_law_drawn" f16)(l16:lkA K f16 "_law_drawn" "_law_drawn" zfZ m16 h16)(c16:cdA K h16 "_law_drawn")
  {f17 h17:Addr}{m17:Value}(a17:nsA K "less" f17)(l17:lkA K f17 "less" "less" zjC m17 h17)(c17:cdA K h17 "less")
  {f18 h18:Addr}{m18:Value}(a18:nsA K "rounded_up" f18)(l18:lkA K f18 "rounded_up" "rounded_up" zit m18 h18)(c18:cdA K h18 "rounded_up")
  {f19 h19:Addr}{m19:Value}(a19:nsA K "span_of" f19)(l19:lkA K f19 "span_of" "span_of" zke m19 h19)(c19:cdA K h19 "span_of")
  {f20 h20:Addr}{m20:Value}(a20:fdA K zcm "forth" f20)(l20:lkA K f20 "forth" "Number.forth" zlb m20 h20)(c20:cdA K h20 "Number.forth")
  {f21 h21:Addr}{m21:Value}(a21:fdA K zcx "forth" f21)(l21:lkA K f21 "forth" "Unknown.forth" zl0 m21 h21)(c21:cdA K h21 "Unknown.forth")
  {f22 h22:Addr}{m22:Value}(a22:nsA K "add_spans" f22)(l22:lkA K f22 "add_spans" "add_spans" zmJ m22 h22)(c22:cdA K h22 "add_spans")
  {f23 h23:Addr}{m23:Value}(a23:fdA K zbU "forth" f23)(l23:lkA K f23 "forth" "Plus.forth" zmW m23 h23)(c23:cdA K h23 "Plus.forth")
  {f24 h24:Addr}{m24:Value}(a24:nsA K "take_spans" f24)(l24:lkA K f24 "take_spans" "take_spans" zmK m24 h24)(c24:cdA K h24 "take_spans")
  {f25 h25:Addr}{m25:Value}(a25:fdA K zbW "forth" f25)(l25:lkA K f25 "forth" "Minus.forth" zkF m25 h25)(c25:cdA K h25 "Minus.forth")
  {f26 h26:Addr}{m26:Value}(a26:nsA K "mul_spans" f26)(l26:lkA K f26 "mul_spans" "mul_spans" zkl m26 h26)(c26:cdA K h26 "mul_spans")
  {f27 h27:Addr}{m27:Value}(a27:fdA K zbR "forth" f27)(l27:lkA K f27 "forth" "Times.forth" ziC m27 h27)(c27:cdA K h27 "Times.forth")
  {f28 h28:Addr}{m28:Value}(a28:nsA K "raised" f28)(l28:lkA K f28 "raised" "raised" zkH m28 h28)(c28:cdA K h28 "raised")
  {f29 h29:Addr}{m29:Value}(a29:nsA K "raise_span" f29)(l29:lkA K f29 "raise_span" "raise_span" zhO m29 h29)(c29:cdA K h29 "raise_span")
  {f30 h30:Addr}{m30:Value}(a30:fdA K zcl "forth" f30)(l30:lkA K f30 "forth" "Power.forth" zkV m30 h30)(c30:cdA K h30 "Power.forth")
  {f31 h31:Addr}{m31:Value}(a31:fdA K zcl "__init__" f31)(l31:lkA K f31 "__init__" "Power.__init__" ziH m31 h31)(c31:cdA K h31 "Power.__init__")
  {f32 h32:Addr}{m32:Value}(a32:fdA K zcm "__init__" f32)(l32:lkA K f32 "__init__" "Number.__init__" zlX m32 h32)(c32:cdA K h32 "Number.__init__")
  {f33 h33:Addr}{m33:Value}(a33:fdA K zcx "__init__" f33)(l33:lkA K f33 "__init__" "Unknown.__init__" ziE m33 h33)(c33:cdA K h33 "Unknown.__init__")
  {f34 h34:Addr}{m34:Value}(a34:fdA K zbU "__init__" f34)(l34:lkA K f34 "__init__" "Pair.__init__" zmF m34 h34)(c34:cdA K h34 "Pair.__init__")
  {f35 h35:Addr}{m35:Value}(a35:fdA K zbW "__init__" f35)(l35:lkA K f35 "__init__" "Pair.__init__" zi6 m35 h35)(c35:cdA K h35 "Pair.__init__")
  {f36 h36:Addr}{m36:Value}(a36:fdA K zbR "__init__" f36)(l36:lkA K f36 "__init__" "Pair.__init__" ziw m36 h36)(c36:cdA K h36 "Pair.__init__")
  {f37 h37:Addr}{m37:Value}(a37:nsA K "kind_of" f37)(l37:lkA K f37 "kind_of" "kind_of" zmc m37 h37)(c37:cdA K h37 "kind_of")
  {f38 h38:Addr}{m38:Value}(a38:nsA K "worths" f38)(l38:lkA K f38 "worths" "worths" zjx m38 h38)(c38:cdA K h38 "worths")
  {f39 h39:Addr}{m39:Value}(a39:nsA K "common" f39)(l39:lkA K f39 "common" "common" ziP m39 h39)(c39:cdA K h39 "common")
  {f40 h40:Addr}{m40:Value}(a40:nsA K "asked_of" f40)(l40:lkA K f40 "asked_of" "asked_of" znh m40 h40)(c40:cdA K h40 "asked_of")
  {f41 h41:Addr}{m41:Value}(a41:fdA K zcm "back" f41)(l41:lkA K f41 "back" "Number.back" zlU m41 h41)(c41:cdA K h41 "Number.back")
  {f42 h42:Addr}{m42:Value}(a42:fdA K zcx "back" f42)(l42:lkA K f42 "back" "Unknown.back" zlP m42 h42)(c42:cdA K h42 "Unknown.back")
  {f43 h43:Addr}{m43:Value}(a43:fdA K zbU "first_left" f43)(l43:lkA K f43 "first_left" "Plus.first_left" zlr m43 h43)(c43:cdA K h43 "Plus.first_left")
  {f44 h44:Addr}{m44:Value}(a44:fdA K zbU "second_left" f44)(l44:lkA K f44 "second_left" "Plus.second_left" zk6 m44 h44)(c44:cdA K h44 "Plus.second_left")
  {f45 h45:Addr}{m45:Value}(a45:fdA K zbU "back" f45)(l45:lkA K f45 "back" "Pair.back" zju m45 h45)(c45:cdA K h45 "Pair.back")
  {f46 h46:Addr}{m46:Value}(a46:fdA K zbW "first_left" f46)(l46:lkA K f46 "first_left" "Minus.first_left" zjB m46 h46)(c46:cdA K h46 "Minus.first_left")
  {f47 h47:Addr}{m47:Value}(a47:fdA K zbW "second_left" f47)(l47:lkA K f47 "second_left" "Minus.second_left" zjh m47 h47)(c47:cdA K h47 "Minus.second_left")
  {f48 h48:Addr}{m48:Value}(a48:fdA K zbW "back" f48)(l48:lkA K f48 "back" "Pair.back" zmV m48 h48)(c48:cdA K h48 "Pair.back")
  {f49 h49:Addr}{m49:Value}(a49:nsA K "holds_nought" f49)(l49:lkA K f49 "holds_nought" "holds_nought" zix m49 h49)(c49:cdA K h49 "holds_nought")
  {f50 h50:Addr}{m50:Value}(a50:nsA K "part_between" f50)(l50:lkA K f50 "part_between" "part_between" zjc m50 h50)(c50:cdA K h50 "part_between")
  {f51 h51:Addr}{m51:Value}(a51:nsA K "quotient" f51)(l51:lkA K f51 "quotient" "quotient" zjE m51 h51)(c51:cdA K h51 "quotient")
  {f52 h52:Addr}{m52:Value}(a52:nsA K "back_by_side" f52)(l52:lkA K f52 "back_by_side" "back_by_side" zm6 m52 h52)(c52:cdA K h52 "back_by_side")
  {f53 h53:Addr}{m53:Value}(a53:nsA K "hull" f53)(l53:lkA K f53 "hull" "hull" zkC m53 h53)(c53:cdA K h53 "hull")
  {f54 h54:Addr}{m54:Value}(a54:nsA K "joined" f54)(l54:lkA K f54 "joined" "joined" zkv m54 h54)(c54:cdA K h54 "joined")
  {f55 h55:Addr}{m55:Value}(a55:nsA K "opposite" f55)(l55:lkA K f55 "opposite" "opposite" ziz m55 h55)(c55:cdA K h55 "opposite")
  {f56 h56:Addr}{m56:Value}(a56:nsA K "back_times" f56)(l56:lkA K f56 "back_times" "back_times" zkZ m56 h56)(c56:cdA K h56 "back_times")
  {f57 h57:Addr}{m57:Value}(a57:fdA K zbR "first_left" f57)(l57:lkA K f57 "first_left" "Times.first_left" zlk m57 h57)(c57:cdA K h57 "Times.first_left")
  {f58 h58:Addr}{m58:Value}(a58:fdA K zbR "second_left" f58)(l58:lkA K f58 "second_left" "Times.second_left" zml m58 h58)(c58:cdA K h58 "Times.second_left")
  {f59 h59:Addr}{m59:Value}(a59:fdA K zbR "back" f59)(l59:lkA K f59 "back" "Pair.back" ziv m59 h59)(c59:cdA K h59 "Pair.back")
  {f60 h60:Addr}{m60:Value}(a60:nsA K "next_guess" f60)(l60:lkA K f60 "next_guess" "next_guess" zlj m60 h60)(c60:cdA K h60 "next_guess")
  {f61 h61:Addr}{m61:Value}(a61:nsA K "root_below" f61)(l61:lkA K f61 "root_below" "root_below" zms m61 h61)(c61:cdA K h61 "root_below")
  {f62 h62:Addr}{m62:Value}(a62:nsA K "root" f62)(l62:lkA K f62 "root" "root" zg1 m62 h62)(c62:cdA K h62 "root")
  {f63 h63:Addr}{m63:Value}(a63:nsA K "back_power" f63)(l63:lkA K f63 "back_power" "back_power" zlK m63 h63)(c63:cdA K h63 "back_power")
  {f64 h64:Addr}{m64:Value}(a64:fdA K zcl "back" f64)(l64:lkA K f64 "back" "Power.back" zle m64 h64)(c64:cdA K h64 "Power.back")
  {f65 h65:Addr}{m65:Value}(a65:nsA K "spans_back" f65)(l65:lkA K f65 "spans_back" "spans_back" zmN m65 h65)(c65:cdA K h65 "spans_back")
  {f66 h66:Addr}{m66:Value}(a66:nsA K "narrowed" f66)(l66:lkA K f66 "narrowed" "narrowed" zlL m66 h66)(c66:cdA K h66 "narrowed")
  {f67 h67:Addr}{m67:Value}(a67:nsA K "_law_meet" f67)(l67:lkA K f67 "_law_meet" "_law_meet" zlC m67 h67)(c67:cdA K h67 "_law_meet")
  {f68 h68:Addr}{m68:Value}(a68:nsA K "_law_hulled" f68)(l68:lkA K f68 "_law_hulled" "_law_hulled" zdT m68 h68)(c68:cdA K h68 "_law_hulled")
  {f69 h69:Addr}{m69:Value}(a69:nsA K "_law_kept" f69)(l69:lkA K f69 "_law_kept" "_law_kept" zka m69 h69)(c69:cdA K h69 "_law_kept")
  {f70 h70:Addr}{m70:Value}(a70:nsA K "_law_pieces" f70)(l70:lkA K f70 "_law_pieces" "_law_pieces" ziM m70 h70)(c70:cdA K h70 "_law_pieces")
  {f71 h71:Addr}{m71:Value}(a71:nsA K "_law_quot" f71)(l71:lkA K f71 "_law_quot" "_law_quot" zgl m71 h71)(c71:cdA K h71 "_law_quot")
  {f72 h72:Addr}{m72:Value}(a72:nsA K "_law_half" f72)(l72:lkA K f72 "_law_half" "_law_half" zk0 m72 h72)(c72:cdA K h72 "_law_half")
  {f73 h73:Addr}{m73:Value}(a73:nsA K "_law_root" f73)(l73:lkA K f73 "_law_root" "_law_root" zkY m73 h73)(c73:cdA K h73 "_law_root")
  {f74 h74:Addr}{m74:Value}(a74:nsA K "_law_down" f74)(l74:lkA K f74 "_law_down" "_law_down" zlf m74 h74)(c74:cdA K h74 "_law_down")
  {f75 h75:Addr}{m75:Value}(a75:nsA K "_law_root_kept" f75)(l75:lkA K f75 "_law_root_kept" "_law_root_kept" zkX m75 h75)(c75:cdA K h75 "_law_root_kept")
  {f76 h76:Addr}{m76:Value}(a76:nsA K "_law_rooted" f76)(l76:lkA K f76 "_law_rooted" "_law_rooted" zjq m76 h76)(c76:cdA K h76 "_law_rooted")
  {f77 h77:Addr}{m77:Value}(a77:nsA K "_law_back" f77)(l77:lkA K f77 "_law_back" "_law_back" zmA m77 h77)(c77:cdA K h77 "_law_back")
  {f78 h78:Addr}{m78:Value}(a78:nsA K "_law_narrowed" f78)(l78:lkA K f78 "_law_narrowed" "_law_narrowed" zlD m78 h78)(c78:cdA K h78 "_law_narrowed")
  {f79 h79:Addr}{m79:Value}(a79:nsA K "_law_whole" f79)(l79:lkA K f79 "_law_whole" "_law_whole" zm5 m79 h79)(c79:cdA K h79 "_law_whole")
  {f80 h80:Addr}{m80:Value}(a80:nsA K "_law_span_is" f80)(l80:lkA K f80 "_law_span_is" "_law_span_is" zl2 m80 h80)(c80:cdA K h80 "_law_span_is")
  {f81 h81:Addr}{m81:Value}(a81:nsA K "_law_spans_are" f81)(l81:lkA K f81 "_law_spans_are" "_law_spans_are" zkn m81 h81)(c81:cdA K h81 "_law_spans_are")
  {f82 h82:Addr}{m82:Value}(a82:nsA K "law" f82)(l82:lkA K f82 "law" "law" zdP m82 h82)(c82:cdA K h82 "law")
  (zbi:PySem.W.nsIn K mainGlobals "abs"=some none)
  (za1:PySem.W.nsIn K mainGlobals "len"=some none)
  (zbe:PySem.W.nsIn K mainGlobals "range"=some none)
  (zaE:PySem.W.nsIn K mainGlobals "max"=some none)
  (zaU:PySem.W.nsIn K mainGlobals "min"=some none)
  (zdM:PySem.W.nsIn K mainGlobals "enumerate"=some none)
  (zby:PySem.W.nsIn K mainGlobals "list"=some none)
  (zbT:PySem.W.nsIn K mainGlobals "isinstance"=some none)
  (zdI:PySem.W.nsIn K mainGlobals "bool"=some none)
  (zdo:PySem.W.nsIn K mainGlobals "int"=some none)
  (zdt:PySem.W.nsIn K mainGlobals "tuple"=some none)
  (zfc:Kit K "bool")
  (ze8:Kit K "int")
  (zfE:Kit K "tuple")
  :∃fd:FuncData,(∀(s:Shared) (v:Value),BindsTo s fd ⟨[v],[]⟩ [("_law_script",v)])∧∀base:Heap,K.In base→base.Ns mainGlobals mg→zbc l.prog w K mg base (CXE l.prog w) 10 fa fd ["_law_script"] (upF K zfq):=by
 have e:=hfa.symm.trans (PySem.W.mg_of X G a82)
 cases e
 let zan:zbE K mg:=⟨zcm,PySem.W.mg_of X G zmp,⟨zj7,zmt,zmG,zkx⟩,zjl,zis,zj9,zjS⟩
 let zao:zbH K mg:=⟨zcx,PySem.W.mg_of X G ziu,⟨ziW,ziS,zme,zjU⟩,zl5,zkm,zkW⟩
 let zaj:zbx K mg:=⟨zbU,PySem.W.mg_of X G zkI,⟨zki,znm,zjs,zkp⟩,zk3,ziI,zkP,zl3⟩
 let zah:zbt K mg:=⟨zbW,PySem.W.mg_of X G znk,⟨zmU,zm3,zjJ,zjQ⟩,zjm,zmS,zma,zmh⟩
 let zai:zbr K mg:=⟨zbR,PySem.W.mg_of X G zlY,⟨ziD,zlS,ziT,zkM⟩,zkB,zm7,zks,zi5⟩
 let zam:zbD K mg:=⟨zcl,PySem.W.mg_of X G zll,⟨zlR,zmq,zjz,zjP⟩,zlA,zlJ,zlH,znj⟩
 let zi9:Df K mg "_law_grid" zjK zhD:=dfo X G a0 l0 c0 λ_ _ _ _ _ _=>ln1 λ_=>rfl
 let zkG:Df K mg "_law_divisor" zkr zh6:=dfo X G a1 l1 c1 λ_ _ _ _ _ _=>ln2 λ_ _=>rfl
 let znc:Df K mg "_law_fraction" zmy zd0:=dfo X G a2 l2 c2 λ_ _ _ _ _ _=>ln2 λ_ _=>rfl
 let zk8:Df K mg "_law_number" zlB zhf:=dfo X G a3 l3 c3 λ_ _ _ _ _ _=>ln1 λ_=>rfl
 let zmu:Df K mg "_law_node" zkE zhY:=dfo X G a4 l4 c4 λ_ _ _ _ _ _=>ln3 λ_ _ _=>rfl
 let zlu:Df K mg "_law_weight" zkt zfo:=dfo X G a5 l5 c5 λ_ _ _ _ _ _=>ln2 λ_ _=>rfl
 let ziY:Df K mg "_law_net" zeo zgX:=dfo X G a6 l6 c6 λ_ _ _ _ _ _=>ln5 λ_ _ _ _ _=>rfl
 let zmk:Df K mg "_law_power" zmC zdp:=dfo X G a7 l7 c7 λ_ _ _ _ _ _=>ln2 λ_ _=>rfl
 let zkQ:Df K mg "_law_forth" zmx zgu:=dfo X G a8 l8 c8 λ_ _ _ _ _ _=>ln4 λ_ _ _ _=>rfl
 let zjZ:Df K mg "_law_worths" zky zfr:=dfo X G a9 l9 c9 λ_ _ _ _ _ _=>ln3 λ_ _ _=>rfl
 let zk9:Df K mg "_law_row_by" zkA zgh:=dfo X G a10 l10 c10 λ_ _ _ _ _ _=>ln5 λ_ _ _ _ _=>rfl
 let zlv:Df K mg "_law_digit_span" zm4 zhW:=dfo X G a11 l11 c11 λ_ _ _ _ _ _=>ln1 λ_=>rfl
 let zlV:Df K mg "_law_digit_node" zkJ zhF:=dfo X G a12 l12 c12 λ_ _ _ _ _ _=>ln3 λ_ _ _=>rfl
 let ziV:Df K mg "_law_by_digits" zfJ zh2:=dfo X G a13 l13 c13 λ_ _ _ _ _ _=>ln1 λ_=>rfl
 let ziZ:Df K mg "_law_cell" zlQ zh1:=dfo X G a14 l14 c14 λ_ _ _ _ _ _=>ln2 λ_ _=>rfl
 let zir:Df K mg "_law_span" zlG zgJ:=dfo X G a15 l15 c15 λ_ _ _ _ _ _=>ln1 λ_=>rfl
 let zj6:Df K mg "_law_drawn" zfZ zhM:=dfo X G a16 l16 c16 λ_ _ _ _ _ _=>ln1 λ_=>rfl
 let zmL:Df K mg "less" zjC zgT:=dfo X G a17 l17 c17 λ_ _ _ _ _ _=>ln2 λ_ _=>rfl
 let zku:Df K mg "rounded_up" zit zdG:=dfo X G a18 l18 c18 λ_ _ _ _ _ _=>ln2 λ_ _=>rfl
 let zmE:Df K mg "span_of" zke zhK:=dfo X G a19 l19 c19 λ_ _ _ _ _ _=>ln3 λ_ _ _=>rfl
 let zj2:Dm K zan.C "forth" "Number.forth" zlb zgR:=dmo a20 l20 c20 λ_ _ _ _ _ _=>ln4 λ_ _ _ _=>rfl
 let zjp:Dm K zao.C "forth" "Unknown.forth" zl0 zhR:=dmo a21 l21 c21 λ_ _ _ _ _ _=>ln4 λ_ _ _ _=>rfl
 let zlE:Df K mg "add_spans" zmJ zeR:=dfo X G a22 l22 c22 λ_ _ _ _ _ _=>ln2 λ_ _=>rfl
 let zmD:Dm K zaj.C "forth" "Plus.forth" zmW zhC:=dmo a23 l23 c23 λ_ _ _ _ _ _=>ln4 λ_ _ _ _=>rfl
 let zmQ:Df K mg "take_spans" zmK zdr:=dfo X G a24 l24 c24 λ_ _ _ _ _ _=>ln2 λ_ _=>rfl
 let zjD:Dm K zah.C "forth" "Minus.forth" zkF zhu:=dmo a25 l25 c25 λ_ _ _ _ _ _=>ln4 λ_ _ _ _=>rfl
 let zkD:Df K mg "mul_spans" zkl zgd:=dfo X G a26 l26 c26 λ_ _ _ _ _ _=>ln3 λ_ _ _=>rfl
 let zlT:Dm K zai.C "forth" "Times.forth" ziC zf6:=dmo a27 l27 c27 λ_ _ _ _ _ _=>ln4 λ_ _ _ _=>rfl
 let zlF:Df K mg "raised" zkH zdf:=dfo X G a28 l28 c28 λ_ _ _ _ _ _=>ln2 λ_ _=>rfl
 let zjY:Df K mg "raise_span" zhO zf8:=dfo X G a29 l29 c29 λ_ _ _ _ _ _=>ln3 λ_ _ _=>rfl
 let zmr:Dm K zam.C "forth" "Power.forth" zkV zib:=dmo a30 l30 c30 λ_ _ _ _ _ _=>ln4 λ_ _ _ _=>rfl
 let zmR:Dm K zam.C "__init__" "Power.__init__" ziH zht:=dmo a31 l31 c31 λ_ _ _ _ _ _=>ln3 λ_ _ _=>rfl
 let zlg:Dm K zan.C "__init__" "Number.__init__" zlX zhN:=dmo a32 l32 c32 λ_ _ _ _ _ _=>ln3 λ_ _ _=>rfl
 let zkR:Dm K zao.C "__init__" "Unknown.__init__" ziE zhh:=dmo a33 l33 c33 λ_ _ _ _ _ _=>ln2 λ_ _=>rfl
 let zlw:Dm K zaj.C "__init__" "Pair.__init__" zmF zh8:=dmo a34 l34 c34 λ_ _ _ _ _ _=>ln3 λ_ _ _=>rfl
 let zmT:Dm K zah.C "__init__" "Pair.__init__" zi6 zfU:=dmo a35 l35 c35 λ_ _ _ _ _ _=>ln3 λ_ _ _=>rfl
 let zlh:Dm K zai.C "__init__" "Pair.__init__" ziw zgH:=dmo a36 l36 c36 λ_ _ _ _ _ _=>ln3 λ_ _ _=>rfl
 let zlz:Df K mg "kind_of" zmc zer:=dfo X G a37 l37 c37 λ_ _ _ _ _ _=>ln1 λ_=>rfl
 let zl8:Df K mg "worths" zjx zhc:=dfo X G a38 l38 c38 λ_ _ _ _ _ _=>ln3 λ_ _ _=>rfl
 let ziU:Df K mg "common" ziP zde:=dfo X G a39 l39 c39 λ_ _ _ _ _ _=>ln2 λ_ _=>rfl
 let zmf:Df K mg "asked_of" znh zho:=dfo X G a40 l40 c40 λ_ _ _ _ _ _=>ln2 λ_ _=>rfl
 let zmO:Dm K zan.C "back" "Number.back" zlU zhx:=dmo a41 l41 c41 λ_ _ _ _ _ _=>ln4 λ_ _ _ _=>rfl
 let zkL:Dm K zao.C "back" "Unknown.back" zlP zii:=dmo a42 l42 c42 λ_ _ _ _ _ _=>ln4 λ_ _ _ _=>rfl
 let zji:Dm K zaj.C "first_left" "Plus.first_left" zlr zg9:=dmo a43 l43 c43 λ_ _ _ _ _ _=>ln5 λ_ _ _ _ _=>rfl
 let zl4:Dm K zaj.C "second_left" "Plus.second_left" zk6 zhZ:=dmo a44 l44 c44 λ_ _ _ _ _ _=>ln5 λ_ _ _ _ _=>rfl
 let ziK:Dm K zaj.C "back" "Pair.back" zju zfT:=dmo a45 l45 c45 λ_ _ _ _ _ _=>ln4 λ_ _ _ _=>rfl
 let zj3:Dm K zah.C "first_left" "Minus.first_left" zjB zhP:=dmo a46 l46 c46 λ_ _ _ _ _ _=>ln5 λ_ _ _ _ _=>rfl
 let ziB:Dm K zah.C "second_left" "Minus.second_left" zjh zhr:=dmo a47 l47 c47 λ_ _ _ _ _ _=>ln5 λ_ _ _ _ _=>rfl
 let zjH:Dm K zah.C "back" "Pair.back" zmV zgU:=dmo a48 l48 c48 λ_ _ _ _ _ _=>ln4 λ_ _ _ _=>rfl
 let ziq:Df K mg "holds_nought" zix zif:=dfo X G a49 l49 c49 λ_ _ _ _ _ _=>ln1 λ_=>rfl
 let zkT:Df K mg "part_between" zjc zez:=dfo X G a50 l50 c50 λ_ _ _ _ _ _=>ln3 λ_ _ _=>rfl
 let zlZ:Df K mg "quotient" zjE zgF:=dfo X G a51 l51 c51 λ_ _ _ _ _ _=>ln2 λ_ _=>rfl
 let zmY:Df K mg "back_by_side" zm6 zgt:=dfo X G a52 l52 c52 λ_ _ _ _ _ _=>ln3 λ_ _ _=>rfl
 let zlc:Df K mg "hull" zkC zgi:=dfo X G a53 l53 c53 λ_ _ _ _ _ _=>ln2 λ_ _=>rfl
 let znn:Df K mg "joined" zkv zeM:=dfo X G a54 l54 c54 λ_ _ _ _ _ _=>ln2 λ_ _=>rfl
 let zld:Df K mg "opposite" ziz zdE:=dfo X G a55 l55 c55 λ_ _ _ _ _ _=>ln1 λ_=>rfl
 let zim:Df K mg "back_times" zkZ zeX:=dfo X G a56 l56 c56 λ_ _ _ _ _ _=>ln4 λ_ _ _ _=>rfl
 let zjV:Dm K zai.C "first_left" "Times.first_left" zlk zgW:=dmo a57 l57 c57 λ_ _ _ _ _ _=>ln5 λ_ _ _ _ _=>rfl
 let zkk:Dm K zai.C "second_left" "Times.second_left" zml zf1:=dmo a58 l58 c58 λ_ _ _ _ _ _=>ln5 λ_ _ _ _ _=>rfl
 let zlt:Dm K zai.C "back" "Pair.back" ziv zf3:=dmo a59 l59 c59 λ_ _ _ _ _ _=>ln4 λ_ _ _ _=>rfl
 let zi3:Df K mg "next_guess" zlj zhg:=dfo X G a60 l60 c60 λ_ _ _ _ _ _=>ln3 λ_ _ _=>rfl
 let zj5:Df K mg "root_below" zms ze1:=dfo X G a61 l61 c61 λ_ _ _ _ _ _=>ln2 λ_ _=>rfl
 let zc7:Df K mg "root" zg1 zcZ:=dfo X G a62 l62 c62 λ_ _ _ _ _ _=>ln2 λ_ _=>rfl
 let zlx:Df K mg "back_power" zlK zg5:=dfo X G a63 l63 c63 λ_ _ _ _ _ _=>ln4 λ_ _ _ _=>rfl
 let ziy:Dm K zam.C "back" "Power.back" zle zfS:=dmo a64 l64 c64 λ_ _ _ _ _ _=>ln4 λ_ _ _ _=>rfl
 let zls:Df K mg "spans_back" zmN zhw:=dfo X G a65 l65 c65 λ_ _ _ _ _ _=>ln4 λ_ _ _ _=>rfl
 let zjo:Df K mg "narrowed" zlL zhs:=dfo X G a66 l66 c66 λ_ _ _ _ _ _=>ln4 λ_ _ _ _=>rfl
 let zmM:Df K mg "_law_meet" zlC zeJ:=dfo X G a67 l67 c67 λ_ _ _ _ _ _=>ln2 λ_ _=>rfl
 let zj1:Df K mg "_law_hulled" zdT zeA:=dfo X G a68 l68 c68 λ_ _ _ _ _ _=>ln1 λ_=>rfl
 let ziA:Df K mg "_law_kept" zka zh4:=dfo X G a69 l69 c69 λ_ _ _ _ _ _=>ln2 λ_ _=>rfl
 let ziJ:Df K mg "_law_pieces" ziM zhG:=dfo X G a70 l70 c70 λ_ _ _ _ _ _=>ln3 λ_ _ _=>rfl
 let zkU:Df K mg "_law_quot" zgl zg0:=dfo X G a71 l71 c71 λ_ _ _ _ _ _=>ln4 λ_ _ _ _=>rfl
 let zmP:Df K mg "_law_half" zk0 zhe:=dfo X G a72 l72 c72 λ_ _ _ _ _ _=>ln6 λ_ _ _ _ _ _=>rfl
 let znd:Df K mg "_law_root" zkY zhS:=dfo X G a73 l73 c73 λ_ _ _ _ _ _=>ln3 λ_ _ _=>rfl
 let zja:Df K mg "_law_down" zlf zfY:=dfo X G a74 l74 c74 λ_ _ _ _ _ _=>ln3 λ_ _ _=>rfl
 let zln:Df K mg "_law_root_kept" zkX zhQ:=dfo X G a75 l75 c75 λ_ _ _ _ _ _=>ln4 λ_ _ _ _=>rfl
 let zl1:Df K mg "_law_rooted" zjq zf7:=dfo X G a76 l76 c76 λ_ _ _ _ _ _=>ln4 λ_ _ _ _=>rfl
 let zjN:Df K mg "_law_back" zmA zhz:=dfo X G a77 l77 c77 λ_ _ _ _ _ _=>ln4 λ_ _ _ _=>rfl
 let zne:Df K mg "_law_narrowed" zlD zgm:=dfo X G a78 l78 c78 λ_ _ _ _ _ _=>ln4 λ_ _ _ _=>rfl
 let zkg:Df K mg "_law_whole" zm5 zg6:=dfo X G a79 l79 c79 λ_ _ _ _ _ _=>ln1 λ_=>rfl
 let zlW:Df K mg "_law_span_is" zl2 zf0:=dfo X G a80 l80 c80 λ_ _ _ _ _ _=>ln1 λ_=>rfl
 let zm1:Df K mg "_law_spans_are" zkn zgc:=dfo X G a81 l81 c81 λ_ _ _ _ _ _=>ln2 λ_ _=>rfl
 let zjr:Df K mg "law" zdP zko:=dfo X G a82 l82 c82 λ_ _ _ _ _ _=>ln1 λ_=>rfl
 have zbi:=PySem.W.mg_none_of X G zbi
 have za1:=PySem.W.mg_none_of X G za1
 have zbe:=PySem.W.mg_none_of X G zbe
 have zaE:=PySem.W.mg_none_of X G zaE
 have zaU:=PySem.W.mg_none_of X G zaU
 have zdM:=PySem.W.mg_none_of X G zdM
 have zby:=PySem.W.mg_none_of X G zby
 have zbT:=PySem.W.mg_none_of X G zbT
 have zdI:=PySem.W.mg_none_of X G zdI
 have zdo:=PySem.W.mg_none_of X G zdo
 have zdt:=PySem.W.mg_none_of X G zdt
 refine⟨PySem.W.fnOf "law" "law" (zeh zdP) (zc0 zdP) (zas zdP) .none .none .none m82 none (.ref h82) .none,λs v=>.of_eq rfl,λbase _ _=>?_⟩
 let zo6:=ztc (P:=l.prog) (w:=w) (base:=base) zi9
 let znr:=zsp (P:=l.prog) (w:=w) (base:=base) zkG
 let zcM:=ztp (P:=l.prog) (w:=w) (base:=base) znc znr zbi
 let zor:=zxS (P:=l.prog) (w:=w) (base:=base) zk8 zcM
 let znN:=zyk (P:=l.prog) (w:=w) (base:=base) zmu zor
 let zeW:=zv4 (P:=l.prog) (w:=w) (base:=base) zlu
 let zn6:=zrx (P:=l.prog) (w:=w) (base:=base) ziY zeW znN za1 zbe
 let zb4:=zxH (P:=l.prog) (w:=w) (base:=base) zmk zbe
 let zn2:=ztf (P:=l.prog) (w:=w) (base:=base) zkQ zb4 zaE zaU
 let zfs:=zsn (P:=l.prog) (w:=w) (base:=base) zjZ zn2
 let zoh:=zus (P:=l.prog) (w:=w) (base:=base) zk9 zcM zfs zbi zaE za1
 let znJ:=zx7 (P:=l.prog) (w:=w) (base:=base) zlv
 let zoi:=ztT (P:=l.prog) (w:=w) (base:=base) zlV zcM
 let zoZ:=zvV (P:=l.prog) (w:=w) (base:=base) ziV zeW zoi znJ za1 zbe zbi
 let zd8:=zt1 (P:=l.prog) (w:=w) (base:=base) ziZ za1
 let znB:=zuF (P:=l.prog) (w:=w) (base:=base) zir zaU
 let zn4:=zvt (P:=l.prog) (w:=w) (base:=base) zj6 zoh zd8 zn6 znB zo6 zoZ zbe
 let zop:=ztP (P:=l.prog) (w:=w) (base:=base) zmL
 let zcs:=zuL (P:=l.prog) (w:=w) (base:=base) zku
 let zoX:=zsQ (P:=l.prog) (w:=w) (base:=base) zmE zcs zop
 let zos:=zsP (P:=l.prog) (w:=w) (base:=base) zan zao zaj zah zai zam zj2 zoX
 let zoO:=zx0 (P:=l.prog) (w:=w) (base:=base) zao zan zaj zah zai zam zjp
 let zfb:=zuJ (P:=l.prog) (w:=w) (base:=base) zlE
 let zoI:=zsC (P:=l.prog) (w:=w) (base:=base) zaj zan zao zah zai zam zmD zfb
 let zcw:=zv8 (P:=l.prog) (w:=w) (base:=base) zmQ
 let zo3:=zsi (P:=l.prog) (w:=w) (base:=base) zah zan zao zaj zai zam zjD zcw
 let znO:=zs9 (P:=l.prog) (w:=w) (base:=base) zkD zcs zaE zaU
 let znY:=zv3 (P:=l.prog) (w:=w) (base:=base) zai zan zao zaj zah zam zlT znO
 let zbJ:=zsk (P:=l.prog) (w:=w) (base:=base) zlF zbe
 let zoY:=zv5 (P:=l.prog) (w:=w) (base:=base) zjY zcs zbJ zaE zaU
 let zou:=zts (P:=l.prog) (w:=w) (base:=base) zam zan zao zaj zah zai zmr zoY
 let ze2:=zsr (P:=l.prog) (w:=w) (base:=base) zam zmR
 let zfm:=zuN (P:=l.prog) (w:=w) (base:=base) zan zlg
 let zfu:=zur (P:=l.prog) (w:=w) (base:=base) zao zkR
 let zeP:=zsJ (P:=l.prog) (w:=w) (base:=base) zaj zlw
 let zeT:=zty (P:=l.prog) (w:=w) (base:=base) zah zmT
 let zfx:=zsD (P:=l.prog) (w:=w) (base:=base) zai zlh
 let zeY:=zr6 (P:=l.prog) (w:=w) (base:=base) zam zai zah zaj zao zan zlz ze2 zfx zeT zeP zfu zfm
 let zok:=zvK (P:=l.prog) (w:=w) (base:=base) zam zai zah zaj zao zan zl8 zou znY zo3 zoI zoO zos zeY
 let zbN:=zwN (P:=l.prog) (w:=w) (base:=base) ziU zaU zaE
 let zno:=zxR (P:=l.prog) (w:=w) (base:=base) zmf zbN zaE
 let zn8:=zv0 (P:=l.prog) (w:=w) (base:=base) zan zao zaj zah zai zam zmO
 let zn1:=zxZ (P:=l.prog) (w:=w) (base:=base) zan zao zaj zah zai zam zkL
 let zgw:=zw3 (P:=l.prog) (w:=w) (base:=base) zaj zji zbN zcw
 let zgg:=zwi (P:=l.prog) (w:=w) (base:=base) zaj zl4 zbN zcw
 let zpc:=zsy (P:=l.prog) (w:=w) (base:=base) zaj zan zao zah zai zam ziK zgg zgw
 let zh3:=zw2 (P:=l.prog) (w:=w) (base:=base) zah zj3 zbN zfb
 let zg2:=zt0 (P:=l.prog) (w:=w) (base:=base) zah ziB zbN zcw
 let zo4:=ztV (P:=l.prog) (w:=w) (base:=base) zah zan zao zaj zai zam zjH zg2 zh3
 let zni:=ztA (P:=l.prog) (w:=w) (base:=base) ziq
 let zdL:=zxq (P:=l.prog) (w:=w) (base:=base) zkT zaU zaE
 let zjF:=zw4 (P:=l.prog) (w:=w) (base:=base) zlZ zcs
 let zjv:=zuc (P:=l.prog) (w:=w) (base:=base) zmY zdL zjF
 let zpf:=zuM (P:=l.prog) (w:=w) (base:=base) zlc zaE zaU
 let zfg:=zs1 (P:=l.prog) (w:=w) (base:=base) znn zpf
 let zcg:=zwf (P:=l.prog) (w:=w) (base:=base) zld
 let zfN:=zuO (P:=l.prog) (w:=w) (base:=base) zim zfg zjv zcg zni zaE
 let zgq:=zrZ (P:=l.prog) (w:=w) (base:=base) zai zjV zfN
 let zgC:=zu7 (P:=l.prog) (w:=w) (base:=base) zai zkk zfN
 let zoS:=zr4 (P:=l.prog) (w:=w) (base:=base) zai zan zao zaj zah zam zlt zgC zgq
 let zkc:=zsI (P:=l.prog) (w:=w) (base:=base) zi3 zbJ
 let zeU:=zuP (P:=l.prog) (w:=w) (base:=base) zj5 zkc
 let N_root:=Df.never (P:=l.prog) (w:=w) (base:=base) 0 zc7
 let ztG:=ztI (P:=l.prog) (w:=w) (base:=base) zc7 zbJ zeU zcg N_root
 let zfj:=zuH (P:=l.prog) (w:=w) (base:=base) zc7 zbJ zeU zcg ztG
 let zns:=zw8 (P:=l.prog) (w:=w) (base:=base) zlx zfg zdL zcg zfj zbJ zaE
 let znF:=zvv (P:=l.prog) (w:=w) (base:=base) zam zan zao zaj zah zai ziy zns
 let zo0:=zv1 (P:=l.prog) (w:=w) (base:=base) zam zai zah zaj zao zan zls znF zoS zo4 zpc zn1 zn8 zeY zno zok zbe
 let zpe:=zyx (P:=l.prog) (w:=w) (base:=base) zjo zo0 zdM zby
 let zdC:=zyg (P:=l.prog) (w:=w) (base:=base) zmM zaU zaE
 let zeE:=zxr (P:=l.prog) (w:=w) (base:=base) zj1 zaE zaU za1
 let zpa:=zvP (P:=l.prog) (w:=w) (base:=base) ziA zaU zaE
 let znv:=ztg (P:=l.prog) (w:=w) (base:=base) ziJ zbi
 let zpk:=zxz (P:=l.prog) (w:=w) (base:=base) zkU zeE znv zpa
 let zjT:=zwv (P:=l.prog) (w:=w) (base:=base) zmP zdC zpk
 let zm8:=zuK (P:=l.prog) (w:=w) (base:=base) znd zb4
 let zfC:=zwT (P:=l.prog) (w:=w) (base:=base) zja zb4 zm8
 let zhl:=zva (P:=l.prog) (w:=w) (base:=base) zln zfC zaU zaE zbi
 let znD:=zxV (P:=l.prog) (w:=w) (base:=base) zl1 zeE zhl zb4 zaE
 let znU:=zrH (P:=l.prog) (w:=w) (base:=base) zjN zjT znD
 let zoR:=zsm (P:=l.prog) (w:=w) (base:=base) zne znU zdC zfs zbe zby zaE
 let zjd:=zwP (P:=l.prog) (w:=w) (base:=base) zkg zbT zdI zdo zfc ze8
 let znQ:=zxm (P:=l.prog) (w:=w) (base:=base) zlW zjd za1 zbT zdt zfE
 let zoW:=zuw (P:=l.prog) (w:=w) (base:=base) zm1 znQ za1 zbT zby
 let G_law:=zru (P:=l.prog) (w:=w) (base:=base) zjr zoR zoW zpe zn4 zby za1
 exact G_law.ok
end Mine
open PySem PySem.W PyProof.Rows
set_option maxRecDepth 100003 in
set_option maxHeartbeats 0 in
theorem PySem.Challenge.cw_boxnarrow_k37_whole_narrowing_by_a_model_holds : PySem.Challenge.rw_boxnarrow_k37_whole_narrowing_by_a_model.Holds := by
 w_on; refine PySem.W.holds_law Mine.ws_eq λsaid=>?_
 refine PySem.W.holds_open (q:=Mine.vw) (loose:=[]) (Xt:=Mine.xt) (XP:=XL Mine.vw []) (Yf:=Hook.obs (kHook Mine.kp Mine.ks Mine.zeq)) (Ya:=Hook.val (kHook Mine.kp Mine.ks Mine.zeq))
  (YP:=Hook.says (kHook Mine.kp Mine.ks Mine.zeq)) (N:=10580) Mine.left (Hook.of (kHook Mine.kp Mine.ks Mine.zeq)) (Hook.keeps (kHook Mine.kp Mine.ks Mine.zeq)) (λs e=>xl_of s (Bool.and_eq_true_iff.mp e).1) XL.keeps
  (by rfl) (by rfl) (by rfl) (λs e=>recFacts_of (Bool.and_eq_true_iff.mp e).2) (by rfl) (by first | assumption | decide +kernel)
  (by decide +kernel) ⟨rfl,rfl,rfl,rfl,rfl,by decide +kernel⟩ ?hw ?hc
 (case hw=>w_witness2)
 k_fill
 refine L3.zrF (l:=PySem.Challenge.rw_boxnarrow_k37_whole_narrowing_by_a_model) (x:="_law_script") 10 rfl rfl ⟨rfl,by decide,by decide⟩ (λw h Y=>PySem.W.kIn_of Y) ?F
 case F=>
  intro w mg fa h KX G hmg
  refine' Mine.zvc KX G hmg (zmp:=?zmp) (zj7:=?zj7) (zmt:=?zmt) (zmG:=?zmG) (zkx:=?zkx) (zj9:=?zj9) (zjS:=?zjS) (zjl:=?zjl) (zis:=?zis) (ziu:=?ziu) (ziW:=?ziW) (ziS:=?ziS) (zme:=?zme) (zjU:=?zjU) (zkm:=?zkm) (zkW:=?zkW) (zl5:=?zl5) (zkI:=?zkI) (zki:=?zki) (znm:=?znm) (zjs:=?zjs) (zkp:=?zkp) (zkP:=?zkP) (zl3:=?zl3) (zk3:=?zk3) (ziI:=?ziI) (znk:=?znk) (zmU:=?zmU) (zm3:=?zm3) (zjJ:=?zjJ) (zjQ:=?zjQ) (zma:=?zma) (zmh:=?zmh) (zjm:=?zjm) (zmS:=?zmS) (zlY:=?zlY) (ziD:=?ziD) (zlS:=?zlS) (ziT:=?ziT) (zkM:=?zkM) (zks:=?zks) (zi5:=?zi5) (zkB:=?zkB) (zm7:=?zm7) (zll:=?zll) (zlR:=?zlR) (zmq:=?zmq) (zjz:=?zjz) (zjP:=?zjP) (zlH:=?zlH) (znj:=?znj) (zlA:=?zlA) (zlJ:=?zlJ) (a0:=?a0) (l0:=?l0) (c0:=?c0) (a1:=?a1) (l1:=?l1) (c1:=?c1) (a2:=?a2) (l2:=?l2) (c2:=?c2) (a3:=?a3) (l3:=?l3) (c3:=?c3) (a4:=?a4) (l4:=?l4) (c4:=?c4) (a5:=?a5) (l5:=?l5) (c5:=?c5) (a6:=?a6) (l6:=?l6) (c6:=?c6) (a7:=?a7) (l7:=?l7) (c7:=?c7) (a8:=?a8) (l8:=?l8) (c8:=?c8) (a9:=?a9) (l9:=?l9) (c9:=?c9) (a10:=?a10) (l10:=?l10) (c10:=?c10) (a11:=?a11) (l11:=?l11) (c11:=?c11) (a12:=?a12) (l12:=?l12) (c12:=?c12) (a13:=?a13) (l13:=?l13) (c13:=?c13) (a14:=?a14) (l14:=?l14) (c14:=?c14) (a15:=?a15) (l15:=?l15) (c15:=?c15) (a16:=?a16) (l16:=?l16) (c16:=?c16) (a17:=?a17) (l17:=?l17) (c17:=?c17) (a18:=?a18) (l18:=?l18) (c18:=?c18) (a19:=?a19) (l19:=?l19) (c19:=?c19) (a20:=?a20) (l20:=?l20) (c20:=?c20) (a21:=?a21) (l21:=?l21) (c21:=?c21) (a22:=?a22) (l22:=?l22) (c22:=?c22) (a23:=?a23) (l23:=?l23) (c23:=?c23) (a24:=?a24) (l24:=?l24) (c24:=?c24) (a25:=?a25) (l25:=?l25) (c25:=?c25) (a26:=?a26) (l26:=?l26) (c26:=?c26) (a27:=?a27) (l27:=?l27) (c27:=?c27) (a28:=?a28) (l28:=?l28) (c28:=?c28) (a29:=?a29) (l29:=?l29) (c29:=?c29) (a30:=?a30) (l30:=?l30) (c30:=?c30) (a31:=?a31) (l31:=?l31) (c31:=?c31) (a32:=?a32) (l32:=?l32) (c32:=?c32) (a33:=?a33) (l33:=?l33) (c33:=?c33) (a34:=?a34) (l34:=?l34) (c34:=?c34) (a35:=?a35) (l35:=?l35) (c35:=?c35) (a36:=?a36) (l36:=?l36) (c36:=?c36) (a37:=?a37) (l37:=?l37) (c37:=?c37) (a38:=?a38) (l38:=?l38) (c38:=?c38) (a39:=?a39) (l39:=?l39) (c39:=?c39) (a40:=?a40) (l40:=?l40) (c40:=?c40) (a41:=?a41) (l41:=?l41) (c41:=?c41) (a42:=?a42) (l42:=?l42) (c42:=?c42) (a43:=?a43) (l43:=?l43) (c43:=?c43) (a44:=?a44) (l44:=?l44) (c44:=?c44) (a45:=?a45) (l45:=?l45) (c45:=?c45) (a46:=?a46) (l46:=?l46) (c46:=?c46) (a47:=?a47) (l47:=?l47) (c47:=?c47) (a48:=?a48) (l48:=?l48) (c48:=?c48) (a49:=?a49) (l49:=?l49) (c49:=?c49) (a50:=?a50) (l50:=?l50) (c50:=?c50) (a51:=?a51) (l51:=?l51) (c51:=?c51) (a52:=?a52) (l52:=?l52) (c52:=?c52) (a53:=?a53) (l53:=?l53) (c53:=?c53) (a54:=?a54) (l54:=?l54) (c54:=?c54) (a55:=?a55) (l55:=?l55) (c55:=?c55) (a56:=?a56) (l56:=?l56) (c56:=?c56) (a57:=?a57) (l57:=?l57) (c57:=?c57) (a58:=?a58) (l58:=?l58) (c58:=?c58) (a59:=?a59) (l59:=?l59) (c59:=?c59) (a60:=?a60) (l60:=?l60) (c60:=?c60) (a61:=?a61) (l61:=?l61) (c61:=?c61) (a62:=?a62) (l62:=?l62) (c62:=?c62) (a63:=?a63) (l63:=?l63) (c63:=?c63) (a64:=?a64) (l64:=?l64) (c64:=?c64) (a65:=?a65) (l65:=?l65) (c65:=?c65) (a66:=?a66) (l66:=?l66) (c66:=?c66) (a67:=?a67) (l67:=?l67) (c67:=?c67) (a68:=?a68) (l68:=?l68) (c68:=?c68) (a69:=?a69) (l69:=?l69) (c69:=?c69) (a70:=?a70) (l70:=?l70) (c70:=?c70) (a71:=?a71) (l71:=?l71) (c71:=?c71) (a72:=?a72) (l72:=?l72) (c72:=?c72) (a73:=?a73) (l73:=?l73) (c73:=?c73) (a74:=?a74) (l74:=?l74) (c74:=?c74) (a75:=?a75) (l75:=?l75) (c75:=?c75) (a76:=?a76) (l76:=?l76) (c76:=?c76) (a77:=?a77) (l77:=?l77) (c77:=?c77) (a78:=?a78) (l78:=?l78) (c78:=?c78) (a79:=?a79) (l79:=?l79) (c79:=?c79) (a80:=?a80) (l80:=?l80) (c80:=?c80) (a81:=?a81) (l81:=?l81) (c81:=?c81) (a82:=?a82) (l82:=?l82) (c82:=?c82) (zbi:=?zbi) (za1:=?za1) (zbe:=?zbe) (zaE:=?zaE) (zaU:=?zaU) (zdM:=?zdM) (zby:=?zby) (zbT:=?zbT) (zdI:=?zdI) (zdo:=?zdo) (zdt:=?zdt) (zfc:=?zfc) (ze8:=?ze8) (zfE:=?zfE)
  (case zmp | zj7 | zmt | zmG | zkx | zj9 | zjS | zjl | zis | ziu | ziW | ziS | zme | zjU | zkm | zkW | zl5 | zkI | zki | znm | zjs | zkp | zkP | zl3 | zk3 | ziI | znk | zmU | zm3 | zjJ | zjQ | zma | zmh | zjm | zmS | zlY | ziD | zlS | ziT | zkM | zks | zi5 | zkB | zm7 | zll | zlR | zmq | zjz | zjP | zlH | znj | zlA | zlJ | zbi | za1 | zbe | zaE | zaU | zdM | zby | zbT | zdI | zdo | zdt=>k_is)
  (case a0 | a1 | a2 | a3 | a4 | a5 | a6 | a7 | a8 | a9 | a10 | a11 | a12 | a13 | a14 | a15 | a16 | a17 | a18 | a19 | a22 | a24 | a26 | a28 | a29 | a37 | a38 | a39 | a40 | a49 | a50 | a51 | a52 | a53 | a54 | a55 | a56 | a60 | a61 | a62 | a63 | a65 | a66 | a67 | a68 | a69 | a70 | a71 | a72 | a73 | a74 | a75 | a76 | a77 | a78 | a79 | a80 | a81 | a82=>delta Mine.nsA; k_is)
  (case a20 | a21 | a23 | a25 | a27 | a30 | a31 | a32 | a33 | a34 | a35 | a36 | a41 | a42 | a43 | a44 | a45 | a46 | a47 | a48 | a57 | a58 | a59 | a64=>delta Mine.fdA; k_is)
  (case l0 | l1 | l2 | l3 | l4 | l5 | l6 | l7 | l8 | l9 | l10 | l11 | l12 | l13 | l14 | l15 | l16 | l17 | l18 | l19 | l20 | l21 | l22 | l23 | l24 | l25 | l26 | l27 | l28 | l29 | l30 | l31 | l32 | l33 | l34 | l35 | l36 | l37 | l38 | l39 | l40 | l41 | l42 | l43 | l44 | l45 | l46 | l47 | l48 | l49 | l50 | l51 | l52 | l53 | l54 | l55 | l56 | l57 | l58 | l59 | l60 | l61 | l62 | l63 | l64 | l65 | l66 | l67 | l68 | l69 | l70 | l71 | l72 | l73 | l74 | l75 | l76 | l77 | l78 | l79 | l80 | l81 | l82=>delta Mine.lkA; k_is)
  (case c0 | c1 | c2 | c3 | c4 | c5 | c6 | c7 | c8 | c9 | c10 | c11 | c12 | c13 | c14 | c15 | c16 | c17 | c18 | c19 | c20 | c21 | c22 | c23 | c24 | c25 | c26 | c27 | c28 | c29 | c30 | c31 | c32 | c33 | c34 | c35 | c36 | c37 | c38 | c39 | c40 | c41 | c42 | c43 | c44 | c45 | c46 | c47 | c48 | c49 | c50 | c51 | c52 | c53 | c54 | c55 | c56 | c57 | c58 | c59 | c60 | c61 | c62 | c63 | c64 | c65 | c66 | c67 | c68 | c69 | c70 | c71 | c72 | c73 | c74 | c75 | c76 | c77 | c78 | c79 | c80 | c81 | c82=>delta Mine.cdA; k_is)
  (case zfc=>exact L3.zow _ _ (by simp))
  (case ze8=>exact L3.zow _ _ (by simp))
  (case zfE=>exact L3.zow _ _ (by simp))
