import PyProof.Rows.All
import Wide.All
import OpenK.AllK
import Wide.FinOn
import Lean
import PyProof.EqAt
import PyProof.EqKinds
import PyProof.TupleCall
import PySem.Challenge.RW_boxnarrow_k33_narrowed_keeps_answers
theorem Vaa:type_of% @Nat.le_refl:=@Nat.le_refl
theorem Vab:type_of% @List.getElem?_eq_some_iff:=@List.getElem?_eq_some_iff
theorem Vac:type_of% @List.length_map:=@List.length_map
theorem Vad:type_of% @Int.pow_succ:=@Int.pow_succ
theorem Vae:type_of% @Int.neg_mul:=@Int.neg_mul
theorem Vaf:type_of% @Int.mul_le_mul_of_nonneg_right:=@Int.mul_le_mul_of_nonneg_right
theorem Vag:type_of% @Int.toNat_natCast:=@Int.toNat_natCast
theorem Vah:type_of% @Int.mul_nonneg:=@Int.mul_nonneg
theorem Vai:type_of% @List.mem_cons:=@List.mem_cons
theorem Vaj:type_of% @List.length_take:=@List.length_take
theorem Vak:type_of% @Int.pow_pos:=@Int.pow_pos
theorem Val:type_of% @Bool.false_ne_true:=@Bool.false_ne_true
theorem Vam:type_of% @List.size_toArray:=@List.size_toArray
theorem Van:type_of% @List.getElem?_eq_getElem:=@List.getElem?_eq_getElem
theorem Vao:type_of% @List.getElem?_append_left:=@List.getElem?_append_left
theorem Vap:type_of% @List.getElem?_map:=@List.getElem?_map
theorem Vaq:type_of% @Int.le_of_lt:=@Int.le_of_lt
theorem Var:type_of% @Nat.lt_of_lt_of_le:=@Nat.lt_of_lt_of_le
theorem Vas:type_of% @Nat.ne_of_lt:=@Nat.ne_of_lt
theorem Vat:type_of% @List.lookup_cons:=@List.lookup_cons
theorem Vau:type_of% @List.map_cons:=@List.map_cons
theorem Vav:type_of% @Int.mul_comm:=@Int.mul_comm
theorem Vaw:type_of% @List.getD_eq_getElem?_getD:=@List.getD_eq_getElem?_getD
theorem Vax:type_of% @List.length_append:=@List.length_append
theorem Vay:type_of% @Option.map_eq_some_iff:=@Option.map_eq_some_iff
theorem Vaz:type_of% @List.mem_of_getElem?:=@List.mem_of_getElem?
theorem VaA:type_of% @Int.mul_pow:=@Int.mul_pow
theorem VaB:type_of% @Nat.le_trans:=@Nat.le_trans
theorem VaC:type_of% @Nat.zero_le:=@Nat.zero_le
theorem VaD:type_of% @Int.pow_nonneg:=@Int.pow_nonneg
theorem VaE:type_of% @List.length_cons:=@List.length_cons
theorem VaF:type_of% @List.length_set:=@List.length_set
theorem VaG:type_of% @List.mem_cons_of_mem:=@List.mem_cons_of_mem
theorem VaH:type_of% @List.mem_append_right:=@List.mem_append_right
theorem VaI:type_of% @List.mem_iff_getElem:=@List.mem_iff_getElem
theorem VaJ:type_of% @Nat.lt_irrefl:=@Nat.lt_irrefl
theorem VaK:type_of% @List.getElem?_append_right:=@List.getElem?_append_right
theorem VaL:type_of% @Int.le_refl:=@Int.le_refl
theorem VaM:type_of% @List.not_mem_nil:=@List.not_mem_nil
theorem VaN:type_of% @List.map_append:=@List.map_append
theorem VaO:type_of% @List.mem_singleton:=@List.mem_singleton
theorem VaP:type_of% @Int.pow_zero:=@Int.pow_zero
theorem VaQ:type_of% @List.getElem?_eq_none_iff:=@List.getElem?_eq_none_iff
theorem VaR:type_of% @List.getElem?_set_ne:=@List.getElem?_set_ne
theorem VaS:type_of% @List.find?_cons:=@List.find?_cons
theorem VaT:type_of% @Int.mul_zero:=@Int.mul_zero
theorem VaU:type_of% @Int.mul_pos:=@Int.mul_pos
theorem VaV:type_of% @Nat.le_of_lt:=@Nat.le_of_lt
theorem VaW:type_of% @List.mem_cons_self:=@List.mem_cons_self
theorem VaX:type_of% @List.mem_append:=@List.mem_append
theorem VaY:type_of% @List.getElem?_set_self:=@List.getElem?_set_self
theorem VaZ:type_of% @Nat.lt_of_le_of_lt:=@Nat.lt_of_le_of_lt
theorem Va0:type_of% @List.length_nil:=@List.length_nil
theorem Va1:type_of% @Int.le_of_mul_le_mul_right:=@Int.le_of_mul_le_mul_right
theorem Va2:type_of% @List.take_length:=@List.take_length
theorem Va3:type_of% @List.append_nil:=@List.append_nil
theorem Va4:type_of% @Int.mul_le_mul_of_nonneg_left:=@Int.mul_le_mul_of_nonneg_left
theorem Va5:type_of% @Int.mul_neg:=@Int.mul_neg
theorem Va6:type_of% @Int.le_total:=@Int.le_total
theorem Va7:type_of% @Int.le_trans:=@Int.le_trans
set_option Elab.async false
set_option linter.all false
set_option maxRecDepth 100000
set_option genSizeOf false
set_option maxHeartbeats 40000000
namespace L2
open PySem PySem.Spec PyProof.Rows
def zaG (s:Stmt)(j:Nat):Stmt:=match s with
 | .ClassDef _ _ _ body _ _ _ _ _ _ _=>body.getD j (.Pass ⟨0,0,0,0⟩)
 | _=>.Pass ⟨0,0,0,0⟩
def zdE (s:Stmt):Arguments:=match s with
 | .FunctionDef _ a _ _ _ _ _ _ _ _=>a
 | _=>{ posonlyargs:=[],args:=[],vararg:=none,kwonlyargs:=[],kw_defaults:=[],kwarg:=none,defaults:=[] }
def zcO (s:Stmt):List Stmt:=match s with
 | .FunctionDef _ _ b _ _ _ _ _ _ _=>b
 | _=>[]
def zaq (s:Stmt):Scope:=match s with
 | .FunctionDef _ _ _ _ _ _ sc _ _ _=>sc
 | _=>{ kind:=.function,names:=[],isGenerator:=false,isCoroutine:=false }
end L2
namespace L3
open PySem PySem.W PyProof.Rows PySem.Calls
def goT (tb:String→Option Builtin)(p:Program)(w:World)(n₀:Nat)(ann:Option Value):Nat→SharedT→Thread→Option SharedT
 | 0,_,_=>none
 | k+1,s,t=>bif through t then some s else bif stepOk n₀ ann t then (stepT (denote tb) p w s t).bind (λr=>goT tb p w n₀ ann k r.1 r.2) else none
theorem zpt {tb:String→Option Builtin}{p:Program}{w:World}{n₀:Nat}{ann:Option Value}:∀ {n:Nat} {s s':SharedT} {t:Thread},goT tb p w n₀ ann n s t=some s'→topRun tb p w n₀ ann n s.abs t=some s'.abs
 | 0,_,_,_,q=>nomatch q
 | n+1,s,s',t,q=>by
  unfold goT at q
  unfold topRun
  cases c1:through t
  ·rw[c1] at q
   cases c2:stepOk n₀ ann t
   ·rw[c2] at q
    exact nomatch q
   ·rw[c2] at q
    obtain⟨⟨s2,t2⟩,c3,q⟩:=Option.bind_eq_some_iff.mp q
    rw[stepT_spec c3]
    exact zpt q
  ·rw[c1] at q
   cases q
   rfl
def zmn (os:Array Obj):Nat→Nat→Nat→BT
 | 0,_,_=>.nil
 | f+1,a,b=>match os[b]? with
  | some o=>.node o (zmn os f (2*a) (a+b)) (zmn os f (2*a) (2*a+b))
  | none=>.nil
noncomputable def bootT (P:Params):BT:=zmn (boot_heap P).objs 6 1 0
noncomputable abbrev zcM (w:World)(os:OsState):SharedT:=⟨bootT w.params,11,(boot_heap w.params).life,Array.mk [],boot_drawn,boot_toks,os⟩
def zhT (s:SharedT)(a:Addr):Option Obj:=if a<s.n then (match s.tree.get a with | some o=>alive o | none=>s.abs.heap.get? a) else none
theorem zrG (s:SharedT)(a:Addr):s.abs.heap.get? a=zhT s a:=by
 unfold zhT
 split
 ·rename_i h
  cases e:s.tree.get a with
  | none=>rfl
  | some o=>exact abs_get h e
 ·rename_i h
  exact abs_get_none h
theorem zsl (l:List Addr)(s:SharedT):l.map s.abs.heap.get?=l.map (zhT s):=List.map_congr_left λa _=>zrG s a
noncomputable abbrev seenT (p q:Program)(loose:List Str)(Xt:Shared→Bool){α:Type}(YT:SharedT→α)(g0:Bool)(w:World)(s:SharedT):=
 ((staticsOk (importedModules p.main.body) (boot_heap w.params) s.abs.heap&&namesBound p s.abs.heap&&gensDone s.abs&&laidKept (boot_heap w.params) s.abs.heap),openSeen q loose (importedModules p.main.body) Xt g0 s.abs,YT s)
theorem ztc {p q:Program}{loose:List Str}{Xt:Shared→Bool}{α:Type}{Yf:Shared→α}{YT:SharedT→α}{Ya:World→α}{N:Nat}{g0:Bool}{ann:Option Value}(hY:∀s:SharedT,Yf s.abs=YT s)(e:opening p=plainProg p.main.scope.names)(hN:Nat.ble 600 N=true)(f:∀s,fenceModules? p s=some s)
  (size:∀w:World,((boot_heap w.params).isNs mainGlobals&&(Array.mk []:Array GenState).size==0,(boot_heap w.params).objs.size,(boot_heap w.params).nsMap mainGlobals "__annotations__")=(true,11,ann))
  (run:∀w:World,(λos=>(goT treeTable p w 11 ann N (zcM w os) (topStub p)).map λs=>seenT p q loose Xt YT g0 w s)=λ_=>some (true,openGood q loose,Ya w)):LeftO p q loose Xt Yf Ya N g0:=λw=>by
 obtain⟨⟨h,gs,d,k,os⟩,e1,e'⟩:=Vay.mp (boot_open e hN f w)
 obtain⟨rfl,rfl,rfl,rfl⟩:h=boot_heap w.params∧gs=Array.mk []∧d=boot_drawn∧k=boot_toks:=by simpa using e'
 obtain⟨y1,y2,y3⟩:_∧_∧_:=by simpa only [Prod.mk.injEq] using size w
 obtain⟨s',r1,r2⟩:=Vay.mp (congrFun (run w) os)
 obtain⟨l1,l2,l3⟩:_∧_∧_:=by simpa only [Prod.mk.injEq] using r2
 have r:topRun treeTable p w 11 ann N ⟨boot_heap w.params,Array.mk [],boot_drawn,boot_toks,os⟩ (topStub p)=some s'.abs:=by
  have z:=zpt r1
  exact z
 have t:topFrom treeTable p w N ⟨boot_heap w.params,Array.mk [],boot_drawn,boot_toks,os⟩=some s'.abs:=by
  unfold topFrom
  dsimp only
  rw[y1,y2,y3,r]
  show (match staticsOk (importedModules p.main.body) (boot_heap w.params) s'.abs.heap&&namesBound p s'.abs.heap&&gensDone s'.abs&&laidKept (boot_heap w.params) s'.abs.heap with | true=>_ | false=>_)=_
  rw[l1]
 unfold openEnds
 rw[e1]
 show Option.map _ (topFrom treeTable p w N _)=_
 rw[t]
 exact congrArg some (Prod.ext l2 ((hY s').trans l3))
noncomputable abbrev znM (p:Program)(w:World)(s:SharedT):Bool:=staticsOk (importedModules p.main.body) (boot_heap w.params) s.abs.heap&&namesBound p s.abs.heap&&gensDone s.abs&&laidKept (boot_heap w.params) s.abs.heap
theorem zvi {p q:Program}{loose:List Str}{Xt:Shared→Bool}{α:Type}{Yf:Shared→α}{YT:SharedT→α}{Ya:World→α}{N:Nat}{g0:Bool}{ann:Option Value}(hY:∀s:SharedT,Yf s.abs=YT s)(e:opening p=plainProg p.main.scope.names)(hN:Nat.ble 600 N=true)(f:∀s,fenceModules? p s=some s)
  (size:∀w:World,((boot_heap w.params).isNs mainGlobals&&(Array.mk []:Array GenState).size==0,(boot_heap w.params).objs.size,(boot_heap w.params).nsMap mainGlobals "__annotations__")=(true,11,ann))
  (ra:∀w:World,(λos=>(goT treeTable p w 11 ann N (zcM w os) (topStub p)).map λs=>(znM p w s,(openSeen q loose (importedModules p.main.body) Xt g0 s.abs).1))=λ_=>some (true,(openGood q loose).1))
  (rb:∀w:World,(λos=>(goT treeTable p w 11 ann N (zcM w os) (topStub p)).map λs=>((openSeen q loose (importedModules p.main.body) Xt g0 s.abs).2.1,(openSeen q loose (importedModules p.main.body) Xt g0 s.abs).2.2.1))=λ_=>some ((openGood q loose).2.1,(openGood q loose).2.2.1))
  (rc:∀w:World,(λos=>(goT treeTable p w 11 ann N (zcM w os) (topStub p)).map λs=>(openSeen q loose (importedModules p.main.body) Xt g0 s.abs).2.2.2)=λ_=>some (openGood q loose).2.2.2)
  (objs:∀w:World,(λos=>(goT treeTable p w 11 ann N (zcM w os) (topStub p)).map YT)=λ_=>some (Ya w)):LeftO p q loose Xt Yf Ya N g0:=by
 refine ztc hY e hN f size λw=>funext λos=>?_
 obtain⟨s1,a1,b1⟩:=Vay.mp (congrFun (ra w) os)
 obtain⟨s2,a2,b2⟩:=Vay.mp (congrFun (rb w) os)
 obtain⟨s3,a3,b3⟩:=Vay.mp (congrFun (rc w) os)
 obtain⟨s4,a4,b4⟩:=Vay.mp (congrFun (objs w) os)
 rw[a1] at a2 a3 a4
 cases a2
 cases a3
 cases a4
 obtain⟨l1,l2⟩:=Prod.mk.inj b1
 obtain⟨l3,l4⟩:=Prod.mk.inj b2
 have l5:openSeen q loose (importedModules p.main.body) Xt g0 s1.abs=openGood q loose:=Prod.ext l2 (Prod.ext l3 (Prod.ext l4 b3))
 rw[a1]
 show some (znM p w s1,openSeen q loose (importedModules p.main.body) Xt g0 s1.abs,YT s1)=some (true,openGood q loose,Ya w)
 rw[l1,l5,b4]
end L3
namespace Mine
open PySem PySem.Spec PyProof.Rows L2 L3
def top (i:Nat):Stmt:=PySem.Challenge.pw_boxnarrow_k33_narrowed_keeps_answers.main.body.getD i (.Pass ⟨0,0,0,0⟩)
theorem ws_eq:PySem.W.OpenLaw.wellSaid PySem.Challenge.rw_boxnarrow_k33_narrowed_keeps_answers=true:=by decide +kernel
def vw:Program:={ PySem.Challenge.pw_boxnarrow_k33_narrowed_keeps_answers with main:={ PySem.Challenge.pw_boxnarrow_k33_narrowed_keeps_answers.main with body:=[top 0,top 2,top 3,top 5,top 6,top 8,top 9,top 10,top 11,top 12,top 13,top 14,top 15,top 17,top 18,top 19,top 20,top 21,top 22,top 23,top 24,top 25,top 26,top 27,top 29,top 30,top 31,top 32,top 33,top 34,top 35,top 36,top 37,top 39,top 41,top 42,top 43,top 45,top 46,top 47,top 48,top 49,top 50,top 51,top 52,top 53,top 54,top 55,top 56,top 57,top 58,top 59,top 60,top 61,top 62,top 63,top 64,top 65,top 66,top 67] } }
noncomputable abbrev de (P:Params)(s:Str)(t:Tok)(v:Value):DictEntry:=⟨PySem.PyData.keyHash P s,.str s t,v⟩
abbrev co (n q:Str)(a b c d:Tok)(i k:Int)(r s:Addr)(y z:Value)(t:Addr)(j:Int):Obj:=⟨.type "code",none,.fields #[.str n a,.str q b,.str "/claim/cut.py" c,.int i 0,.int k 0,.int 0 0,.int 0 0,.int 3 0,.ref r,.bool Bool.true,.int 181 0,.ref s,.none,y,z,.ref t,.int j 0,.int i 0,.str "/claim/cut.py" d],#[]⟩
abbrev fo (n q:Str)(st:Stmt)(m:Value)(c:Addr):Obj:=⟨.type "function",none,.func (PySem.W.fnOf n q (zdE st) (zcO st) (zaq st) .none .none .none m none (.ref c) .none),#[]⟩
noncomputable def kp:Params→PySem.W.Frag:=λP=>
 (nat_lit 3,(.mk (.type "dict") none (.dict #[(de P "__name__" 165 (.str "law_boxnarrow_k33_narrowed_keeps_answers" 969)),(de P "__doc__" 166 .none),(de P "__package__" 167 .none),(de P "__loader__" 168 (.builtin "__main__.__loader__#opaque")),(de P "__spec__" 169 .none),(de P "__annotations__" 170 (.ref 6)),(de P "__builtins__" 171 (.ref 4)),(de P "__file__" 173 (.str "/claim/cut.py" 172)),(de P "__cached__" 174 .none),(de P "_wall" 193 (.ref 21)),(de P "BoxError" 213 (.ref 31)),(de P "NoSpan" 229 (.ref 44)),(de P "raised" 241 (.ref 53)),(de P "less" 249 (.ref 60)),(de P "rounded_up" 259 (.ref 67)),(de P "span_of" 268 (.ref 74)),(de P "add_spans" 276 (.ref 81)),(de P "take_spans" 284 (.ref 88)),(de P "mul_spans" 294 (.ref 95)),(de P "raise_span" 300 (.ref 100)),(de P "common" 310 (.ref 107)),(de P "hull" 318 (.ref 114)),(de P "holds_nought" 327 (.ref 121)),(de P "opposite" 334 (.ref 128)),(de P "joined" 342 (.ref 135)),(de P "part_between" 351 (.ref 142)),(de P "quotient" 359 (.ref 149)),(de P "back_by_side" 372 (.ref 156)),(de P "back_times" 385 (.ref 163)),(de P "root_below" 395 (.ref 170)),(de P "next_guess" 404 (.ref 177)),(de P "root" 413 (.ref 184)),(de P "back_power" 427 (.ref 191)),(de P "Node" 449 (.ref 201)),(de P "Number" 517 (.ref 250)),(de P "Unknown" 582 (.ref 297)),(de P "Pair" 632 (.ref 330)),(de P "Plus" 701 (.ref 377)),(de P "Minus" 770 (.ref 424)),(de P "Times" 839 (.ref 471)),(de P "Power" 907 (.ref 518)),(de P "kind_of" 914 (.ref 527)),(de P "worths" 927 (.ref 534)),(de P "asked_of" 937 (.ref 541)),(de P "spans_back" 953 (.ref 548)),(de P "narrowed" 968 (.ref 555)),(de P "_law_cell" 978 (.ref 562)),(de P "_law_whole" 985 (.ref 569)),(de P "_law_span_is" 992 (.ref 576)),(de P "_law_spans_are" 1001 (.ref 583)),(de P "_law_divisor" 1010 (.ref 590)),(de P "_law_fraction" 1019 (.ref 597)),(de P "_law_grid" 1027 (.ref 604)),(de P "_law_span" 1038 (.ref 611)),(de P "_law_power" 1048 (.ref 618)),(de P "_law_number" 1057 (.ref 625)),(de P "_law_node" 1069 (.ref 632)),(de P "_law_weight" 1077 (.ref 639)),(de P "_law_net" 1083 (.ref 644)),(de P "_law_exact" 1094 (.ref 651)),(de P "_law_exacts" 1104 (.ref 658)),(de P "_law_point" 1118 (.ref 665)),(de P "_law_in" 1127 (.ref 672)),(de P "_law_within" 1137 (.ref 679)),(de P "_law_put" 1145 (.ref 686)),(de P "_law_met_row" 1161 (.ref 693)),(de P "_law_row_by" 1172 (.ref 700)),(de P "_law_meets" 1182 (.ref 707)),(de P "law" 1188 (.ref 712))] 69) #[]))::
 (nat_lit 30,(.mk (.type "dict") none (.dict #[(de P "__module__" 203 (.str "boxnarrow.errors" 194)),(de P "__firstlineno__" 207 (.int 5 206)),(de P "__static_attributes__" 208 (.ref 29)),(de P "__weakref__" 210 (.ref 32)),(de P "__doc__" 211 .none)] 3) #[]))::
 (nat_lit 31,(.mk (.type "type") none (.cls (PySem.ClassData.mk "BoxError" [(.type "ValueError")] [(.ref 31),(.type "ValueError"),(.type "Exception"),(.type "BaseException"),(.type "object")] 30 "BoxError" Bool.true [] [(.ref 44)] Bool.false none Bool.false)) #[(some (.ref 22)),none,(some (.str "BoxError" 196)),(some (.str "BoxError" 204)),(some (.builtin "ValueError.__new__")),(some (.bool Bool.true))]))::
 (nat_lit 43,(.mk (.type "dict") none (.dict #[(de P "__module__" 221 (.str "boxnarrow.errors" 194)),(de P "__firstlineno__" 225 (.int 7 224)),(de P "__static_attributes__" 226 (.ref 42)),(de P "__doc__" 227 .none)] 2) #[]))::
 (nat_lit 44,(.mk (.type "type") none (.cls (PySem.ClassData.mk "NoSpan" [(.ref 31)] [(.ref 44),(.ref 31),(.type "ValueError"),(.type "Exception"),(.type "BaseException"),(.type "object")] 43 "NoSpan" Bool.true [] [] Bool.false none Bool.false)) #[(some (.ref 35)),none,(some (.str "NoSpan" 214)),(some (.str "NoSpan" 222)),(some (.builtin "ValueError.__new__")),(some (.bool Bool.true))]))::
 (nat_lit 52,co "raised" "raised" 232 233 234 240 10 2 47 48 (.ref 49) (.ref 50) 51 239)::
 (nat_lit 53,fo "raised" "raised" (top 5) (.str "boxnarrow.fractions" 230) 52)::
 (nat_lit 59,co "less" "less" 242 243 244 248 15 2 54 55 (.ref 56) (.ref 57) 58 247)::
 (nat_lit 60,fo "less" "less" (top 6) (.str "boxnarrow.fractions" 230) 59)::
 (nat_lit 66,co "rounded_up" "rounded_up" 252 253 254 258 18 2 61 62 (.ref 63) (.ref 64) 65 257)::
 (nat_lit 67,fo "rounded_up" "rounded_up" (top 8) (.str "boxnarrow.spans" 250) 66)::
 (nat_lit 73,co "span_of" "span_of" 260 261 262 267 20 3 68 69 (.ref 70) (.ref 71) 72 266)::
 (nat_lit 74,fo "span_of" "span_of" (top 9) (.str "boxnarrow.spans" 250) 73)::
 (nat_lit 80,co "add_spans" "add_spans" 269 270 271 275 24 2 75 76 (.ref 77) (.ref 78) 79 274)::
 (nat_lit 81,fo "add_spans" "add_spans" (top 10) (.str "boxnarrow.spans" 250) 80)::
 (nat_lit 87,co "take_spans" "take_spans" 277 278 279 283 26 2 82 83 (.ref 84) (.ref 85) 86 282)::
 (nat_lit 88,fo "take_spans" "take_spans" (top 11) (.str "boxnarrow.spans" 250) 87)::
 (nat_lit 94,co "mul_spans" "mul_spans" 285 286 287 293 28 3 89 90 (.ref 91) (.ref 92) 93 292)::
 (nat_lit 95,fo "mul_spans" "mul_spans" (top 12) (.str "boxnarrow.spans" 250) 94)::
 (nat_lit 99,co "raise_span" "raise_span" 295 296 297 299 31 3 96 97 .none .none 98 298)::
 (nat_lit 100,fo "raise_span" "raise_span" (top 13) (.str "boxnarrow.spans" 250) 99)::
 (nat_lit 106,co "common" "common" 301 302 303 309 38 2 101 102 (.ref 103) (.ref 104) 105 308)::
 (nat_lit 107,fo "common" "common" (top 14) (.str "boxnarrow.spans" 250) 106)::
 (nat_lit 113,co "hull" "hull" 311 312 313 317 44 2 108 109 (.ref 110) (.ref 111) 112 316)::
 (nat_lit 114,fo "hull" "hull" (top 15) (.str "boxnarrow.spans" 250) 113)::
 (nat_lit 120,co "holds_nought" "holds_nought" 321 322 323 326 47 1 115 116 (.ref 117) (.ref 118) 119 325)::
 (nat_lit 121,fo "holds_nought" "holds_nought" (top 17) (.str "boxnarrow.backs" 319) 120)::
 (nat_lit 127,co "opposite" "opposite" 328 329 330 333 49 1 122 123 (.ref 124) (.ref 125) 126 332)::
 (nat_lit 128,fo "opposite" "opposite" (top 18) (.str "boxnarrow.backs" 319) 127)::
 (nat_lit 134,co "joined" "joined" 335 336 337 341 51 2 129 130 (.ref 131) (.ref 132) 133 340)::
 (nat_lit 135,fo "joined" "joined" (top 19) (.str "boxnarrow.backs" 319) 134)::
 (nat_lit 141,co "part_between" "part_between" 343 344 345 350 57 3 136 137 (.ref 138) (.ref 139) 140 349)::
 (nat_lit 142,fo "part_between" "part_between" (top 20) (.str "boxnarrow.backs" 319) 141)::
 (nat_lit 148,co "quotient" "quotient" 352 353 354 358 61 2 143 144 (.ref 145) (.ref 146) 147 357)::
 (nat_lit 149,fo "quotient" "quotient" (top 21) (.str "boxnarrow.backs" 319) 148)::
 (nat_lit 155,co "back_by_side" "back_by_side" 360 361 362 371 63 3 150 151 (.ref 152) (.ref 153) 154 370)::
 (nat_lit 156,fo "back_by_side" "back_by_side" (top 22) (.str "boxnarrow.backs" 319) 155)::
 (nat_lit 162,co "back_times" "back_times" 373 374 375 384 69 4 157 158 (.ref 159) (.ref 160) 161 383)::
 (nat_lit 163,fo "back_times" "back_times" (top 23) (.str "boxnarrow.backs" 319) 162)::
 (nat_lit 169,co "root_below" "root_below" 386 387 388 394 80 2 164 165 (.ref 166) (.ref 167) 168 393)::
 (nat_lit 170,fo "root_below" "root_below" (top 24) (.str "boxnarrow.backs" 319) 169)::
 (nat_lit 176,co "next_guess" "next_guess" 396 397 398 403 89 3 171 172 (.ref 173) (.ref 174) 175 402)::
 (nat_lit 177,fo "next_guess" "next_guess" (top 25) (.str "boxnarrow.backs" 319) 176)::
 (nat_lit 183,co "root" "root" 405 406 407 412 91 2 178 179 (.ref 180) (.ref 181) 182 411)::
 (nat_lit 184,fo "root" "root" (top 26) (.str "boxnarrow.backs" 319) 183)::
 (nat_lit 190,co "back_power" "back_power" 414 415 416 426 98 4 185 186 (.ref 187) (.ref 188) 189 425)::
 (nat_lit 191,fo "back_power" "back_power" (top 27) (.str "boxnarrow.backs" 319) 190)::
 (nat_lit 200,(.mk (.type "dict") none (.dict #[(de P "__module__" 437 (.str "boxnarrow.kinds" 428)),(de P "__firstlineno__" 441 (.int 109 440)),(de P "__static_attributes__" 442 (.ref 199)),(de P "__dict__" 444 (.ref 202)),(de P "__weakref__" 446 (.ref 203)),(de P "__doc__" 447 .none)] 4) #[]))::
 (nat_lit 201,(.mk (.type "type") none (.cls (PySem.ClassData.mk "Node" [(.type "object")] [(.ref 201),(.type "object")] 200 "Node" Bool.true [] [(.ref 250),(.ref 297),(.ref 330),(.ref 518)] Bool.false none Bool.false)) #[none,none,(some (.str "Node" 430)),(some (.str "Node" 438)),(some (.builtin "object.__new__")),(some (.bool Bool.true))]))::
 (nat_lit 218,co "__init__" "Number.__init__" 462 463 464 469 113 3 213 214 (.ref 215) (.ref 216) 217 468)::
 (nat_lit 219,fo "__init__" "Number.__init__" (zaG (top 30) 0) (.str "boxnarrow.kinds" 428) 218)::
 (nat_lit 232,co "forth" "Number.forth" 480 481 482 489 120 4 227 228 (.ref 229) (.ref 230) 231 488)::
 (nat_lit 233,fo "forth" "Number.forth" (zaG (top 30) 2) (.str "boxnarrow.kinds" 428) 232)::
 (nat_lit 239,co "back" "Number.back" 491 492 493 499 124 4 234 235 (.ref 236) (.ref 237) 238 498)::
 (nat_lit 240,fo "back" "Number.back" (zaG (top 30) 3) (.str "boxnarrow.kinds" 428) 239)::
 (nat_lit 249,(.mk (.type "dict") none (.dict #[(de P "__module__" 457 (.str "boxnarrow.kinds" 428)),(de P "__firstlineno__" 461 (.int 111 460)),(de P "__init__" 470 (.ref 219)),(de P "exact" 479 (.ref 226)),(de P "forth" 490 (.ref 233)),(de P "back" 500 (.ref 240)),(de P "slope" 511 (.ref 247)),(de P "__static_attributes__" 514 (.ref 248)),(de P "__doc__" 515 .none)] 2) #[]))::
 (nat_lit 250,(.mk (.type "type") none (.cls (PySem.ClassData.mk "Number" [(.ref 201)] [(.ref 250),(.ref 201),(.type "object")] 249 "Number" Bool.true [] [] Bool.false none Bool.false)) #[(some (.ref 206)),none,(some (.str "Number" 450)),(some (.str "Number" 458)),(some (.builtin "object.__new__")),(some (.bool Bool.true))]))::
 (nat_lit 265,co "__init__" "Unknown.__init__" 530 531 532 536 131 2 260 261 (.ref 262) (.ref 263) 264 535)::
 (nat_lit 266,fo "__init__" "Unknown.__init__" (zaG (top 31) 0) (.str "boxnarrow.kinds" 428) 265)::
 (nat_lit 279,co "forth" "Unknown.forth" 547 548 549 555 137 4 274 275 (.ref 276) (.ref 277) 278 554)::
 (nat_lit 280,fo "forth" "Unknown.forth" (zaG (top 31) 2) (.str "boxnarrow.kinds" 428) 279)::
 (nat_lit 286,co "back" "Unknown.back" 557 558 559 565 140 4 281 282 (.ref 283) (.ref 284) 285 564)::
 (nat_lit 287,fo "back" "Unknown.back" (zaG (top 31) 3) (.str "boxnarrow.kinds" 428) 286)::
 (nat_lit 296,(.mk (.type "dict") none (.dict #[(de P "__module__" 525 (.str "boxnarrow.kinds" 428)),(de P "__firstlineno__" 529 (.int 129 528)),(de P "__init__" 537 (.ref 266)),(de P "exact" 546 (.ref 273)),(de P "forth" 556 (.ref 280)),(de P "back" 566 (.ref 287)),(de P "slope" 577 (.ref 294)),(de P "__static_attributes__" 579 (.ref 295)),(de P "__doc__" 580 .none)] 2) #[]))::
 (nat_lit 297,(.mk (.type "type") none (.cls (PySem.ClassData.mk "Unknown" [(.ref 201)] [(.ref 297),(.ref 201),(.type "object")] 296 "Unknown" Bool.true [] [] Bool.false none Bool.false)) #[(some (.ref 253)),none,(some (.str "Unknown" 518)),(some (.str "Unknown" 526)),(some (.builtin "object.__new__")),(some (.bool Bool.true))]))::
 (nat_lit 312,co "__init__" "Pair.__init__" 595 596 597 602 147 3 307 308 (.ref 309) (.ref 310) 311 601)::
 (nat_lit 313,fo "__init__" "Pair.__init__" (zaG (top 32) 0) (.str "boxnarrow.kinds" 428) 312)::
 (nat_lit 319,co "back" "Pair.back" 604 605 606 614 151 4 314 315 (.ref 316) (.ref 317) 318 613)::
 (nat_lit 320,fo "back" "Pair.back" (zaG (top 32) 1) (.str "boxnarrow.kinds" 428) 319)::
 (nat_lit 329,(.mk (.type "dict") none (.dict #[(de P "__module__" 590 (.str "boxnarrow.kinds" 428)),(de P "__firstlineno__" 594 (.int 145 593)),(de P "__init__" 603 (.ref 313)),(de P "back" 615 (.ref 320)),(de P "slope" 626 (.ref 327)),(de P "__static_attributes__" 629 (.ref 328)),(de P "__doc__" 630 .none)] 2) #[]))::
 (nat_lit 330,(.mk (.type "type") none (.cls (PySem.ClassData.mk "Pair" [(.ref 201)] [(.ref 330),(.ref 201),(.type "object")] 329 "Pair" Bool.true [] [(.ref 377),(.ref 424),(.ref 471)] Bool.false none Bool.false)) #[(some (.ref 300)),none,(some (.str "Pair" 583)),(some (.str "Pair" 591)),(some (.builtin "object.__new__")),(some (.bool Bool.true))]))::
 (nat_lit 352,co "forth" "Plus.forth" 654 655 656 662 168 4 347 348 (.ref 349) (.ref 350) 351 661)::
 (nat_lit 353,fo "forth" "Plus.forth" (zaG (top 33) 1) (.str "boxnarrow.kinds" 428) 352)::
 (nat_lit 359,co "first_left" "Plus.first_left" 664 665 666 673 171 5 354 355 (.ref 356) (.ref 357) 358 672)::
 (nat_lit 360,fo "first_left" "Plus.first_left" (zaG (top 33) 2) (.str "boxnarrow.kinds" 428) 359)::
 (nat_lit 366,co "second_left" "Plus.second_left" 675 676 677 684 174 5 361 362 (.ref 363) (.ref 364) 365 683)::
 (nat_lit 367,fo "second_left" "Plus.second_left" (zaG (top 33) 3) (.str "boxnarrow.kinds" 428) 366)::
 (nat_lit 376,(.mk (.type "dict") none (.dict #[(de P "__module__" 640 (.str "boxnarrow.kinds" 428)),(de P "__firstlineno__" 644 (.int 163 643)),(de P "exact" 653 (.ref 346)),(de P "forth" 663 (.ref 353)),(de P "first_left" 674 (.ref 360)),(de P "second_left" 685 (.ref 367)),(de P "slope_of_both" 697 (.ref 374)),(de P "__static_attributes__" 698 (.ref 375)),(de P "__doc__" 699 .none)] 2) #[]))::
 (nat_lit 377,(.mk (.type "type") none (.cls (PySem.ClassData.mk "Plus" [(.ref 330)] [(.ref 377),(.ref 330),(.ref 201),(.type "object")] 376 "Plus" Bool.true [] [] Bool.false none Bool.false)) #[(some (.ref 333)),none,(some (.str "Plus" 633)),(some (.str "Plus" 641)),(some (.builtin "object.__new__")),(some (.bool Bool.true))]))::
 (nat_lit 399,co "forth" "Minus.forth" 723 724 725 731 184 4 394 395 (.ref 396) (.ref 397) 398 730)::
 (nat_lit 400,fo "forth" "Minus.forth" (zaG (top 34) 1) (.str "boxnarrow.kinds" 428) 399)::
 (nat_lit 406,co "first_left" "Minus.first_left" 733 734 735 742 187 5 401 402 (.ref 403) (.ref 404) 405 741)::
 (nat_lit 407,fo "first_left" "Minus.first_left" (zaG (top 34) 2) (.str "boxnarrow.kinds" 428) 406)::
 (nat_lit 413,co "second_left" "Minus.second_left" 744 745 746 753 190 5 408 409 (.ref 410) (.ref 411) 412 752)::
 (nat_lit 414,fo "second_left" "Minus.second_left" (zaG (top 34) 3) (.str "boxnarrow.kinds" 428) 413)::
 (nat_lit 423,(.mk (.type "dict") none (.dict #[(de P "__module__" 709 (.str "boxnarrow.kinds" 428)),(de P "__firstlineno__" 713 (.int 179 712)),(de P "exact" 722 (.ref 393)),(de P "forth" 732 (.ref 400)),(de P "first_left" 743 (.ref 407)),(de P "second_left" 754 (.ref 414)),(de P "slope_of_both" 766 (.ref 421)),(de P "__static_attributes__" 767 (.ref 422)),(de P "__doc__" 768 .none)] 2) #[]))::
 (nat_lit 424,(.mk (.type "type") none (.cls (PySem.ClassData.mk "Minus" [(.ref 330)] [(.ref 424),(.ref 330),(.ref 201),(.type "object")] 423 "Minus" Bool.true [] [] Bool.false none Bool.false)) #[(some (.ref 380)),none,(some (.str "Minus" 702)),(some (.str "Minus" 710)),(some (.builtin "object.__new__")),(some (.bool Bool.true))]))::
 (nat_lit 446,co "forth" "Times.forth" 792 793 794 800 200 4 441 442 (.ref 443) (.ref 444) 445 799)::
 (nat_lit 447,fo "forth" "Times.forth" (zaG (top 35) 1) (.str "boxnarrow.kinds" 428) 446)::
 (nat_lit 453,co "first_left" "Times.first_left" 802 803 804 811 203 5 448 449 (.ref 450) (.ref 451) 452 810)::
 (nat_lit 454,fo "first_left" "Times.first_left" (zaG (top 35) 2) (.str "boxnarrow.kinds" 428) 453)::
 (nat_lit 460,co "second_left" "Times.second_left" 813 814 815 822 206 5 455 456 (.ref 457) (.ref 458) 459 821)::
 (nat_lit 461,fo "second_left" "Times.second_left" (zaG (top 35) 3) (.str "boxnarrow.kinds" 428) 460)::
 (nat_lit 470,(.mk (.type "dict") none (.dict #[(de P "__module__" 778 (.str "boxnarrow.kinds" 428)),(de P "__firstlineno__" 782 (.int 195 781)),(de P "exact" 791 (.ref 440)),(de P "forth" 801 (.ref 447)),(de P "first_left" 812 (.ref 454)),(de P "second_left" 823 (.ref 461)),(de P "slope_of_both" 835 (.ref 468)),(de P "__static_attributes__" 836 (.ref 469)),(de P "__doc__" 837 .none)] 2) #[]))::
 (nat_lit 471,(.mk (.type "type") none (.cls (PySem.ClassData.mk "Times" [(.ref 330)] [(.ref 471),(.ref 330),(.ref 201),(.type "object")] 470 "Times" Bool.true [] [] Bool.false none Bool.false)) #[(some (.ref 427)),none,(some (.str "Times" 771)),(some (.str "Times" 779)),(some (.builtin "object.__new__")),(some (.bool Bool.true))]))::
 (nat_lit 486,co "__init__" "Power.__init__" 852 853 854 859 213 3 481 482 (.ref 483) (.ref 484) 485 858)::
 (nat_lit 487,fo "__init__" "Power.__init__" (zaG (top 36) 0) (.str "boxnarrow.kinds" 428) 486)::
 (nat_lit 500,co "forth" "Power.forth" 870 871 872 878 220 4 495 496 (.ref 497) (.ref 498) 499 877)::
 (nat_lit 501,fo "forth" "Power.forth" (zaG (top 36) 2) (.str "boxnarrow.kinds" 428) 500)::
 (nat_lit 507,co "back" "Power.back" 880 881 882 889 223 4 502 503 (.ref 504) (.ref 505) 506 888)::
 (nat_lit 508,fo "back" "Power.back" (zaG (top 36) 3) (.str "boxnarrow.kinds" 428) 507)::
 (nat_lit 517,(.mk (.type "dict") none (.dict #[(de P "__module__" 847 (.str "boxnarrow.kinds" 428)),(de P "__firstlineno__" 851 (.int 211 850)),(de P "__init__" 860 (.ref 487)),(de P "exact" 869 (.ref 494)),(de P "forth" 879 (.ref 501)),(de P "back" 890 (.ref 508)),(de P "slope" 901 (.ref 515)),(de P "__static_attributes__" 904 (.ref 516)),(de P "__doc__" 905 .none)] 2) #[]))::
 (nat_lit 518,(.mk (.type "type") none (.cls (PySem.ClassData.mk "Power" [(.ref 201)] [(.ref 518),(.ref 201),(.type "object")] 517 "Power" Bool.true [] [] Bool.false none Bool.false)) #[(some (.ref 474)),none,(some (.str "Power" 840)),(some (.str "Power" 848)),(some (.builtin "object.__new__")),(some (.bool Bool.true))]))::
 (nat_lit 526,co "kind_of" "kind_of" 908 909 910 913 231 1 521 522 (.ref 523) (.ref 524) 525 912)::
 (nat_lit 527,fo "kind_of" "kind_of" (top 37) (.str "boxnarrow.kinds" 428) 526)::
 (nat_lit 533,co "worths" "worths" 917 918 919 926 244 3 528 529 (.ref 530) (.ref 531) 532 925)::
 (nat_lit 534,fo "worths" "worths" (top 39) (.str "boxnarrow.worths" 915) 533)::
 (nat_lit 540,co "asked_of" "asked_of" 930 931 932 936 250 2 535 536 (.ref 537) (.ref 538) 539 935)::
 (nat_lit 541,fo "asked_of" "asked_of" (top 41) (.str "boxnarrow.narrow" 928) 540)::
 (nat_lit 547,co "spans_back" "spans_back" 938 939 940 952 254 4 542 543 (.ref 544) (.ref 545) 546 951)::
 (nat_lit 548,fo "spans_back" "spans_back" (top 42) (.str "boxnarrow.narrow" 928) 547)::
 (nat_lit 554,co "narrowed" "narrowed" 954 955 956 967 268 4 549 550 (.ref 551) (.ref 552) 553 966)::
 (nat_lit 555,fo "narrowed" "narrowed" (top 43) (.str "boxnarrow.narrow" 928) 554)::
 (nat_lit 561,co "_law_cell" "_law_cell" 971 972 973 977 279 2 556 557 (.ref 558) (.ref 559) 560 976)::
 (nat_lit 562,fo "_law_cell" "_law_cell" (top 45) (.str "law_boxnarrow_k33_narrowed_keeps_answers" 969) 561)::
 (nat_lit 568,co "_law_whole" "_law_whole" 979 980 981 984 283 1 563 564 (.ref 565) (.ref 566) 567 983)::
 (nat_lit 569,fo "_law_whole" "_law_whole" (top 46) (.str "law_boxnarrow_k33_narrowed_keeps_answers" 969) 568)::
 (nat_lit 575,co "_law_span_is" "_law_span_is" 986 987 988 991 285 1 570 571 (.ref 572) (.ref 573) 574 990)::
 (nat_lit 576,fo "_law_span_is" "_law_span_is" (top 47) (.str "law_boxnarrow_k33_narrowed_keeps_answers" 969) 575)::
 (nat_lit 582,co "_law_spans_are" "_law_spans_are" 993 994 995 1000 289 2 577 578 (.ref 579) (.ref 580) 581 999)::
 (nat_lit 583,fo "_law_spans_are" "_law_spans_are" (top 48) (.str "law_boxnarrow_k33_narrowed_keeps_answers" 969) 582)::
 (nat_lit 589,co "_law_divisor" "_law_divisor" 1002 1003 1004 1009 296 2 584 585 (.ref 586) (.ref 587) 588 1008)::
 (nat_lit 590,fo "_law_divisor" "_law_divisor" (top 49) (.str "law_boxnarrow_k33_narrowed_keeps_answers" 969) 589)::
 (nat_lit 596,co "_law_fraction" "_law_fraction" 1011 1012 1013 1018 302 2 591 592 (.ref 593) (.ref 594) 595 1017)::
 (nat_lit 597,fo "_law_fraction" "_law_fraction" (top 50) (.str "law_boxnarrow_k33_narrowed_keeps_answers" 969) 596)::
 (nat_lit 603,co "_law_grid" "_law_grid" 1020 1021 1022 1026 305 1 598 599 (.ref 600) (.ref 601) 602 1025)::
 (nat_lit 604,fo "_law_grid" "_law_grid" (top 51) (.str "law_boxnarrow_k33_narrowed_keeps_answers" 969) 603)::
 (nat_lit 610,co "_law_span" "_law_span" 1028 1029 1030 1037 308 1 605 606 (.ref 607) (.ref 608) 609 1036)::
 (nat_lit 611,fo "_law_span" "_law_span" (top 52) (.str "law_boxnarrow_k33_narrowed_keeps_answers" 969) 610)::
 (nat_lit 617,co "_law_power" "_law_power" 1039 1040 1041 1047 322 2 612 613 (.ref 614) (.ref 615) 616 1046)::
 (nat_lit 618,fo "_law_power" "_law_power" (top 53) (.str "law_boxnarrow_k33_narrowed_keeps_answers" 969) 617)::
 (nat_lit 624,co "_law_number" "_law_number" 1049 1050 1051 1056 327 1 619 620 (.ref 621) (.ref 622) 623 1055)::
 (nat_lit 625,fo "_law_number" "_law_number" (top 54) (.str "law_boxnarrow_k33_narrowed_keeps_answers" 969) 624)::
 (nat_lit 631,co "_law_node" "_law_node" 1058 1059 1060 1068 334 3 626 627 (.ref 628) (.ref 629) 630 1067)::
 (nat_lit 632,fo "_law_node" "_law_node" (top 55) (.str "law_boxnarrow_k33_narrowed_keeps_answers" 969) 631)::
 (nat_lit 638,co "_law_weight" "_law_weight" 1070 1071 1072 1076 348 2 633 634 (.ref 635) (.ref 636) 637 1075)::
 (nat_lit 639,fo "_law_weight" "_law_weight" (top 56) (.str "law_boxnarrow_k33_narrowed_keeps_answers" 969) 638)::
 (nat_lit 643,co "_law_net" "_law_net" 1078 1079 1080 1082 354 5 640 641 .none .none 642 1081)::
 (nat_lit 644,fo "_law_net" "_law_net" (top 57) (.str "law_boxnarrow_k33_narrowed_keeps_answers" 969) 643)::
 (nat_lit 650,co "_law_exact" "_law_exact" 1084 1085 1086 1093 368 3 645 646 (.ref 647) (.ref 648) 649 1092)::
 (nat_lit 651,fo "_law_exact" "_law_exact" (top 58) (.str "law_boxnarrow_k33_narrowed_keeps_answers" 969) 650)::
 (nat_lit 657,co "_law_exacts" "_law_exacts" 1095 1096 1097 1103 382 2 652 653 (.ref 654) (.ref 655) 656 1102)::
 (nat_lit 658,fo "_law_exacts" "_law_exacts" (top 59) (.str "law_boxnarrow_k33_narrowed_keeps_answers" 969) 657)::
 (nat_lit 664,co "_law_point" "_law_point" 1105 1106 1107 1117 387 3 659 660 (.ref 661) (.ref 662) 663 1116)::
 (nat_lit 665,fo "_law_point" "_law_point" (top 60) (.str "law_boxnarrow_k33_narrowed_keeps_answers" 969) 664)::
 (nat_lit 671,co "_law_in" "_law_in" 1119 1120 1121 1126 398 3 666 667 (.ref 668) (.ref 669) 670 1125)::
 (nat_lit 672,fo "_law_in" "_law_in" (top 61) (.str "law_boxnarrow_k33_narrowed_keeps_answers" 969) 671)::
 (nat_lit 678,co "_law_within" "_law_within" 1128 1129 1130 1136 400 3 673 674 (.ref 675) (.ref 676) 677 1135)::
 (nat_lit 679,fo "_law_within" "_law_within" (top 62) (.str "law_boxnarrow_k33_narrowed_keeps_answers" 969) 678)::
 (nat_lit 685,co "_law_put" "_law_put" 1138 1139 1140 1144 405 2 680 681 (.ref 682) (.ref 683) 684 1143)::
 (nat_lit 686,fo "_law_put" "_law_put" (top 63) (.str "law_boxnarrow_k33_narrowed_keeps_answers" 969) 685)::
 (nat_lit 692,co "_law_met_row" "_law_met_row" 1146 1147 1148 1160 409 4 687 688 (.ref 689) (.ref 690) 691 1159)::
 (nat_lit 693,fo "_law_met_row" "_law_met_row" (top 64) (.str "law_boxnarrow_k33_narrowed_keeps_answers" 969) 692)::
 (nat_lit 699,co "_law_row_by" "_law_row_by" 1162 1163 1164 1171 425 4 694 695 (.ref 696) (.ref 697) 698 1170)::
 (nat_lit 700,fo "_law_row_by" "_law_row_by" (top 65) (.str "law_boxnarrow_k33_narrowed_keeps_answers" 969) 699)::
 (nat_lit 706,co "_law_meets" "_law_meets" 1173 1174 1175 1181 430 3 701 702 (.ref 703) (.ref 704) 705 1180)::
 (nat_lit 707,fo "_law_meets" "_law_meets" (top 66) (.str "law_boxnarrow_k33_narrowed_keeps_answers" 969) 706)::
 (nat_lit 711,co "law" "law" 1183 1184 1185 1187 435 1 708 709 .none .none 710 1186)::
 (nat_lit 712,fo "law" "law" (top 67) (.str "law_boxnarrow_k33_narrowed_keeps_answers" 969) 711)::[]
def ks:List Addr:=nat_lit 3::nat_lit 30::nat_lit 31::nat_lit 43::nat_lit 44::nat_lit 52::nat_lit 53::nat_lit 59::nat_lit 60::nat_lit 66::nat_lit 67::nat_lit 73::nat_lit 74::nat_lit 80::nat_lit 81::nat_lit 87::nat_lit 88::nat_lit 94::nat_lit 95::nat_lit 99::nat_lit 100::nat_lit 106::nat_lit 107::nat_lit 113::nat_lit 114::nat_lit 120::nat_lit 121::nat_lit 127::nat_lit 128::nat_lit 134::nat_lit 135::nat_lit 141::nat_lit 142::nat_lit 148::nat_lit 149::nat_lit 155::nat_lit 156::nat_lit 162::nat_lit 163::nat_lit 169::nat_lit 170::nat_lit 176::nat_lit 177::nat_lit 183::nat_lit 184::nat_lit 190::nat_lit 191::nat_lit 200::nat_lit 201::nat_lit 218::nat_lit 219::nat_lit 232::nat_lit 233::nat_lit 239::nat_lit 240::nat_lit 249::nat_lit 250::nat_lit 265::nat_lit 266::nat_lit 279::nat_lit 280::nat_lit 286::nat_lit 287::nat_lit 296::nat_lit 297::nat_lit 312::nat_lit 313::nat_lit 319::nat_lit 320::nat_lit 329::nat_lit 330::nat_lit 352::nat_lit 353::nat_lit 359::nat_lit 360::nat_lit 366::nat_lit 367::nat_lit 376::nat_lit 377::nat_lit 399::nat_lit 400::nat_lit 406::nat_lit 407::nat_lit 413::nat_lit 414::nat_lit 423::nat_lit 424::nat_lit 446::nat_lit 447::nat_lit 453::nat_lit 454::nat_lit 460::nat_lit 461::nat_lit 470::nat_lit 471::nat_lit 486::nat_lit 487::nat_lit 500::nat_lit 501::nat_lit 507::nat_lit 508::nat_lit 517::nat_lit 518::nat_lit 526::nat_lit 527::nat_lit 533::nat_lit 534::nat_lit 540::nat_lit 541::nat_lit 547::nat_lit 548::nat_lit 554::nat_lit 555::nat_lit 561::nat_lit 562::nat_lit 568::nat_lit 569::nat_lit 575::nat_lit 576::nat_lit 582::nat_lit 583::nat_lit 589::nat_lit 590::nat_lit 596::nat_lit 597::nat_lit 603::nat_lit 604::nat_lit 610::nat_lit 611::nat_lit 617::nat_lit 618::nat_lit 624::nat_lit 625::nat_lit 631::nat_lit 632::nat_lit 638::nat_lit 639::nat_lit 643::nat_lit 644::nat_lit 650::nat_lit 651::nat_lit 657::nat_lit 658::nat_lit 664::nat_lit 665::nat_lit 671::nat_lit 672::nat_lit 678::nat_lit 679::nat_lit 685::nat_lit 686::nat_lit 692::nat_lit 693::nat_lit 699::nat_lit 700::nat_lit 706::nat_lit 707::nat_lit 711::nat_lit 712::[]
theorem zeH (P:Params):ks=(kp P).map (·.1):=by kernel_rfl
noncomputable abbrev hk:PySem.W.Hook:=PySem.W.kHook kp ks zeH
abbrev xt (s:Shared):Bool:=PySem.W.xlAt vw [] s&&PySem.W.recOk (PySem.W.RowW.records (PySem.W.OpenRow.toRowW (PySem.W.OpenLaw.row PySem.Challenge.rw_boxnarrow_k33_narrowed_keeps_answers))) s
theorem znJ:PySem.W.opening PySem.Challenge.pw_boxnarrow_k33_narrowed_keeps_answers=PySem.W.plainProg PySem.Challenge.pw_boxnarrow_k33_narrowed_keeps_answers.main.scope.names:=by kernel_rfl
theorem fe_eq (s:Shared):PySem.fenceModules? PySem.Challenge.pw_boxnarrow_k33_narrowed_keeps_answers s=some s:=by kernel_rfl
theorem si_eq (w:World):((PySem.W.boot_heap w.params).isNs mainGlobals&&(Array.mk []:Array GenState).size==0,(PySem.W.boot_heap w.params).objs.size,(PySem.W.boot_heap w.params).nsMap mainGlobals "__annotations__")=(true,11,some (.ref 6)):=by kernel_rfl
open PySem.W PySem.Calls in
theorem ra_eq (w:World):(λos=>(L3.goT PySem.treeTable PySem.Challenge.pw_boxnarrow_k33_narrowed_keeps_answers w 11 (some (.ref 6)) 9912 (L3.zcM w os) (PySem.W.topStub PySem.Challenge.pw_boxnarrow_k33_narrowed_keeps_answers)).map λs=>(L3.znM PySem.Challenge.pw_boxnarrow_k33_narrowed_keeps_answers w s,seen ((recsOf vw).map (·.name)) (ownsOf vw) [] { s.abs with gens:=#[] }))=λ_=>some (true,expectedOf vw):=by kernel_rfl
open PySem.W PySem.Calls in
theorem rb_eq (w:World):(λos=>(L3.goT PySem.treeTable PySem.Challenge.pw_boxnarrow_k33_narrowed_keeps_answers w 11 (some (.ref 6)) 9912 (L3.zcM w os) (PySem.W.topStub PySem.Challenge.pw_boxnarrow_k33_narrowed_keeps_answers)).map λs=>(s.abs.heap.bltView,s.abs.heap.keysOk (looseW vw []) ((recsOf vw).map (·.name)) ((litsOf vw).map (·.1)) ((clssOf vw (looseW vw [])).map (·.name))&&s.abs.heap.accountedOkI (importedModules PySem.Challenge.pw_boxnarrow_k33_narrowed_keeps_answers.main.body)&&s.abs.heap.isNs mainGlobals&&s.abs.heap.isNs builtinsNs&&tablesOk vw s.abs.heap&&xt s.abs&&(if true then s.abs.gens.size==0 else !leftWithCleanup s.abs.gens)))=λ_=>some (bltViewBooted,true):=by kernel_rfl
open PySem.W PySem.Calls in
theorem rc_eq (w:World):(λos=>(L3.goT PySem.treeTable PySem.Challenge.pw_boxnarrow_k33_narrowed_keeps_answers w 11 (some (.ref 6)) 9912 (L3.zcM w os) (PySem.W.topStub PySem.Challenge.pw_boxnarrow_k33_narrowed_keeps_answers)).map λs=>(tabsOk vw s.abs,pinSeenD vw (drecsOf vw) s.abs,plainSeenE vw (looseW vw []) s.abs,plainSeenD vw [] s.abs,wideSeen vw s.abs,clsSeenW vw [] s.abs))=λ_=>some (true,pinGoodD (drecsOf vw),plainGoodE vw (looseW vw []),plainGoodD vw [],wideGood vw,clsGoodW vw []):=by kernel_rfl
theorem ob_eq (w:World):(λos=>(L3.goT PySem.treeTable PySem.Challenge.pw_boxnarrow_k33_narrowed_keeps_answers w 11 (some (.ref 6)) 9912 (L3.zcM w os) (PySem.W.topStub PySem.Challenge.pw_boxnarrow_k33_narrowed_keeps_answers)).map λs=>ks.map (L3.zhT s))=λ_=>some (hk.val w):=by kernel_rfl
theorem left:PySem.W.LeftO PySem.Challenge.pw_boxnarrow_k33_narrowed_keeps_answers vw [] xt hk.obs hk.val 9912:=L3.zvi (L3.zsl ks) znJ (by decide) fe_eq si_eq ra_eq rb_eq rc_eq ob_eq
end Mine
set_option Elab.async false
set_option linter.all false
set_option maxRecDepth 100000
namespace L2
open PySem PySem.Spec PyProof.Rows
abbrev Key:=Sum Int Str
def zp2:Key→Value→Bool
 | .inl k,v=>Value.isInt k v
 | .inr x,v=>Value.isStrOf x v
def keyH (w:World):Key→Int
 | .inl k=>hashInt k
 | .inr x=>hashStr w x
theorem zcS:∀ {k:Key} {v:Value},zp2 k v=true→(∃i t,k=Sum.inl i∧v=Value.int i t)∨(∃x t,k=Sum.inr x∧v=Value.str x t)
 | .inl i,v,h=>by
  obtain⟨t,e⟩:=Value.isInt_shape (k:=i) (v:=v) h
  exact .inl ⟨i,t,rfl,e⟩
 | .inr x,v,h=>by
  obtain⟨t,e⟩:=Value.isStrOf_shape (x:=x) (v:=v) h
  exact .inr ⟨x,t,rfl,e⟩
theorem ztG (a b:Int):decide ((Sum.inl a:Key)=Sum.inl b)=(a==b):=by
 by_cases e:a=b
 ·subst e; simp
 ·have h:¬ (Sum.inl a:Key)=Sum.inl b:=λq=>e (Sum.inl.inj q)
  rw[decide_eq_false h]
  exact(beq_eq_false_iff_ne.mpr e).symm
theorem zrN (a b:Str):decide ((Sum.inr a:Key)=Sum.inr b)=decide (a=b):=by
 by_cases e:a=b
 ·subst e; simp
 ·have h:¬ (Sum.inr a:Key)=Sum.inr b:=λq=>e (Sum.inr.inj q)
  rw[decide_eq_false h,decide_eq_false e]
theorem zwn (a:Int)(b:Str):decide ((Sum.inl a:Key)=Sum.inr b)=false:=decide_eq_false (λq=>nomatch q)
theorem ztD (a:Str)(b:Int):decide ((Sum.inr a:Key)=Sum.inl b)=false:=decide_eq_false (λq=>nomatch q)
def zn0 (prog:Program)(w:World):PySem.KeyKind prog w Key where
 is:=zp2
 hash:=keyH w
 inj:=λv a b ha hb=>by
  rcases zcS ha with ⟨i,t,rfl,rfl⟩ | ⟨x,t,rfl,rfl⟩
  ·rcases zcS hb with ⟨j,u,rfl,e⟩ | ⟨y,u,rfl,e⟩
   ·injection e with e1 _; rw[e1]
   ·exact nomatch e
  ·rcases zcS hb with ⟨j,u,rfl,e⟩ | ⟨y,u,rfl,e⟩
   ·exact nomatch e
   ·injection e with e1 _; rw[e1]
 byValue:=λk v h=>by
  rcases zcS h with ⟨i,t,rfl,rfl⟩ | ⟨x,t,rfl,rfl⟩ <;> rfl
 pyHash:=λhv h=>by
  rcases zcS hv with ⟨i,t,rfl,rfl⟩ | ⟨x,t,rfl,rfl⟩
  ·exact wpAny_pyHash_int h
  ·exact wpAny_pyHash_str h
 eqBool:=λhu hv h=>by
  rcases zcS hu with ⟨i,t,rfl,rfl⟩ | ⟨x,t,rfl,rfl⟩
  ·rcases zcS hv with ⟨j,u,rfl,rfl⟩ | ⟨y,u,rfl,rfl⟩
   ·rw[ztG] at h; exact wpAny_eqBool_int h
   ·rw[zwn] at h; exact SeqAt.EqAt.int_str i t y u _ _ _ _ h
  ·rcases zcS hv with ⟨j,u,rfl,rfl⟩ | ⟨y,u,rfl,rfl⟩
   ·rw[ztD] at h; exact SeqAt.EqAt.str_int x t j u _ _ _ _ h
   ·rw[zrN] at h; exact wpAny_eqBool_str h
 «strs»:=λk x t v h=>by
  rcases zcS h with ⟨i,u,rfl,e⟩ | ⟨y,u,rfl,e⟩
  ·exact nomatch e
  ·injection e with e1 _
   subst e1
   cases v <;> rfl
end L2
namespace L2
open PySem PySem.Spec PyProof.Rows
inductive V where
 | non | bl (b:Bool) | int (i:Int) | str (x:Str) | byt (b:Array UInt8) | flt (b:UInt64) | ref (a:Addr) | ty (n:String)
 deriving DecidableEq
def zat:V→Value→Prop
 | .non,u=>u=Value.none
 | .bl b,u=>u=Value.bool b
 | .int i,u=>∃t,u=Value.int i t
 | .str x,u=>∃t,u=Value.str x t
 | .byt b,u=>∃t,u=Value.bytes b t
 | .flt b,u=>∃t,u=Value.float b t
 | .ref a,u=>u=Value.ref a
 | .ty n,u=>u=Value.type n
abbrev zax:List V→List Value→Prop:=Paired zat
theorem zax.length {xs:List V}{us:List Value}(r:zax xs us):xs.length=us.length:=Paired.length r
theorem zax.get:∀ {xs:List V} {us:List Value} {i:Nat} {x:V},zax xs us→xs[i]?=some x→∃u,us[i]?=some u∧zat x u
 | _,_,_,_,.nil,e=>by simp at e
 | _,_,0,_,.cons r _,e=>by simp at e; subst e; exact⟨_,rfl,r⟩
 | _,_,i+1,x,.cons _ t,e=>by
  obtain⟨u,h1,h2⟩:=zax.get (i:=i) (x:=x) t (by simpa using e)
  exact⟨u,by simpa using h1,h2⟩
theorem zax.set {x:V}{u:Value}(r:zat x u):∀ {xs:List V} {us:List Value} (i:Nat),zax xs us→zax (xs.set i x) (us.set i u)
 | _,_,_,.nil=>.nil
 | _,_,0,.cons _ t=>.cons r t
 | _,_,i+1,.cons q t=>.cons q (zax.set r i t)
theorem zax.append:∀ {xs ys:List V} {us ws:List Value},zax xs us→zax ys ws→zax (xs++ys) (us++ws)
 | _,_,_,_,.nil,s=>s
 | _,_,_,_,.cons r t,s=>.cons r (zax.append t s)
theorem zax.take:∀ {xs:List V} {us:List Value} (n:Nat),zax xs us→zax (xs.take n) (us.take n)
 | _,_,0,_=>.nil
 | _,_,_+1,.nil=>.nil
 | _,_,n+1,.cons r t=>.cons r (zax.take n t)
theorem zax.drop:∀ {xs:List V} {us:List Value} (n:Nat),zax xs us→zax (xs.drop n) (us.drop n)
 | _,_,0,r=>r
 | _,_,_+1,.nil=>.nil
 | _,_,n+1,.cons _ t=>zax.drop n t
theorem zax.none_of:∀ {xs:List V} {us:List Value} {i:Nat},zax xs us→xs[i]?=none→us[i]?=none:=λ{xs us i} r e=>by
 have h1:=r.length
 have h2:xs.length≤i:=VaQ.mp e
 exact VaQ.mpr (by omega)
def zbv:Option V→Option Value→Prop
 | some v,some u=>zat v u
 | none,none=>True
 | _,_=>False
def KV {κ:Type}:List (κ×V)→List (κ×Value)→Prop:=Paired λ(p:κ×V) (q:κ×Value)=>p.1=q.1∧zat p.2 q.2
def kV:Key→V
 | .inl i=>.int i
 | .inr x=>.str x
inductive HO where
  | lst (xs:List V)
  | tup (xs:List V)
  | dK (kvs:List (Key×V)) | dT (kvs:List (List Key×V))
  | set (S:Int→Bool) (n:Nat)
  | ins (C dx:Addr) (fs:List (Str×V))
  | own (x:Addr)
  | xd (fs:List (Str×V))
  | met (f x:Addr)
  | rng (lo hi:Int)
  | frz (o:Obj) (u:HO)
  | tbl (ps:Array Value)
  | ext (φ:Heap→Prop)
abbrev Hp:=Addr→Option HO
def upd (H:Hp)(a:Addr)(o:HO):Hp:=λb=>if b=a then some o else H b
theorem zcv {H:Hp}{a:Addr}{o:HO}:upd H a o a=some o:=by unfold upd; rw[if_pos rfl]
theorem za2 {H:Hp}{a b:Addr}{o:HO}(h:b≠a):upd H a o b=H b:=by unfold upd; rw[if_neg h]
theorem zmM {H:Hp}{a b:Addr}{o u:HO}(h:H a=some o)(h':H b=some u)(d:o≠u):a≠b:=by
 intro e; subst e; rw[h] at h'; exact d (Option.some.inj h')
theorem zc0 {H:Hp}{a b:Addr}{o:HO}(h:H a=some o)(h':H b=none):a≠b:=by
 intro e; subst e; rw[h] at h'; cases h'
section
variable (P:Program)(w:World)
def zbg (H:Hp)(h:Heap)(a:Addr):HO→Prop
 | .lst xs=>xs.length≤sizeLine∧∃(its:List Value) (n:Nat),zax xs its∧h.get? a=some { cls:=.type "list",data:=.seq its.toArray n }
 | .tup xs=>xs.length≤sizeLine∧∃its:List Value,zax xs its∧IsTup h a its.toArray
 | .dK kvs=>kvs.length≤sizeLine∧(a==sysModules)=false∧∃vs,KV kvs vs∧h.DictOf (zn0 P w) a vs
 | .dT kvs=>kvs.length≤sizeLine∧(a==sysModules)=false∧∃xs:List (List Key×Addr×Value),
   Paired (λ(p:List Key×V) (q:List Key×Addr×Value)=>p.1=q.1∧H q.2.1=some (.tup (p.1.map kV))∧zat p.2 q.2.2) kvs xs∧
   ∃o es ep,h.get? a=some o∧o.ExactDict∧o.data=.dict es ep∧es.toList=xs.map (entryOfKey (tupleKind (zn0 P w)))∧(xs.map (·.1)).Nodup
 | .set S n=>h.SetOf (intKind P w) a S n
 | .ins C dx fs=>H dx=some (.own a)∧fs.length≤1000∧dx≠a∧h.get? a=some (PySem.W.instObj C dx)∧
   ∃mA,h.Ns1 dx mA∧(∀f,zbv (fs.lookup f) (mA f))∧PySem.Within mA (fs.map (·.1))
 | .own _=>∃o,h.get? a=some o
 | .xd fs=>∃mA,h.Ns1 a mA∧∀f,zbv (fs.lookup f) (mA f)
 | .rng lo hi=>∃t u v,h.get? a=some { cls:=.type "range",data:=.fields #[.int lo t,.int hi u,.int 1 v] }
 | .frz o u=>h.get? a=some o∧zbg H h a u
 | .tbl ps=>h.get? a=some { cls:=.none,data:=.fields ps }
 | .met f x=>h.get? a=some (PySem.W.methodObj (.ref f) (.ref x))
 | .ext φ=>φ h∧(∃o,h.get? a=some o)∧∀h1 h2:Heap,φ h1→(∀o,h1.get? a=some o→h2.get? a=some o)→φ h2
def HOk (H:Hp)(h:Heap):Prop:=∀a o,H a=some o→zbg P w H h a o
end
section
variable {P:Program}{w:World}{H H':Hp}{h h':Heap}{a:Addr}{o:HO}
theorem zbg.lt (x:zbg P w H h a o):a<h.objs.size:=by
 cases o with
 | lst xs=>obtain⟨_,_,_,_,e⟩:=x; exact Heap.lt_size e
 | tup xs=>obtain⟨_,_,_,p⟩:=x; exact p.lt
 | dK kvs=>obtain⟨_,_,_,_,o,_,_,e,_⟩:=x; exact Heap.lt_size e
 | dT kvs=>obtain⟨_,_,_,_,o,_,_,e,_⟩:=x; exact Heap.lt_size e
 | set S n=>obtain⟨o,_,_,_,e,_⟩:=x; exact Heap.lt_size e
 | ins C dx fs=>obtain⟨_,_,_,e,_⟩:=x; exact Heap.lt_size e
 | own y=>obtain⟨_,e⟩:=x; exact Heap.lt_size e
 | xd fs=>obtain⟨_,⟨_,_,_,e,_⟩,_⟩:=x; exact Heap.lt_size e
 | rng lo hi=>obtain⟨_,_,_,e⟩:=x; exact Heap.lt_size e
 | frz ob u=>obtain⟨e,_⟩:=x; exact Heap.lt_size e
 | tbl ps=>exact Heap.lt_size (show h.get? a=some _ from x)
 | met f y=>exact Heap.lt_size (show h.get? a=some _ from x)
 | ext φ=>obtain⟨_,⟨_,e⟩,_⟩:=x; exact Heap.lt_size e
theorem Paired.mapP {α β:Type}{F G:α→β→Prop}:∀ {l₁:List α} {l₂:List β},Paired F l₁ l₂→(∀a b,F a b→G a b)→Paired G l₁ l₂
 | _,_,.nil,_=>.nil
 | _,_,.cons r t,f=>.cons (f _ _ r) (Paired.mapP t f)
theorem zbg.stay (x:zbg P w H h a o)(k:∀b u,(b=a∨H b=some (.own a))→h.get? b=some u→h'.get? b=some u)
  (ho:∀b,H b=some (.own a)→H' b=some (.own a))(ht:∀b xs,H b=some (.tup xs)→H' b=some (.tup xs)):zbg P w H' h' a o:=by
 induction o with
 | lst xs=>obtain⟨z,its,n,r,e⟩:=x; exact⟨z,its,n,r,k _ _ (.inl rfl) e⟩
 | tup xs=>obtain⟨z,its,r,ob,e,c⟩:=x; exact⟨z,its,r,ob,k _ _ (.inl rfl) e,c⟩
 | dK kvs=>obtain⟨z,y,vs,r,ob,es,ep,e,c⟩:=x; exact⟨z,y,vs,r,ob,es,ep,k _ _ (.inl rfl) e,c⟩
 | dT kvs=>
  obtain⟨z,y,xs,r,ob,es,ep,e,c⟩:=x
  exact⟨z,y,xs,Paired.mapP r λp q z=>⟨z.1,ht _ _ z.2.1,z.2.2⟩,ob,es,ep,k _ _ (.inl rfl) e,c⟩
 | set S n=>obtain⟨ob,es,ep,t,e,c⟩:=x; exact⟨ob,es,ep,t,k _ _ (.inl rfl) e,c⟩
 | ins C dx fs=>
  obtain⟨d,z,ne,e,mA,⟨od,es,ep,e2,c⟩,r⟩:=x
  exact⟨ho _ d,z,ne,k _ _ (.inl rfl) e,mA,⟨od,es,ep,k _ _ (.inr d) e2,c⟩,r⟩
 | own y=>obtain⟨ob,e⟩:=x; exact⟨ob,k _ _ (.inl rfl) e⟩
 | xd fs=>obtain⟨mA,⟨od,es,ep,e,c⟩,r⟩:=x; exact⟨mA,⟨od,es,ep,k _ _ (.inl rfl) e,c⟩,r⟩
 | rng lo hi=>obtain⟨t,u,v,e⟩:=x; exact⟨t,u,v,k _ _ (.inl rfl) e⟩
 | frz ob u ih=>obtain⟨e,q⟩:=x; exact⟨k _ _ (.inl rfl) e,ih q⟩
 | tbl ps=>
  have e:h.get? a=some { cls:=.none,data:=.fields ps }:=x
  show h'.get? a=some { cls:=.none,data:=.fields ps }
  exact k a _ (.inl rfl) e
 | met f y=>
  have e:h.get? a=some (PySem.W.methodObj (.ref f) (.ref y)):=x
  show h'.get? a=some (PySem.W.methodObj (.ref f) (.ref y))
  exact k a _ (.inl rfl) e
 | ext φ=>obtain⟨p,⟨o,e⟩,st⟩:=x; exact⟨st _ _ p λo q=>k _ _ (.inl rfl) q,⟨o,k _ _ (.inl rfl) e⟩,st⟩
theorem HOk.lt (x:HOk P w H h)(e:H a=some o):a<h.objs.size:=(x a o e).lt
theorem HOk.fresh (x:HOk P w H h)(e:h.objs.size≤a):H a=none:=by
 cases q:H a with
 | none=>rfl
 | some u=>exact absurd (Var (x.lt q) e) (VaJ _)
theorem HOk.kept (x:HOk P w H h)(k:∀b u,h.get? b=some u→h'.get? b=some u):HOk P w H h':=λa o e=>
 (x a o e).stay (λb u _ q=>k b u q) (λ_ q=>q) λ_ _ q=>q
theorem HOk.laid (x:HOk P w H h)(k:∀b u,h.get? b=some u→h'.get? b=some u)(hp:h.objs.size≤a)(new:zbg P w (upd H a o) h' a o):HOk P w (upd H a o) h':=λb u e=>by
 have hn:=x.fresh hp
 by_cases hb:b=a
 ·subst hb; rw[zcv] at e; cases e; exact new
 ·rw[za2 hb] at e
  exact(x b u e).stay (λc v _ q=>k c v q) (λc q=>by rw[za2 (zc0 q hn)]; exact q) λc xs q=>by rw[za2 (zc0 q hn)]; exact q
end
def Rd (H:Hp)(a:Addr)(u:HO):Prop:=H a=some u∨∃o,H a=some (.frz o u)
theorem Rd.of {H:Hp}{a:Addr}{u:HO}(h:H a=some u):Rd H a u:=.inl h
theorem Rd.ok {P:Program}{w:World}{H:Hp}{h:Heap}{a:Addr}{u:HO}(r:Rd H a u)(x:HOk P w H h):zbg P w H h a u:=by
 rcases r with r | ⟨o,r⟩
 ·exact x a u r
 ·obtain⟨_,q⟩:=x a _ r
  exact q
def Mut:Option HO→Prop
 | some (.lst _)=>True
 | some (.dK _)=>True
 | some (.dT _)=>True
 | some (.set _ _)=>True
 | some (.ins _ _ _)=>True
 | some (.ext _)=>True
 | _=>False
section
variable {P:Program}{w:World}{H:Hp}{h h':Heap}{x e:Addr}{o':HO}
theorem HOk.write (ok:HOk P w H h)(mu:Mut (H x))(he:e=x∨H e=some (.own x))(k:∀b u,b≠e→h.get? b=some u→h'.get? b=some u)(heo:∃u,h'.get? e=some u)
  (new:zbg P w (upd H x o') h' x o'):HOk P w (upd H x o') h':=λb u q=>by
 have nown:∀c y,H c=some (.own y)→c≠x:=λc y r z=>by subst z; rw[r] at mu; exact mu
 have ntup:∀c xs,H c=some (.tup xs)→c≠x:=λc xs r z=>by subst z; rw[r] at mu; exact mu
 by_cases hb:b=x
 ·subst hb; rw[zcv] at q; cases q; exact new
 ·rw[za2 hb] at q
  by_cases hbe:b=e
  ·have q':H b=some (.own x):=by
    rcases he with z | z
    ·exact absurd (hbe.trans z) hb
    ·rw[hbe]; exact z
   rw[q] at q'; cases q'
   obtain⟨v,hv⟩:=heo
   exact⟨v,by rw[hbe]; exact hv⟩
  ·refine(ok b u q).stay (λc v hc r=>k c v ?_ r) (λc r=>by rw[za2 (nown c b r)]; exact r) λc xs r=>by rw[za2 (ntup c xs r)]; exact r
   rcases hc with rfl | hc
   ·exact hbe
   ·rintro rfl
    rcases he with z | z
    ·exact nown c b hc z
    ·rw[hc] at z; cases z; exact hb rfl
end
structure Un (fs ex:List Addr)(H H':Hp)(h h':Heap):Prop where
 keep:∀b o,h.get? b=some o→H b=none→b ∉ fs→b ∉ ex→h'.get? b=some o
 slot:∀b o,h.get? b=some o→H b=none→b∈fs→b ∉ ex→∃sl,h'.get? b=some { o with slots:=sl }
 free:∀b o,h.get? b=some o→H b=none→b ∉ ex→H' b=none
 there:∀b o,h.get? b=some o→b ∉ ex→∃o',h'.get? b=some o'
 tups:∀b xs,H b=some (.tup xs)→H' b=some (.tup xs)
 frzs:∀b o u,H b=some (.frz o u)→H' b=some (.frz o u)
 tbls:∀b ps,H b=some (.tbl ps)→∃more,H' b=some (.tbl (ps++more))
section
variable {fs fs' ex ex':List Addr}{H H1 H2:Hp}{h h1 h2 h':Heap}{a x e:Addr}{o:HO}
theorem Un.any (u:Un fs ex H H1 h h1){b:Addr}{ob:Obj}(q:h.get? b=some ob)(n:H b=none)(hx:b ∉ ex):∃sl,h1.get? b=some { ob with slots:=sl }:=by
 by_cases hb:b∈fs
 ·exact u.slot b ob q n hb hx
 ·exact⟨ob.slots,u.keep b ob q n hb hx⟩
theorem Un.trans (a:Un fs ex H H1 h h1)(b:Un fs ex H1 H2 h1 h2):Un fs ex H H2 h h2 where
 keep:=λc ob q n hc hx=>b.keep c ob (a.keep c ob q n hc hx) (a.free c ob q n hx) hc hx
 slot:=λc ob q n hc hx=>by
  obtain⟨sl,e1⟩:=a.slot c ob q n hc hx
  obtain⟨sl',e2⟩:=b.slot c _ e1 (a.free c ob q n hx) hc hx
  exact⟨sl',e2⟩
 free:=λc ob q n hx=>by
  obtain⟨o',e1⟩:=a.there c ob q hx
  exact b.free c o' e1 (a.free c ob q n hx) hx
 there:=λc ob q hx=>by
  obtain⟨o',e1⟩:=a.there c ob q hx
  exact b.there c o' e1 hx
 tups:=λc xs q=>b.tups c xs (a.tups c xs q)
 frzs:=λc ob xs q=>b.frzs c ob xs (a.frzs c ob xs q)
 tbls:=λc ps q=>by
  obtain⟨m1,e1⟩:=a.tbls c ps q
  obtain⟨m2,e2⟩:=b.tbls c _ e1
  exact⟨m1++m2,by rw[e2,Array.append_assoc]⟩
theorem Un.kept (k:∀b u,h.get? b=some u→h'.get? b=some u):Un fs ex H H h h':=
 ⟨λb ob q _ _ _=>k b ob q,λb ob q _ _ _=>⟨ob.slots,k b ob q⟩,λ_ _ _ n _=>n,λb ob q _=>⟨ob,k b ob q⟩,λ_ _ q=>q,λ_ _ _ q=>q,λ_ ps q=>⟨#[],by rw[q]; simp⟩⟩
theorem Un.refl:Un fs ex H H h h:=Un.kept λ_ _ q=>q
theorem Un.laid (k:∀b u,h.get? b=some u→h'.get? b=some u)(hp:h.objs.size≤a)(hn:H a=none):Un fs ex H (upd H a o) h h' where
 keep:=λb u q _ _ _=>k b u q
 slot:=λb u q _ _ _=>⟨u.slots,k b u q⟩
 free:=λb u q n _=>by rw[za2 (Vas (Var (Heap.lt_size q) hp))]; exact n
 there:=λb u q _=>⟨u,k b u q⟩
 tups:=λb xs q=>by rw[za2 (zc0 q hn)]; exact q
 frzs:=λb u xs q=>by rw[za2 (zc0 q hn)]; exact q
 tbls:=λb ps q=>⟨#[],by rw[za2 (zc0 q hn),q]; simp⟩
theorem Un.write (mu:Mut (H x))(he:e=x∨H e=some (.own x))(k:∀b u,b≠e→h.get? b=some u→h'.get? b=some u)(heo:∃u,h'.get? e=some u):Un fs ex H (upd H x o) h h':=by
 have hx:∀b,H b=none→b≠x:=λb n z=>by subst z; rw[n] at mu; exact mu
 have hb:∀b,H b=none→b≠e:=λb n z=>by
  subst z
  rcases he with r | r
  ·exact hx b n r
  ·rw[n] at r; cases r
 have hm:∀b u,H b=some u→¬ Mut (some u)→b≠x:=λb u q nm z=>by subst z; rw[q] at mu; exact nm mu
 refine⟨λb u q n _ _=>k b u (hb b n) q,λb u q n _ _=>⟨u.slots,k b u (hb b n) q⟩,λb u q n _=>by rw[za2 (hx b n)]; exact n,λb u q _=>?_,
  λb xs q=>by rw[za2 (hm b _ q λz=>z)]; exact q,λb u xs q=>by rw[za2 (hm b _ q λz=>z)]; exact q,λb ps q=>⟨#[],by rw[za2 (hm b _ q λz=>z),q]; simp⟩⟩
 by_cases hbe:b=e
 ·subst hbe; exact heo
 ·exact⟨u,k b u hbe q⟩
theorem Un.mono (u:Un fs ex H H1 h h1)(hs:∀b∈fs,b∈fs')(hx:∀b∈ex,b∈ex'):Un fs' ex' H H1 h h1:=
 ⟨λb ob q n hb he=>u.keep b ob q n (λz=>hb (hs b z)) λz=>he (hx b z),λ_ _ q n _ he=>u.any q n λz=>he (hx _ z),λb ob q n he=>u.free b ob q n λz=>he (hx b z),λb ob q he=>u.there b ob q λz=>he (hx b z),u.tups,u.frzs,u.tbls⟩
end
def trk (h:Heap)(H:Hp):List Addr:=(List.range h.objs.size).filter λa=>(H a).isSome
def zcz (h:Heap)(H:Hp):Heap:=PySem.W.hideAll h (trk h H)
theorem zqf (h:Heap)(H:Hp):(zcz h H).objs.size=h.objs.size:=PySem.W.hideAll_size _ _
theorem zvn {h:Heap}{H:Hp}{b:Addr}{o:Obj}(e:h.get? b=some o)(n:H b=none):(zcz h H).get? b=some o:=
 PySem.W.hideAll_get _ e λhm=>by
  have q:(H b).isSome=true:=(List.mem_filter.mp hm).2
  rw[n] at q; simp at q
theorem zuX {h:Heap}{H:Hp}{b:Addr}{o:Obj}(e:(zcz h H).get? b=some o):h.get? b=some o∧H b=none:=by
 have e':h.get? b=some o:=PySem.W.of_hideAll (trk h H) e
 refine⟨e',?_⟩
 cases q:H b with
 | none=>rfl
 | some x=>
  have hm:b∈trk h H:=List.mem_filter.mpr ⟨List.mem_range.mpr (Heap.lt_size e'),by simp[q]⟩
  have z:(zcz h H).get? b=none:=PySem.W.hideAll_none (trk h H) hm
  rw[z] at e; cases e
def zuA (g h:Heap)(L:Addr):List (Addr×Obj):=(List.range h.objs.size).filterMap λa=>if a=L∨(g.get? a).isSome=true then none else (h.get? a).map λo=>(a,o)
def zbe (g h:Heap)(L d:Addr):List (Addr×Obj):=(zuA g h L).filter λp=>decide (p.1≠d)
end L2
namespace L2
open PySem PySem.Spec PyProof.Rows
structure Mod (K:PySem.W.Frag)(mg:Str→Option Value)(base:Heap):Prop where
 kin:K.In base
 glob:base.Ns mainGlobals mg
 blt:∃mb,base.Ns builtinsNs mb∧∀x:Str,x≠"__name__"→mb x=bootBuiltins x
 nolimit:base.NoLimit
structure Cx where
 prog:Program
 w:World
 K:PySem.W.Frag
 mg:Str→Option Value
 base:Heap
 A:Around
 N:List Str
 s₀:Shared
 H₀:Hp
 env:Env
 outer:List Env
 stack:List Env
 ex:List Addr
 fn:Str→Bool
 calm:Bool
 pn:List (Addr×Obj)
 xe:Value→Shared→Prop
def frs (l:List Env):List Addr:=l.filterMap (·.frame)
abbrev Cx.fs (X:Cx):List Addr:=frs X.outer
def Vis (sc:Scope)(x:Str):Prop:=sc.names.lookup x=some .local∨sc.names.lookup x=some .cell∨sc.names.lookup x=some .free
def Loc (sc:Scope)(x:Str):Prop:=sc.names.lookup x=some .local∨sc.names.lookup x=some .cell
def Look (env:Env)(h:Heap)(m:Str→Option Value)(x:Str)(u:Value):Prop:=
 (env.kindOf x=some .local∧m x=some u)∨((env.kindOf x=some .cell∨env.kindOf x=some .free)∧∃c,env.cells.lookup x=some c∧h.IsCell c (some u))
structure Cx.Ok (X:Cx):Prop where
 mod:Mod X.K X.mg X.base
 kind:X.env.scope.kind=.function
 glob:X.env.globals=mainGlobals
 blt:X.env.builtins=builtinsNs
 above:X.s₀.heap.objs.size≤X.env.locals
 inj:∀x y c,X.env.cells.lookup x=some c→X.env.cells.lookup y=some c→x=y
 has:∀x,(X.env.kindOf x=some .cell∨X.env.kindOf x=some .free)→∃c,X.env.cells.lookup x=some c
 cab:∀x c,X.fn x=true→X.env.cells.lookup x=some c→X.s₀.heap.objs.size≤c
 hd:X.calm=true→X.A.handled=none
 frames:X.A.frames=some X.stack
 stk:X.stack=X.outer∨(X.stack=X.env::X.outer∧X.env.frame=some X.env.locals)
 exf:∀b∈X.ex,b≠X.env.locals∧∀x c,X.env.cells.lookup x=some c→c≠b
 bs:∀b o,X.base.get? b=some o→X.s₀.heap.get? b=some o∧X.H₀ b=none
 bsz:X.base.objs.size≤X.s₀.heap.objs.size
 noex:∀b o,X.base.get? b=some o→b ∉ X.ex
 exfs:∀b∈X.ex,b ∉ X.fs
 funs:X.s₀.heap.FunFrames X.base X.outer
 frf:∀b∈X.fs,X.H₀ b=none
structure Inv (X:Cx)(pins:List (Addr×Obj))(σ:List (Option V))(H:Hp)(s:Shared):Prop where
 ok:X.Ok
 os:s.os=X.s₀.os
 bare:AllBare s.gens
 base:Un X.fs X.ex X.H₀ H X.s₀.heap s.heap
 loc:∃m,s.heap.Ns X.env.locals m∧∀(i:Nat) (x:Str) (v:V),X.N[i]?=some x→σ[i]?=some (some v)→Vis X.env.scope x→∃u,zat v u∧Look X.env s.heap m x u
 cell:∀x c,X.env.cells.lookup x=some c→∃v,s.heap.IsCell c v
 free:H X.env.locals=none
 freeC:∀x c,X.env.cells.lookup x=some c→H c=none
 pin:∀p∈X.pn++pins,s.heap.get? p.1=some p.2∧H p.1=none∧p.1≠X.env.locals∧p.1 ∉ X.fs∧∀v,p.2.data≠.cell v
 hok:HOk X.prog X.w H s.heap
 len:σ.length=X.N.length
section
variable {X:Cx}{pins:List (Addr×Obj)}{σ:List (Option V)}{H H':Hp}{s:Shared}{h':Heap}
theorem Cx.Ok.nofr (ok:X.Ok){b:Addr}{o:Obj}(e:X.base.get? b=some o):b ∉ X.fs:=λhb=>by
 have:=(ok.funs.mem hb).1
 rw[e] at this; cases this
theorem Inv.bs (I:Inv X pins σ H s):∀b o,X.base.get? b=some o→s.heap.get? b=some o∧H b=none:=λb o e=>
 ⟨I.base.keep b o (I.ok.bs b o e).1 (I.ok.bs b o e).2 (I.ok.nofr e) (I.ok.noex b o e),I.base.free b o (I.ok.bs b o e).1 (I.ok.bs b o e).2 (I.ok.noex b o e)⟩
theorem Inv.bk (I:Inv X pins σ H s):∀b o,X.base.get? b=some o→s.heap.get? b=some o:=λb o e=>(I.bs b o e).1
theorem Inv.mod (I:Inv X pins σ H s):Mod X.K X.mg X.base:=I.ok.mod
theorem Inv.kIn (I:Inv X pins σ H s):X.K.In s.heap:=I.ok.mod.kin.keeps I.bk
theorem Inv.nolimit (I:Inv X pins σ H s):s.heap.NoLimit:=I.ok.mod.nolimit.keeps I.bk
theorem Inv.fr (I:Inv X pins σ H s):∃m,Fr X.base X.env.locals s.heap m:=
 let ⟨m,hn,_⟩:=I.loc
 ⟨m,hn,I.bk,VaB I.ok.bsz I.ok.above⟩
theorem Inv.lt (I:Inv X pins σ H s):X.env.locals<s.heap.objs.size:=let ⟨_,hn,_⟩:=I.loc; hn.lt
theorem Inv.sz (I:Inv X pins σ H s):X.s₀.heap.objs.size≤s.heap.objs.size:=VaB I.ok.above (VaV I.lt)
theorem Inv.nofs (I:Inv X pins σ H s){a:Addr}(h:s.heap.objs.size≤a):a ∉ X.fs:=λhb=>by
 obtain⟨_,o,ho,_⟩:=I.ok.funs.mem hb
 exact absurd (Var (Heap.lt_size ho) (VaB I.sz h)) (VaJ _)
theorem Inv.cne (I:Inv X pins σ H s):∀x c,X.env.cells.lookup x=some c→c≠X.env.locals:=λx c e z=>by
 obtain⟨v,o,ho,hd⟩:=I.cell x c e
 obtain⟨m,⟨o',es,ep,ho',hd',_⟩,_⟩:=I.loc
 rw[z,ho'] at ho; cases ho; rw[hd'] at hd; cases hd
theorem Inv.funs (I:Inv X pins σ H s):s.heap.FunFrames X.base X.outer:=by
 have all:∀(l:List Env),(∀b∈frs l,b∈X.fs)→X.s₀.heap.FunFrames X.base l→s.heap.FunFrames X.base l:=by
  intro l
  induction l with
  | nil=>intro _ _; trivial
  | cons env r ih=>
   intro hs hl
   obtain⟨hk,⟨L,o,hf,hn,ho,hd⟩,hr⟩:=hl
   have hL:L∈X.fs:=hs L (by unfold frs; rw[List.filterMap_cons,hf]; exact VaW)
   obtain⟨sl,e⟩:=I.base.slot L o ho (I.ok.frf L hL) hL λz=>I.ok.exfs L z hL
   exact⟨hk,⟨L,_,hf,hn,e,hd⟩,ih (λb hb=>hs b (by unfold frs; rw[List.filterMap_cons,hf]; exact VaG _ hb)) hr⟩
 exact all X.outer (λ_ hb=>hb) I.ok.funs
theorem Inv.stack (I:Inv X pins σ H s):s.heap.FunFrames X.base X.stack:=by
 rcases I.ok.stk with e | ⟨e,hf⟩
 ·rw[e]; exact I.funs
 ·rw[e]
  obtain⟨m,hn,_⟩:=I.loc
  refine .cons (by rw[I.ok.kind]; decide) hf hn ?_ I.funs
  exact Heap.get?_none_of_le (VaB I.ok.bsz I.ok.above)
theorem Inv.stkSub (I:Inv X pins σ H s):∀b∈frs X.stack,b∈X.env.locals::X.fs:=λb hb=>by
 rcases I.ok.stk with e | ⟨e,hf⟩
 ·rw[e] at hb; exact VaG _ hb
 ·rw[e] at hb
  unfold frs at hb
  rw[List.filterMap_cons,hf] at hb
  exact hb
theorem Inv.stkFree (I:Inv X pins σ H s):∀b∈frs X.stack,H b=none:=λb hb=>by
 rcases Vai.mp (I.stkSub b hb) with e | hb
 ·rw[e]; exact I.free
 ·obtain⟨_,o,ho,_⟩:=I.ok.funs.mem hb
  exact I.base.free b o ho (I.ok.frf b hb) λz=>I.ok.exfs b z hb
theorem Inv.step {g':Array GenState}{t':Nat}{d':Drawn}{ch:List Addr}(I:Inv X pins σ H s)
  (hch:∀b∈ch,(b∈X.ex∨X.s₀.heap.objs.size≤b)∧b≠X.env.locals∧(∀x c,X.env.cells.lookup x=some c→c≠b)∧∀p∈X.pn++pins,p.1≠b)
  (keep:∀b o,b≠X.env.locals→b ∉ X.fs→b ∉ ch→s.heap.get? b=some o→H b=none→h'.get? b=some o)
  (slot:∀b o,b≠X.env.locals→b∈X.fs→b ∉ ch→s.heap.get? b=some o→H b=none→∃sl,h'.get? b=some { o with slots:=sl })(free:∀b o,b ∉ ch→s.heap.get? b=some o→H b=none→H' b=none)
  (there:∀b o,b ∉ ch→s.heap.get? b=some o→∃o',h'.get? b=some o')
  (tups:∀b xs,H b=some (.tup xs)→H' b=some (.tup xs))(frzs:∀b o u,H b=some (.frz o u)→H' b=some (.frz o u))(tbls:∀b ps,H b=some (.tbl ps)→∃more,H' b=some (.tbl (ps++more)))
  (ns:∀m,s.heap.Ns X.env.locals m→h'.Ns X.env.locals m)(hok:HOk X.prog X.w H' h')(hg:AllBare g'):
  Inv X pins σ H' { s with heap:=h',gens:=g',drawn:=d',toks:=t' }:=by
 have neL:∀b o,X.s₀.heap.get? b=some o→b≠X.env.locals:=λb o e=>Vas (Var (Heap.lt_size e) I.ok.above)
 have neC:∀b o,X.s₀.heap.get? b=some o→b ∉ X.ex→b ∉ ch:=λb o e hx hb=>by
  rcases (hch b hb).1 with z | z
  ·exact hx z
  ·exact absurd (Var (Heap.lt_size e) z) (VaJ _)
 have cellK:∀x c,X.env.cells.lookup x=some c→∀v,s.heap.IsCell c v→h'.IsCell c v:=λx c e v ⟨o,ho,hd⟩=>by
  have nch:c ∉ ch:=λz=>(hch c z).2.2.1 x c e rfl
  by_cases hc:c∈X.fs
  ·obtain⟨sl,q⟩:=slot c o (I.cne x c e) hc nch ho (I.freeC x c e)
   exact⟨_,q,hd⟩
  ·exact⟨o,keep c o (I.cne x c e) hc nch ho (I.freeC x c e),hd⟩
 refine⟨I.ok,I.os,hg,⟨λb o e n hb hx=>?_,λb o e n hb hx=>?_,λb o e n hx=>?_,λb o e hx=>?_,λb xs e=>tups b xs (I.base.tups b xs e),λb o xs e=>frzs b o xs (I.base.frzs b o xs e),λb ps e=>?_⟩,?_,λx c e=>?_,?_,λx c e=>?_,λp hp=>?_,hok,I.len⟩
 ·exact keep b o (neL b o e) hb (neC b o e hx) (I.base.keep b o e n hb hx) (I.base.free b o e n hx)
 ·obtain⟨sl,e1⟩:=I.base.slot b o e n hb hx
  obtain⟨sl',e2⟩:=slot b _ (neL b o e) hb (neC b o e hx) e1 (I.base.free b o e n hx)
  exact⟨sl',e2⟩
 ·obtain⟨o',e1⟩:=I.base.there b o e hx
  exact free b o' (neC b o e hx) e1 (I.base.free b o e n hx)
 ·obtain⟨o',e1⟩:=I.base.there b o e hx
  exact there b o' (neC b o e hx) e1
 ·obtain⟨m1,e1⟩:=I.base.tbls b ps e
  obtain⟨m2,e2⟩:=tbls b _ e1
  exact⟨m1++m2,by rw[e2,Array.append_assoc]⟩
 ·obtain⟨m,hn,hl⟩:=I.loc
  refine⟨m,ns m hn,λi x v e1 e2 e3=>?_⟩
  obtain⟨u,r,l⟩:=hl i x v e1 e2 e3
  refine⟨u,r,?_⟩
  rcases l with l | ⟨k,c,e,z⟩
  ·exact .inl l
  ·exact .inr ⟨k,c,e,cellK x c e _ z⟩
 ·obtain⟨v,z⟩:=I.cell x c e
  exact⟨v,cellK x c e v z⟩
 ·obtain⟨m,⟨o,_,_,ho,_⟩,_⟩:=I.loc
  exact free _ o (λz=>(hch _ z).2.1 rfl) ho I.free
 ·obtain⟨v,o,ho,hd⟩:=I.cell x c e
  exact free c o (λz=>(hch c z).2.2.1 x c e rfl) ho (I.freeC x c e)
 ·obtain⟨e,n,ne,nf,d⟩:=I.pin p hp
  have nch:p.1 ∉ ch:=λz=>(hch p.1 z).2.2.2 p hp rfl
  exact⟨keep p.1 p.2 ne nf nch e n,free p.1 p.2 nch e n,ne,nf,d⟩
theorem Inv.un {t':Nat}(I:Inv X pins σ H s)(u:Un X.fs [] H H' s.heap h')(hok:HOk X.prog X.w H' h'):Inv X pins σ H' { s with heap:=h',toks:=t' }:=by
 obtain⟨m,⟨o,es,ep,ho,r⟩,_⟩:=id I.loc
 obtain⟨sl,hL⟩:=u.any ho I.free (by simp)
 exact I.step (g':=s.gens) (d':=s.drawn) (ch:=[]) (λ_ z=>nomatch z) (λb o _ hb _ e n=>u.keep b o e n hb (by simp)) (λb o _ hb _ e n=>u.slot b o e n hb (by simp)) (λb o _ e n=>u.free b o e n (by simp)) (λb o _ e=>u.there b o e (by simp)) u.tups u.frzs u.tbls (λm' hm=>by
  obtain⟨o',es',ep',ho',r'⟩:=hm
  rw[ho] at ho'; cases ho'
  exact⟨_,es',ep',hL,r'⟩) hok I.bare
theorem Inv.call {g':Array GenState}{t':Nat}{d':Drawn}{ch:List Addr}(I:Inv X pins σ H s)(u:Un (frs X.stack) ch H H' s.heap h')(hok:HOk X.prog X.w H' h')(hg:AllBare g')
  (hch:∀b∈ch,(b∈X.ex∨X.s₀.heap.objs.size≤b)∧b≠X.env.locals∧(∀x c,X.env.cells.lookup x=some c→c≠b)∧∀p∈X.pn++pins,p.1≠b):
  Inv X pins σ H' { s with heap:=h',gens:=g',drawn:=d',toks:=t' }:=by
 obtain⟨m,⟨o,es,ep,ho,r⟩,_⟩:=id I.loc
 obtain⟨sl,hL⟩:=u.any ho I.free λz=>(hch _ z).2.1 rfl
 exact I.step (ch:=ch) hch (λb o hL hb hc e n=>u.keep b o e n (λz=>(Vai.mp (I.stkSub b z)).elim hL hb) hc) (λb o _ _ hc e n=>u.any e n hc) (λb o hc e n=>u.free b o e n hc) (λb o hc e=>u.there b o e hc) u.tups u.frzs u.tbls (λm' hm=>by
  obtain⟨o',es',ep',ho',r'⟩:=hm
  rw[ho] at ho'; cases ho'
  exact⟨_,es',ep',hL,r'⟩) hok hg
theorem Inv.turned {t':Nat}{it:Addr}(I:Inv X pins σ H s)(k:∀b o,b≠it→s.heap.get? b=some o→h'.get? b=some o)(hn:H it=none)(hL:it≠X.env.locals)
  (h1:it∈X.ex∨X.s₀.heap.objs.size≤it)(h2:∀x c,X.env.cells.lookup x=some c→c≠it)(h3:∀p∈X.pn++pins,p.1≠it):Inv X pins σ H { s with heap:=h',toks:=t' }:=by
 have nit:∀b u,H b=some u→b≠it:=λb u e z=>by rw[z,hn] at e; cases e
 refine I.step (g':=s.gens) (d':=s.drawn) (ch:=[it]) (λb hb=>?_) (λb o _ _ hc e _=>k b o (λz=>hc (by simp[z])) e) (λb o _ _ hc e _=>⟨o.slots,k b o (λz=>hc (by simp[z])) e⟩) (λ_ _ _ _ n=>n)
  (λb o hc e=>⟨o,k b o (λz=>hc (by simp[z])) e⟩) (λ_ _ e=>e) (λ_ _ _ e=>e) (λb ps e=>⟨#[],by rw[e]; simp⟩) (λm hm=>?_) (λb u e=>?_) I.bare
 ·have e:b=it:=by simpa using hb
  subst e
  exact⟨h1,hL,h2,h3⟩
 ·obtain⟨o,es,ep,ho,r⟩:=hm
  exact⟨o,es,ep,k _ o (Ne.symm hL) ho,r⟩
 ·refine(I.hok b u e).stay (λc v hc q=>k c v ?_ q) (λ_ q=>q) λ_ _ q=>q
  rcases hc with z | z
  ·rw[z]; exact nit b u e
  ·exact nit c _ z
theorem Inv.tok (I:Inv X pins σ H s)(t:Nat):Inv X pins σ H { s with toks:=t }:=I.un (h':=s.heap) (t':=t) Un.refl I.hok
theorem Inv.kept {t':Nat}(I:Inv X pins σ H s)(k:∀b u,s.heap.get? b=some u→h'.get? b=some u):Inv X pins σ H { s with heap:=h',toks:=t' }:=I.un (Un.kept k) (I.hok.kept k)
theorem Inv.laid {a:Addr}{o:HO}{t':Nat}(I:Inv X pins σ H s)(k:∀b u,s.heap.get? b=some u→h'.get? b=some u)(hp:s.heap.objs.size≤a)(new:zbg X.prog X.w (upd H a o) h' a o):
  Inv X pins σ (upd H a o) { s with heap:=h',toks:=t' }:=I.un (Un.laid k hp (I.hok.fresh hp)) (I.hok.laid k hp new)
theorem Inv.write {x e:Addr}{o:HO}{t':Nat}(I:Inv X pins σ H s)(mu:Mut (H x))(he:e=x∨H e=some (.own x))(k:∀b u,b≠e→s.heap.get? b=some u→h'.get? b=some u)(heo:∃u,h'.get? e=some u)
  (new:zbg X.prog X.w (upd H x o) h' x o):Inv X pins σ (upd H x o) { s with heap:=h',toks:=t' }:=I.un (Un.write mu he k heo) (I.hok.write mu he k heo new)
theorem Inv.pins_of {pins':List (Addr×Obj)}(I:Inv X pins σ H s)(h:∀p∈pins',s.heap.get? p.1=some p.2∧H p.1=none∧p.1≠X.env.locals∧p.1 ∉ X.fs∧∀v,p.2.data≠.cell v):Inv X pins' σ H s:=
 ⟨I.ok,I.os,I.bare,I.base,I.loc,I.cell,I.free,I.freeC,λp hp=>(VaX.mp hp).elim (λz=>I.pin p (List.mem_append_left _ z)) (h p),I.hok,I.len⟩
theorem zpS {N:List Str}(hN:N.Nodup){i j:Nat}{x:Str}(a:N[i]?=some x)(b:N[j]?=some x):i=j:=by
 obtain⟨h1,e1⟩:=Vab.mp a
 obtain⟨h2,e2⟩:=Vab.mp b
 exact(List.getElem_inj hN).mp (e1.trans e2.symm)
theorem zn9 {M:Model}{A:Around}{E:Value→Shared→Prop}{i:Nat}{x:Str}{v:V}{u:Value}{Q:Unit→Shared→Prop}(I:Inv X pins σ H s)(hN:X.N.Nodup)(hi:X.N[i]?=some x)(hx:Loc X.env.scope x)(r:zat v u)
  (h:∀s',Inv X pins (σ.set i (some v)) H s'→(∃a,Heap.SameBut a s.heap s'.heap∧(a=X.env.locals∨X.env.cells.lookup x=some a))→Q () s')(hf:X.fn x=true∨X.env.scope.names.lookup x=some .local:=by first | exact .inl rfl | exact .inr rfl | assumption):wpAny M A (storeName X.env x u) Q E s:=by
 obtain⟨m,hn,hl⟩:=id I.loc
 have hcls:(X.env.scope.kind==.class||(X.env.scope.kind==.module&&X.env.locals != X.env.globals))=false:=by rw[I.ok.kind]; rfl
 have hiσ:i<σ.length:=by rw[I.len]; exact(Vab.mp hi).1
 have cne:=I.cne
 have tracked:∀ {a:Addr} {h':Heap},(∃o,s.heap.get? a=some o∧H a=none)→Heap.SameBut a s.heap h'→HOk X.prog X.w H h':=λ{a h'} ha hs b ob e=>by
  obtain⟨_,_,hfree⟩:=ha
  refine(I.hok b ob e).stay (λc w' hc q=>(hs.2 c ?_).trans q) (λ_ q=>q) λ_ _ q=>q
  rintro rfl
  rcases hc with rfl | hc
  ·rw[hfree] at e; cases e
  ·rw[hfree] at hc; cases hc
 rcases hx with hk | hk
 ·refine wpAny_storeName_local hk hn (λh' hn' hs=>?_) hcls
  obtain⟨oL,_,_,hoL,_⟩:=id hn
  refine h _ ⟨I.ok,I.os,I.bare,⟨λb o e n hb hx=>?_,λb o e n hb hx=>?_,I.base.free,λb o e hx=>?_,I.base.tups,I.base.frzs,I.base.tbls⟩,⟨_,hn',λj y v' e1 e2 e3=>?_⟩,λy c e=>?_,I.free,I.freeC,λp hp=>?_,tracked ⟨oL,hoL,I.free⟩ hs,by simpa using I.len⟩ ⟨_,hs,.inl rfl⟩
  ·exact(hs.2 b (Vas (Var (Heap.lt_size e) I.ok.above))).trans (I.base.keep b o e n hb hx)
  ·obtain⟨sl,e1⟩:=I.base.slot b o e n hb hx
   exact⟨sl,(hs.2 b (Vas (Var (Heap.lt_size e) I.ok.above))).trans e1⟩
  ·obtain⟨o',e1⟩:=I.base.there b o e hx
   exact⟨o',(hs.2 b (Vas (Var (Heap.lt_size e) I.ok.above))).trans e1⟩
  ·by_cases hj:j=i
   ·subst hj
    rw[hi] at e1; cases e1
    rw[VaY hiσ] at e2
    cases e2
    exact⟨u,r,.inl ⟨hk,by simp⟩⟩
   ·rw[VaR (Ne.symm hj)] at e2
    obtain⟨u',r',q⟩:=hl j y v' e1 e2 e3
    refine⟨u',r',?_⟩
    rcases q with ⟨k,e⟩ | ⟨k,c,e,z⟩
    ·refine .inl ⟨k,?_⟩
     have:y≠x:=λe=>hj (zpS hN e1 (e ▸ hi))
     simp[this,e]
    ·exact .inr ⟨k,c,e,z.sameBut hs (cne y c e)⟩
  ·obtain⟨w',z⟩:=I.cell y c e
   exact⟨w',z.sameBut hs (cne y c e)⟩
  ·obtain⟨e,n,ne,nf,d⟩:=I.pin p hp
   exact⟨(hs.2 p.1 ne).trans e,n,ne,nf,d⟩
 ·have hfn:X.fn x=true:=by
   rcases hf with z | z
   ·exact z
   ·rw[z] at hk; cases hk
  obtain⟨c,hc⟩:=I.ok.has x (.inl hk)
  obtain⟨w',z⟩:=I.cell x c hc
  refine wpAny_storeName_cell I.ok.kind hk hc z (λh' hc' hs=>?_)
  obtain⟨oc,hoc,hocd⟩:=id z
  refine h { s with heap:=h' } ⟨I.ok,I.os,I.bare,⟨λb o e n hb hx=>?_,λb o e n hb hx=>?_,I.base.free,λb o e hx=>?_,I.base.tups,I.base.frzs,I.base.tbls⟩,⟨m,hn.sameBut hs (Ne.symm (cne x c hc)),λj y v' e1 e2 e3=>?_⟩,λy c' e=>?_,I.free,I.freeC,λp hp=>?_,tracked ⟨oc,hoc,I.freeC x c hc⟩ hs,by simpa using I.len⟩ ⟨c,hs,.inr hc⟩
  ·exact(hs.2 b (Vas (Var (Heap.lt_size e) (I.ok.cab x c hfn hc)))).trans (I.base.keep b o e n hb hx)
  ·obtain⟨sl,e1⟩:=I.base.slot b o e n hb hx
   exact⟨sl,(hs.2 b (Vas (Var (Heap.lt_size e) (I.ok.cab x c hfn hc)))).trans e1⟩
  ·obtain⟨o',e1⟩:=I.base.there b o e hx
   exact⟨o',(hs.2 b (Vas (Var (Heap.lt_size e) (I.ok.cab x c hfn hc)))).trans e1⟩
  ·by_cases hj:j=i
   ·subst hj
    rw[hi] at e1; cases e1
    rw[VaY hiσ] at e2
    cases e2
    exact⟨u,r,.inr ⟨.inl hk,c,hc,hc'⟩⟩
   ·rw[VaR (Ne.symm hj)] at e2
    obtain⟨u',r',q⟩:=hl j y v' e1 e2 e3
    refine⟨u',r',?_⟩
    rcases q with q | ⟨k,c',e,z'⟩
    ·exact .inl q
    ·refine .inr ⟨k,c',e,z'.sameBut hs ?_⟩
     rintro rfl
     exact hj (zpS hN e1 (I.ok.inj _ _ _ e hc ▸ hi))
  ·by_cases hcc:c'=c
   ·subst hcc; exact⟨_,hc'⟩
   ·obtain⟨w2,z2⟩:=I.cell y c' e
    exact⟨w2,z2.sameBut hs hcc⟩
  ·obtain⟨e,n,ne,nf,d⟩:=I.pin p hp
   refine⟨(hs.2 p.1 ?_).trans e,n,ne,nf,d⟩
   intro q
   rw[q,hoc] at e
   have q':oc=p.2:=Option.some.inj e
   exact d w' (by rw[← q']; exact hocd)
theorem zpp {M:Model}{A:Around}{E:Value→Shared→Prop}{i:Nat}{x:Str}{v:V}{u:Value}{Q:Unit→Shared→Prop}(I:Inv X pins σ H s)(hN:X.N.Nodup)(hi:X.N[i]?=some x)(hx:Loc X.env.scope x)(r:zat v u)
  (h:∀s',Inv X pins (σ.set i (some v)) H s'→Q () s')(hf:X.fn x=true∨X.env.scope.names.lookup x=some .local:=by first | exact .inl rfl | exact .inr rfl | assumption):wpAny M A (storeName X.env x u) Q E s:=
 zn9 I hN hi hx r (λs' I' _=>h s' I') hf
theorem Inv.call' {s':Shared}{ch:List Addr}(I:Inv X pins σ H s)(ho:s'.os=s.os)(u:Un (frs X.stack) ch H H' s.heap s'.heap)(hok:HOk X.prog X.w H' s'.heap)(hg:AllBare s'.gens)
  (hch:∀b∈ch,(b∈X.ex∨X.s₀.heap.objs.size≤b)∧b≠X.env.locals∧(∀x c,X.env.cells.lookup x=some c→c≠b)∧∀p∈X.pn++pins,p.1≠b):Inv X pins σ H' s':=by
 obtain⟨h',g',d',t',o'⟩:=s'
 have e:o'=s.os:=ho
 subst e
 exact I.call (g':=g') (t':=t') (d':=d') u hok hg hch
end
abbrev XK:=Value→Option Addr→Hp→Prop
abbrev St:=List (Option V)
abbrev VK:=V→Hp→Prop
abbrev TE:=St→Hp→VK→Prop
abbrev TT:=St→Hp→(Bool→Hp→Prop)→Prop
abbrev TA:=St→Hp→(List V→Hp→Prop)→Prop
structure zcV where
 nx:St→Hp→Prop
 rt:VK
 bk:St→Hp→Prop:=λ_ _=>False
 ct:St→Hp→Prop:=λ_ _=>False
abbrev TS:=zcV→St→Hp→Prop
def EP (X:Cx)(pins:List (Addr×Obj))(σ:St)(Q:VK)(u:Value)(s':Shared):Prop:=∃v H',Inv X pins σ H' s'∧zat v u∧Q v H'
def TP (X:Cx)(pins:List (Addr×Obj))(σ:St)(Q:Bool→Hp→Prop)(b:Bool)(s':Shared):Prop:=∃H',Inv X pins σ H' s'∧Q b H'
def AP (X:Cx)(pins:List (Addr×Obj))(σ:St)(Q:List V→Hp→Prop)(us:List Value)(s':Shared):Prop:=∃vs H',Inv X pins σ H' s'∧zax vs us∧Q vs H'
def SP (X:Cx)(pins:List (Addr×Obj))(D:zcV)(f:Flow)(s':Shared):Prop:=
 match f with
 | .next=>∃σ' H',Inv X pins σ' H' s'∧D.nx σ' H'
 | .brk=>∃σ' H',Inv X pins σ' H' s'∧D.bk σ' H'
 | .cont=>∃σ' H',Inv X pins σ' H' s'∧D.ct σ' H'
 | .ret u=>∃v σ' H',Inv X pins σ' H' s'∧zat v u∧D.rt v H'
def PE (X:Cx)(e:Expr)(t:TE):Prop:=
 ∀(pins:List (Addr×Obj)) (s:Shared) (σ:St) (H:Hp) (Q:VK),Inv X pins σ H s→t σ H Q→wpAny (model X.prog X.w) X.A (eval e X.env) (EP X pins σ Q) X.xe s
def PT (X:Cx)(e:Expr)(t:TT):Prop:=
 ∀(pins:List (Addr×Obj)) (s:Shared) (σ:St) (H:Hp) (Q:Bool→Hp→Prop),Inv X pins σ H s→t σ H Q→wpAny (model X.prog X.w) X.A (isTrue e X.env (eval e X.env)) (TP X pins σ Q) X.xe s
def PW (X:Cx)(e:Expr)(t:TT):Prop:=
 ∀(whole:Sem Value) (pins:List (Addr×Obj)) (s:Shared) (σ:St) (H:Hp) (Q:Bool→Hp→Prop),Inv X pins σ H s→t σ H Q→wpAny (model X.prog X.w) X.A (isTrue e X.env whole) (TP X pins σ Q) X.xe s
theorem PW.pt {X:Cx}{e:Expr}{t:TT}(h:PW X e t):PT X e t:=h _
def PA (X:Cx)(es:List Expr)(t:TA):Prop:=
 ∀(pos:Pos) (pins:List (Addr×Obj)) (s:Shared) (σ:St) (H:Hp) (Q:List V→Hp→Prop),Inv X pins σ H s→t σ H Q→wpAny (model X.prog X.w) X.A (spliced (backTo pos (starEach es X.env))) (AP X pins σ Q) X.xe s
def PS (X:Cx)(st:Stmt)(t:TS):Prop:=
 ∀(pins:List (Addr×Obj)) (s:Shared) (σ:St) (H:Hp) (D:zcV),Inv X pins σ H s→t D σ H→wpAny (model X.prog X.w) X.A (exec st X.env) (SP X pins D) X.xe s
def PSs (X:Cx)(st:List Stmt)(t:TS):Prop:=
 ∀(pins:List (Addr×Obj)) (s:Shared) (σ:St) (H:Hp) (D:zcV),Inv X pins σ H s→t D σ H→wpAny (model X.prog X.w) X.A (execs st X.env) (SP X pins D) X.xe s
theorem thn {α:Type}{t:Sem α}{Q Q':α→Shared→Prop}{M:Model}{A:Around}{E:Value→Shared→Prop}{s:Shared}(h:wpAny M A t Q E s)(hQ:∀a s,Q a s→Q' a s):wpAny M A t Q' E s:=wpAny_mono h hQ λ_ _ x=>x
end L2
namespace L2
open PySem PySem.Spec PyProof.Rows
section
variable {X:Cx}
def tVar (i:Nat):TE:=λσ H Q=>∃v,σ[i]?=some (some v)∧Q v H
def tC (v:V):TE:=λ_ H Q=>Q v H
theorem zpQ {i:Nat}{x:Str}{pos:Pos}(hN:X.N[i]?=some x)(hv:Vis X.env.scope x)(hd:(x==("__debug__":Str))=false:=by decide)(hcd:(x==("__classdict__":Str))=false:=by decide):PE X (.Name x pos) (tVar i):=by
 intro pins s σ H Q I h
 obtain⟨v,e,h⟩:=h
 obtain⟨m,hn,hl⟩:=I.loc
 obtain⟨u,r,l⟩:=hl i x v hN e hv
 have fin:EP X pins σ Q u s:=⟨v,H,I,r,h⟩
 rcases l with ⟨hk,hm⟩ | ⟨hk,c,hc,hcell⟩
 ·exact wpAny_Name (wpAny_loadName_local I.ok.kind hk hn hm fin) hd
 ·rcases hk with hk | hk
  ·exact wpAny_Name (wpAny_loadName_cell I.ok.kind hk hc hcell fin) hd
  ·exact wpAny_Name (wpAny_loadName_free I.ok.kind hk hc hcell fin hcd) hd
theorem zva {i j pos}:PE X (.Constant (.int i) j pos) (tC (.int i)):=λ_ _ _ H _ I h=>wpAny_Constant_int ⟨.int i,H,I.tok _,⟨_,rfl⟩,h⟩
theorem pe_bl {b j pos}:PE X (.Constant (.bool b) j pos) (tC (.bl b)):=λ_ _ _ H _ I h=>Constant_bool ⟨.bl b,H,I,rfl,h⟩
theorem zvm {j pos}:PE X (.Constant .none j pos) (tC .non):=λ_ _ _ H _ I h=>Constant_none ⟨.non,H,I,rfl,h⟩
theorem zwf {x j pos}:PE X (.Constant (.str x) j pos) (tC (.str x)):=λ_ _ _ H _ I h=>Calls.Constant_str ⟨.str x,H,I.tok _,⟨_,rfl⟩,h⟩
def Gl (X:Cx)(x:Str):Prop:=X.env.kindOf x=some .globalImplicit
theorem zpa {E:Value→Shared→Prop}{pins:List (Addr×Obj)}{s:Shared}{σ:St}{H:Hp}{x:Str}{u:Value}{pos:Pos}{Q:Value→Shared→Prop}(I:Inv X pins σ H s)(hg:Gl X x)(hm:X.mg x=some u)(h:Q u s)
  (hd:(x==("__debug__":Str))=false:=by decide):wpAny (model X.prog X.w) X.A (eval (.Name x pos) X.env) Q E s:=
 Calls.Name_function_global I.ok.kind hg (Calls.loadGlobal_global (by rw[I.ok.glob]; exact I.mod.glob.keeps I.bk) hm h) hd
theorem zen {E:Value→Shared→Prop}{pins:List (Addr×Obj)}{s:Shared}{σ:St}{H:Hp}{x:Str}{u:Value}{pos:Pos}{Q:Value→Shared→Prop}(I:Inv X pins σ H s)(hg:Gl X x)(hm:X.mg x=none)(hv:bootBuiltins x=some u)(h:Q u s)
  (hn:x≠"__name__":=by decide)(hd:(x==("__debug__":Str))=false:=by decide):wpAny (model X.prog X.w) X.A (eval (.Name x pos) X.env) Q E s:=by
 obtain⟨mb,h1,h2⟩:=I.mod.blt
 exact Calls.Name_function_global I.ok.kind hg (Calls.loadGlobal_builtin (by rw[I.ok.glob]; exact I.mod.glob.keeps I.bk) hm (by rw[I.ok.blt]; exact h1.keeps I.bk) ((h2 x hn).trans hv) h) hd
theorem zo2 {x:Str}{v:V}{u:Value}{pos:Pos}(hg:Gl X x)(hm:X.mg x=none)(hv:bootBuiltins x=some u)(r:zat v u)(hn:x≠"__name__":=by decide)(hd:(x==("__debug__":Str))=false:=by decide):PE X (.Name x pos) (tC v):=
 λ_ _ _ H _ I h=>zen I hg hm hv ⟨v,H,I,r,h⟩ hn hd
variable {a b:Expr}{ta tb:TE}{pos:Pos}
def tB (t:TE):TT:=λσ H Q=>t σ H λx H1=>∃c,x=.bl c∧Q c H1
theorem zqB {e:Expr}{t:TE}(h:PE X e t)(he:∀whole,isTrue e X.env whole=(do let v ← whole; standAt e.pos; holding [v] (truthy v)):=by intro _; rfl):PT X e (tB t):=by
 intro pins s σ H Q I hw
 refine isTrue_plain (thn (h pins s σ H _ I hw) λv s1 ⟨x,H1,I1,r1,q1⟩=>?_) (he _)
 obtain⟨d,rfl,q⟩:=q1
 cases r1
 exact wpAny_truthy_bool ⟨H1,I1,q⟩
variable {tA tB':TT}{zbe:List Expr}
def tAnd (t u:TT):TT:=λσ H Q=>t σ H λc H1=>if c=true then u σ H1 Q else Q false H1
def tOr (t u:TT):TT:=λσ H Q=>t σ H λc H1=>if c=true then Q true H1 else u σ H1 Q
def tNot (t:TT):TT:=λσ H Q=>t σ H λc H1=>Q (!c) H1
theorem zrO (ha:PT X a tA):PW X (.BoolOp .And [a] pos) tA:=by
 intro wh pins s σ H Q I h
 refine isTrue_and (thn (ha pins s σ H Q I h) λc s1 e=>?_)
 cases c with
 | true=>exact isTrue_and_nil e
 | false=>exact e
theorem zsJ (ha:PT X a tA):PW X (.BoolOp .Or [a] pos) tA:=by
 intro wh pins s σ H Q I h
 refine isTrue_or (thn (ha pins s σ H Q I h) λc s1 e=>?_)
 cases c with
 | false=>exact isTrue_or_nil e
 | true=>exact e
theorem zrp (ha:PT X a tA)(hb:PW X (.BoolOp .And (b::zbe) pos) tB'):PW X (.BoolOp .And (a::b::zbe) pos) (tAnd tA tB'):=by
 intro wh pins s σ H Q I h
 refine isTrue_and (thn (ha pins s σ H _ I h) λc s1 ⟨H1,I1,q1⟩=>?_)
 cases c with
 | true=>exact hb wh pins s1 σ H1 Q I1 q1
 | false=>exact⟨H1,I1,q1⟩
theorem pw_or (ha:PT X a tA)(hb:PW X (.BoolOp .Or (b::zbe) pos) tB'):PW X (.BoolOp .Or (a::b::zbe) pos) (tOr tA tB'):=by
 intro wh pins s σ H Q I h
 refine isTrue_or (thn (ha pins s σ H _ I h) λc s1 ⟨H1,I1,q1⟩=>?_)
 cases c with
 | true=>exact⟨H1,I1,q1⟩
 | false=>exact hb wh pins s1 σ H1 Q I1 q1
theorem zs5 (ha:PT X a tA):PT X (.UnaryOp .Not a pos) (tNot tA):=by
 intro pins s σ H Q I h
 exact isTrue_not (ha pins s σ H (λc H1=>Q (!c) H1) I h)
def tAndV (ta tb:TE):TE:=λσ H Q=>ta σ H λx H1=>∃c,x=.bl c∧if c=true then tb σ H1 Q else Q (.bl false) H1
def tNotV (ta:TE):TE:=λσ H Q=>ta σ H λx H1=>∃c,x=.bl c∧Q (.bl (!c)) H1
theorem zt1 {op}{t:TE}(h:PE X a t):PE X (.BoolOp op [a] pos) t:=λpins s σ H Q I hw=>BoolOp_one (h pins s σ H Q I hw)
theorem zwI (ha:PE X a ta)(hb:PE X (.BoolOp .And (b::zbe) pos) tb):PE X (.BoolOp .And (a::b::zbe) pos) (tAndV ta tb):=by
 intro pins s σ H Q I h
 refine BoolOp_and (thn (ha pins s σ H _ I h) λv s1 ⟨x,H1,I1,r1,q1⟩=>?_)
 obtain⟨c,rfl,q1⟩:=q1
 cases r1
 refine wpAny_truthy_bool ?_
 cases c with
 | true=>exact hb pins s1 σ H1 Q I1 q1
 | false=>exact⟨.bl false,H1,I1,rfl,q1⟩
theorem zup (ha:PE X a ta):PE X (.UnaryOp .Not a pos) (tNotV ta):=by
 intro pins s σ H Q I h
 refine UnaryOp_ (thn (ha pins s σ H _ I h) λv s1 ⟨x,H1,I1,r1,q1⟩=>?_)
 obtain⟨c,rfl,q1⟩:=q1
 cases r1
 exact not_of (wpAny_truthy_bool ⟨.bl (!c),H1,I1,rfl,q1⟩)
def tIf (t:TT)(ta tb:TE):TE:=λσ H Q=>t σ H λc H1=>if c=true then ta σ H1 Q else tb σ H1 Q
theorem zvY {c:Expr}(hc:PT X c tA)(ha:PE X a ta)(hb:PE X b tb):PE X (.IfExp c a b pos) (tIf tA ta tb):=by
 intro pins s σ H Q I h
 refine wpAny_IfExp (thn (hc pins s σ H _ I h) λd s1 ⟨H1,I1,q1⟩=>?_)
 cases d with
 | true=>exact ha pins s1 σ H1 Q I1 q1
 | false=>exact hb pins s1 σ H1 Q I1 q1
end
end L2
namespace L2
open PySem PySem.Spec PyProof.Rows
def SqL (K:PySem.W.Frag)(H:Hp)(a:Addr)(xs:List V):Prop:=
 Rd H a (.lst xs)∨
  ∃(o:Obj) (its:Array Value) (n:Nat),K.lookup a=some o∧o.cls=.type "list"∧o.dict=none∧o.data=.seq its n∧its.size≤sizeLine∧zax xs its.toList
def SqT (K:PySem.W.Frag)(H:Hp)(a:Addr)(xs:List V):Prop:=
 Rd H a (.tup xs)∨
  ∃(o:Obj) (its:Array Value) (n:Nat),K.lookup a=some o∧o.cls=.type "tuple"∧o.data=.seq its n∧its.size≤sizeLine∧zax xs its.toList
def absV:Value→Option V
 | .none=>some .non
 | .bool b=>some (.bl b)
 | .int i _=>some (.int i)
 | .str x _=>some (.str x)
 | .bytes b _=>some (.byt b)
 | .float b _=>some (.flt b)
 | .ref a=>some (.ref a)
 | .type n=>some (.ty n)
 | _=>none
theorem zat.abs {x:V}{u:Value}(r:zat x u):absV u=some x:=by
 cases x with
 | non=>cases r; rfl
 | bl _=>cases r; rfl
 | int _=>obtain⟨t,rfl⟩:=r; rfl
 | str _=>obtain⟨t,rfl⟩:=r; rfl
 | byt _=>obtain⟨t,rfl⟩:=r; rfl
 | flt _=>obtain⟨t,rfl⟩:=r; rfl
 | ref _=>cases r; rfl
 | ty _=>cases r; rfl
theorem zat.inj {x y:V}{u:Value}(r:zat x u)(q:zat y u):x=y:=Option.some.inj (r.abs.symm.trans q.abs)
theorem zax.inj:∀ {xs ys:List V} {us:List Value},zax xs us→zax ys us→xs=ys
 | _,_,_,.nil,.nil=>rfl
 | _,_,_,.cons r t,.cons r' t'=>by rw[r.inj r',zax.inj t t']
section
variable {X:Cx}{pins:List (Addr×Obj)}{σ:St}{H:Hp}{s:Shared}{a:Addr}{xs ys:List V}
theorem SqL.of {K:PySem.W.Frag}(h:H a=some (.lst xs)):SqL K H a xs:=.inl (.inl h)
theorem SqT.of {K:PySem.W.Frag}(h:H a=some (.tup xs)):SqT K H a xs:=.inl (.inl h)
theorem Inv.list (I:Inv X pins σ H s)(h:SqL X.K H a xs):∃its:List Value,zax xs its∧PlainL s.heap a its.toArray∧xs.length≤sizeLine:=by
 rcases h with h | ⟨o,its,n,hk,hc,hd,hs,hz,r⟩
 ·obtain⟨z,its,n,r,e⟩:=h.ok I.hok
  exact⟨its,r,⟨_,n,e,rfl,rfl,rfl⟩,z⟩
 ·refine⟨its.toList,r,⟨o,n,I.kIn a o hk,hc,hd,by simpa using hs⟩,?_⟩
  have e:=r.length
  simp only[Array.length_toList] at e
  omega
theorem Inv.tuple (I:Inv X pins σ H s)(h:SqT X.K H a xs):∃its:List Value,zax xs its∧IsTup s.heap a its.toArray∧xs.length≤sizeLine:=by
 rcases h with h | ⟨o,its,n,hk,hc,hs,hz,r⟩
 ·obtain⟨z,its,r,p⟩:=h.ok I.hok
  exact⟨its,r,p,z⟩
 ·refine⟨its.toList,r,⟨o,I.kIn a o hk,hc,n,by simpa using hs⟩,?_⟩
  have e:=r.length
  simp only[Array.length_toList] at e
  omega
theorem Inv.list_inj (I:Inv X pins σ H s)(h:SqL X.K H a xs)(h':SqL X.K H a ys):xs=ys:=by
 obtain⟨its,r,⟨o,n,e,_,_,d⟩,_⟩:=I.list h
 obtain⟨its',r',⟨o',n',e',_,_,d'⟩,_⟩:=I.list h'
 rw[e] at e'; cases e'
 rw[d] at d'
 injection d' with d1 _
 have:its=its':=by simpa using congrArg Array.toList d1
 subst this
 exact r.inj r'
end
abbrev Cx.wish (X:Cx)(E:Value→Shared→Prop):Cx:={ X with xe:=E }
abbrev Cx.nox (X:Cx):Cx:=X.wish λ_ _=>False
theorem Cx.Ok.wish {X:Cx}(ok:X.Ok)(E:Value→Shared→Prop):(X.wish E).Ok:=
 ⟨ok.mod,ok.kind,ok.glob,ok.blt,ok.above,ok.inj,ok.has,ok.cab,ok.hd,ok.frames,ok.stk,ok.exf,ok.bs,ok.bsz,ok.noex,ok.exfs,ok.funs,ok.frf⟩
theorem Cx.Ok.unwish {X:Cx}{E:Value→Shared→Prop}(ok:(X.wish E).Ok):X.Ok:=
 ⟨ok.mod,ok.kind,ok.glob,ok.blt,ok.above,ok.inj,ok.has,ok.cab,ok.hd,ok.frames,ok.stk,ok.exf,ok.bs,ok.bsz,ok.noex,ok.exfs,ok.funs,ok.frf⟩
section
variable {X:Cx}{pins:List (Addr×Obj)}{σ:St}{H:Hp}{s:Shared}{E:Value→Shared→Prop}
theorem Inv.wish (I:Inv X pins σ H s)(E:Value→Shared→Prop):Inv (X.wish E) pins σ H s:=⟨I.ok.wish E,I.os,I.bare,I.base,I.loc,I.cell,I.free,I.freeC,I.pin,I.hok,I.len⟩
theorem Inv.unwish (I:Inv (X.wish E) pins σ H s):Inv X pins σ H s:=⟨I.ok.unwish,I.os,I.bare,I.base,I.loc,I.cell,I.free,I.freeC,I.pin,I.hok,I.len⟩
theorem SP.unwish {D:zcV}{f:Flow}{s':Shared}(h:SP (X.wish E) pins D f s'):SP X pins D f s':=by
 cases f with
 | next=>obtain⟨σ',H',I,q⟩:=h; exact⟨σ',H',I.unwish,q⟩
 | brk=>obtain⟨σ',H',I,q⟩:=h; exact⟨σ',H',I.unwish,q⟩
 | cont=>obtain⟨σ',H',I,q⟩:=h; exact⟨σ',H',I.unwish,q⟩
 | ret u=>obtain⟨v,σ',H',I,r,q⟩:=h; exact⟨v,σ',H',I.unwish,r,q⟩
theorem PE.nox {e:Expr}{t:TE}(h:PE X.nox e t):PE X e t:=λpins s σ H Q I hw=>
 wpAny_mono (h pins s σ H Q (I.wish _) hw) (λ_ _ ⟨v,H',I',r,q⟩=>⟨v,H',I'.unwish,r,q⟩) λ_ _ z=>False.elim z
theorem PT.nox {e:Expr}{t:TT}(h:PT X.nox e t):PT X e t:=λpins s σ H Q I hw=>
 wpAny_mono (h pins s σ H Q (I.wish _) hw) (λ_ _ ⟨H',I',q⟩=>⟨H',I'.unwish,q⟩) λ_ _ z=>False.elim z
theorem PSs.nox {st:List Stmt}{t:TS}(h:PSs X.nox st t):PSs X st t:=λpins s σ H D I hw=>
 wpAny_mono (h pins s σ H D (I.wish _) hw) (λ_ _ q=>q.unwish) λ_ _ z=>False.elim z
end
section
variable {X:Cx}{st:Stmt}{zbe:List Stmt}{t u:TS}{e:Expr}{te:TE}{pos:Pos}
def tNext:TS:=λD σ H=>D.nx σ H
def tSeq (t u:TS):TS:=λD σ H=>t { D with nx:=u D } σ H
theorem zqi:PSs X [] tNext:=λ_ _ σ H _ I h=>wpAny_execs_nil ⟨σ,H,I,h⟩
theorem ztK (h1:PS X st t)(h2:PSs X zbe u):PSs X (st::zbe) (tSeq t u):=by
 intro pins s σ H D I h
 refine wpAny_execs_cons (thn (h1 pins s σ H { D with nx:=u D } I h) λf s1 q=>?_)
 cases f with
 | next=>
  obtain⟨σ',H',I',q⟩:=q
  exact h2 pins s1 σ' H' D I' q
 | ret v=>exact q
 | brk=>exact q
 | cont=>exact q
theorem zrF (h1:PS X st t):PSs X [st] t:=by
 intro pins s σ H D I h
 refine wpAny_execs_cons (thn (h1 pins s σ H D I h) λf s1 q=>?_)
 cases f with
 | next=>exact wpAny_execs_nil q
 | ret v=>exact q
 | brk=>exact q
 | cont=>exact q
theorem Inv.quiet {pins:List (Addr×Obj)}{σ:St}{H:Hp}{s:Shared}(I:Inv X pins σ H s):interactive X.env=false:=by simp[interactive,I.ok.kind]
def tDrop (te:TE):TS:=λD σ H=>te σ H λ_ H1=>D.nx σ H1
theorem zqj (he:PE X e te)(hs:swapsWith e none pos.line X.env=pure false:=by rfl):PS X (.Expr e pos) (tDrop te):=by
 intro pins s σ H D I h
 exact wpAny_Expr_any (thn (he pins s σ H _ I h) λv s1 ⟨x,H1,I1,r1,q1⟩=>⟨σ,H1,I1,q1⟩) I.quiet hs
def tRet (te:TE):TS:=λD σ H=>te σ H D.rt
theorem zqM (he:PE X e te):PS X (.Return (some e) pos) (tRet te):=by
 intro pins s σ H D I h
 exact wpAny_Return_some (thn (he pins s σ H _ I h) λv s1 ⟨x,H1,I1,r1,q1⟩=>⟨x,σ,H1,I1,r1,q1⟩)
def tIfS (c:TT)(t u:TS):TS:=λD σ H=>c σ H λb H1=>if b=true then t D σ H1 else u D σ H1
theorem ps_if {c:Expr}{a b:List Stmt}{tc:TT}(hc:PT X c tc)(ha:PSs X a t)(hb:PSs X b u):PS X (.If c a b pos) (tIfS tc t u):=by
 intro pins s σ H D I h
 refine wpAny_If (thn (hc pins s σ H _ I h) λd s1 ⟨H1,I1,q1⟩=>?_)
 cases d with
 | true=>exact ha pins s1 σ H1 D I1 q1
 | false=>exact hb pins s1 σ H1 D I1 q1
def zwt:TS:=λ_ _ _=>False
theorem zq4:PS X st zwt:=λ_ _ _ _ _ _ h=>h.elim
end
abbrev TG:=V→St→Hp→(St→Hp→Prop)→Prop
abbrev TGs:=List V→St→Hp→(St→Hp→Prop)→Prop
def PG (X:Cx)(target:Expr)(t:TG):Prop:=
 ∀(pins:List (Addr×Obj)) (s:Shared) (σ:St) (H:Hp) (v:V) (u:Value) (Q:St→Hp→Prop),Inv X pins σ H s→zat v u→t v σ H Q→
  wpAny (model X.prog X.w) X.A (assign target X.env u) (λ_ s'=>∃σ' H',Inv X pins σ' H' s'∧Q σ' H') X.xe s
def PGs (X:Cx)(ts:List Expr)(t:TGs):Prop:=
 ∀(pins:List (Addr×Obj)) (s:Shared) (σ:St) (H:Hp) (vs:List V) (us:List Value) (Q:St→Hp→Prop),Inv X pins σ H s→zax vs us→t vs σ H Q→
  wpAny (model X.prog X.w) X.A (assignInOrder ((assignEach ts X.env).map (·.2)) us) (λ_ s'=>∃σ' H',Inv X pins σ' H' s'∧Q σ' H') X.xe s
abbrev TSet:=V→V→V→Hp→(Hp→Prop)→Prop
def PSet (X:Cx)(t:TSet):Prop:=
 ∀(pins:List (Addr×Obj)) (s:Shared) (σ:St) (H:Hp) (o i v:V) (ov iv u:Value) (Q:Hp→Prop),Inv X pins σ H s→zat o ov→zat i iv→zat v u→t o i v H Q→
  wpAny (model X.prog X.w) X.A (setItem ov iv u) (λ_ s'=>∃H',Inv X pins σ H' s'∧Q H') X.xe s
section
variable {X:Cx}{pos:Pos}
def zpX (i:Nat):TG:=λv σ H Q=>Q (σ.set i (some v)) H
theorem zgQ {i:Nat}{x:Str}(hN:X.N.Nodup)(hi:X.N[i]?=some x)(hx:Loc X.env.scope x)(hf:X.fn x=true∨X.env.scope.names.lookup x=some .local:=by first | exact .inl rfl | exact .inr rfl | assumption):PG X (.Name x pos) (zpX i):=by
 intro pins s σ H v u Q I r h
 exact wpAny_assign_Name (zpp I hN hi hx r (λs' I'=>⟨_,H,I',h⟩) hf)
def gNil:TGs:=λvs σ H Q=>vs=[]∧Q σ H
def gCons (t:TG)(u:TGs):TGs:=λvs σ H Q=>∃v r,vs=v::r∧t v σ H λσ' H'=>u r σ' H' Q
theorem zuf:PGs X [] gNil:=by
 intro pins s σ H vs us Q I r h
 obtain⟨e,h⟩:=h
 subst e
 cases r
 exact assignInOrder_nil ⟨σ,H,I,h⟩
theorem zvT {e:Expr}{es:List Expr}{t:TG}{u:TGs}(h1:PG X e t)(h2:PGs X es u)
  (hs:(assignEach (e::es) X.env).map (·.2)=assign e X.env::(assignEach es X.env).map (·.2):=by rfl):PGs X (e::es) (gCons t u):=by
 intro pins s σ H vs us Q I r h
 obtain⟨v,vr,e1,h⟩:=h
 subst e1
 cases r with
 | cons r rr=>
  rw[hs]
  refine assignInOrder_cons (thn (h1 pins s σ H _ _ _ I r h) λ_ s1 ⟨σ1,H1,I1,q1⟩=>?_)
  exact h2 pins s1 σ1 H1 _ _ Q I1 rr q1
def gTup (K:PySem.W.Frag)(n:Nat)(t:TGs):TG:=λv σ H Q=>∃a xs,v=.ref a∧SqT K H a xs∧xs.length=n∧t xs σ H Q
theorem zsQ {es:List Expr}{k:Nat}{t:TGs}{n:Nat}(hc:X.calm=true)(h:PGs X es t)
  (hn:(assignEach es X.env).length=n:=by rfl)(hst:(assignEach es X.env).findIdx? (·.1)=none:=by rfl):PG X (.Tuple es k pos) (gTup X.K n t):=by
 intro pins s σ H v u Q I r hw
 obtain⟨a,xs,e1,hq,hl,hw⟩:=hw
 subst e1
 cases r
 obtain⟨its,rv,ht,hz⟩:=I.tuple hq
 refine assign_Tuple_tuple (I.ok.hd hc) ht (by simp[hn,← hl,rv.length]) hst λh' hx=>?_
 have I1:Inv X pins σ H { s with heap:=h' }:=I.kept (t':=s.toks) λb o e=>hx b o (Vas (Heap.lt_size e)) e
 exact h pins _ σ H xs _ Q I1 (by simpa using rv) hw
def gSub (to ti:TE)(t:TSet):TG:=λv σ H Q=>to σ H λo H1=>ti σ H1 λi H2=>t o i v H2 λH3=>Q σ H3
theorem zvX {o i:Expr}{to ti:TE}{t:TSet}(ho:PE X o to)(hi:PE X i ti)(hs:PSet X t)
  (ha:∀v,assign (.Subscript o i pos) X.env v=(do
   let ov ← holding [v] (eval o X.env)
   let iv ← holding [v,ov] (eval i X.env)
   standAt pos
   holding [v,ov,iv] (setItem ov iv v)
   release [v,ov,iv] []):=by intro _; rfl):PG X (.Subscript o i pos) (gSub to ti t):=by
 intro pins s σ H v u Q I r h
 rw[ha]
 refine wpAny_bind (wpAny_holding (thn (ho pins s σ H _ I h) λov s1 ⟨x,H1,I1,r1,q1⟩=>?_))
 refine wpAny_bind (wpAny_holding (thn (hi pins s1 σ H1 _ I1 q1) λiv s2 ⟨y,H2,I2,r2,q2⟩=>?_))
 refine wpAny_bind (wpAny_standAt (wpAny_bind (wpAny_holding (thn (hs pins s2 σ H2 x y v ov iv u _ I2 r1 r2 r q2) λ_ s3 ⟨H3,I3,q3⟩=>?_))))
 exact wpAny_release ⟨σ,H3,I3,q3⟩
def tAsg (te:TE)(g:TG):TS:=λD σ H=>te σ H λx H1=>g x σ H1 D.nx
theorem zvu {tg e:Expr}{te:TE}{g:TG}(he:PE X e te)(hg:PG X tg g)(hs:swapsWithSole [tg] e pos.line X.env=pure false:=by rfl)(hw:swappedStores [tg] e X.env=pure none:=by rfl)
  (h1:(assignEach [tg] X.env).map (·.2)=[assign tg X.env]:=by rfl):PS X (.Assign [tg] e pos) (tAsg te g):=by
 intro pins s σ H D I h
 refine wpAny_Assign_stores (thn (he pins s σ H _ I h) λv s1 ⟨x,H1,I1,r1,q1⟩=>?_) hs hw
 rw[h1]
 exact thn (hg pins s1 σ H1 x v _ I1 r1 q1) λ_ s2 q=>q
theorem zuu {i:Nat}{x:Str}{e:Expr}{te:TE}{pos':Pos}(hN:X.N.Nodup)(hi:X.N[i]?=some x)(hx:Loc X.env.scope x)(he:PE X e te)(hs:swapsWith e (some (.Name x pos')) pos.line X.env=pure false:=by rfl)(hf:X.fn x=true∨X.env.scope.names.lookup x=some .local:=by first | exact .inl rfl | exact .inr rfl | assumption):
  PS X (.Assign [.Name x pos'] e pos) (tAsg te (zpX i)):=by
 intro pins s σ H D I h
 refine wpAny_Assign_Name (thn (he pins s σ H _ I h) λv s1 ⟨y,H1,I1,r1,q1⟩=>?_) hs
 exact zpp I1 hN hi hx r1 (λs2 I2=>⟨_,H1,I2,q1⟩) hf
end
section
variable {X:Cx}{pos:Pos}
def zt2 (c:TT)(tb:TS):TS:=λD σ H=>∃W:Nat→St→Hp→Prop,(∃m,W m σ H)∧∀m σ H,W m σ H→
 c σ H λb H1=>if b=true then ∃N:St→Hp→Prop,(∀σ' H',N σ' H'→∃m',m'<m∧W m' σ' H')∧tb { D with nx:=N,ct:=N,bk:=D.nx } σ H1 else D.nx σ H1
theorem zwb {c:Expr}{body:List Stmt}{tc:TT}{tb:TS}(hp:PassesOwn (model X.prog X.w) X.A X.env X.xe)(hc:PT X c tc)(hb:PSs X body tb):PS X (.While c body [] pos) (zt2 tc tb):=by
 intro pins s σ H D I h
 obtain⟨W,⟨m0,w0⟩,turn⟩:=h
 refine wpAny_While (codeAny_whileLoop (λn s'=>∃σ' H',Inv X pins σ' H' s'∧W n σ' H') ?_ m0 ⟨σ,H,I,w0⟩)
 rintro n s1 ⟨σ1,H1,I1,w1⟩
 refine wpAny_passesOwn hp (thn (hc pins s1 σ1 H1 _ I1 (turn n σ1 H1 w1)) λb s2 ⟨H2,I2,q2⟩=>?_)
 cases b with
 | true=>
  obtain⟨N,hN,q2⟩:=q2
  rw[if_pos rfl]
  refine wpAny_passesOwn hp (thn (hb pins s2 σ1 H2 _ I2 q2) λf s3 q3=>?_)
  cases f with
  | next=>
   obtain⟨σ3,H3,I3,n3⟩:=q3
   obtain⟨m',hm,w3⟩:=hN σ3 H3 n3
   exact⟨m',hm,σ3,H3,I3,w3⟩
  | cont=>
   obtain⟨σ3,H3,I3,n3⟩:=q3
   obtain⟨m',hm,w3⟩:=hN σ3 H3 n3
   exact⟨m',hm,σ3,H3,I3,w3⟩
  | brk=>exact q3
  | ret v=>exact q3
 | false=>
  rw[if_neg Val]
  exact wpAny_execs_nil ⟨σ1,H2,I2,q2⟩
end
structure It where
 go:Nat→Hp→Prop
 yld:Nat→Hp→V→Hp→Prop
 stop:Nat→Hp→Prop
def zbX (X:Cx)(pins:List (Addr×Obj))(H:Hp)(b:Addr):Prop:=
 H b=none∧b≠X.env.locals∧b ∉ X.fs∧(b∈X.ex∨X.s₀.heap.objs.size≤b)∧(∀x c,X.env.cells.lookup x=some c→c≠b)∧∀p∈X.pn++pins,p.1≠b
theorem Inv.fpOk {X:Cx}{pins:List (Addr×Obj)}{σ:St}{H H':Hp}{s:Shared}{b:Addr}(I:Inv X pins σ H s)(hb:s.heap.objs.size≤b)(hn:H' b=none):zbX X pins H' b:=by
 refine⟨hn,Nat.ne_of_gt (Var I.lt hb),I.nofs hb,.inr (VaB I.sz hb),λx c e z=>?_,λp hp z=>?_⟩
 ·obtain⟨v,q⟩:=I.cell x c e
  exact absurd (Var q.lt (by rw[z]; exact hb)) (VaJ _)
 ·exact absurd (Var (Heap.lt_size (I.pin p hp).1) (by rw[z]; exact hb)) (VaJ _)
structure zgk (P:Program)(w:World)(K:PySem.W.Frag)(tg:Expr)(J:It)(fp:List Addr)(it:Addr)(tn:Nat→Heap→Prop):Prop where
 mem:it∈fp
 obj:∀i h,tn i h→∀b∈fp,∃o,h.get? b=some o∧∀v,o.data≠.cell v
 keep:∀i h h',tn i h→(∀b∈fp,∀o,h.get? b=some o→h'.get? b=some o)→tn i h'
 item:∀(X:Cx),X.prog=P→X.w=w→X.K=K→X.calm=true→∀(i:Nat) (pins:List (Addr×Obj)) (s:Shared) (σ:St) (H:Hp) (E:Value→Shared→Prop),Inv X pins σ H s→(∀b∈fp,zbX X pins H b)→tn i s.heap→J.go i H→
  wpAny (model P w) X.A (pyNext (.ref it)) (λr s1=>∃u,r=some u∧
   wpAny (model P w) X.A (letOwnedTupleGo tg (.ref it) u) (λ_ s2=>∃x H',Inv X pins σ H' s2∧zat x u∧J.yld i H x H'∧tn (i+1) s2.heap∧∀b∈fp,H' b=none) E s1) E s
 done:∀(X:Cx),X.prog=P→X.w=w→X.K=K→X.calm=true→∀(i:Nat) (pins:List (Addr×Obj)) (s:Shared) (σ:St) (H:Hp) (E:Value→Shared→Prop),Inv X pins σ H s→(∀b∈fp,zbX X pins H b)→tn i s.heap→J.stop i H→
  wpAny (model P w) X.A (pyNext (.ref it)) (λr s1=>r=none∧Inv X pins σ H s1) E s
 self:∀(A:Around) (i:Nat) (s:Shared) (Q:Value→Shared→Prop) (E:Value→Shared→Prop),tn i s.heap→Q (.ref it) s→wpAny (model P w) A (pyIter (.ref it)) Q E s
abbrev TI:=St→Hp→(It→Hp→Prop)→Prop
def PIE (X:Cx)(pins:List (Addr×Obj))(σ:St)(tg:Expr)(R:It→Hp→Prop)(itv:Value)(s2:Shared):Prop:=
 ∃(it:Addr) (fp:List Addr) (tn:Nat→Heap→Prop) (J:It) (H':Hp),itv=.ref it∧Inv X pins σ H' s2∧zgk X.prog X.w X.K tg J fp it tn∧tn 0 s2.heap∧(∀b∈fp,zbX X pins H' b)∧R J H'
def PI (X:Cx)(tg iter:Expr)(wi:TI):Prop:=
 ∀(pins:List (Addr×Obj)) (s:Shared) (σ:St) (H:Hp) (R:It→Hp→Prop),Inv X pins σ H s→wi σ H R→
  wpAny (model X.prog X.w) X.A (eval iter X.env) (λv s1=>wpAny (model X.prog X.w) X.A (pyIter v) (PIE X pins σ tg R) X.xe s1) X.xe s
theorem znr {M:Model}{A:Around}{E:Value→Shared→Prop}{s:Shared}{tg:Expr}{it:Addr}{u:Value}{o:Obj}{n:String}{vs:Array Value}{Q:Unit→Shared→Prop}(ho:s.heap.get? it=some o)(hc:o.cls=.type n)(hd:o.data=.fields vs)
    (hn:["enumerate","zip","dict_itemiterator","dict_reverseitemiterator","odict_iterator","itertools.zip_longest","itertools.pairwise"].contains n=false)(hQ:Q () s):wpAny M A (letOwnedTupleGo tg (.ref it) u) Q E s:=by
  unfold letOwnedTupleGo
  cases tg <;> first
    | exact wpAny_pure hQ
    | (cases u <;> first
        | exact wpAny_pure hQ
        | (refine wpAny_bind (wpAny_load ho ?_)
           rw[hc,hd]
           show wpAny M A (if (["enumerate","zip","dict_itemiterator","dict_reverseitemiterator","odict_iterator","itertools.zip_longest","itertools.pairwise"].contains n&&vs[0]?==some (rawInt _))=true then _ else _) Q E s
           rw[if_neg (by intro h; rw[hn,Bool.false_and] at h; cases h)]
           exact wpAny_pure hQ))
def Itl (K:PySem.W.Frag)(a:Addr):It:=
 ⟨λi H=>∃xs x,SqL K H a xs∧xs[i]?=some x,λi H x H'=>H'=H∧∀xs,SqL K H a xs→xs[i]?=some x,λi H=>∃xs,SqL K H a xs∧xs.length≤i⟩
def Itr (lo:Int)(n:Nat):It:=⟨λi _=>i<n,λi H x H'=>H'=H∧x=.int (lo+i),λi _=>n≤i⟩
theorem zwF {P:Program}{w:World}{K:PySem.W.Frag}{tg:Expr}(a it:Addr):zgk P w K tg (Itl K a) [it] it (λi h=>h.IsListIter it a i) where
 mem:=by simp
 obj:=λi h st b hb=>by
  have e:b=it:=by simpa using hb
  subst e
  obtain⟨o,e,c,d⟩:=st
  exact⟨o,e,λv z=>by rw[d] at z; cases z⟩
 keep:=λi h h' st k=>st.at λo e=>k it (by simp) o e
 item:=by
  intro X hP hw hK hc i pins s σ H E I hf st hg
  subst hP hw hK
  obtain⟨xs,x,hq,hx⟩:=hg
  obtain⟨its,rv,p,hz⟩:=I.list hq
  obtain⟨u,hu,ru⟩:=rv.get hx
  obtain⟨f0,f1,f2,f3,f4,f5⟩:=hf it (by simp)
  refine wpAny_pyNext_list_item st p.isList (x:=u) (by simpa using hu) λh' st' sb=>?_
  have I1:Inv X pins σ H { s with heap:=h' }:=I.turned (t':=s.toks) (λb o hb e=>(sb.2 b hb).trans e) f0 f1 f3 f4 f5
  obtain⟨o,e,c,d⟩:=id st'
  exact⟨u,rfl,znr (s:={ s with heap:=h' }) e c d (by decide) ⟨x,H,I1,ru,⟨rfl,λys hy=>by rw[I.list_inj hy hq]; exact hx⟩,st',λb hb=>(hf b hb).1⟩⟩
 done:=by
  intro X hP hw hK hc i pins s σ H E I hf st hg
  subst hP hw hK
  obtain⟨xs,hq,hx⟩:=hg
  obtain⟨its,rv,p,hz⟩:=I.list hq
  obtain⟨f0,f1,f2,f3,f4,f5⟩:=hf it (by simp)
  have hl:=rv.length
  exact wpAny_pyNext_list_end (I.ok.hd hc) st p.isList (by simp; omega) λh' eb=>⟨rfl,I.turned (t':=s.toks) (λb o hb e=>eb b o hb e) f0 f1 f3 f4 f5⟩
 self:=λ_ _ _ _ _ st h=>wpAny_pyIter_listiter st h
theorem ztF {P:Program}{w:World}{K:PySem.W.Frag}{tg:Expr}(it:Addr)(lo:Int)(n:Nat):zgk P w K tg (Itr lo n) [it] it (λi h=>IsRangeIter h it (lo+(i:Nat)*1) ((n:Int)-(i:Nat)) 1) where
 mem:=by simp
 obj:=λi h st b hb=>by
  have e:b=it:=by simpa using hb
  subst e
  exact⟨_,st,λv z=>by
   have z':Data.fields _=Data.cell v:=z
   cases z'⟩
 keep:=λi h h' st k=>k it (by simp) _ st
 item:=by
  intro X hP hw hK hc i pins s σ H E I hf st hg
  subst hP hw hK
  obtain⟨f0,f1,f2,f3,f4,f5⟩:=hf it (by simp)
  have W:=Walks.range (prog:=X.prog) (w:=X.w) (I.ok.hd hc) it lo 1 n
  refine W.item i s _ _ hg st λv h' tk hv st' kk=>?_
  obtain⟨t,rfl⟩:=hv
  have I1:Inv X pins σ H { s with heap:=h',toks:=tk }:=I.turned (λb o hb e=>kk b o (by simpa using hb) e) f0 f1 f3 f4 f5
  refine⟨_,rfl,znr (s:={ s with heap:=h',toks:=tk }) (n:="range_iterator") st' rfl rfl (by decide) ⟨.int (lo+i),H,I1,⟨t,?_⟩,⟨rfl,rfl⟩,st',λb hb=>(hf b hb).1⟩⟩
  rw[Int.mul_one]
 done:=by
  intro X hP hw hK hc i pins s σ H E I hf st hg
  subst hP hw hK
  obtain⟨f0,f1,f2,f3,f4,f5⟩:=hf it (by simp)
  exact wpAny_pyNext_range_end (I.ok.hd hc) st (by have:n≤i:=hg; omega) λh' eb=>⟨rfl,I.turned (t':=s.toks) (λb o hb e=>eb b o hb e) f0 f1 f3 f4 f5⟩
 self:=λ_ _ _ _ _ st h=>wpAny_pyIter_rangeiter st h
end L2
namespace L2
open PySem PySem.Spec PyProof.Rows
section
variable {X:Cx}{tg:Expr}
def zpT (K:PySem.W.Frag)(tl:TE):TI:=λσ H R=>tl σ H λx H1=>∃a,x=.ref a∧(∃xs,SqL K H1 a xs)∧R (Itl K a) H1
theorem zoS {l:Expr}{tl:TE}(hl:PE X l tl):PI X tg l (zpT X.K tl):=by
 intro pins s σ H R I h
 refine thn (hl pins s σ H _ I h) λv s1 ⟨x,H1,I1,r1,q1⟩=>?_
 obtain⟨a,e,⟨xs,hq⟩,q⟩:=q1
 subst e
 cases r1
 obtain⟨its,rv,p,hz⟩:=I1.list hq
 refine wpAny_pyIter_list p.isList ?_
 refine⟨s1.heap.objs.size,[s1.heap.objs.size],_,_,H1,rfl,I1.kept (t':=s1.toks) λb o e=>Heap.get?_push_of_some _ e,zwF a _,⟨_,Heap.get?_push_size _ rfl,rfl,rfl⟩,λb hb=>?_,q⟩
 have e:b=s1.heap.objs.size:=by simpa using hb
 subst e
 exact I1.fpOk (Vaa _) (I1.hok.fresh (Vaa _))
theorem ztb {pins:List (Addr×Obj)}{σ:St}{H:Hp}{s:Shared}{R:It→Hp→Prop}{E:Value→Shared→Prop}{lo hi:Int}{t u v:Tok}{tk:Nat}(I:Inv X pins σ H s)(h1:-(2^62)≤lo)(h2:lo<2^62)(h3:-(2^62)≤hi)(h4:hi<2^62)
  (q:R (Itr lo (hi-lo).toNat) H):wpAny (model X.prog X.w) X.A (pyIter (.ref s.heap.objs.size)) (PIE X pins σ tg R) E { s with heap:=s.heap.push { cls:=.type "range",data:=.fields #[.int lo t,.int hi u,.int 1 v] },toks:=tk }:=by
 refine wpAny_pyIter_range (IsRange.new ..) (small_one h1 h2 h3 h4) ?_
 have I1:Inv X pins σ H { s with heap:=s.heap.push { cls:=.type "range",data:=.fields #[.int lo t,.int hi u,.int 1 v] },toks:=tk }:=I.kept λb o e=>Heap.get?_push_of_some _ e
 refine⟨(s.heap.push { cls:=.type "range",data:=.fields #[.int lo t,.int hi u,.int 1 v] }).objs.size,[(s.heap.push { cls:=.type "range",data:=.fields #[.int lo t,.int hi u,.int 1 v] }).objs.size],_,_,H,rfl,
  I1.kept (t':=tk) λb o e=>Heap.get?_push_of_some _ e,ztF _ lo (hi-lo).toNat,?_,λb hb=>?_,q⟩
 ·have e1:lo+((0:Nat):Int)*1=lo:=by simp
  have e2:(((hi-lo).toNat:Nat):Int)-((0:Nat):Int)=Builtin.Range.rangeSize lo hi 1:=by rw[rangeSize_one]; split <;> omega
  show IsRangeIter _ _ (lo+((0:Nat):Int)*1) ((((hi-lo).toNat:Nat):Int)-((0:Nat):Int)) 1
  rw[e1,e2]
  exact Heap.get?_push_size _ rfl
 ·have e:b=(s.heap.push { cls:=.type "range",data:=.fields #[.int lo t,.int hi u,.int 1 v] }).objs.size:=by simpa using hb
  subst e
  exact I1.fpOk (Vaa _) (I1.hok.fresh (Vaa _))
def zof (ta:TA):TI:=λσ H R=>ta σ H λvs H1=>∃j:Int,vs=[.int j]∧-(2^62)≤j∧j<2^62∧R (Itr 0 j.toNat) H1
theorem znp {a:Expr}{ta:TA}{p pos:Pos}(hg:Gl X "range")(hm:X.mg "range"=none)(ha:PA X [a] ta)(hs:starEach [a] X.env=[(false,eval a X.env)]:=by rfl):PI X tg (.Call (.Name "range" p) [a] [] pos) (zof ta):=by
 intro pins s σ H R I h
 refine Call_ (zen I hg hm boot_range (PyProof.Rows.callWith_type1 (thn (ha pos pins s σ H _ I h) λus s1 ⟨vs,H1,I1,r1,q1⟩=>?_) hs rfl))
 obtain⟨j,e,q1,q2,q⟩:=q1
 subst e
 cases r1 with
 | cons r rr=>
  cases rr
  obtain⟨t,rfl⟩:=r
  exact call_range_1 (ztb I1 (by omega) (by omega) q1 q2 (by simpa using q))
def tFor (wi:TI)(g:TG)(tb:TS):TS:=λD σ H=>wi σ H λJ H1=>∃W:Nat→Nat→St→Hp→Prop,(∃m,W 0 m σ H1)∧∀i m σ H,W i m σ H→
 (J.stop i H∧D.nx σ H)∨(J.go i H∧∃N:St→Hp→Prop,(∀σ' H',N σ' H'→∃m',m'<m∧W (i+1) m' σ' H')∧∀x H',J.yld i H x H'→g x σ H' λσ2 H2=>tb { D with nx:=N,ct:=N,bk:=D.nx } σ2 H2)
def zgR (fp:List Addr)(h:Heap):List (Addr×Obj):=fp.filterMap λb=>(h.get? b).map λo=>(b,o)
theorem zk5 {fp:List Addr}{h:Heap}{b:Addr}{o:Obj}(hb:b∈fp)(e:h.get? b=some o):(b,o)∈zgR fp h:=List.mem_filterMap.mpr ⟨b,hb,by rw[e]; rfl⟩
theorem zuR {fp:List Addr}{h:Heap}{p:Addr×Obj}(hp:p∈zgR fp h):p.1∈fp∧h.get? p.1=some p.2:=by
 obtain⟨b,hb,e⟩:=List.mem_filterMap.mp hp
 cases q:h.get? b with
 | none=>rw[q] at e; cases e
 | some o=>
  rw[q] at e
  have e':(b,o)=p:=Option.some.inj e
  subst e'
  exact⟨hb,q⟩
theorem Inv.pinned {pins:List (Addr×Obj)}{σ:St}{H:Hp}{s:Shared}{fp:List Addr}(I:Inv X pins σ H s)(hf:∀b∈fp,zbX X pins H b)(ho:∀b∈fp,∃o,s.heap.get? b=some o∧∀v,o.data≠.cell v):Inv X (pins++zgR fp s.heap) σ H s:=
 I.pins_of λp hp=>(VaX.mp hp).elim (λz=>I.pin p (VaH _ z)) λz=>by
  obtain⟨hb,e⟩:=zuR z
  obtain⟨f0,f1,f2,_⟩:=hf p.1 hb
  obtain⟨o,e',d⟩:=ho p.1 hb
  rw[e] at e'; cases e'
  exact⟨e,f0,f1,f2,d⟩
theorem Inv.unpinned {pins pl:List (Addr×Obj)}{σ:St}{H:Hp}{s:Shared}(I:Inv X (pins++pl) σ H s):Inv X pins σ H s:=I.pins_of λp hp=>I.pin p (VaH _ (List.mem_append_left _ hp))
theorem zlI {iter:Expr}{body:List Stmt}{wi:TI}{g:TG}{tb:TS}{pos:Pos}(hp:PassesOwn (model X.prog X.w) X.A X.env X.xe)(hc:X.calm=true)(hi:PI X tg iter wi)(hg:PG X tg g)(hb:PSs X body tb)
  (hs:∀x,foldedSetIterable iter X.env x=pure x:=by intro _; rfl):PS X (.For tg iter body [] pos) (tFor wi g tb):=by
 intro pins s σ H D I h
 refine wpAny_For (thn (hi pins s σ H _ I h) λv s1 h1=>thn h1 λitv s2 h2=>?_) hs
 obtain⟨it,fp,tn,J,H2,e,I2,T,st2,f2,W,⟨m0,w0⟩,turn⟩:=h2
 subst e
 have stat:∀ {H':Hp},(∀b∈fp,H' b=none)→∀b∈fp,zbX X pins H' b:=λhn b hb=>⟨hn b hb,(f2 b hb).2⟩
 refine codeAny_forLoop_any (λn s'=>∃i σ' H',Inv X pins σ' H' s'∧tn i s'.heap∧(∀b∈fp,H' b=none)∧W i n σ' H') ?_ m0 ⟨0,σ,H2,I2,st2,λb hb=>(f2 b hb).1,w0⟩
 rintro n s3 ⟨i,σ3,H3,I3,st3,fr3,w3⟩
 rcases turn i n σ3 H3 w3 with ⟨stop,qn⟩ | ⟨go,N,hN,step⟩
 ·refine wpAny_passesOwn hp (thn (T.done X rfl rfl rfl hc i pins s3 σ3 H3 X.xe I3 (stat fr3) st3 stop) λr s4 ⟨hr,I4⟩=>?_)
  subst hr
  exact wpAny_execs_nil ⟨σ3,H3,I4,qn⟩
 ·refine wpAny_passesOwn hp (thn (T.item X rfl rfl rfl hc i pins s3 σ3 H3 X.xe I3 (stat fr3) st3 go) λr s4 ⟨u,hr,h4⟩=>?_)
  subst hr
  refine wpAny_passesOwn hp (thn h4 λ_ s5 ⟨x,H5,I5,r5,y5,st5,fr5⟩=>?_)
  have I5':=I5.pinned (stat fr5) (T.obj _ _ st5)
  refine wpAny_passesOwn hp (thn (hg _ s5 σ3 H5 x u _ I5' r5 (step x H5 y5)) λ_ s6 ⟨σ6,H6,I6,q6⟩=>?_)
  refine wpAny_passesOwn hp (thn (hb _ s6 σ6 H6 _ I6 q6) λf s7 q7=>?_)
  have again:∀ {σ7:St} {H7:Hp},Inv X (pins++zgR fp s5.heap) σ7 H7 s7→N σ7 H7→∃m,m<n∧∃i σ' H',Inv X pins σ' H' s7∧tn i s7.heap∧(∀b∈fp,H' b=none)∧W i m σ' H':=λ{σ7 H7} I7 n7=>by
   obtain⟨m',hm,w7⟩:=hN σ7 H7 n7
   refine⟨m',hm,i+1,σ7,H7,I7.unpinned,T.keep _ _ _ st5 λb hb o e=>(I7.pin (b,o) (VaH _ (VaH _ (zk5 hb e)))).1,λb hb=>?_,w7⟩
   obtain⟨o,e,d⟩:=T.obj _ _ st5 b hb
   exact(I7.pin (b,o) (VaH _ (VaH _ (zk5 hb e)))).2.1
  cases f with
  | next=>obtain⟨σ7,H7,I7,n7⟩:=q7; exact again I7 n7
  | cont=>obtain⟨σ7,H7,I7,n7⟩:=q7; exact again I7 n7
  | brk=>obtain⟨σ7,H7,I7,q7⟩:=q7; exact⟨σ7,H7,I7.unpinned,q7⟩
  | ret v=>obtain⟨x7,σ7,H7,I7,r7,q7⟩:=q7; exact⟨x7,σ7,H7,I7.unpinned,r7,q7⟩
end
end L2
namespace L2
open PySem PySem.Spec PyProof.Rows
abbrev R2:=V→V→Hp→VK→Prop
def OpR (X:Cx)(f:Value→Value→Sem Value)(r:R2):Prop:=
 ∀(pins:List (Addr×Obj)) (s:Shared) (σ:St) (H:Hp) (x y:V) (v u:Value) (Q:VK),Inv X pins σ H s→zat x v→zat y u→r x y H Q→
  wpAny (model X.prog X.w) X.A (f v u) (EP X pins σ Q) X.xe s
def UnR (X:Cx)(f:Value→Sem Value)(r:V→Hp→VK→Prop):Prop:=
 ∀(pins:List (Addr×Obj)) (s:Shared) (σ:St) (H:Hp) (x:V) (v:Value) (Q:VK),Inv X pins σ H s→zat x v→r x H Q→
  wpAny (model X.prog X.w) X.A (f v) (EP X pins σ Q) X.xe s
def zba (X:Cx)(f:Value)(r:List V→Hp→VK→Prop):Prop:=
 ∀(pins:List (Addr×Obj)) (s:Shared) (σ:St) (H:Hp) (xs:List V) (us:List Value) (Q:VK),Inv X pins σ H s→zax xs us→r xs H Q→
  wpAny (model X.prog X.w) X.A (call f us) (EP X pins σ Q) X.xe s
def tOp (r:R2)(ta tb:TE):TE:=λσ H Q=>ta σ H λx H1=>tb σ H1 λy H2=>r x y H2 Q
def tUn (r:V→Hp→VK→Prop)(ta:TE):TE:=λσ H Q=>ta σ H λx H1=>r x H1 Q
def rI (C:Int→Int→Prop)(g:Int→Int→V):R2:=λx y H Q=>∃i j,x=.int i∧y=.int j∧C i j∧Q (g i j) H
def rI0 (g:Int→Int→V):R2:=λx y H Q=>∃i j,x=.int i∧y=.int j∧Q (g i j) H
def rU (g:Int→V):V→Hp→VK→Prop:=λx H Q=>∃i,x=.int i∧Q (g i) H
section
variable {X:Cx}{a b c:Expr}{ta tb tc:TE}{pos:Pos}
theorem binT (ha:PE X a ta)(hb:PE X b tb){pins:List (Addr×Obj)}{s:Shared}{σ:St}{H:Hp}{R:V→V→Hp→Prop}(I:Inv X pins σ H s)
  (h:ta σ H λx H1=>tb σ H1 λy H2=>R x y H2){Q:Value→Shared→Prop}{f:Value→Value→Sem Value}
  (hf:∀v u s2 x y H2,Inv X pins σ H2 s2→zat x v→zat y u→R x y H2→wpAny (model X.prog X.w) X.A (f v u) Q X.xe s2):
  wpAny (model X.prog X.w) X.A (eval a X.env) (λv s₁=>wpAny (model X.prog X.w) X.A (eval b X.env) (λu s₂=>wpAny (model X.prog X.w) X.A (f v u) Q X.xe s₂) X.xe s₁) X.xe s:=by
 refine thn (ha pins s σ H _ I h) λv s1 ⟨x,H1,I1,r1,q1⟩=>?_
 refine thn (hb pins s1 σ H1 _ I1 q1) λu s2 ⟨y,H2,I2,r2,q2⟩=>?_
 exact hf v u s2 x y H2 I2 r1 r2 q2
theorem pe_op {op:Operator}{r:R2}(ho:OpR X (binaryOp op) r)(ha:PE X a ta)(hb:PE X b tb):PE X (.BinOp a op b pos) (tOp r ta tb):=by
 intro pins s σ H Q I h
 exact wpAny_BinOp (binT ha hb I h λv u s2 x y H2 I2 rx ry q=>ho pins s2 σ H2 x y v u Q I2 rx ry q)
theorem pe_un {op:UnaryOp}{r:V→Hp→VK→Prop}(ho:UnR X (unaryOp op) r)(ha:PE X a ta):PE X (.UnaryOp op a pos) (tUn r ta):=by
 intro pins s σ H Q I h
 exact UnaryOp_ (thn (ha pins s σ H _ I h) λv s1 ⟨x,H1,I1,r1,q1⟩=>ho pins s1 σ H1 x v Q I1 r1 q1)
theorem opI {f:Value→Value→Sem Value}{C:Int→Int→Prop}{g:Int→Int→Int}
  (rule:∀(i j:Int) (t u:Tok) (s:Shared) (Q:Value→Shared→Prop) (E:Value→Shared→Prop),C i j→Q (.int (g i j) s.toks) { s with toks:=s.toks+1 }→wpAny (model X.prog X.w) X.A (f (.int i t) (.int j u)) Q E s):
  OpR X f (rI C λi j=>.int (g i j)):=by
 intro pins s σ H x y v u Q I rx ry h
 obtain⟨i,j,rfl,rfl,hc,q⟩:=h
 obtain⟨t,rfl⟩:=rx
 obtain⟨t',rfl⟩:=ry
 exact rule i j t t' s _ _ hc ⟨.int (g i j),H,I.tok _,⟨_,rfl⟩,q⟩
theorem opI0 {f:Value→Value→Sem Value}{g:Int→Int→Int}
  (rule:∀(i j:Int) (t u:Tok) (s:Shared) (Q:Value→Shared→Prop) (E:Value→Shared→Prop),Q (.int (g i j) s.toks) { s with toks:=s.toks+1 }→wpAny (model X.prog X.w) X.A (f (.int i t) (.int j u)) Q E s):
  OpR X f (rI0 λi j=>.int (g i j)):=by
 intro pins s σ H x y v u Q I rx ry h
 obtain⟨i,j,rfl,rfl,q⟩:=h
 obtain⟨t,rfl⟩:=rx
 obtain⟨t',rfl⟩:=ry
 exact rule i j t t' s _ _ ⟨.int (g i j),H,I.tok _,⟨_,rfl⟩,q⟩
theorem zkw {f:Value→Value→Sem Value}{g:Int→Int→Bool}
  (rule:∀(i j:Int) (t u:Tok) (s:Shared) (Q:Value→Shared→Prop) (E:Value→Shared→Prop),Q (.bool (g i j)) s→wpAny (model X.prog X.w) X.A (f (.int i t) (.int j u)) Q E s):
  OpR X f (rI0 λi j=>.bl (g i j)):=by
 intro pins s σ H x y v u Q I rx ry h
 obtain⟨i,j,rfl,rfl,q⟩:=h
 obtain⟨t,rfl⟩:=rx
 obtain⟨t',rfl⟩:=ry
 exact rule i j t t' s _ _ ⟨.bl (g i j),H,I,rfl,q⟩
def zhC (i j:Int):Prop:=0≤j∧j≤1000000∧i.natAbs<2^64
def CMul (i j:Int):Prop:=(-(2^64)<i∧i<2^64)∨(-(2^64)<j∧j<2^64)
theorem CMul.ok {i j:Int}(h:CMul i j):IntMulOk i j:=by
 rcases h with ⟨h1,h2⟩ | ⟨h1,h2⟩
 ·exact .of_left (intBits_le_64 h1 h2)
 ·exact .of_right (intBits_le_64 h1 h2)
theorem zuh:OpR X (binaryOp .Add) (rI0 λi j=>.int (i+j)):=opI0 λ_ _ _ _ _ _ _ q=>add_int q
theorem ztC:OpR X (binaryOp .Sub) (rI0 λi j=>.int (i-j)):=opI0 λ_ _ _ _ _ _ _ q=>sub_int q
theorem zqS:OpR X (binaryOp .Mod) (rI (λ_ j=>0<j) λi j=>.int (i%j)):=opI λi j _ _ _ _ _ hc q=>by
 have h1:(0:Int)<j:=hc
 exact mod_int' (by omega) (by rw[Int.fmod_eq_emod_of_nonneg i (by omega)]; exact q)
theorem zrL:OpR X (binaryOp .Pow) (rI zhC λi j=>.int (i^j.toNat)):=opI λ_ _ _ _ _ _ _ hc q=>pow_int_small hc.1 hc.2.1 hc.2.2 q
theorem zvM:OpR X (binaryOp .LShift) (rI zhC λi j=>.int (i*2^j.toNat)):=opI λ_ _ _ _ _ _ _ hc q=>lshift_int_small hc.1 hc.2.1 hc.2.2 q
theorem unI {f:Value→Sem Value}{g:Int→Int}
  (rule:∀(i:Int) (t:Tok) (s:Shared) (Q:Value→Shared→Prop) (E:Value→Shared→Prop),Q (.int (g i) s.toks) { s with toks:=s.toks+1 }→wpAny (model X.prog X.w) X.A (f (.int i t)) Q E s):
  UnR X f (rU λi=>.int (g i)):=by
 intro pins s σ H x v Q I rx h
 obtain⟨i,rfl,q⟩:=h
 obtain⟨t,rfl⟩:=rx
 exact rule i t s _ _ ⟨.int (g i),H,I.tok _,⟨_,rfl⟩,q⟩
theorem zsy:UnR X (unaryOp .USub) (rU λi=>.int (-i)):=unI λ_ _ _ _ _ q=>neg_int q
end
def ziY:V→V→Bool
 | .non,.non=>true | .non,.int _=>true | .int _,.non=>true | .non,.bl _=>true | .bl _,.non=>true | .non,.str _=>true | .str _,.non=>true
 | .int _,.int _=>true | .bl _,.bl _=>true | .str _,.str _=>true | .byt _,.byt _=>true
 | .int _,.str _=>true | .str _,.int _=>true | .bl _,.str _=>true | .str _,.bl _=>true
 | _,_=>false
def rEq:R2:=λx y H Q=>ziY x y=true∧Q (.bl (decide (x=y))) H
def rNe:R2:=λx y H Q=>ziY x y=true∧Q (.bl (!decide (x=y))) H
theorem zo4 {i j:Int}:decide (V.int i=V.int j)=(i==j):=by
 rw[Bool.eq_iff_iff]
 simp
theorem zpm {i j:Bool}:decide (V.bl i=V.bl j)=(i==j):=by
 rw[Bool.eq_iff_iff]
 simp
theorem zpe {i j:Str}:decide (V.str i=V.str j)=(i==j):=by
 rw[Bool.eq_iff_iff]
 simp
theorem zn3 {i j:Array UInt8}:decide (V.byt i=V.byt j)=(i.toList==j.toList):=by
 rw[Bool.eq_iff_iff]
 cases i
 cases j
 simp
section
variable {X:Cx}{a b c:Expr}{ta tb tc:TE}{pos:Pos}
theorem zaV {pins:List (Addr×Obj)}{σ:St}{H:Hp}{s:Shared}{Q:VK}{k k':Bool}(I:Inv X pins σ H s)(q:Q (.bl k) H)(e:k=k'):EP X pins σ Q (.bool k') s:=by
 subst e
 exact⟨.bl k,H,I,rfl,q⟩
theorem znJ:OpR X (compareOp .Eq) rEq:=by
 intro pins s σ H x y v u Q I rx ry h
 obtain⟨hs,q⟩:=h
 cases x with
 | non=>
  cases rx
  cases y with
  | non=>cases ry; exact PySem.EqNone.eq_none_none (zaV I q (by simp))
  | bl j=>cases ry; exact PySem.EqNone.eq_none_bool (zaV I q (by simp))
  | int j=>obtain⟨t',rfl⟩:=ry; exact PySem.EqNone.eq_none_int (zaV I q (by simp))
  | str j=>obtain⟨t',rfl⟩:=ry; exact PySem.EqNone.eq_none_str (zaV I q (by simp))
  | _=>exact absurd (show false=true from hs) Val
 | bl i=>
  cases rx
  cases y with
  | non=>cases ry; exact PySem.EqNone.eq_bool_none (zaV I q (by simp))
  | bl j=>cases ry; exact eq_bool (zaV I q zpm)
  | str j=>obtain⟨t',rfl⟩:=ry; exact PySem.EqMixed.eq_bool_str (zaV I q (by simp))
  | _=>exact absurd (show false=true from hs) Val
 | int i=>
  obtain⟨t,rfl⟩:=rx
  cases y with
  | non=>cases ry; exact PySem.EqNone.eq_int_none (zaV I q (by simp))
  | int j=>obtain⟨t',rfl⟩:=ry; exact eq_int (zaV I q zo4)
  | str j=>obtain⟨t',rfl⟩:=ry; exact PySem.EqMixed.eq_int_str (zaV I q (by simp))
  | _=>exact absurd (show false=true from hs) Val
 | str i=>
  obtain⟨t,rfl⟩:=rx
  cases y with
  | non=>cases ry; exact PySem.EqNone.eq_str_none (zaV I q (by simp))
  | bl j=>cases ry; exact PySem.EqMixed.eq_str_bool (zaV I q (by simp))
  | int j=>obtain⟨t',rfl⟩:=ry; exact PySem.EqMixed.eq_str_int (zaV I q (by simp))
  | str j=>obtain⟨t',rfl⟩:=ry; exact eq_str (zaV I q zpe)
  | _=>exact absurd (show false=true from hs) Val
 | byt i=>
  obtain⟨t,rfl⟩:=rx
  cases y with
  | byt j=>obtain⟨t',rfl⟩:=ry; exact PySem.W.eq_bytes (zaV I q zn3)
  | _=>exact absurd (show false=true from hs) Val
 | _=>cases y <;> exact absurd (show false=true from hs) Val
theorem op_ne:OpR X (compareOp .NotEq) rNe:=by
 intro pins s σ H x y v u Q I rx ry h
 obtain⟨hs,q⟩:=h
 cases x with
 | non=>
  cases rx
  cases y with
  | non=>cases ry; exact PySem.EqNone.ne_none_none (zaV I q (by simp))
  | bl j=>cases ry; exact PySem.EqNone.ne_none_bool (zaV I q (by simp))
  | int j=>obtain⟨t',rfl⟩:=ry; exact PySem.EqNone.ne_none_int (zaV I q (by simp))
  | str j=>obtain⟨t',rfl⟩:=ry; exact PySem.EqNone.ne_none_str (zaV I q (by simp))
  | _=>exact absurd (show false=true from hs) Val
 | bl i=>
  cases rx
  cases y with
  | non=>cases ry; exact PySem.EqNone.ne_bool_none (zaV I q (by simp))
  | bl j=>cases ry; exact ne_bool (zaV I q (congrArg not zpm))
  | str j=>obtain⟨t',rfl⟩:=ry; exact PySem.EqMixed.ne_bool_str (zaV I q (by simp))
  | _=>exact absurd (show false=true from hs) Val
 | int i=>
  obtain⟨t,rfl⟩:=rx
  cases y with
  | non=>cases ry; exact PySem.EqNone.ne_int_none (zaV I q (by simp))
  | int j=>obtain⟨t',rfl⟩:=ry; exact ne_int (zaV I q (congrArg not zo4))
  | str j=>obtain⟨t',rfl⟩:=ry; exact PySem.EqMixed.ne_int_str (zaV I q (by simp))
  | _=>exact absurd (show false=true from hs) Val
 | str i=>
  obtain⟨t,rfl⟩:=rx
  cases y with
  | non=>cases ry; exact PySem.EqNone.ne_str_none (zaV I q (by simp))
  | bl j=>cases ry; exact PySem.EqMixed.ne_str_bool (zaV I q (by simp))
  | int j=>obtain⟨t',rfl⟩:=ry; exact PySem.EqMixed.ne_str_int (zaV I q (by simp))
  | str j=>obtain⟨t',rfl⟩:=ry; exact ne_str (zaV I q (congrArg not zpe))
  | _=>exact absurd (show false=true from hs) Val
 | byt i=>
  obtain⟨t,rfl⟩:=rx
  cases y with
  | byt j=>obtain⟨t',rfl⟩:=ry; exact PySem.W.ne_bytes (zaV I q (congrArg not zn3))
  | _=>exact absurd (show false=true from hs) Val
 | _=>cases y <;> exact absurd (show false=true from hs) Val
theorem op_lt:OpR X (compareOp .Lt) (rI0 λi j=>.bl (decide (i<j))):=zkw λ_ _ _ _ _ _ _ q=>lt_int q
theorem op_le:OpR X (compareOp .LtE) (rI0 λi j=>.bl (decide (i≤j))):=zkw λ_ _ _ _ _ _ _ q=>le_int q
theorem op_gt:OpR X (compareOp .Gt) (rI0 λi j=>.bl (decide (j<i))):=zkw λ_ _ _ _ _ _ _ q=>gt_int q
theorem op_ge:OpR X (compareOp .GtE) (rI0 λi j=>.bl (decide (j≤i))):=zkw λ_ _ _ _ _ _ _ q=>ge_int q
theorem zwo:OpR X (compareOp .Is) (λx y H Q=>y=.non∧Q (.bl (decide (x=.non))) H):=by
 intro pins s σ H x y v u Q I rx ry h
 obtain⟨rfl,q⟩:=h
 cases ry
 refine is_none_gen (zaV I q ?_)
 cases x <;> first
  | (cases rx; rfl)
  | (obtain⟨t,rfl⟩:=rx; rfl)
theorem ztx:OpR X (compareOp .IsNot) (λx y H Q=>y=.non∧Q (.bl (!decide (x=.non))) H):=by
 intro pins s σ H x y v u Q I rx ry h
 obtain⟨rfl,q⟩:=h
 cases ry
 refine isnot_none_gen (zaV I q ?_)
 cases x <;> first
  | (cases rx; rfl)
  | (obtain⟨t,rfl⟩:=rx; rfl)
theorem OpR.or {f:Value→Value→Sem Value}{r r':R2}(h:OpR X f r)(h':OpR X f r'):OpR X f (λx y H Q=>r x y H Q∨r' x y H Q):=by
 intro pins s σ H x y v u Q I rx ry q
 rcases q with q | q
 ·exact h pins s σ H x y v u Q I rx ry q
 ·exact h' pins s σ H x y v u Q I rx ry q
theorem zar (b:Expr){op:CmpOp}(h:op≠.In:=by decide)(h2:op≠.NotIn:=by decide):behindInMarks op b=false:=by
 have e1:(op==CmpOp.In)=false:=by cases op <;> first | rfl | exact absurd rfl h
 have e2:(op==CmpOp.NotIn)=false:=by cases op <;> first | rfl | exact absurd rfl h2
 cases b <;> simp[behindInMarks,e1,e2]
theorem zsw {op:CmpOp}{r:R2}(ho:OpR X (compareOp op) r)(ha:PE X a ta)(hb:PE X b tb)(hm:behindInMarks op b=false):PE X (.Compare a [op] [b] pos) (tOp r ta tb):=by
 intro pins s σ H Q I h
 exact wpAny_Compare1 (binT ha hb I h λv u s2 x y H2 I2 rx ry q=>ho pins s2 σ H2 x y v u Q I2 rx ry q) hm
def zol (t:TE):TT:=λσ H Q=>t σ H λx H'=>∃k,x=.bl k∧Q k H'
theorem zu5 {op:CmpOp}{r:R2}(ho:OpR X (compareOp op) r)(ha:PE X a ta)(hb:PE X b tb)(hm:behindInMarks op b=false):PT X (.Compare a [op] [b] pos) (zol (tOp r ta tb)):=by
 intro pins s σ H Q I h
 refine wpAny_isTrue_Compare1 (thn (ha pins s σ H _ I h) λv s1 ⟨x,H1,I1,r1,q1⟩=>thn (hb pins s1 σ H1 _ I1 q1) λu s2 ⟨y,H2,I2,r2,q2⟩=>
  thn (ho pins s2 σ H2 x y v u _ I2 r1 r2 q2) λc s3 ⟨z,H3,I3,r3,k,e,q3⟩=>?_) hm
 subst e
 cases r3
 exact wpAny_truthy_bool ⟨H3,I3,q3⟩
def zmv (r r':R2)(ta tb tc:TE):TE:=λσ H Q=>ta σ H λx H1=>tb σ H1 λy H2=>r x y H2 λz H3=>∃k,z=.bl k∧
 (if k=true then tc σ H3 λw' H4=>r' y w' H4 Q else Q (.bl false) H3)
theorem zwA {op op':CmpOp}{r r':R2}(ho:OpR X (compareOp op) r)(ho':OpR X (compareOp op') r')(ha:PE X a ta)(hb:PE X b tb)(hc:PE X c tc)
  (hm:lastMarks [op,op'] [b,c]=false:=by with_unfolding_all rfl):PE X (.Compare a [op,op'] [b,c] pos) (zmv r r' ta tb tc):=by
 intro pins s σ H Q I h
 refine Compare_chain (thn (ha pins s σ H _ I h) λv s1 ⟨x,H1,I1,r1,q1⟩=>chain_link (thn (hb pins s1 σ H1 _ I1 q1) λu s2 ⟨y,H2,I2,r2,q2⟩=>
  thn (ho pins s2 σ H2 x y v u _ I2 r1 r2 q2) λd s3 ⟨z,H3,I3,r3,k,e,q3⟩=>?_)) hm
 subst e
 cases r3
 refine wpAny_truthy_bool ?_
 cases k with
 | false=>exact ite_ff ⟨.bl false,H3,I3,rfl,q3⟩
 | true=>exact ite_tt (chain_last (thn (hc pins s3 σ H3 _ I3 q3) λw' s4 ⟨z',H4,I4,r4,q4⟩=>ho' pins s4 σ H4 y z' u w' Q I4 r2 r4 q4))
theorem zr8 {op op':CmpOp}{r r':R2}(ho:OpR X (compareOp op) r)(ho':OpR X (compareOp op') r')(ha:PE X a ta)(hb:PE X b tb)(hc:PE X c tc)
  (hm:lastMarks [op,op'] [b,c]=false:=by with_unfolding_all rfl):PT X (.Compare a [op,op'] [b,c] pos) (zol (zmv r r' ta tb tc)):=by
 intro pins s σ H Q I h
 refine isTrue_chain (thn (ha pins s σ H _ I h) λv s1 ⟨x,H1,I1,r1,q1⟩=>test_link (thn (hb pins s1 σ H1 _ I1 q1) λu s2 ⟨y,H2,I2,r2,q2⟩=>
  thn (ho pins s2 σ H2 x y v u _ I2 r1 r2 q2) λd s3 ⟨z,H3,I3,r3,k,e,q3⟩=>?_)) hm
 subst e
 cases r3
 refine wpAny_truthy_bool ?_
 cases k with
 | false=>
  obtain⟨k',e',q'⟩:=q3
  cases e'
  exact ite_ff ⟨H3,I3,q'⟩
 | true=>
  refine ite_tt (test_last (thn (hc pins s3 σ H3 _ I3 q3) λw' s4 ⟨z',H4,I4,r4,q4⟩=>thn (ho' pins s4 σ H4 y z' u w' _ I4 r2 r4 q4) λd' s5 ⟨z2,H5,I5,r5,k2,e2,q5⟩=>?_))
  subst e2
  cases r5
  exact wpAny_truthy_bool ⟨H5,I5,q5⟩
theorem zgS:(sizeLine:Nat)<2^63:=by rw[sizeLine_eq]; decide
theorem zeB {x:V}{us:List Value}(r:zax [x] us):∃u,us=[u]∧zat x u:=by
 cases r with
 | cons r1 r2=>cases r2; exact⟨_,rfl,r1⟩
theorem zmz {x y:V}{us:List Value}(r:zax [x,y] us):∃u w',us=[u,w']∧zat x u∧zat y w':=by
 cases r with
 | cons r1 r2=>
  cases r2 with
  | cons r3 r4=>cases r4; exact⟨_,_,rfl,r1,r3⟩
theorem ztN:zba X (.builtin "abs") (λxs H Q=>∃i,xs=[.int i]∧Q (.int (if i<0 then -i else i)) H):=by
 intro pins s σ H xs us Q I r h
 obtain⟨i,rfl,q⟩:=h
 obtain⟨u,rfl,t,rfl⟩:=zeB r
 exact call_abs_int λu tk=>⟨.int (if i<0 then -i else i),H,I.tok _,⟨_,rfl⟩,q⟩
theorem zrn (hc:X.calm=true):zba X (.builtin "max") (λxs H Q=>∃i j,xs=[.int i,.int j]∧Q (.int (if j > i then j else i)) H):=by
 intro pins s σ H xs us Q I r h
 obtain⟨i,j,rfl,q⟩:=h
 obtain⟨u,w',rfl,⟨t,rfl⟩,⟨t',rfl⟩⟩:=zmz r
 refine max_two_ints (I.ok.hd hc) λh' tk k=>⟨_,H,I.kept k,?_,q⟩
 by_cases hj:j > i
 ·rw[if_pos hj,if_pos hj]; exact⟨_,rfl⟩
 ·rw[if_neg hj,if_neg hj]; exact⟨_,rfl⟩
theorem zuY (hc:X.calm=true):zba X (.builtin "min") (λxs H Q=>∃i j,xs=[.int i,.int j]∧Q (.int (if j<i then j else i)) H):=by
 intro pins s σ H xs us Q I r h
 obtain⟨i,j,rfl,q⟩:=h
 obtain⟨u,w',rfl,⟨t,rfl⟩,⟨t',rfl⟩⟩:=zmz r
 refine min_two_ints (I.ok.hd hc) λh' tk k=>⟨_,H,I.kept k,?_,q⟩
 by_cases hj:j<i
 ·rw[if_pos hj,if_pos hj]; exact⟨_,rfl⟩
 ·rw[if_neg hj,if_neg hj]; exact⟨_,rfl⟩
end
end L2
namespace L2
open PySem PySem.Spec PyProof.Rows
structure zdS (h:Heap)(x dx C:Addr)(mA:Str→Option Value):Prop where
 obj:h.get? x=some (PySem.W.instObj C dx)
 ns:h.Ns1 dx mA
 ne:dx≠x
theorem zq5 {h:Heap}{dx:Addr}{mA:Str→Option Value}(n:h.Ns1 dx mA):∃od,h.get? dx=some od∧∀name,PySem.W.lookIn name od=some (mA name):=by
 obtain⟨o,es,ep,ho,hd,hk,_,hm⟩:=n
 refine⟨o,ho,λname=>?_⟩
 have e:=hm name
 unfold nsFind findBy at e
 rw[← Array.find?_toList] at e
 unfold PySem.W.lookIn
 rw[hd]
 dsimp only
 split
 ·rename_i y q
  rw[q] at e
  exact congrArg some e
 ·rename_i q
  rw[q] at e
  have a:es.toList.any (·.refKey)=false:=by
   rw[List.any_eq_false]
   intro y hy
   obtain⟨z,t,hkey⟩:=hk y (Array.mem_toList_iff.mp hy)
   simp[DictEntry.refKey,hkey]
  have a':¬ es.toList.any (·.refKey)=true:=by rw[a]; exact Val
  rw[if_neg a']
  exact congrArg some e
theorem zdS.look {h:Heap}{x dx C:Addr}{mA:Str→Option Value}(I:zdS h x dx C mA):∃od,PySem.W.InstAt h x (PySem.W.instObj C dx) C (some od)∧∀name,PySem.W.lookIn name od=some (mA name):=
 let ⟨od,ho,hl⟩:=zq5 I.ns
 ⟨od,⟨I.obj,rfl,rfl,ho⟩,hl⟩
section
variable {prog:Program}{w:World}{A:Around}{E:Value→Shared→Prop}{s:Shared}{K:PySem.W.Frag}{x dx C f:Addr}{mA:Str→Option Value}{name:Str}{v:Value}
theorem zsL {expr:Bool}{Q:Value→Shared→Prop}(X:K.In s.heap)(I:zdS s.heap x dx C mA)(hg:PySem.W.plainGet K C name=true)(hh:PySem.W.hasDictIn K C=true)
  (ha:PySem.W.findIn K (.ref C) name=some none)(hv:mA name=some v)(hv':PySem.W.handedIn v=true)(h:Q v { s with toks:=s.toks+1 }):
  wpAny (model prog w) A (getAttr (.ref x) name expr) Q E s:=by
 obtain⟨od,J,hl⟩:=I.look
 exact PySem.W.get_value X J (PySem.W.plainGet_of hg).1 (PySem.W.findObj_own hh ha rfl (by rw[hl,hv])) hv' h
theorem ztP {pl:Sem Bool}{Q:Value×List Value→Shared→Prop}(X:K.In s.heap)(I:zdS s.heap x dx C mA)(hg:PySem.W.plainGet K C name=true)
  (hf:PySem.W.findIn K (.ref C) name=some (some (.ref f)))(ht:PySem.W.isFn K (.ref f)=true)(hv:mA name=none)(h:Q (.ref f,[.ref x]) s):
  wpAny (model prog w) A (getMethod (.ref x) name pl) Q E s:=by
 obtain⟨od,J,hl⟩:=I.look
 exact PySem.W.method_fn X J (PySem.W.plainGet_of hg).1 (PySem.W.plainGet_of hg).2 hf (beq_iff_eq.mp ht) (by show (PySem.W.lookIn name od).map (·.isSome)=some false; rw[hl,hv]; rfl) h
theorem zs6 {ns:List Str}{Q:Unit→Shared→Prop}(X:K.In s.heap)(I:zdS s.heap x dx C mA)
  (hs:PySem.W.findIn K (.ref C) "__setattr__"=some (some (.builtin "object.__setattr__")))(hp:PySem.W.plainOver K C=true)(ht:PySem.W.takerIn K C name=some none)(hh:PySem.W.hasDictIn K C=true)
  (hw:PySem.Within mA ns)(hsz:ns.length≤sizeLine)
  (h:∀h',zdS h' x dx C (λy=>if y=name then some v else mA y)→Heap.SameBut dx s.heap h'→Q () { s with heap:=h',toks:=s.toks+2 }):
  wpAny (model prog w) A (setAttr (.ref x) name v) Q E s:=by
 obtain⟨od,J,hl⟩:=I.look
 refine PySem.W.set_plain X J hs (PySem.W.osa_open (s:={ s with toks:=s.toks+1 }) (r:=none) X J hp ht λb=>?_)
 obtain⟨cd,hc,hd'⟩:=PySem.W.any_some hh
 have hx:s.heap.get? x=some ⟨.ref C,some dx,.plain,#[]⟩:=I.obj
 refine wpAny_bind (wpAny_pure (wpAny_bind (wpAny_bind (wpAny_loadPart hx (wpAny_bind (PySem.W.Looks.here (s:={ s with toks:=s.toks+1 }) (PySem.W.looks_clsIn X hc) ?_))))))
 rw[hd']
 refine wpAny_pure (a:=some dx) (wpAny_bind (wpAny_pure (wpAny_bind ?_)))
 refine wpAny_nsSet1 (s:={ s with toks:=s.toks+1 }) I.ns λh' hn2 hs2=>?_
 obtain⟨oD,esD,epD,hoD,hdD,hcD⟩:=hn2.count (PySem.Within.cons name v hw)
 refine wpAny_bind (wpAny_lookBehind hoD (by rw[hdD]; exact pastItsLine_dict (VaB hcD (by rw[VaE]; omega))) ?_)
 exact wpAny_pure (h _ ⟨(hs2.2 _ (Ne.symm I.ne)).trans I.obj,hn2,I.ne⟩ hs2)
theorem zwH {R:Result→Shared→Prop}{vs:List Value}{kw:List (Str×Value)}(X:K.In s.heap)(hm:PySem.W.makesIn K C=true)
  (hi:PySem.W.findIn K (.ref C) "__init__"=some (some (.ref f)))(hf:PySem.W.typeIn K (.ref f)=some (.type "function"))
  (h:codeAny (model prog w) (A.under (.builtin "type.__call__" ⟨.ref C::vs,kw⟩)) (.call (.ref f) ⟨.ref (s.heap.objs.size+1)::vs,kw⟩) (PySem.W.InitBack (s.heap.objs.size+1) R)
   { s with heap:=(s.heap.push PySem.W.emptyDict).push (PySem.W.instObj C s.heap.objs.size) }):
  codeAny (model prog w) A (.call (.ref C) ⟨vs,kw⟩) R s:=by
 obtain⟨hh,g,d,t,os⟩:=s
 exact PySem.W.make_core (PySem.W.makes_of X hm) (PySem.W.looks_findIn X hi) (λself=>PySem.W.bind_fn X self hf) (.inl rfl) h
end
def zbh (f:Str)(v:V):List (Str×V)→List (Str×V)
 | []=>[(f,v)]
 | (g,x)::r=>if g=f then (g,v)::r else (g,x)::zbh f v r
theorem znU (f g:Str)(v:V):∀fs:List (Str×V),(zbh f v fs).lookup g=if g=f then some v else fs.lookup g
 | []=>by
  show List.lookup g [(f,v)]=_
  by_cases h:g=f
  ·have hb:(g==f)=true:=beq_iff_eq.mpr h
   simp only[List.lookup,hb,if_pos h]
  ·have hb:(g==f)=false:=beq_eq_false_iff_ne.mpr h
   simp only[List.lookup,hb,if_neg h]
 | (k,x)::r=>by
  have ih:=znU f g v r
  rw[show zbh f v ((k,x)::r)=(if k=f then (k,v)::r else (k,x)::zbh f v r) from rfl]
  by_cases hk:k=f
  ·rw[if_pos hk]
   by_cases h:g=k
   ·have hb:(g==k)=true:=beq_iff_eq.mpr h
    simp only[List.lookup,hb,if_pos (h.trans hk)]
   ·have hb:(g==k)=false:=beq_eq_false_iff_ne.mpr h
    simp only[List.lookup,hb,if_neg (λe:g=f=>h (e.trans hk.symm))]
  ·rw[if_neg hk]
   by_cases h:g=k
   ·have hb:(g==k)=true:=beq_iff_eq.mpr h
    simp only[List.lookup,hb,if_neg (λe:g=f=>hk (h.symm.trans e))]
   ·have hb:(g==k)=false:=beq_eq_false_iff_ne.mpr h
    simp only[List.lookup,hb]
    exact ih
theorem znI (f:Str)(v:V):∀fs:List (Str×V),f∈(zbh f v fs).map (·.1)∧∀g,g∈fs.map (·.1)→g∈(zbh f v fs).map (·.1)
 | []=>⟨by simp[zbh],λg h=>by simp at h⟩
 | (k,x)::r=>by
  obtain⟨i1,i2⟩:=znI f v r
  rw[show zbh f v ((k,x)::r)=(if k=f then (k,v)::r else (k,x)::zbh f v r) from rfl]
  by_cases hk:k=f
  ·rw[if_pos hk]
   subst hk
   exact⟨by simp,λg h=>by simpa using h⟩
  ·rw[if_neg hk]
   refine⟨?_,λg h=>?_⟩
   ·rw[Vau]
    exact VaG _ i1
   ·rw[Vau] at h ⊢
    rcases Vai.mp h with e | e
    ·exact Vai.mpr (.inl e)
    ·exact VaG _ (i2 g e)
theorem zoH (f:Str)(v:V):∀fs:List (Str×V),(zbh f v fs).length≤fs.length+1
 | []=>by simp[zbh]
 | (k,x)::r=>by
  have ih:=zoH f v r
  rw[show zbh f v ((k,x)::r)=(if k=f then (k,v)::r else (k,x)::zbh f v r) from rfl]
  by_cases hk:k=f
  ·rw[if_pos hk,VaE,VaE]; omega
  ·rw[if_neg hk,VaE,VaE]; omega
theorem zbv.some_of {v:V}{o:Option Value}(r:zbv (some v) o):∃u,o=some u∧zat v u:=by
 cases o with
 | none=>exact(show False from r).elim
 | some u=>exact⟨u,rfl,r⟩
theorem zbv.none_of {o:Option Value}(r:zbv none o):o=none:=by
 cases o with
 | none=>rfl
 | some u=>exact(show False from r).elim
theorem zse {v:V}{u:Value}(r:zat v u):PySem.W.handedIn u=true:=by
 cases v with
 | non=>cases (show u=Value.none from r); rfl
 | bl b=>cases (show u=Value.bool b from r); rfl
 | int i=>obtain⟨t,e⟩:=(show ∃t,u=Value.int i t from r); cases e; rfl
 | str x=>obtain⟨t,e⟩:=(show ∃t,u=Value.str x t from r); cases e; rfl
 | byt b=>obtain⟨t,e⟩:=(show ∃t,u=Value.bytes b t from r); cases e; rfl
 | flt b=>obtain⟨t,e⟩:=(show ∃t,u=Value.float b t from r); cases e; rfl
 | ref a=>cases (show u=Value.ref a from r); rfl
 | ty n=>cases (show u=Value.type n from r); rfl
section
variable {P:Program}{w:World}{H H':Hp}{h h':Heap}{a C dx:Addr}{fs fs':List (Str×V)}
theorem zlk (hok:HOk P w H h)(e:H a=some (.ins C dx fs)):∃mA,zdS h a dx C mA∧(∀f,zbv (fs.lookup f) (mA f))∧PySem.Within mA (fs.map (·.1))∧fs.length≤1000∧H dx=some (.own a):=by
 obtain⟨d,z,ne,ob,mA,n,r,q⟩:=(show zbg P w H h a (.ins C dx fs) from hok a _ e)
 exact⟨mA,⟨ob,n,ne⟩,r,q,z,d⟩
end
structure Cls (K:PySem.W.Frag)(C:Addr):Prop where
 pg:PySem.W.plainGet K C Str.empty=true
 hd:PySem.W.hasDictIn K C=true
 po:PySem.W.plainOver K C=true
 sa:PySem.W.findIn K (.ref C) "__setattr__"=some (some (.builtin "object.__setattr__"))
theorem Cls.get {K:PySem.W.Frag}{C:Addr}(c:Cls K C)(f:Str):PySem.W.plainGet K C f=true:=c.pg
def zbi (K:PySem.W.Frag)(C:Addr)(f:Str):Prop:=PySem.W.findIn K (.ref C) f=some none
theorem zbi.taker {K:PySem.W.Frag}{C:Addr}{f:Str}(n:zbi K C f):PySem.W.takerIn K C f=some none:=by
 unfold PySem.W.takerIn
 rw[show PySem.W.findIn K (.ref C) f=some none from n]
 rfl
structure Con (K:PySem.W.Frag)(C:Addr)(f:Str)(v:V)(u:Value):Prop where
 at_:PySem.W.findIn K (.ref C) f=some (some u)
 rel:zat v u
 get:PySem.W.specialIn K u "__get__"=some none
 cp:PySem.W.copiedNames.contains f=false
structure zey (K:PySem.W.Frag)(C:Addr)(m:Str)(f:Addr):Prop where
 at_:PySem.W.findIn K (.ref C) m=some (some (.ref f))
 fn:PySem.W.isFn K (.ref f)=true
 kp:PySem.W.keepIn K (.ref f)=true
section
variable {X:Cx}{pins:List (Addr×Obj)}{σ:St}{H:Hp}{s:Shared}{a C dx:Addr}{fs:List (Str×V)}{f:Str}{v:V}{A:Around}{E:Value→Shared→Prop}
theorem zsY {b:Bool}{Q:Value→Shared→Prop}(I:Inv X pins σ H s)(e:H a=some (.ins C dx fs))(c:Cls X.K C)(n:zbi X.K C f)(l:fs.lookup f=some v)
  (h:∀u s',Inv X pins σ H s'→zat v u→Q u s'):wpAny (model X.prog X.w) A (getAttr (.ref a) f b) Q E s:=by
 obtain⟨mA,O,r,_,_,_⟩:=zlk I.hok e
 obtain⟨u,hu,ru⟩:=zbv.some_of (v:=v) (o:=mA f) (by rw[← l]; exact r f)
 exact zsL I.kIn O (c.get f) c.hd n hu (zse ru) (h u _ (I.tok _) ru)
theorem zow {m:Str}{g:Addr}{pl:Sem Bool}{Q:Value×List Value→Shared→Prop}(I:Inv X pins σ H s)(e:H a=some (.ins C dx fs))(c:Cls X.K C)(k:zey X.K C m g)(l:fs.lookup m=none)
  (h:Q (.ref g,[.ref a]) s):wpAny (model X.prog X.w) A (getMethod (.ref a) m pl) Q E s:=by
 obtain⟨mA,O,r,_,_,_⟩:=zlk I.hok e
 have hn:mA m=none:=zbv.none_of (by rw[← l]; exact r m)
 exact ztP I.kIn O (c.get m) k.at_ k.fn hn h
theorem zsq {y:V}{u:Value}{Q:Unit→Shared→Prop}(I:Inv X pins σ H s)(e:H a=some (.ins C dx fs))(c:Cls X.K C)(n:zbi X.K C f)(hl:fs.length<1000)(ry:zat y u)
  (h:∀s',Inv X pins σ (upd H a (.ins C dx (zbh f y fs))) s'→Q () s'):wpAny (model X.prog X.w) A (setAttr (.ref a) f u) Q E s:=by
 obtain⟨mA,O,r,wi,_,ho⟩:=zlk I.hok e
 have hz:(fs.map (·.1)).length≤sizeLine:=by rw[Vac,sizeLine_eq]; omega
 refine zs6 I.kIn O c.sa c.po n.taker c.hd wi hz λh' O' sb=>h _ ?_
 have hd:∃o,h'.get? dx=some o:=let ⟨o,_,_,e',_⟩:=O'.ns; ⟨o,e'⟩
 refine I.write (x:=a) (e:=dx) (by rw[e]; exact True.intro) (.inr ho) (λb q hb z=>(sb.2 b hb).trans z) hd ?_
 refine⟨by rw[za2 O.ne]; exact ho,?_,O.ne,O'.obj,_,O'.ns,λg=>?_,λg hg=>?_⟩
 ·have:=zoH f y fs; omega
 ·show zbv ((zbh f y fs).lookup g) (if g=f then some u else mA g)
  rw[znU]
  by_cases q:g=f
  ·rw[if_pos q,if_pos q]; exact ry
  ·rw[if_neg q,if_neg q]; exact r g
 ·by_cases q:g=f
  ·rw[q]; exact(znI f y fs).1
  ·refine(znI f y fs).2 g (wi g λz=>hg ?_)
   show (if g=f then some u else mA g)=none
   rw[if_neg q]; exact z
theorem Inv.made (I:Inv X pins σ H s):Inv X pins σ (upd (upd H s.heap.objs.size (.own (s.heap.objs.size+1))) (s.heap.objs.size+1) (.ins C s.heap.objs.size []))
  { s with heap:=(s.heap.push PySem.W.emptyDict).push (PySem.W.instObj C s.heap.objs.size) }:=by
 have e1:(s.heap.push PySem.W.emptyDict).get? s.heap.objs.size=some PySem.W.emptyDict:=Heap.get?_push_size s.heap rfl
 have e2:((s.heap.push PySem.W.emptyDict).push (PySem.W.instObj C s.heap.objs.size)).get? (s.heap.objs.size+1)=some (PySem.W.instObj C s.heap.objs.size):=by
  have:=Heap.get?_push_size (s.heap.push PySem.W.emptyDict) (o:=PySem.W.instObj C s.heap.objs.size) rfl
  rwa [Heap.size_push] at this
 have e3:(s.heap.push PySem.W.emptyDict).Ns s.heap.objs.size (λ_=>none):=⟨PySem.W.emptyDict,#[],_,e1,rfl,(λe he=>absurd he (by simp)),λ_=>rfl⟩
 have I1:=I.laid (a:=s.heap.objs.size) (o:=.own (s.heap.objs.size+1)) (h':=s.heap.push PySem.W.emptyDict) (t':=s.toks) (λb u q=>Heap.get?_push_of_some _ q) (Vaa _) ⟨_,e1⟩
 refine I1.laid (a:=s.heap.objs.size+1) (o:=.ins C s.heap.objs.size []) (t':=s.toks) (λb u q=>Heap.get?_push_of_some _ q) (Nat.le_of_eq (Heap.size_push _ _)) ?_
 have ne:s.heap.objs.size≠s.heap.objs.size+1:=Vas (Nat.lt_succ_self _)
 refine⟨by rw[za2 ne,zcv],VaC _,ne,e2,λ_=>none,(Heap.Ns1.of_empty e3).at λo q=>Heap.get?_push_of_some _ q,λ_=>True.intro,λy hy=>absurd rfl hy⟩
theorem zrB {prog:Program}{w:World}{env:Env}{e:Expr}{f:Str}{pos:Pos}{s:Shared}{Q:Value→Shared→Prop}(hb:attributeBase e f env (eval e env)=eval e env)
  (h:wpAny (model prog w) A (eval e env) (λo s₁=>wpAny (model prog w) A (getAttr o f true) Q E s₁) E s):wpAny (model prog w) A (eval (.Attribute e f pos) env) Q E s:=
 Attribute_any_ h (by rw[arm_eval_Attribute,hb])
end
def tFld (K:PySem.W.Frag)(ta:TE)(f:Str):TE:=λσ H Q=>ta σ H λx H1=>∃a C dx fs v,x=.ref a∧H1 a=some (.ins C dx fs)∧Cls K C∧zbi K C f∧fs.lookup f=some v∧Q v H1
def sFld (K:PySem.W.Frag)(ta tv:TE)(f:Str):TS:=λD σ H=>tv σ H λy H1=>ta σ H1 λx H2=>∃a C dx fs,x=.ref a∧H2 a=some (.ins C dx fs)∧Cls K C∧zbi K C f∧fs.length<1000∧
 D.nx σ (upd H2 a (.ins C dx (zbh f y fs)))
section
variable {X:Cx}{o e value:Expr}{f:Str}{pos pos' tpos:Pos}{ta tv:TE}
theorem ztA (he:PE X e ta)(hb:attributeBase e f X.env (eval e X.env)=eval e X.env):PE X (.Attribute e f pos) (tFld X.K ta f):=by
 intro pins s σ H Q I h
 refine zrB hb (thn (he pins s σ H _ I h) λu s1 ⟨x,H1,I1,rx,a,C,dx,fs,v,ex,ea,c,n,l,q⟩=>?_)
 subst ex
 obtain rfl:u=Value.ref a:=rx
 exact zsY I1 ea c n l λu' s2 I2 ru=>⟨v,H1,I2,ru,q⟩
theorem ztX (ha:PE X o ta)(hv:PE X value tv)(hs:swapsWith value (some (.Attribute o f pos')) pos.line X.env=pure false):PS X (.Assign [.Attribute o f pos'] value pos) (sFld X.K ta tv f):=by
 intro pins s σ H D I h
 refine plainObj_wpAny_Assign_Attribute (thn (hv pins s σ H _ I h) λu s1 ⟨y,H1,I1,ry,q⟩=>thn (ha pins s1 σ H1 _ I1 q) λov s2 ⟨x,H2,I2,rx,a,C,dx,fs,ex,ea,c,n,l,q2⟩=>?_) hs
 subst ex
 obtain rfl:ov=Value.ref a:=rx
 exact zsq I2 ea c n l ry λs3 I3=>⟨σ,_,I3,q2⟩
end
section
variable {X:Cx}{pins:List (Addr×Obj)}{σ:St}{H:Hp}{s:Shared}{A:Around}{E:Value→Shared→Prop}{Q:Value→Shared→Prop}{c:Value}{b:Bool}
inductive zbY (K:PySem.W.Frag)(H:Hp):V→Value→Prop where
 | non:zbY K H .non (.type "NoneType")
 | bl (x:Bool):zbY K H (.bl x) (.type "bool")
 | int (i:Int):zbY K H (.int i) (.type "int")
 | str (x:Str):zbY K H (.str x) (.type "str")
 | flt (x:UInt64):zbY K H (.flt x) (.type "float")
 | lst {a:Addr} {xs:List V} (e:H a=some (.lst xs)):zbY K H (.ref a) (.type "list")
 | frz {a:Addr} {o:Obj} {xs:List V} (e:H a=some (.frz o (.lst xs))):zbY K H (.ref a) (.type "list")
 | tup {a:Addr} {xs:List V} (e:H a=some (.tup xs)):zbY K H (.ref a) (.type "tuple")
 | dK {a:Addr} {kvs:List (Key×V)} (e:H a=some (.dK kvs)):zbY K H (.ref a) (.type "dict")
 | dT {a:Addr} {kvs:List (List Key×V)} (e:H a=some (.dT kvs)):zbY K H (.ref a) (.type "dict")
 | ins {a C dx:Addr} {fs:List (Str×V)} (e:H a=some (.ins C dx fs)) (cl:Cls K C) (ha:PySem.W.findIn K (.ref C) "__class__"=some (some (.builtin "object.__class__")))
   (hn:PySem.W.specialIn K (.builtin "object.__class__") "__get__"=some (some (.builtin "getset_descriptor.__get__"))) (htk:PySem.W.takesIn K (.builtin "object.__class__")=some true)
   (hm:PySem.W.mroIn K C (.type "object")=some true):zbY K H (.ref a) (.ref C)
theorem ztB {x:V}{u t:Value}(I:Inv X pins σ H s)(rx:zat x u)(ty:zbY X.K H x t)(e:PySem.W.kitOne X.K t c=some b)(h:∀tk,Q (.bool b) { s with toks:=tk }):
  wpAny (model X.prog X.w) A (call (.builtin "isinstance") [u,c]) Q E s:=by
 cases ty with
 | non=>cases (show u=Value.none from rx); exact PySem.W.kia_one PySem.W.kitx_none I.kIn True.intro e (λz=>nomatch z) h
 | bl y=>cases (show u=Value.bool y from rx); exact PySem.W.kia_one PySem.W.kitx_bool I.kIn True.intro e (λz=>nomatch z) h
 | int i=>obtain⟨t,q⟩:=(show ∃t,u=Value.int i t from rx); cases q; exact PySem.W.kia_one PySem.W.kitx_int I.kIn True.intro e (λz=>nomatch z) h
 | str y=>obtain⟨t,q⟩:=(show ∃t,u=Value.str y t from rx); cases q; exact PySem.W.kia_one PySem.W.kitx_str I.kIn True.intro e (λz=>nomatch z) h
 | flt y=>obtain⟨t,q⟩:=(show ∃t,u=Value.float y t from rx); cases q; exact PySem.W.kia_one PySem.W.kitx_float I.kIn True.intro e (λz=>nomatch z) h
 | @lst a xs ea=>
  cases (show u=Value.ref a from rx)
  obtain⟨_,_,n,_,h1⟩:=(show zbg X.prog X.w H s.heap a (.lst xs) from I.hok a _ ea)
  exact PySem.W.kia_one PySem.W.kitx_list I.kIn ⟨_,h1,rfl⟩ e (λz=>nomatch z) h
 | @frz a ob xs ea=>
  cases (show u=Value.ref a from rx)
  obtain⟨_,_,_,n,_,h1⟩:=(show zbg X.prog X.w H s.heap a (.frz ob (.lst xs)) from I.hok a _ ea)
  exact PySem.W.kia_one PySem.W.kitx_list I.kIn ⟨_,h1,rfl⟩ e (λz=>nomatch z) h
 | @tup a xs ea=>
  cases (show u=Value.ref a from rx)
  obtain⟨_,_,_,p⟩:=(show zbg X.prog X.w H s.heap a (.tup xs) from I.hok a _ ea)
  obtain⟨o,h1,h2,_⟩:=p
  exact PySem.W.kia_one PySem.W.kitx_tuple I.kIn ⟨o,h1,h2⟩ e (λz=>nomatch z) h
 | @dK a kvs ea=>
  cases (show u=Value.ref a from rx)
  obtain⟨_,_,vs,_,p⟩:=(show zbg X.prog X.w H s.heap a (.dK kvs) from I.hok a _ ea)
  obtain⟨o,es,ep,h1,h2,_⟩:=p
  exact PySem.W.kia_one PySem.W.kitx_dict I.kIn ⟨o,h1,h2.1⟩ e (λz=>nomatch z) h
 | @dT a kvs ea=>
  cases (show u=Value.ref a from rx)
  obtain⟨_,_,xs,_,o,es,ep,h1,h2,_⟩:=(show zbg X.prog X.w H s.heap a (.dT kvs) from I.hok a _ ea)
  exact PySem.W.kia_one PySem.W.kitx_dict I.kIn ⟨o,h1,h2.1⟩ e (λz=>nomatch z) h
 | @ins a C dx fs ea cl ha hn htk hm=>
  cases (show u=Value.ref a from rx)
  obtain⟨mA,O,_⟩:=zlk I.hok ea
  obtain⟨od,J,_⟩:=O.look
  exact PySem.W.kia_one (PySem.W.kitx_own (cl.get _) cl.hd ha hn htk hm) I.kIn J e (λz=>nomatch z) h
end
end L2
namespace L2
open PySem PySem.Spec PyProof.Rows
structure zaF (k:Nat)(A:Around):Prop where
 hd:A.handled=none
 dp:A.depth+3*k+5<recursionLimit
 un:A.units+16*k+200<cLine
theorem zaF.mono {j k:Nat}{A:Around}(r:zaF k A)(h:j≤k):zaF j A:=⟨r.hd,by have:=r.dp; omega,by have:=r.un; omega⟩
theorem zaF.deeper {k:Nat}{A:Around}(r:zaF (k+1) A)(env:Env):zaF k (A.deeper env):=
 ⟨r.hd,by have:=r.dp; show A.depth+1+3*k+5<_; omega,by have:=r.un; show A.units+3+16*k+200<_; omega⟩
theorem zaF.in1 {k:Nat}{A:Around}(r:zaF (k+1) A):zaF k A.in1:=
 ⟨r.hd,by have:=r.dp; show A.depth+3*k+5<_; omega,by have:=r.un; show A.units+1+16*k+200<_; omega⟩
theorem zr1 {A:Around}{C:Addr}{us:List Value}{kw:List (Str×Value)}:(A.under (.builtin "type.__call__" ⟨.ref C::us,kw⟩)).depth=A.depth+1:=by
 first | rfl | simp[Around.under,Code.weight,Code.isCreation,Code.isGuard,Code.isCaller,Code.frames,Code.isFrame,guardIds]
theorem zqG {A:Around}{C:Addr}{us:List Value}{kw:List (Str×Value)}:(A.under (.builtin "type.__call__" ⟨.ref C::us,kw⟩)).units=A.units+1:=by
 first | rfl | simp[Around.under,Code.cUnits,Code.frames,Code.isFrame]
theorem zaF.make {k:Nat}{A:Around}(r:zaF (k+1) A)(C:Addr)(us:List Value)(kw:List (Str×Value)):zaF k (A.under (.builtin "type.__call__" ⟨.ref C::us,kw⟩)):=
 ⟨r.hd,by have:=r.dp; rw[zr1]; omega,by have:=r.un; rw[zqG]; omega⟩
theorem zaF.depth {k:Nat}{A:Around}(r:zaF k A):A.depth<recursionLimit:=by have:=r.dp; omega
theorem zaF.units {k:Nat}{A:Around}(r:zaF k A):A.units+64<cLine:=by have:=r.un; omega
def tNil:TA:=λ_ H Q=>Q [] H
def tCons (ta:TE)(tr:TA):TA:=λσ H Q=>ta σ H λx H1=>tr σ H1 λxs H2=>Q (x::xs) H2
section
variable {X:Cx}{e:Expr}{es:List Expr}{te:TE}{t:TA}{pos:Pos}
theorem ziW:PA X [] tNil:=λ_ _ _ _ H Q I h=>Calls.spliced_nil ⟨[],H,I,.nil,h⟩
theorem zfd (ha:PE X e te)(hr:PA X es t)(hs:starEach (e::es) X.env=(false,eval e X.env)::starEach es X.env:=by rfl):PA X (e::es) (tCons te t):=by
 intro pos pins s σ H Q I h
 rw[hs]
 show wpAny _ _ (spliced ((false,eval e X.env)::backTo pos (starEach es X.env))) _ _ s
 refine Calls.spliced_cons (thn (ha pins s σ H _ I h) λu s1 ⟨x,H1,I1,r1,q1⟩=>?_)
 exact thn (hr pos pins s1 σ H1 _ I1 q1) λus s2 ⟨xs,H2,I2,r2,q2⟩=>⟨x::xs,H2,I2,.cons r1 r2,q2⟩
def tTup (t:TA):TE:=λσ H Q=>t σ H λxs H1=>xs.length≤sizeLine∧∀p,H1 p=none→Q (.ref p) (upd H1 p (.tup xs))
def tLst (t:TA):TE:=λσ H Q=>t σ H λxs H1=>xs.length≤sizeLine∧∀p,H1 p=none→Q (.ref p) (upd H1 p (.lst xs))
theorem zrx {x1}(h:PA X es t):PE X (.Tuple es x1 pos) (tTup t):=by
 intro pins s σ H Q I hq
 refine wpAny_Tuple_spliced (thn (h pos pins s σ H _ I hq) λus s1 ⟨xs,H1,I1,r,z,q⟩=>⟨by rw[← r.length]; exact z,?_⟩)
 have hf:H1 s1.heap.objs.size=none:=I1.hok.fresh (Vaa _)
 refine⟨.ref s1.heap.objs.size,upd H1 s1.heap.objs.size (.tup xs),I1.laid (t':=s1.toks) (λb u e=>Heap.get?_push_of_some _ e) (Vaa _) ?_,rfl,q _ hf⟩
 exact⟨z,us,r,⟨_,Heap.get?_push_size _ rfl,rfl,_,rfl⟩⟩
theorem zsX (h:PA X es t):PE X (.List es pos) (tLst t):=by
 intro pins s σ H Q I hq
 refine wpAny_List_spliced (thn (h pos pins s σ H _ I hq) λus s1 ⟨xs,H1,I1,r,z,q⟩=>⟨by rw[← r.length]; exact z,?_⟩)
 have hf:H1 s1.heap.objs.size=none:=I1.hok.fresh (Vaa _)
 refine⟨.ref s1.heap.objs.size,upd H1 s1.heap.objs.size (.lst xs),I1.laid (t':=s1.toks) (λb u e=>Heap.get?_push_of_some _ e) (Vaa _) ?_,rfl,q _ hf⟩
 exact⟨z,us,0,r,Heap.get?_push_size _ rfl⟩
end
abbrev Sp:=List V→Hp→VK→XK→Prop
abbrev CXT:=List Env→Hp→Shared→XK→Value→Shared→Prop
structure zcm (P:Program)(w:World)(K:PySem.W.Frag)(mg:Str→Option Value)(base:Heap)(A:Around)(outer:List Env)(s:Shared)(H:Hp):Prop where
 frames:A.frames=some outer
 mod:Mod K mg base
 bs:∀b o,base.get? b=some o→s.heap.get? b=some o∧H b=none
 bsz:base.objs.size≤s.heap.objs.size
 funs:s.heap.FunFrames base outer
 frf:∀b∈frs outer,H b=none
 hok:HOk P w H s.heap
 bare:AllBare s.gens
def CE (outer:List Env)(P:Program)(w:World)(H:Hp)(s:Shared)(Q:VK)(u:Value)(s':Shared):Prop:=
 ∃v H',s'.os=s.os∧AllBare s'.gens∧Un (frs outer) [] H H' s.heap s'.heap∧HOk P w H' s'.heap∧zat v u∧Q v H'
def CR (CX:CXT)(outer:List Env)(P:Program)(w:World)(H:Hp)(s:Shared)(Q:VK)(E:XK)(r:Result)(s':Shared):Prop:=
 match r with
 | .ok (.ret u)=>CE outer P w H s Q u s'
 | .ok _=>False
 | .error e=>CX outer H s E e s'
structure zaZ (P:Program)(w:World)(K:PySem.W.Frag)(mg:Str→Option Value)(base:Heap)(CX:CXT)(k:Nat)(f:Addr)(fd:FuncData)(ps:List Str)(sp:Sp):Prop where
 len:∀vs H Q E,sp vs H Q E→vs.length=ps.length
 run:∀(A:Around) (outer:List Env) (s:Shared) (H:Hp) (args:Args) (us:List Value) (vs:List V) (Q:VK) (E:XK),zaF k A→zcm P w K mg base A outer s H→BindsTo s fd args (ps.zip us)→zax vs us→sp vs H Q E→
  codeAny (model P w) A (.call (.ref f) args) (CR CX outer P w H s Q E) s
theorem zaZ.mono {P:Program}{w:World}{K:PySem.W.Frag}{mg:Str→Option Value}{base:Heap}{CX:CXT}{j k:Nat}{f:Addr}{fd:FuncData}{ps:List Str}{sp:Sp}(F:zaZ P w K mg base CX j f fd ps sp)(h:j≤k):
  zaZ P w K mg base CX k f fd ps sp:=⟨F.len,λA outer s H args us vs Q E hr=>F.run A outer s H args us vs Q E (hr.mono h)⟩
theorem zaZ.imp {P:Program}{w:World}{K:PySem.W.Frag}{mg:Str→Option Value}{base:Heap}{CX:CXT}{k:Nat}{f:Addr}{fd:FuncData}{ps:List Str}{sp sp':Sp}(F:zaZ P w K mg base CX k f fd ps sp)
  (h:∀vs H Q E,sp' vs H Q E→sp vs H Q E):zaZ P w K mg base CX k f fd ps sp':=
 ⟨λvs H Q E q=>F.len vs H Q E (h _ _ _ _ q),λA outer s H args us vs Q E hr he hb hv hs=>F.run A outer s H args us vs Q E hr he hb hv (h _ _ _ _ hs)⟩
theorem zcm.make {P:Program}{w:World}{K:PySem.W.Frag}{mg:Str→Option Value}{base:Heap}{A:Around}{outer:List Env}{s:Shared}{H:Hp}(e:zcm P w K mg base A outer s H)(C:Addr)(us:List Value)(kw:List (Str×Value)):
  zcm P w K mg base (A.under (.builtin "type.__call__" ⟨.ref C::us,kw⟩)) outer s H:=⟨by first | exact e.frames | (simpa [Around.under,Code.envs,Code.isFrame,pushEnvs] using e.frames),e.mod,e.bs,e.bsz,e.funs,e.frf,e.hok,e.bare⟩
theorem zcm.in1 {P:Program}{w:World}{K:PySem.W.Frag}{mg:Str→Option Value}{base:Heap}{A:Around}{outer:List Env}{s:Shared}{H:Hp}(e:zcm P w K mg base A outer s H):
  zcm P w K mg base A.in1 outer s H:=⟨e.frames,e.mod,e.bs,e.bsz,e.funs,e.frf,e.hok,e.bare⟩
section
variable {X:Cx}{pins:List (Addr×Obj)}{σ:St}{H:Hp}{s s':Shared}
theorem Inv.env0 (I:Inv X pins σ H s):zcm X.prog X.w X.K X.mg X.base X.A X.stack s H:=
 ⟨I.ok.frames,I.ok.mod,I.bs,VaB I.ok.bsz I.sz,I.stack,I.stkFree,I.hok,I.bare⟩
theorem Inv.after {Q:VK}{u:Value}(I:Inv X pins σ H s)(h:CE X.stack X.prog X.w H s Q u s'):EP X pins σ Q u s':=by
 obtain⟨v,H',os,bare,un,hok,r,q⟩:=h
 obtain⟨hh,g,d,t,os'⟩:=s'
 obtain rfl:os'=s.os:=os
 exact⟨v,H',I.call (h':=hh) (g':=g) (d':=d) (t':=t) (ch:=[]) un hok bare (λb z=>absurd z (by simp)),r,q⟩
end
def tMake (C:Addr)(sp:Sp)(dvs:List V)(E:XK)(t:TA):TE:=λσ H Q=>t σ H λvs H1=>∀x dx,H1 x=none→H1 dx=none→dx≠x→
 sp (.ref x::(vs++dvs)) (upd (upd H1 dx (.own x)) x (.ins C dx [])) (λv H2=>v=.non∧Q (.ref x) H2) E
def zbp (K:PySem.W.Frag)(fd:FuncData)(ps:List Str)(ds:List Value):Prop:=
 ∀(s:Shared) (us:List Value),K.In s.heap→(us++ds).length=ps.length→BindsTo s fd ⟨us,[]⟩ (ps.zip (us++ds))
theorem zbp.all {K:PySem.W.Frag}{fd:FuncData}{ps:List Str}(h:∀us:List Value,us.length=ps.length→bindArgs fd ⟨us,[]⟩=pure (ps.zip us)):zbp K fd ps []:=λs us _ hl=>by
 rw[Va3] at hl ⊢
 exact .of_eq (h us hl)
def zll (CX:CXT)(X:Cx)(E:XK):Prop:=∀(pins:List (Addr×Obj)) (σ:St) (H:Hp) (s:Shared) (e:Value) (s':Shared),Inv X pins σ H s→CX X.stack H s E e s'→X.xe e s'
section
variable {X:Cx}{CX:CXT}{k:Nat}{f C:Addr}{fd:FuncData}{ps:List Str}{sp:Sp}{dvs:List V}{ds:List Value}{E:XK}{x m:Str}{p pos apos:Pos}{e o:Expr}{es:List Expr}{ta:TE}{t:TA}
structure Mk (K:PySem.W.Frag)(C f:Addr):Prop where
 makes:PySem.W.makesIn K C=true
 init:PySem.W.findIn K (.ref C) "__init__"=some (some (.ref f))
 fn:PySem.W.isFn K (.ref f)=true
 kp:PySem.W.keepIn K (.ref C)=true
theorem zsB {pins:List (Addr×Obj)}{σ:St}{H:Hp}{s:Shared}{Q:VK}{us:List Value}{vs:List V}(M:Mk X.K C f)(F:zaZ X.prog X.w X.K X.mg X.base CX k f fd ps sp)(hr:zaF (k+1) X.A)(hb:zbp X.K fd ps ds)(hd:zax dvs ds)
  (hx:zll CX X E)(I:Inv X pins σ H s)(r:zax vs us)
  (h:∀x dx,H x=none→H dx=none→dx≠x→sp (.ref x::(vs++dvs)) (upd (upd H dx (.own x)) x (.ins C dx [])) (λv H2=>v=.non∧Q (.ref x) H2) E):
  wpAny (model X.prog X.w) X.A (call (.ref C) us) (EP X pins σ Q) X.xe s:=by
 have hq:=h (s.heap.objs.size+1) s.heap.objs.size (I.hok.fresh (Nat.le_succ _)) (I.hok.fresh (Vaa _)) (Vas (Nat.lt_succ_self _))
 have I2:=Inv.made (C:=C) I
 have r2:zax (V.ref (s.heap.objs.size+1)::(vs++dvs)) (Value.ref (s.heap.objs.size+1)::(us++ds)):=.cons rfl (r.append hd)
 have hl:(Value.ref (s.heap.objs.size+1)::us++ds).length=ps.length:=by
  have e:=r2.length
  rw[F.len _ _ _ _ hq] at e
  exact e.symm
 refine wpAny_call (zwH (f:=f) I.kIn M.makes M.init (beq_iff_eq.mp M.fn) (codeAny_mono (F.run _ X.stack _ _ ⟨Value.ref (s.heap.objs.size+1)::us,[]⟩ (Value.ref (s.heap.objs.size+1)::(us++ds)) _ _ E (hr.make C us [])
  (I2.env0.make C us []) (hb _ (Value.ref (s.heap.objs.size+1)::us) I2.kIn hl) r2 hq) λr s' hq'=>?_))
 cases r with
 | error e=>exact hx pins σ _ _ e s' I2 hq'
 | ok fl=>
  cases fl with
  | ret u=>
   obtain⟨v,H',I3,rv,ev,q3⟩:=I2.after hq'
   subst ev
   exact⟨rv,⟨V.ref (s.heap.objs.size+1),H',I3,rfl,q3⟩⟩
  | next=>exact False.elim hq'
  | brk=>exact False.elim hq'
  | cont=>exact False.elim hq'
theorem zsi (M:Mk X.K C f)(F:zaZ X.prog X.w X.K X.mg X.base CX k f fd ps sp)(hr:zaF (k+1) X.A)(hg:Gl X x)(hm:X.mg x=some (.ref C))(hb:zbp X.K fd ps ds)(hd:zax dvs ds)(hx:zll CX X E)
  (ha:PA X (e::es) t)(hdb:(x==("__debug__":Str))=false:=by decide)(he:starEach (e::es) X.env=(false,eval e X.env)::starEach es X.env:=by rfl)(hpl:(backTo pos (starEach es X.env)).any (·.1)=false:=by rfl):
  PE X (.Call (.Name x p) (e::es) [] pos) (tMake C sp dvs E t):=by
 intro pins s σ H Q I h
 refine wpAny_Call_Name_kw (zpa I hg hm ?_ hdb)
 refine PySem.W.callWith_K (h₀:=X.base) I.ok.mod.kin M.kp (thn (ha pos pins s σ H _ I h) λus s1 ⟨vs,H1,I1,r,q⟩=>⟨I1.kIn,?_⟩) he hpl
 exact zsB M F hr hb hd hx I1 r q
end
section
variable {X:Cx}{CX:CXT}{k:Nat}{f C:Addr}{fd:FuncData}{ps ks:List Str}{sp:Sp}{E:XK}{x m:Str}{p pos apos kpos:Pos}{e o:Expr}{es:List Expr}{kws:List Keyword}{te ta:TE}{t tk:TA}{nm:Option Str}
structure KBinds (K:PySem.W.Frag)(fd:FuncData)(ps ks:List Str)(g:List Value→List Value→List Value)(gV:List V→List V→List V):Prop where
 to:∀(s:Shared) (us ws:List Value),K.In s.heap→(g us ws).length=ps.length→BindsTo s fd ⟨us,ks.zip ws⟩ (ps.zip (g us ws))
 rel:∀ {vs:List V} {us:List Value} {zs:List V} {ws:List Value},zax vs us→zax zs ws→zax (gV vs zs) (g us ws)
variable {g:List Value→List Value→List Value}{gV:List V→List V→List V}
end
structure zav (N P:List Str)(sc:Scope):Prop where
 kind:sc.kind=.function
 co:sc.isCoroutine=false
 gen:sc.isGenerator=false
 nd:N.Nodup
 pre:N.take P.length=P
 par:∀x∈P,sc.names.lookup x=some .local∨sc.names.lookup x=some .cell
 nofree:∀y∈sc.names,y.2≠.free
theorem zo3 {kindOf:Str→Option NameKind}{x:Str}:∀ {binds:List (Str×Value)} {m:Str→Option Value},(∀v,(x,v) ∉ binds)→bindL kindOf binds m x=m x
 | [],_,_=>rfl
 | (n,v)::r,m,h=>by
  unfold bindL
  rw[zo3 λw hw=>h w (VaG _ hw)]
  split
  ·have:x≠n:=by rintro rfl; exact h v VaW
   simp[this]
  ·rfl
theorem zn7 {kindOf:Str→Option NameKind}{x:Str}:∀ {binds:List (Str×Value)} {m:Str→Option Value},(∀v,(x,v) ∉ binds)→bindC kindOf binds m x=m x
 | [],_,_=>rfl
 | (n,v)::r,m,h=>by
  unfold bindC
  rw[zn7 λw hw=>h w (VaG _ hw)]
  split
  ·rfl
  ·have:x≠n:=by rintro rfl; exact h v VaW
   simp[this]
theorem znY {kindOf:Str→Option NameKind}{x:Str}{v:Value}:∀ {P:List Str} {vs:List Value} {i:Nat} {m:Str→Option Value},P.Nodup→P[i]?=some x→vs[i]?=some v→kindOf x=some .local→
  bindL kindOf (P.zip vs) m x=some v
 | [],_,_,_,_,h,_,_=>by simp at h
 | _::_,[],_,_,_,_,h,_=>by simp at h
 | p::P,w::vs,0,m,nd,h1,h2,hk=>by
  simp at h1 h2; subst h1; subst h2
  show bindL kindOf ((p,w)::P.zip vs) m p=_
  unfold bindL
  rw[zo3 λv hv=>(List.nodup_cons.mp nd).1 (List.of_mem_zip hv).1,if_pos hk]
  simp
 | p::P,w::vs,i+1,m,nd,h1,h2,hk=>by
  show bindL kindOf ((p,w)::P.zip vs) m x=_
  unfold bindL
  exact znY (i:=i) (List.nodup_cons.mp nd).2 (by simpa using h1) (by simpa using h2) hk
theorem zpy {kindOf:Str→Option NameKind}{x:Str}{v:Value}:∀ {P:List Str} {vs:List Value} {i:Nat} {m:Str→Option Value},P.Nodup→P[i]?=some x→vs[i]?=some v→kindOf x≠some .local→
  bindC kindOf (P.zip vs) m x=some v
 | [],_,_,_,_,h,_,_=>by simp at h
 | _::_,[],_,_,_,_,h,_=>by simp at h
 | p::P,w::vs,0,m,nd,h1,h2,hk=>by
  simp at h1 h2; subst h1; subst h2
  show bindC kindOf ((p,w)::P.zip vs) m p=_
  unfold bindC
  rw[zn7 λv hv=>(List.nodup_cons.mp nd).1 (List.of_mem_zip hv).1,if_neg hk]
  simp
 | p::P,w::vs,i+1,m,nd,h1,h2,hk=>by
  show bindC kindOf ((p,w)::P.zip vs) m x=_
  unfold bindC
  exact zpy (i:=i) (List.nodup_cons.mp nd).2 (by simpa using h1) (by simpa using h2) hk
def zcd (N:List Str)(vs:List V):St:=vs.map some++List.replicate (N.length-vs.length) none
def zdB (CX:CXT)(P:Program)(w:World)(K:PySem.W.Frag)(mg:Str→Option Value)(base:Heap)(N:List Str)(qual:Str)(scope:Scope)(f:Addr)(cd:Value)(A:Around)(outer:List Env)(s:Shared)(H:Hp)(E:XK):Cx where
 prog:=P
 w:=w
 K:=K
 mg:=mg
 base:=base
 A:=A.deeper (envOfC qual scope s.heap.objs.size f cd)
 N:=N
 s₀:=s
 H₀:=H
 env:=envOfC qual scope s.heap.objs.size f cd
 outer:=outer
 stack:=envOfC qual scope s.heap.objs.size f cd::outer
 ex:=[]
 calm:=true
 fn:=λ_=>true
 pn:=[]
 xe:=λe s'=>wpAny (model P w) (A.deeper (envOfC qual scope s.heap.objs.size f cd)) (leaving (envOfC qual scope s.heap.objs.size f cd) e) (λ_ s''=>CX outer H s E e s'') (λe' s''=>CX outer H s E e' s'') s'
theorem zo1 {sc:Scope}{n:Nat}{x:Str}(h:sc.names.lookup x=some .cell):∃c,(cellsFrom n sc.names []).lookup x=some c:=by
 have q:=PySem.W.cellsFrom_some sc.names n [] (.inl h)
 exact Option.isSome_iff_exists.mp q
theorem zrf {CX:CXT}{P:Program}{w:World}{K:PySem.W.Frag}{mg:Str→Option Value}{base:Heap}{N ps:List Str}{qual:Str}{scope:Scope}{f:Addr}{cd:Value}{A:Around}{outer:List Env}{s s1:Shared}{H:Hp}{E:XK}{us:List Value}{vs:List V}
  (S:zav N ps scope)(hd:A.handled=none)(e0:zcm P w K mg base A outer s H)(hl:vs.length=ps.length)(r:zax vs us)
  (x:InCallC s s.heap.objs.size (bindL (envOfC qual scope s.heap.objs.size f cd).kindOf (ps.zip us) λ_=>none) (cellsFrom (s.heap.objs.size+1) scope.names []) (bindC (envOfC qual scope s.heap.objs.size f cd).kindOf (ps.zip us) λ_=>none) s1):
  Inv (zdB CX P w K mg base N qual scope f cd A outer s H E) [] (zcd N vs) H s1:=by
 have hpl:ps.length≤N.length:=by have:=congrArg List.length S.pre; rw[Vaj] at this; omega
 obtain⟨h1,tk,rfl,hk⟩:=x.done
 have noA:∀b:Addr,b ∉ (zdB CX P w K mg base N qual scope f cd A outer s H E).ex:=λb z=>absurd (show b∈([]:List Addr) from z) (by simp)
 refine⟨⟨e0.mod,S.kind,rfl,rfl,Vaa _,λy z c h1 h2=>?_,λy hy=>?_,λy c _ h=>?_,λ_=>hd,Around.frames_deeper e0.frames,.inr ⟨rfl,rfl⟩,λb z=>absurd z (noA b),e0.bs,e0.bsz,λb _ _=>noA b,λb z=>absurd z (noA b),e0.funs,e0.frf⟩,
  rfl,e0.bare,Un.kept hk,⟨_,x.toInCall.ns,λi y v h1 h2 h3=>?_⟩,λy c h=>⟨_,x.cell y c h⟩,e0.hok.fresh (Vaa _),λy c h=>?_,λp hp=>absurd (show p∈([]:List (Addr×Obj)) from hp) (by simp),e0.hok.kept hk,?_⟩
 ·exact name_of_addr x.apart (PySem.mem_of_lookup h1) (PySem.mem_of_lookup h2)
 ·have hy:scope.names.lookup y=some .cell∨scope.names.lookup y=some .free:=hy
  rcases hy with hy | hy
  ·exact zo1 hy
  ·exact absurd rfl (S.nofree _ (PySem.mem_of_lookup hy))
 ·exact VaV (x.above y c (PySem.mem_of_lookup h))
 ·have hi:i<vs.length:=by
   unfold zcd at h2
   by_cases hi:i<vs.length
   ·exact hi
   ·rw[VaK (by simpa using hi)] at h2
    rw[List.getElem?_replicate] at h2
    split at h2 <;> cases h2
  have ha:vs[i]?=some v:=by
   unfold zcd at h2
   rw[Vao (by simpa using hi),Vap] at h2
   cases e:vs[i]? with
   | none=>rw[e] at h2; cases h2
   | some a=>rw[e] at h2; cases h2; rfl
  obtain⟨u,hu,rv⟩:=r.get ha
  have hp:ps[i]?=some y:=by
   rw[← S.pre,List.getElem?_take_of_lt (by omega)]; exact h1
  have ndP:ps.Nodup:=by rw[← S.pre]; exact S.nd.sublist (List.take_sublist _ _)
  refine⟨u,rv,?_⟩
  rcases S.par y (Vaz hp) with k | k
  ·exact .inl ⟨k,znY ndP hp hu k⟩
  ·obtain⟨c,e⟩:=zo1 (n:=s.heap.objs.size+1) k
   refine .inr ⟨.inl k,c,e,?_⟩
   have q:=x.cell y c e
   rw[zpy ndP hp hu (by show scope.names.lookup y≠_; rw[k]; decide)] at q
   exact q
 ·exact e0.hok.fresh (VaV (x.above y c (PySem.mem_of_lookup h)))
 ·unfold zcd
  show _=N.length
  rw[Vax,Vac,List.length_replicate]
  omega
theorem zoP {CX:CXT}{P:Program}{w:World}{K:PySem.W.Frag}{mg:Str→Option Value}{base:Heap}{k:Nat}{f:Addr}{name qual:Str}{params:Arguments}{body:List Stmt}{scope:Scope}{dV kV doc pm cdv ct oc:Value}{an od:Option Addr}
  {osl:Array (Option Value)}{N ps:List Str}{sp:Sp}(lk:K.lookup f=some ⟨oc,od,.func (PySem.W.fnOf name qual params body scope dV kV doc pm an cdv ct),osl⟩)(hcd:PySem.W.codeIn K cdv qual=true)(S:zav N ps scope)
  (len:∀vs H Q E,sp vs H Q E→vs.length=ps.length)
  (hbody:∀(A:Around) (outer:List Env) (s:Shared) (H:Hp) (vs:List V) (Q:VK) (E:XK),zaF k (A.deeper (envOfC qual scope s.heap.objs.size f cdv))→sp vs H Q E→
   ∃t,PSs (zdB CX P w K mg base N qual scope f cdv A outer s H E) body t∧t { nx:=λ_ H'=>Q .non H',rt:=Q } (zcd N vs) H):
  zaZ P w K mg base CX (k+1) f (PySem.W.fnOf name qual params body scope dV kV doc pm an cdv ct) ps sp:=by
 refine⟨len,λA outer s H args us vs Q E hr e0 hb r hsp=>?_⟩
 have hl:=len _ _ _ _ hsp
 have KX:K.In s.heap:=e0.mod.kin.keeps λb o e=>(e0.bs b o e).1
 have lim:s.heap.NoLimit:=e0.mod.nolimit.keeps λb o e=>(e0.bs b o e).1
 have hkind:∀y∈ps.zip us,scope.names.lookup y.1=some .local∨(scope.names.lookup y.1=some .cell∧((cellsFrom (s.heap.objs.size+1) scope.names []).lookup y.1).isSome=true):=λ⟨n,v⟩ hy=>by
  rcases S.par n (List.of_mem_zip hy).1 with q | q
  ·exact .inl q
  ·exact .inr ⟨q,PySem.W.cellsFrom_some _ _ _ (.inl q)⟩
 refine codeAny_call_function hr.depth (KX _ _ lk) rfl S.co S.gen rfl (PySem.W.codeRec_of KX hcd) (hb _ _ _ _ ?_)
 refine wpAny_newFunctionEnv_cells S.kind hkind λenv he s1 x=>?_
 subst he
 refine⟨lim.keeps x.toInCall.keep,codeAny_func ?_⟩
 obtain⟨t,ht,hq⟩:=hbody A outer s H vs Q E (hr.deeper _) hsp
 have I:Inv (zdB CX P w K mg base N qual scope f cdv A outer s H E) [] (zcd N vs) H s1:=zrf S hr.hd e0 hl r x
 refine wpAny_mono (ht [] s1 (zcd N vs) H _ I hq) (λfl s' hs=>?_) λe s' hs=>hs
 have fin:∀ {σ':St} {H':Hp} {v:V} {u:Value},Inv (zdB CX P w K mg base N qual scope f cdv A outer s H E) [] σ' H' s'→zat v u→Q v H'→CE outer P w H s Q u s':=
  λ{σ' H' v u} J rv q=>⟨v,H',J.os,J.bare,J.base,J.hok,rv,q⟩
 cases fl with
 | ret u=>
  obtain⟨v,σ',H',J,rv,q⟩:=hs
  exact fin J rv q
 | next=>
  obtain⟨σ',H',J,q⟩:=hs
  exact fin (v:=V.non) (u:=Value.none) J rfl q
 | brk=>
  obtain⟨_,_,_,q⟩:=hs
  exact False.elim q
 | cont=>
  obtain⟨_,_,_,q⟩:=hs
  exact False.elim q
end L2
namespace L2
open PySem PySem.Spec PyProof.Rows
section
variable {X:Cx}{x:Str}{p pos:Pos}{e:Expr}{es:List Expr}{t:TA}{id T:String}{r:List V→Hp→VK→Prop}
def tCB (r:List V→Hp→VK→Prop)(t:TA):TE:=λσ H Q=>t σ H λvs H1=>r vs H1 Q
theorem znP (hc:zba X (.builtin id) r)(hg:Gl X x)(hm:X.mg x=none)(hv:bootBuiltins x=some (.builtin id))(ha:PA X (e::es) t)(hn:x≠"__name__":=by decide)(hdb:(x==("__debug__":Str))=false:=by decide)
  (he:starEach (e::es) X.env=(false,eval e X.env)::starEach es X.env:=by rfl)(hpl:(backTo pos (starEach es X.env)).any (·.1)=false:=by rfl):PE X (.Call (.Name x p) (e::es) [] pos) (tCB r t):=by
 intro pins s σ H Q I h
 refine wpAny_Call_Name_kw (zen I hg hm hv ?_ hn hdb)
 exact PyProof.Rows.callWith_builtin1 (thn (ha pos pins s σ H _ I h) λus s1 ⟨vs,H1,I1,r1,q1⟩=>hc pins s1 σ H1 vs us Q I1 r1 q1) he hpl
theorem zvz (hc:zba X (.type T) r)(hg:Gl X x)(hm:X.mg x=none)(hv:bootBuiltins x=some (.type T))(ha:PA X (e::es) t)(hn:x≠"__name__":=by decide)(hdb:(x==("__debug__":Str))=false:=by decide)
  (he:starEach (e::es) X.env=(false,eval e X.env)::starEach es X.env:=by rfl)(hpl:(backTo pos (starEach es X.env)).any (·.1)=false:=by rfl):PE X (.Call (.Name x p) (e::es) [] pos) (tCB r t):=by
 intro pins s σ H Q I h
 refine wpAny_Call_Name_kw (zen I hg hm hv ?_ hn hdb)
 exact PyProof.Rows.callWith_type1 (thn (ha pos pins s σ H _ I h) λus s1 ⟨vs,H1,I1,r1,q1⟩=>hc pins s1 σ H1 vs us Q I1 r1 q1) he hpl
end
end L2
namespace HT
open PySem PyProof.Rows
section
open PySem.SeqAt
open PySem.AutoSeq1 (wpAny_loadPart')
open PySem.MeetsSeq PySem.MeetsSeq2 PySem.MeetsSeq3
end
section
variable {prog:Program}{w:World}{A:Around}{E:Value→Shared→Prop}{s:Shared}
def sIx (n d:Nat):Option Int→Nat
 | none=>d
 | some v=>if v<0 then (v+(n:Int)).toNat else min v.toNat n
theorem sIx_none (n d:Nat):sIx n d none=d:=rfl
theorem sIx_nat (n d k:Nat):sIx n d (some (k:Int))=min k n:=by
 show (if (k:Int)<0 then ((k:Int)+(n:Int)).toNat else min (k:Int).toNat n)=min k n
 rw[if_neg (by omega),Vag]
end
end HT
namespace L2
open PySem PySem.Spec PyProof.Rows
abbrev TO:=St→Hp→(Option Int→Hp→Prop)→Prop
def PO (X:Cx)(e:Option Expr)(t:TO):Prop:=
 ∀(pins:List (Addr×Obj)) (s:Shared) (σ:St) (H:Hp) (Q:Option Int→Hp→Prop),Inv X pins σ H s→t σ H Q→
  wpAny (model X.prog X.w) X.A (evalPart e X.env) (λu s'=>∃o H',Inv X pins σ H' s'∧IsPart u o∧Q o H') X.xe s
def zsc:TO:=λ_ H Q=>Q none H
def tPart (t:TE):TO:=λσ H Q=>t σ H λx H1=>∃i,x=.int i∧Q (some i) H1
section
variable {X:Cx}{e:Expr}{te:TE}{lo hi:Option Expr}{tl th:TO}{pos p2:Pos}
theorem zq2:PO X none zsc:=by
 intro pins s σ H Q I h
 rw[evalPart_none]
 exact wpAny_pure ⟨none,H,I,.none,h⟩
theorem ztv (h:PE X e te):PO X (some e) (tPart te):=by
 intro pins s σ H Q I hw
 rw[evalPart_some]
 refine thn (h pins s σ H _ I hw) λu s1 ⟨x,H1,I1,r1,q1⟩=>?_
 obtain⟨i,rfl,q⟩:=q1
 obtain⟨t,rfl⟩:=r1
 exact⟨some i,H1,I1,.int i t,q⟩
def SlR (X:Cx)(r:V→Option Int→Option Int→Hp→VK→Prop):Prop:=
 ∀(pins:List (Addr×Obj)) (s:Shared) (σ:St) (H:Hp) (x:V) (v vl vu:Value) (lo hi:Option Int) (sl:Addr) (Q:VK),Inv X pins σ H s→zat x v→s.heap.IsSliceOf sl vl vu .none→IsPart vl lo→IsPart vu hi→r x lo hi H Q→
  ∃T id,typeLookup (.type T) "__getitem__"=pure (some (.builtin id))∧s.TypeIs v T∧wpAny (model X.prog X.w) X.A (getItem v (.ref sl)) (EP X pins σ Q) X.xe s
theorem SlR.or {r r':V→Option Int→Option Int→Hp→VK→Prop}(h:SlR X r)(h':SlR X r'):SlR X (λx lo hi H Q=>r x lo hi H Q∨r' x lo hi H Q):=by
 intro pins s σ H x v vl vu lo hi sl Q I rx hs pl pu q
 rcases q with q | q
 ·exact h pins s σ H x v vl vu lo hi sl Q I rx hs pl pu q
 ·exact h' pins s σ H x v vl vu lo hi sl Q I rx hs pl pu q
def tSl (r:V→Option Int→Option Int→Hp→VK→Prop)(te:TE)(tl th:TO):TE:=λσ H Q=>te σ H λx H1=>tl σ H1 λl H2=>th σ H2 λu H3=>r x l u H3 Q
theorem zsD {r:V→Option Int→Option Int→Hp→VK→Prop}(hr:SlR X r)(he:PE X e te)(hl:PO X lo tl)(hu:PO X hi th):PE X (.Subscript e (.Slice lo hi none p2) pos) (tSl r te tl th):=by
 intro pins s σ H Q I h
 refine Subscript_ (thn (he pins s σ H _ I h) λv s1 ⟨x,H1,I1,r1,q1⟩=>?_)
 refine wpAny_Slice (thn (hl pins s1 σ H1 _ I1 q1) λvl s2 ⟨l,H2,I2,pl,q2⟩=>thn (hu pins s2 σ H2 _ I2 q2) λvu s3 ⟨u,H3,I3,pu,q3⟩=>?_)
 rw[evalPart_none]
 refine wpAny_pure ?_
 have I4:Inv X pins σ H3 { s3 with heap:=s3.heap.push { cls:=.type "slice",data:=.fields #[vl,vu,.none] } }:=I3.kept (t':=s3.toks) λb ob q=>Heap.get?_push_of_some _ q
 obtain⟨T,id,hT,ht,hg⟩:=hr pins { s3 with heap:=s3.heap.push { cls:=.type "slice",data:=.fields #[vl,vu,.none] } } σ H3 x v vl vu l u s3.heap.objs.size Q I4 r1 (Heap.IsSliceOf.new ..) pl pu q3
 show wpAny (model X.prog X.w) X.A (subscriptTail e (.Slice lo hi none p2) v (.ref s3.heap.objs.size)) (EP X pins σ Q) X.xe { s3 with heap:=s3.heap.push { cls:=.type "slice",data:=.fields #[vl,vu,.none] } }
 exact tail_any (ops:=[.ref s3.heap.objs.size,v]) ht hT hg (by with_unfolding_all rfl)
def zeU (xs:List V)(lo hi:Option Int):List V:=(xs.drop (HT.sIx xs.length 0 lo)).take (HT.sIx xs.length xs.length hi-HT.sIx xs.length 0 lo)
theorem zug (xs:List V)(lo hi:Option Int):(zeU xs lo hi).length≤xs.length:=by
 unfold zeU
 rw[Vaj,List.length_drop]
 omega
end
end L2
namespace L2
open PySem PySem.Spec PyProof.Rows
def ixN (n:Nat)(i:Int):Option Nat:=if 0≤i then (if i<n then some i.toNat else none) else if -(n:Int)≤i then some (i+n).toNat else none
def atI {α:Type}(xs:List α)(i:Int):Option α:=(ixN xs.length i).bind λj=>xs[j]?
theorem zoR {n:Nat}{i:Int}{j:Nat}(h:ixN n i=some j):seqIndex? i n=some j∧j<n∧-(n:Int)≤i∧i<n:=by
 unfold ixN at h
 by_cases h0:0≤i
 ·rw[if_pos h0] at h
  by_cases h1:i<n
  ·rw[if_pos h1] at h
   have e:i.toNat=j:=Option.some.inj h
   exact⟨by rw[seqIndex_of h0 h1,e],by omega,by omega,h1⟩
  ·rw[if_neg h1] at h; cases h
 ·rw[if_neg h0] at h
  by_cases h1:-(n:Int)≤i
  ·rw[if_pos h1] at h
   have e:(i+n).toNat=j:=Option.some.inj h
   exact⟨by rw[seqIndex_neg (by omega) h1,e],by omega,h1,by omega⟩
  ·rw[if_neg h1] at h; cases h
theorem zpF {α:Type}{xs:List α}{i:Int}{v:α}(h:atI xs i=some v):∃j,seqIndex? i xs.length=some j∧xs[j]?=some v∧j<xs.length∧-(xs.length:Int)≤i∧i<xs.length:=by
 unfold atI at h
 cases e:ixN xs.length i with
 | none=>rw[e] at h; cases h
 | some j=>
  rw[e] at h
  obtain⟨h1,h2,h3,h4⟩:=zoR e
  exact⟨j,h1,h,h2,h3,h4⟩
theorem ziL {α:Type}{xs:List α}{j:Nat}{v:α}(h:xs[j]?=some v):atI xs (j:Int)=some v:=by
 have hj:j<xs.length:=(Vab.mp h).1
 have e:ixN xs.length (j:Int)=some j:=by
  unfold ixN
  rw[if_pos (by omega),if_pos (by omega)]; simp
 unfold atI; rw[e]; exact h
def zno (b:Expr):Prop:=∀o i,subscripted b false o i=operate [o,i] (getItem o i)
def IxR (X:Cx)(r:R2):Prop:=
 ∀(value slice:Expr) (pins:List (Addr×Obj)) (s:Shared) (σ:St) (H:Hp) (x y:V) (v u:Value) (Q:VK),Inv X pins σ H s→zat x v→zat y u→r x y H Q→
  subscripted slice false v u=operate [v,u] (getItem v u)→wpAny (model X.prog X.w) X.A (subscriptTail value slice v u) (EP X pins σ Q) X.xe s
def MtR (X:Cx)(id:String)(r:V→List V→Hp→VK→Prop):Prop:=
 ∀(pins:List (Addr×Obj)) (s:Shared) (σ:St) (H:Hp) (x:V) (xs:List V) (v:Value) (us:List Value) (Q:VK),Inv X pins σ H s→zat x v→zax xs us→r x xs H Q→
  wpAny (model X.prog X.w) X.A (call (.builtin id) (v::us)) (EP X pins σ Q) X.xe s
section
variable {X:Cx}{a b:Expr}{ta tb:TE}{pos:Pos}
theorem IxR.or {r r':R2}(h:IxR X r)(h':IxR X r'):IxR X (λx y H Q=>r x y H Q∨r' x y H Q):=by
 intro value slice pins s σ H x y v u Q I rx ry q hs
 rcases q with q | q
 ·exact h value slice pins s σ H x y v u Q I rx ry q hs
 ·exact h' value slice pins s σ H x y v u Q I rx ry q hs
theorem MtR.or {id:String}{r r':V→List V→Hp→VK→Prop}(h:MtR X id r)(h':MtR X id r'):MtR X id (λx xs H Q=>r x xs H Q∨r' x xs H Q):=by
 intro pins s σ H x xs v us Q I rx rs q
 rcases q with q | q
 ·exact h pins s σ H x xs v us Q I rx rs q
 ·exact h' pins s σ H x xs v us Q I rx rs q
theorem pe_ix {r:R2}(hr:IxR X r)(ha:PE X a ta)(hb:PE X b tb)(hs:zno b):PE X (.Subscript a b pos) (tOp r ta tb):=by
 intro pins s σ H Q I h
 exact Subscript_ (binT ha hb I h λv u s2 x y H2 I2 rx ry q=>hr a b pins s2 σ H2 x y v u Q I2 rx ry q (hs _ _))
def rIxL (K:PySem.W.Frag):R2:=λx y H Q=>∃p xs i v,x=.ref p∧y=.int i∧SqL K H p xs∧atI xs i=some v∧Q v H
def rIxT (K:PySem.W.Frag):R2:=λx y H Q=>∃p xs i v,x=.ref p∧y=.int i∧SqT K H p xs∧atI xs i=some v∧Q v H
theorem zri:IxR X (rIxL X.K):=by
 intro value slice pins s σ H x y v u Q I rx ry h hs
 obtain⟨p,xs,i,z,rfl,rfl,hq,he,q⟩:=h
 cases rx
 obtain⟨t,rfl⟩:=ry
 obtain⟨its,r,pl,hz⟩:=I.list hq
 obtain⟨j,h1,h2,h3,h4,h5⟩:=zpF he
 obtain⟨w,ew,rw'⟩:=r.get h2
 have hl:=r.length
 have hn:=zgS
 have fin:EP X pins σ Q w s:=⟨z,H,I,rw',q⟩
 by_cases h0:0≤i
 ·have hj:i.toNat=j:=by
   rw[seqIndex_of h0 h5] at h1
   exact Option.some.inj h1
  exact item_listR pl.isList h0 (by omega) (by rw[hj]; simpa using ew) fin hs
 ·have hj:(i+(its.toArray.size:Int)).toNat=j:=by
   rw[seqIndex_neg (by omega) h4] at h1
   rw[Vam,← hl]
   exact Option.some.inj h1
  exact subscriptTail_builtinR (x:=w) pl.isList.typeIs slot_list_getitem.lookup
   (wpAny_getItem_list_neg (Q:=λr s'=>r=w∧EP X pins σ Q r s') pl.isList (by omega) (by rw[Vam] <;> omega) (by omega) (by rw[hj]; simpa using ew) ⟨rfl,fin⟩) hs
theorem zqW:IxR X (rIxT X.K):=by
 intro value slice pins s σ H x y v u Q I rx ry h hs
 obtain⟨p,xs,i,z,rfl,rfl,hq,he,q⟩:=h
 cases rx
 obtain⟨t,rfl⟩:=ry
 obtain⟨its,r,pl,hz⟩:=I.tuple hq
 obtain⟨j,h1,h2,h3,h4,h5⟩:=zpF he
 obtain⟨w,ew,rw'⟩:=r.get h2
 have hl:=r.length
 have hn:=zgS
 have fin:EP X pins σ Q w s:=⟨z,H,I,rw',q⟩
 exact subscriptTail_builtinR (x:=w) pl.typeIs slot_tuple_getitem.lookup
  (getItem_tuple (j:=j) (Q:=λr s'=>r=w∧EP X pins σ Q r s') pl (by omega) (by omega) (by rw[Vam,← hl]; exact h1) (by simpa using ew) ⟨rfl,fin⟩) hs
theorem zvq (its:List Value)(n j:Nat)(u:Value):Obj.mapSeq (·.setIfInBounds j u) { cls:=.type "list",data:=.seq its.toArray n }={ cls:=.type "list",data:=.seq (its.set j u).toArray n }:=by
 simp[Obj.mapSeq]
theorem Inv.lst {pins:List (Addr×Obj)}{σ:St}{H:Hp}{s:Shared}{p:Addr}{xs:List V}(I:Inv X pins σ H s)(h:H p=some (.lst xs)):
  ∃(its:List Value) (n:Nat),zax xs its∧s.heap.get? p=some { cls:=.type "list",data:=.seq its.toArray n }∧xs.length≤sizeLine:=by
 obtain⟨z,its,n,r,e⟩:=I.hok p _ h
 exact⟨its,n,r,e,z⟩
theorem Inv.lstUpd {pins:List (Addr×Obj)}{σ:St}{H:Hp}{s:Shared}{p:Addr}{xs ys:List V}{its its':List Value}{n n':Nat}{f:Obj→Obj}(I:Inv X pins σ H s)(h:H p=some (.lst xs))
  (ho:s.heap.get? p=some { cls:=.type "list",data:=.seq its.toArray n })(hf:f { cls:=.type "list",data:=.seq its.toArray n }={ cls:=.type "list",data:=.seq its'.toArray n' })(r:zax ys its')(hz:ys.length≤sizeLine)(t:Nat):
  Inv X pins σ (upd H p (.lst ys)) { s with heap:=s.heap.update p f,toks:=t }:=by
 have e:(s.heap.update p f).get? p=some { cls:=.type "list",data:=.seq its'.toArray n' }:=by
  rw[Heap.get?_update_self f ho (by rw[hf] <;> rfl),hf]
 refine I.write (x:=p) (e:=p) (by rw[h]; trivial) (.inl rfl) (λb u hb q=>(Heap.get?_update_other _ _ (Ne.symm hb)).trans q) ⟨_,e⟩ ?_
 exact⟨hz,its',n',r,e⟩
def rSetL:V→V→V→Hp→(Hp→Prop)→Prop:=λo i v H Q=>∃p xs k j,o=.ref p∧i=.int k∧H p=some (.lst xs)∧ixN xs.length k=some j∧Q (upd H p (.lst (xs.set j v)))
theorem zrZ:PSet X rSetL:=by
 intro pins s σ H o i v ov iv u Q I ro ri rv h
 obtain⟨p,xs,k,j,rfl,rfl,hp,hj,q⟩:=h
 cases ro
 obtain⟨t,rfl⟩:=ri
 obtain⟨its,n,r,ho,hz⟩:=I.lst hp
 obtain⟨h1,h2,h3,h4⟩:=zoR hj
 have hl:=r.length
 have hn:=zgS
 have I':Inv X pins σ (upd H p (.lst (xs.set j v))) { s with heap:=s.heap.update p (Obj.mapSeq (·.setIfInBounds j u)) }:=
  I.lstUpd hp ho (zvq its n j u) (r.set rv j) (by rw[VaF]; exact hz) s.toks
 by_cases h0:0≤k
 ·have hk:k.toNat=j:=by
   rw[seqIndex_of h0 h4] at h1
   exact Option.some.inj h1
  exact PySem.W.ki_setAt ho h0 (by omega) (by rw[Vam,← hl]; exact h4) (by rw[hk]; exact⟨_,I',q⟩)
 ·have hk:(k+(its.toArray.size:Int)).toNat=j:=by
   rw[seqIndex_neg (by omega) h3] at h1
   rw[Vam,← hl]
   exact Option.some.inj h1
  exact PySem.W.ki_setBack ho (by omega) (by rw[Vam,← hl]; exact h3) (by omega) (by rw[hk]; exact⟨_,I',q⟩)
theorem zuH (lo hi:Option Int)(n:Nat):(sliceBounds lo hi none n).1=((HT.sIx n 0 lo:Nat):Int)∧(sliceBounds lo hi none n).2.1=((HT.sIx n n hi:Nat):Int)∧(sliceBounds lo hi none n).2.2=1:=by
 refine⟨?_,?_,rfl⟩
 ·cases lo with
  | none=>simp[sliceBounds,HT.sIx]
  | some i=>
   simp only[sliceBounds,HT.sIx,Option.getD_none,show (1:Int) > 0 by decide,if_true]
   by_cases h:i<0
   ·simp only[h,if_true] <;> omega
   ·simp only[h,if_false] <;> omega
 ·cases hi with
  | none=>simp[sliceBounds,HT.sIx]
  | some i=>
   simp only[sliceBounds,HT.sIx,Option.getD_none,show (1:Int) > 0 by decide,if_true]
   by_cases h:i<0
   ·simp only[h,if_true] <;> omega
   ·simp only[h,if_false] <;> omega
theorem zv2 (its:List Value)(lo hi:Option Int):slicePick its.toArray lo hi none=((its.drop (HT.sIx its.length 0 lo)).take (HT.sIx its.length its.length hi-HT.sIx its.length 0 lo)).toArray:=by
 obtain⟨h1,h2,h3⟩:=zuH lo hi its.toArray.size
 unfold slicePick
 rw[h1,h2,h3]
 simp only[sliceRange_one,pick_run,Vam] <;> rfl
def rSlL (K:PySem.W.Frag):V→Option Int→Option Int→Hp→VK→Prop:=λx lo hi H Q=>∃a xs,x=.ref a∧SqL K H a xs∧∀p,H p=none→Q (.ref p) (upd H p (.lst (zeU xs lo hi)))
theorem zqs:SlR X (rSlL X.K):=by
 intro pins s σ H x v vl vu lo hi sl Q I rx hs pl pu h
 obtain⟨a,xs,rfl,hx,q⟩:=h
 cases rx
 obtain⟨its,r,ht,hz⟩:=I.list hx
 have hlen:=r.length
 refine⟨"list",_,slot_list_getitem.lookup,ht.isList.typeIs,?_⟩
 refine wpAny_getItem_list_slice ht.isList hs pl pu .none (by simp) ?_ (by rw[Vam] <;> omega)
 rw[zv2,← hlen]
 refine⟨.ref s.heap.objs.size,_,I.laid (t':=s.toks) (o:=.lst (zeU xs lo hi)) (λb ob q=>Heap.get?_push_of_some _ q) (Vaa _) ?_,rfl,q _ (I.hok.fresh (Vaa _))⟩
 exact⟨VaB (zug xs lo hi) hz,_,0,(r.drop (HT.sIx xs.length 0 lo)).take (HT.sIx xs.length xs.length hi-HT.sIx xs.length 0 lo),Heap.get?_push_size _ rfl⟩
def zlE:V→Bool
 | .non=>true
 | .bl _=>true
 | .int _=>true
 | .str _=>true
 | _=>false
def eqV:V→V→Bool
 | .non,.non=>true
 | .bl a,.bl b=>a==b
 | .bl a,.int b=>(if a then 1 else 0)==b
 | .int a,.bl b=>a==(if b then 1 else 0)
 | .int a,.int b=>a==b
 | .str a,.str b=>a==b
 | _,_=>false
theorem zv6 {A:Around}{s:Shared}{y x:V}{u v:Value}(ry:zat y u)(rx:zat x v)(fy:zlE y=true)(fx:zlE x=true):SeqAt.EqAt A s u v (eqV y x):=by
 cases y with
 | non=>
  cases ry
  cases x with
  | non=>cases rx; exact SeqAt.EqAt.same _
  | bl b=>cases rx; exact SeqAt.EqAt.none_bool b
  | int b=>obtain⟨t,rfl⟩:=rx; exact SeqAt.EqAt.none_int b t
  | str b=>obtain⟨t,rfl⟩:=rx; exact SeqAt.EqAt.none_str b t
  | _=>exact absurd (show false=true from fx) Val
 | bl a=>
  cases ry
  cases x with
  | non=>cases rx; exact SeqAt.EqAt.bool_none a
  | bl b=>cases rx; exact SeqAt.EqAt.bool_bool a b
  | int b=>obtain⟨t,rfl⟩:=rx; exact SeqAt.EqAt.bool_int a b t
  | str b=>obtain⟨t,rfl⟩:=rx; exact SeqAt.EqAt.bool_str a b t
  | _=>exact absurd (show false=true from fx) Val
 | int a=>
  obtain⟨t',rfl⟩:=ry
  cases x with
  | non=>cases rx; exact SeqAt.EqAt.int_none a t'
  | bl b=>cases rx; exact SeqAt.EqAt.int_bool a t' b
  | int b=>obtain⟨t,rfl⟩:=rx; exact SeqAt.EqAt.int_int a t' b t
  | str b=>obtain⟨t,rfl⟩:=rx; exact SeqAt.EqAt.int_str a t' b t
  | _=>exact absurd (show false=true from fx) Val
 | str a=>
  obtain⟨t',rfl⟩:=ry
  cases x with
  | non=>cases rx; exact SeqAt.EqAt.str_none a t'
  | bl b=>cases rx; exact SeqAt.EqAt.str_bool a t' b
  | int b=>obtain⟨t,rfl⟩:=rx; exact SeqAt.EqAt.str_int a t' b t
  | str b=>obtain⟨t,rfl⟩:=rx; exact SeqAt.EqAt.str_str a t' b t
  | _=>exact absurd (show false=true from fx) Val
 | _=>exact absurd (show false=true from fy) Val
theorem zv1:zba X (.builtin "len") (λxs H Q=>∃p ys,xs=[.ref p]∧(SqL X.K H p ys∨SqT X.K H p ys)∧Q (.int ys.length) H):=by
 intro pins s σ H xs us Q I r h
 obtain⟨p,ys,rfl,hq,q⟩:=h
 obtain⟨u,rfl,rx⟩:=zeB r
 cases rx
 have hn:=zgS
 rcases hq with hq | hq
 ·obtain⟨its,r',pl,hz⟩:=I.list hq
  have hlen:=r'.length
  exact Calls.call_len_list pl.isList (by simp only[Vam] <;> omega) ⟨.int ys.length,H,I.tok _,⟨s.toks+1,by rw[Vam,hlen]⟩,q⟩
 ·obtain⟨its,r',pl,hz⟩:=I.tuple hq
  have hlen:=r'.length
  exact len_tuple pl (by simp only[Vam] <;> omega) ⟨.int ys.length,H,I.tok _,⟨s.toks+1,by rw[Vam,hlen]⟩,q⟩
theorem zba.or {f:Value}{r r':List V→Hp→VK→Prop}(h:zba X f r)(h':zba X f r'):zba X f (λxs H Q=>r xs H Q∨r' xs H Q):=by
 intro pins s σ H xs us Q I rs q
 rcases q with q | q
 ·exact h pins s σ H xs us Q I rs q
 ·exact h' pins s σ H xs us Q I rs q
theorem zrc:zba X (.type "list") (λxs H Q=>∃p ys,xs=[.ref p]∧(SqL X.K H p ys∨SqT X.K H p ys)∧∀l,H l=none→Q (.ref l) (upd H l (.lst ys))):=by
 intro pins s σ H xs us Q I r h
 obtain⟨p,ys,rfl,hq,q⟩:=h
 obtain⟨u,rfl,rx⟩:=zeB r
 cases rx
 have fin:∀(its:List Value),zax ys its→ys.length≤sizeLine→∀(h':Heap) (c':Nat),(∀b o',s.heap.get? b=some o'→h'.get? b=some o')→
   h'.get? s.heap.objs.size=some { cls:=.type "list",dict:=none,data:=.seq its.toArray c',slots:=#[] }→EP X pins σ Q (.ref s.heap.objs.size) { s with heap:=h' }:=λits r' hz h' c' kp e=>
  ⟨.ref s.heap.objs.size,_,I.laid (t':=s.toks) kp (Vaa _) (show zbg X.prog X.w _ h' _ (.lst ys) from ⟨hz,its,c',r',e⟩),rfl,q _ (I.hok.fresh (Vaa _))⟩
 rcases hq with hq | hq
 ·obtain⟨its,r',pl,hz⟩:=I.list hq
  have hlen:=r'.length
  obtain⟨o,ho,hc,n,hd⟩:=pl.isList
  exact call_list_seq p (.inl rfl) ho hc hd (λh' c' kp e=>fin its r' hz h' c' kp e) (by simp only[Vam] <;> omega)
 ·obtain⟨its,r',pl,hz⟩:=I.tuple hq
  have hlen:=r'.length
  obtain⟨o,ho,hc,n,hd⟩:=pl
  exact call_list_seq p (.inr rfl) ho hc hd (λh' c' kp e=>fin its r' hz h' c' kp e) (by simp only[Vam] <;> omega)
def tyV (K:PySem.W.Frag)(T:String)(x:V)(H:Hp):Prop:=match x with
 | .str _=>T="str"
 | .int _=>T="int"
 | .ref p=>(T="list"∧∃xs,SqL K H p xs)∨(T="tuple"∧∃o,K.lookup p=some o∧o.cls=.type "tuple"∧o.dict=none)∨
   (T="dict"∧((∃kvs,H p=some (.dK kvs))∨∃kvs,H p=some (.dT kvs)))∨(T="set"∧∃S n,H p=some (.set S n))
 | _=>False
theorem zpK {pins:List (Addr×Obj)}{σ:St}{H:Hp}{s:Shared}{T:String}{x:V}{v:Value}(I:Inv X pins σ H s)(r:zat x v)(ty:tyV X.K T x H):
  s.TypeIs v T∧∀a,v=.ref a→∃ob,s.heap.get? a=some ob∧ob.dict=none:=by
 cases x with
 | str z=>
  obtain⟨t,rfl⟩:=r
  cases (show T="str" from ty)
  exact⟨typeIs_str s z t,λ_ e=>nomatch e⟩
 | int i=>
  obtain⟨t,rfl⟩:=r
  cases (show T="int" from ty)
  exact⟨typeIs_int s i t,λ_ e=>nomatch e⟩
 | ref p=>
  cases r
  rcases ty with ⟨rfl,xs,hq⟩ | ⟨rfl,o,hk,hc,hd⟩ | ⟨rfl,hk⟩ | ⟨rfl,S,n,hk⟩
  ·obtain⟨its,_,pl,_⟩:=I.list hq
   refine⟨pl.isList.typeIs,λa e=>?_⟩
   cases e
   obtain⟨o,n,e,c,hd,_⟩:=pl
   exact⟨o,e,hd⟩
  ·refine⟨⟨o,I.kIn p o hk,hc⟩,λa e=>?_⟩
   cases e
   exact⟨o,I.kIn _ o hk,hd⟩
  ·have z:∃o,s.heap.get? p=some o∧o.ExactDict:=by
    rcases hk with ⟨kvs,hk⟩ | ⟨kvs,hk⟩
    ·obtain⟨_,_,_,_,o,_,_,e,ex,_⟩:=I.hok p _ hk
     exact⟨o,e,ex⟩
    ·obtain⟨_,_,_,_,o,_,_,e,ex,_⟩:=I.hok p _ hk
     exact⟨o,e,ex⟩
   obtain⟨o,e,ex⟩:=z
   refine⟨⟨o,e,ex.1⟩,λa e2=>?_⟩
   cases e2
   exact⟨o,e,ex.2.1⟩
  ·obtain⟨o,_,_,_,e,ex,_⟩:=I.hok p _ hk
   refine⟨⟨o,e,ex.1⟩,λa e2=>?_⟩
   cases e2
   exact⟨o,e,ex.2.1⟩
 | _=>exact False.elim ty
def tBM0 (K:PySem.W.Frag)(T:String)(r:V→List V→Hp→VK→Prop)(to:TE):TE:=λσ H Q=>to σ H λx H1=>tyV K T x H1∧r x [] H1 Q
def tBM (K:PySem.W.Frag)(T:String)(r:V→List V→Hp→VK→Prop)(to:TE)(t:TA):TE:=λσ H Q=>to σ H λx H1=>tyV K T x H1∧t σ H1 λxs H2=>r x xs H2 Q
variable {o e:Expr}{es:List Expr}{to:TE}{t:TA}{name:Str}{apos cpos:Pos}{T id:String}{r:V→List V→Hp→VK→Prop}
theorem ztI (pa:PlainAttrs T)(slot:Slot T name id)(hty:typeOf (.builtin id)=pure (.type "method_descriptor"))(hm:MtR X id r)(ho:PE X o to)
  (hbase:attributeBase o name X.env (eval o X.env)=eval o X.env:=by rfl)(hline:(apos.endLine==cpos.line)=true:=by rfl):PE X (.Call (.Attribute o name apos) [] [] cpos) (tBM0 X.K T r to):=by
 intro pins s σ H Q I h
 refine wpAny_Call_method0_late hbase hline (thn (ho pins s σ H _ I h) λv s1 ⟨x,H1,I1,r1,ty,q1⟩=>?_)
 obtain⟨h1,h2⟩:=zpK I1 r1 ty
 exact⟨T,id,pa,slot,hty,h1,h2,Calls.callWith_builtin rfl (PySem.evalArgs_none (hm pins s1 σ H1 x [] v [] Q I1 r1 .nil q1))⟩
theorem zoI (pa:PlainAttrs T)(slot:Slot T name id)(hty:typeOf (.builtin id)=pure (.type "method_descriptor"))(hm:MtR X id r)(ho:PE X o to)(ha:PA X (e::es) t)
  (hbase:attributeBase o name X.env (eval o X.env)=eval o X.env:=by rfl)
  (hfew:((backTo cpos (starEach (e::es) X.env)).all (λx=>!x.1)&&(backToKw cpos (keywordEach [] X.env)).all (λx=>x.1.isSome)
  &&decide ((e::es).length+([]:List Keyword).length+(if ([]:List Keyword).isEmpty then 0 else 1)<30))=true:=by rfl)
  (hline:(apos.endLine==cpos.line)=true:=by rfl)(hs:starEach (e::es) X.env=(false,eval e X.env)::starEach es X.env:=by rfl)(hplain:(backTo cpos (starEach es X.env)).any (·.1)=false:=by rfl):
  PE X (.Call (.Attribute o name apos) (e::es) [] cpos) (tBM X.K T r to t):=by
 intro pins s σ H Q I h
 refine wpAny_Call_method_late hbase hfew hline rfl (thn (ho pins s σ H _ I h) λv s1 ⟨x,H1,I1,r1,ty,q1⟩=>?_)
 obtain⟨h1,h2⟩:=zpK I1 r1 ty
 refine⟨T,id,pa,slot,hty,h1,h2,?_⟩
 have hA:=ha cpos pins s1 σ H1 _ I1 q1
 rw[hs] at hA ⊢
 refine Calls.callWith_builtin (by show (false||(backTo cpos (starEach es X.env)).any (·.1))=false; rw[hplain] <;> rfl) (Calls.evalArgs_plain ?_)
 exact thn hA λus s2 ⟨vs,H2,I2,r2,q2⟩=>hm pins s2 σ H2 x vs v us Q I2 r1 r2 q2
end
end L2
namespace L2
open PySem PySem.Spec PyProof.Rows
def MtM (X:Cx)(id:String)(r:V→List V→Hp→VK→Prop):Prop:=
 ∀(pins:List (Addr×Obj)) (s:Shared) (σ:St) (H:Hp) (x:V) (xs:List V) (v:Value) (us:List Value) (Q:VK),Inv X pins σ H s→zat x v→zax xs us→r x xs H Q→
  wpAny (model X.prog X.w) X.A (call (.builtin id) (v::us)) (EP X pins σ Q) X.xe s
theorem zax.one:∀ {x:V} {us:List Value},zax [x] us→∃u,us=[u]∧zat x u
 | _,_,.cons r .nil=>⟨_,rfl,r⟩
theorem zax.two:∀ {x y:V} {us:List Value},zax [x,y] us→∃u v,us=[u,v]∧zat x u∧zat y v
 | _,_,_,.cons r (.cons q .nil)=>⟨_,_,rfl,r,q⟩
theorem zax.zero:∀ {us:List Value},zax [] us→us=[]
 | _,.nil=>rfl
section
variable {X:Cx}{pins:List (Addr×Obj)}{σ:St}{H:Hp}{s:Shared}{l b:Addr}{xs ys zs:List V}
theorem Inv.lset {its its':List Value}{n:Nat}{f:Array Value→Array Value}{t':Nat}(I:Inv X pins σ H s)(hH:H l=some (.lst xs))
  (e:s.heap.get? l=some { cls:=.type "list",data:=.seq its.toArray n })(hf:f its.toArray=its'.toArray)(hv:zax ys its')(hz:ys.length≤sizeLine):
  Inv X pins σ (upd H l (.lst ys)) { s with heap:=s.heap.update l (Obj.mapSeq f),toks:=t' }:=by
 have q:=PySem.IsL.update e f
 rw[hf] at q
 refine I.write (x:=l) (e:=l) (by rw[hH]; exact trivial) (.inl rfl) (λb' u hb hu=>(Heap.get?_update_other s.heap (Obj.mapSeq f) (Ne.symm hb)).trans hu) ⟨_,q⟩ ?_
 exact⟨hz,its',_,hv,q⟩
theorem Inv.lnew {its:List Value}{t':Nat}(I:Inv X pins σ H s)(hv:zax ys its)(hz:ys.length≤sizeLine):
  Inv X pins σ (upd H s.heap.objs.size (.lst ys)) { s with heap:=s.heap.push { cls:=.type "list",data:=.seq its.toArray },toks:=t' }:=
 I.laid (λ_ _ q=>Heap.get?_push_of_some _ q) (Vaa _) ⟨hz,its,0,hv,Heap.get?_push_size _ rfl⟩
theorem Inv.fresh (I:Inv X pins σ H s):H s.heap.objs.size=none:=I.hok.fresh (Vaa _)
theorem Inv.lstM (I:Inv X pins σ H s)(hH:H l=some (.lst xs)):xs.length≤sizeLine∧∃(its:List Value) (n:Nat),zax xs its∧xs.length=its.length∧s.heap.get? l=some { cls:=.type "list",data:=.seq its.toArray n }:=by
 obtain⟨z,its,n,r,e⟩:=I.hok l _ hH
 exact⟨z,its,n,r,r.length,e⟩
end
section
variable {X:Cx}
def zqA:V→List V→Hp→VK→Prop:=λx vs H Q=>∃l xs y,x=.ref l∧vs=[y]∧H l=some (.lst xs)∧xs.length<sizeLine∧Q .non (upd H l (.lst (xs++[y])))
theorem znT:MtM X "list.append" zqA:=by
 intro pins s σ H x vs v us Q I rx rv h
 obtain⟨l,xs,y,rfl,rfl,hH,hz,q⟩:=h
 cases rx
 obtain⟨u,rfl,ru⟩:=rv.one
 obtain⟨z,its,n,r,hl,e⟩:=I.lstM hH
 refine call_meets F.slot_list_append ⟨_,e,rfl⟩ F.entry_list_append (F.args_list_append_2 _ _) (PySem.list_append l its.toArray n u (by rw[Vam]; omega)) ⟨e,?_⟩
 refine⟨.non,_,I.lset (its':=its++[u]) hH e (by simp) (r.append (.cons ru .nil)) ?_,rfl,q⟩
 rw[Vax,List.length_singleton]
 omega
def rCat:R2:=λx y H Q=>∃l b xs zs,x=.ref l∧y=.ref b∧H l=some (.lst xs)∧H b=some (.lst zs)∧xs.length+zs.length≤sizeLine∧∀p,H p=none→Q (.ref p) (upd H p (.lst (xs++zs)))
theorem zsf:OpR X (binaryOp .Add) rCat:=by
 intro pins s σ H x y v u Q I rx ry h
 obtain⟨l,b,xs,zs,rfl,rfl,hH,hB,hz,q⟩:=h
 cases rx
 cases ry
 obtain⟨z,its,n,r,hl,e⟩:=I.lstM hH
 obtain⟨z2,its2,n2,r2,hl2,e2⟩:=I.lstM hB
 refine PySem.P.add_list e e2 ?_ (by rw[Vam,Vam]; omega)
 have ea:its.toArray++its2.toArray=(its++its2).toArray:=by simp
 rw[ea]
 exact⟨.ref _,_,I.lnew (t':=s.toks) (r.append r2) (by rw[Vax]; omega),rfl,q _ I.fresh⟩
end
section
variable {prog:Program}{w:World}{A:Around}{E:Value→Shared→Prop}{s:Shared}
set_option maxRecDepth 100000 in
end
section
variable {X:Cx}
end
end L2
namespace Att
open PySem PySem.W PySem.Calls PyProof.Rows
theorem ztL {P:Params}{h:Heap}:∀(ns:List Int) (vs:List Value),WellAll P h vs (ns.map WData.int)→IntsAre vs ns:=by
 intro ns
 induction ns with
 | nil=>
  intro vs w
  rw[List.map_nil] at w
  cases w
  exact .nil
 | cons n ns ih=>
  intro vs w
  rw[Vau] at w
  cases w with
  | cons a b=>
   cases a
   exact .cons _ _ (ih _ b)
theorem zrX {l:OpenLaw}{n:Nat}(hn:l.most=some n){P:Params}{h:Heap}{args:List WData}{vals:List Value}
  (hpre:l.row.toRowW.claim.pre args=true)(hwl:WellAll P h vals args):
  ∃a vs ns,vals=[Value.ref a]∧args=[WData.list (ns.map WData.int)]∧h.get? a=some { cls:=.type "list",data:=.seq vs.toArray }∧IntsAre vs ns∧ns.length≤n:=by
 have hsh:WShape.hasAll [] args [.list .int]=true:=(pre_splitW hpre).1
 have hc:l.pre.holds [] { args:=args }=true:=(pre_splitW hpre).2
 obtain⟨d,r,rfl,h1,h2⟩:=hasAllW_cons hsh
 obtain rfl:=hasAllW_nil h2
 obtain⟨xs,rfl,h3⟩:=hasW_list h1
 obtain⟨ns,rfl⟩:=items_int h3
 have hlen:ns.length≤n:=by
  unfold OpenLaw.pre at hc
  have h4:(WTm.not (.lt (.lit (.int (n:Int))) (.len (.arg 0)))).holds [] { args:=[.list (ns.map .int)] }=true:=by
   have h4:=(holds_andW hc).1
   rw[hn] at h4
   exact h4
  have h5:=condW_of h4 (w_not (w_lt w_lit (w_len_list (w_arg rfl))))
  rw[Vac] at h5
  refine Nat.le_of_not_lt λq=>?_
  have q':(n:Int)<((ns.length:Nat):Int):=by omega
  first
   | (rw[decide_eq_true q'] at h5; exact absurd h5 (by decide))
   | (simp at h5; omega)
 cases hwl with
 | cons w1 w2=>
  cases w2
  cases w1 with
  | list ho hall=>exact⟨_,_,ns,rfl,rfl,ho,ztL ns _ hall,hlen⟩
theorem zsV (l:OpenLaw)(args:List WData):l.row.toRowW.claim.post args (.bool true) args=true:=
 postW_of (r:=l.row.toRowW) (X:=(true==true))
  (show WShape.has [] (.bool true) .bool=true by first | rfl | decide | simp[WShape.has,WShape.arms,WShape.armsAll])
  (show (WTm.eq .res (.lit (.bool true))).value [] { args:=args,res:=some (.bool true),after:=args }=some (.bool (true==true)) from w_eq_bool (w_res rfl) w_lit) rfl
theorem attach_call {l:OpenLaw}{n:Nat}{q:Program}{loose:List Str}{XP:(Str→Option Value)→Heap→Prop}{YP:World→Heap→Prop}{d:DefRec}
  (hn:l.most=some n)(hdf:d.params.defaults=[])
  (call:∀(w:World) (s₀ s₁:Shared) (mg mb:Str→Option Value) (fa:Addr) (o:Obj) (pm cd doc:Value) (a:Addr) (vs:List Value) (ns:List Int),
   Ground q loose [] XP w s₀ mg mb s₁.heap→YP w s₁.heap→
   s₁.heap.get? fa=some o→o.data=.func (docDef d.name d.params d.body d.scope pm cd doc)→s₁.heap.CodeRec cd d.name→mg d.name=some (.ref fa)→
   s₁.heap.get? a=some { cls:=.type "list",data:=.seq vs.toArray }→IntsAre vs ns→ns.length≤n→s₁.gens=#[]→
   codeAny (model l.prog w) callerA (.call (.ref fa) ⟨[.ref a],[]⟩) (λr s'=>r=.ok (.ret (.bool true))∧OldK s₁.heap s'.heap∧s'.os=s₁.os∧AllBare s'.gens) s₁):
  WalkO q loose XP YP l.row.toRowW d [] (λf vs=>PySem.call f vs):=by
 intro w s₀ s₁ mg mb G Y fa o pm cd doc dV kV ho hd hcd hD hmg hg args vals as hpre hlay hrd hwl hlo
 obtain rfl:dV=.none:=Dflts.none hD hdf
 obtain rfl:kV=.none:=Dflts.noKw hD
 obtain⟨a,vs,ns,rfl,rfl,hobj,hints,hlen⟩:=zrX hn hpre hwl
 refine enter_call (codeAny_mono (call w s₀ s₁ mg mb fa o pm cd doc a vs ns G Y ho (fd_plain hd) hcd hmg hobj hints hlen hg) λr s' hq=>?_)
 obtain⟨rfl,h2,h3,h4⟩:=hq
 exact⟨.inl ⟨.bool true,.bool true,[],rfl,λ_=>rfl,.bool true,zsV l _,λ_=>⟨List.Pairwise.nil,λ_ hm=>(nomatch hm)⟩⟩,h2,h3,h4⟩
section
variable {prog:Program}{w:World}{A:Around}{E:Value→Shared→Prop}{s:Shared}{K:Frag}
def ledger (h:Heap)(L d:Addr):List (Addr×Obj):=(List.range h.objs.size).filterMap λa=>if a=L∨a=d then none else (h.get? a).map λo=>(a,o)
end
end Att
namespace L2
open PySem PySem.Spec PyProof.Rows
theorem ziE:∀ {vs:List Value} {ns:List Int},IntsAre vs ns→zax (ns.map V.int) vs
 | _,_,.nil=>.nil
 | _,_,.cons n t h=>.cons ⟨t,rfl⟩ (ziE h)
def zgJ (H:Hp):Prop:=∀b,H b=none∨∃o xs,H b=some (.frz o (.lst xs))
theorem zr0 {P:Program}{w:World}{K:PySem.W.Frag}{mg mb:Str→Option Value}{CX:CXT}{k:Nat}{fa a:Addr}{fd:FuncData}{x:Str}{sp:Sp}{s₁:Shared}{vs:List Value}{ns:List Int}
  (KX:K.In s₁.heap)(hns:s₁.heap.Ns mainGlobals mg)(hb:s₁.heap.Ns builtinsNs mb)(hbb:∀x:Str,x≠"__name__"→mb x=bootBuiltins x)(hlim:s₁.heap.NoLimit)(hg:s₁.gens=#[])
  (ha:s₁.heap.get? a=some { cls:=.type "list",data:=.seq vs.toArray })(hi:IntsAre vs ns)(hl:ns.length≤sizeLine)(hr:zaF k callerA)
  (F:∀base:Heap,K.In base→base.Ns mainGlobals mg→zaZ P w K mg base CX k fa fd [x] sp)(hbind:∀(s:Shared) (u:Value),BindsTo s fd ⟨[u],[]⟩ [(x,u)])
  (hsp:∀H:Hp,zgJ H→SqL K H a (ns.map V.int)→sp [.ref a] H (λv _=>v=.bl true) λ_ _ _=>False)
  (hCX:∀H e s',CX [] H s₁ (λ_ _ _=>False) e s'→False):
  codeAny (model P w) callerA (.call (.ref fa) ⟨[.ref a],[]⟩) (λr s'=>r=.ok (.ret (.bool true))∧OldK s₁.heap s'.heap∧s'.os=s₁.os∧AllBare s'.gens) s₁:=by
 have rv:=ziE hi
 have lenV:=hi.length
 have core:∀H:Hp,zgJ H→SqL K H a (ns.map V.int)→HOk P w H s₁.heap→(∀b,H b≠none→b=a)→(H a≠none→K.lookup a=none)→
   codeAny (model P w) callerA (.call (.ref fa) ⟨[.ref a],[]⟩) (λr s'=>r=.ok (.ret (.bool true))∧OldK s₁.heap s'.heap∧s'.os=s₁.os∧AllBare s'.gens) s₁:=by
  intro H hO hS hok hA hK
  have base_of:∀ {b:Addr} {o:Obj},s₁.heap.get? b=some o→H b=none→(zcz s₁.heap H).get? b=some o:=λe n=>zvn e n
  have noA:∀ {b:Addr} {o:Obj} {es:Array DictEntry} {ep:Nat},s₁.heap.get? b=some o→o.data=.dict es ep→H b=none:=λ{b o es ep} e d=>by
   cases q:H b with
   | none=>rfl
   | some u=>
    have e':b=a:=hA b (by rw[q]; simp)
    subst e'
    rw[ha] at e; cases e
    have d':Data.seq vs.toArray _=Data.dict es ep:=d
    cases d'
  have nsK:∀ {b:Addr} {m:Str→Option Value},s₁.heap.Ns b m→(zcz s₁.heap H).Ns b m:=λ{b m} ⟨o,es,ep,e,d,r⟩=>⟨o,es,ep,base_of e (noA e d),d,r⟩
  have hKb:K.In (zcz s₁.heap H):=λb o e=>base_of (KX b o e) (by
   cases q:H b with
   | none=>rfl
   | some u=>
    have e':b=a:=hA b (by rw[q]; simp)
    subst e'
    rw[hK (by rw[q]; simp)] at e; cases e)
  have hM:Mod K mg (zcz s₁.heap H):=⟨hKb,nsK hns,⟨mb,nsK hb,hbb⟩,let ⟨mc,h1,h2⟩:=hlim; ⟨mc,nsK h1,h2⟩⟩
  have e0:zcm P w K mg (zcz s₁.heap H) callerA [] s₁ H:=⟨rfl,hM,λb o e=>zuX e,Nat.le_of_eq (zqf _ _),trivial,λb hb=>absurd (show b∈([]:List Addr) from hb) (by simp),hok,.of_eq hg⟩
  refine codeAny_mono ((F _ hKb (nsK hns)).run callerA [] s₁ H ⟨[.ref a],[]⟩ [.ref a] [.ref a] _ _ hr e0 (hbind s₁ (.ref a)) (.cons rfl .nil) (hsp H hO hS)) λr s' h=>?_
  cases r with
  | error e=>exact(hCX H e s' h).elim
  | ok fl=>
   cases fl with
   | next=>exact False.elim h
   | brk=>exact False.elim h
   | cont=>exact False.elim h
   | ret u=>
    obtain⟨v,H',os,bare,un,hok',r',q⟩:=h
    have q':v=.bl true:=q
    subst q'
    obtain rfl:u=Value.bool true:=r'
    refine⟨rfl,OldK.of_keep λb o e=>?_,os,bare⟩
    cases q:H b with
    | none=>exact un.keep b o e q (by intro z; exact absurd (show b∈([]:List Addr) from z) (by simp)) (by simp)
    | some u=>
     rcases hO b with z | ⟨ob,xs,z⟩
     ·rw[q] at z; cases z
     ·have z2:=un.frzs b ob _ z
      obtain⟨e1,_⟩:=hok b _ z
      obtain⟨e2,_⟩:=hok' b _ z2
      rw[e] at e1; cases e1
      exact e2
 cases hk:K.lookup a with
 | some o=>
  have e:=KX a o hk
  rw[ha] at e
  cases e
  refine core (λ_=>none) (λ_=>.inl rfl) (.inr ⟨_,vs.toArray,_,hk,rfl,rfl,rfl,by rw[Vam,lenV]; exact hl,by simpa using rv⟩) (λb u z=>by have z':(none:Option HO)=some u:=z; cases z') (λb z=>absurd rfl z) λz=>absurd rfl z
 | none=>
  refine core (λb=>if b=a then some (.frz { cls:=.type "list",data:=.seq vs.toArray } (.lst (ns.map V.int))) else none) (λb=>?_) (.inl (.inr ⟨{ cls:=.type "list",data:=.seq vs.toArray },if_pos rfl⟩)) (λb u z=>?_) (λb z=>?_) λ_=>hk
  ·by_cases hb:b=a
   ·exact .inr ⟨_,_,if_pos hb⟩
   ·exact .inl (if_neg hb)
  ·by_cases hb:b=a
   ·have z':=(if_pos hb).symm.trans z
    cases z'
    subst hb
    exact⟨ha,by rw[Vac]; exact hl,vs,_,rv,ha⟩
   ·have z':=(if_neg hb).symm.trans z
    cases z'
  ·by_cases hb:b=a
   ·exact hb
   ·exact absurd (if_neg hb) z
end L2
namespace L2
open PySem PySem.Spec PyProof.Rows
theorem zvQ {l:PySem.W.OpenLaw}{n k:Nat}{q:Program}{loose:List Str}{XP:(Str→Option Value)→Heap→Prop}{YP:World→Heap→Prop}{d:DefRec}{K:Params→PySem.W.Frag}{CX:World→CXT}{sp:World→Sp}{x:Str}
  (hn:l.most=some n)(hn2:n≤sizeLine)(hdf:d.params.defaults=[])(hr:zaF k callerA)
  (hY:∀(w:World) (h:Heap),YP w h→(K w.params).In h)
  (F:∀(w:World) (mg:Str→Option Value) (fa:Addr) (h:Heap),(K w.params).In h→h.Ns mainGlobals mg→mg d.name=some (.ref fa)→
   ∃fd:FuncData,(∀(s:Shared) (u:Value),BindsTo s fd ⟨[u],[]⟩ [(x,u)])∧
    ∀base:Heap,(K w.params).In base→base.Ns mainGlobals mg→zaZ l.prog w (K w.params) mg base (CX w) k fa fd [x] (sp w))
  (hsp:∀(w:World) (H:Hp) (a:Addr) (ns:List Int),ns.length≤n→zgJ H→SqL (K w.params) H a (ns.map V.int)→sp w [.ref a] H (λv _=>v=.bl true) λ_ _ _=>False)
  (hCX:∀(w:World) (H:Hp) (s:Shared) (e:Value) (s':Shared),CX w [] H s (λ_ _ _=>False) e s'→False):
  PySem.W.WalkO q loose XP YP l.row.toRowW d [] (λf vs=>PySem.call f vs):=by
 refine Att.attach_call hn hdf λw s₀ s₁ mg mb fa o pm cd doc a vs ns G Y ho hd hcd hmg hobj hints hlen hg=>?_
 have KX:=hY w _ Y
 obtain⟨fd,hb,hF⟩:=F w mg fa _ KX G.T.g hmg
 exact zr0 KX G.T.g G.T.b G.T.builtins G.T.nolimit hg hobj hints (VaB hlen hn2) hr hF hb (λH hO hS=>hsp w H a ns hlen hO hS) λH e s'=>hCX w H s₁ e s'
end L2
namespace L2
open PySem PySem.Spec PyProof.Rows
abbrev CX0:CXT:=λ_ _ _ _ _ _=>False
structure Fun (K:PySem.W.Frag)(x qual:Str)(st:Stmt)(f:Addr)(fd:FuncData):Prop where
 ex:∃(oc:Value) (od:Option Addr) (kV doc pm:Value) (an:Option Addr) (cdv ct:Value) (osl:Array (Option Value)),
  fd=PySem.W.fnOf x qual (zdE st) (zcO st) (zaq st) .none kV doc pm an cdv ct∧K.lookup f=some ⟨oc,od,.func fd,osl⟩∧PySem.W.codeIn K cdv qual=true
 kp:PySem.W.keepIn K (.ref f)=true
section
variable {P:Program}{w:World}{K:PySem.W.Frag}{mg:Str→Option Value}{base:Heap}
theorem Fun.ok {x qual:Str}{st:Stmt}{f:Addr}{fd:FuncData}{N ps:List Str}{k:Nat}{sp:Sp}(F:Fun K x qual st f fd)(S:zav N ps (zaq st))(len:∀vs H Q E,sp vs H Q E→vs.length=ps.length)
  (hbody:∀(cdv:Value) (A:Around) (outer:List Env) (s:Shared) (H:Hp) (vs:List V) (Q:VK) (E:XK),zaF k (A.deeper (envOfC qual (zaq st) s.heap.objs.size f cdv))→sp vs H Q E→
   ∃t,PSs (zdB CX0 P w K mg base N qual (zaq st) f cdv A outer s H E).nox (zcO st) t∧t { nx:=λ_ H'=>Q .non H',rt:=Q } (zcd N vs) H):zaZ P w K mg base CX0 (k+1) f fd ps sp:=by
 obtain⟨oc,od,kV,doc,pm,an,cdv,ct,osl,rfl,lk,hcd⟩:=F.ex
 refine zoP lk hcd S len λA outer s H vs Q E hr hsp=>?_
 obtain⟨t,h,q⟩:=hbody cdv A outer s H vs Q E hr hsp
 exact⟨t,h.nox,q⟩
theorem Fun.binds {x qual:Str}{st:Stmt}{f:Addr}{fd:FuncData}{ps:List Str}(F:Fun K x qual st f fd)
  (h:∀(kV doc pm:Value) (an:Option Addr) (cdv ct:Value) (us:List Value),us.length=ps.length→bindArgs (PySem.W.fnOf x qual (zdE st) (zcO st) (zaq st) .none kV doc pm an cdv ct) ⟨us,[]⟩=pure (ps.zip us)):zbp K fd ps []:=by
 obtain⟨oc,od,kV,doc,pm,an,cdv,ct,osl,rfl,lk,hcd⟩:=F.ex
 exact .all (h kV doc pm an cdv ct)
theorem zku {x qual:Str}{st:Stmt}{f:Addr}{oc:Value}{od an:Option Addr}{osl:Array (Option Value)}{kV doc pm cdv ct:Value}(l:K.lookup f=some ⟨oc,od,.func (PySem.W.fnOf x qual (zdE st) (zcO st) (zaq st) .none kV doc pm an cdv ct),osl⟩)
  (c:PySem.W.codeIn K cdv qual=true)(k:PySem.W.keepIn K (.ref f)=true):Fun K x qual st f (PySem.W.fnOf x qual (zdE st) (zcO st) (zaq st) .none kV doc pm an cdv ct):=⟨⟨oc,od,kV,doc,pm,an,cdv,ct,osl,rfl,l,c⟩,k⟩
end
theorem zm9 {n:Nat}(h:n≤1000):n<sizeLine:=VaZ h (by decide)
section
variable {X:Cx}
theorem pv (i:Nat){x:Str}{pos:Pos}(hN:X.N[i]?=some x:=by rfl)(hv:Vis X.env.scope x:=by first | exact Or.inl rfl | exact Or.inr (Or.inl rfl) | exact Or.inr (Or.inr rfl))(hd:(x==("__debug__":Str))=false:=by decide)
  (hcd:(x==("__classdict__":Str))=false:=by decide):PE X (.Name x pos) (tVar i):=zpQ hN hv hd hcd
end
theorem zbC {A B:Prop}(h:B):if false=true then A else B:=by
 rw[if_neg Val]
 exact h
theorem zcg {A B:Prop}(h:A):if true=true then A else B:=by
 rw[if_pos rfl]
 exact h
theorem zfD {c A B:Prop} [Decidable c] (h1:c→A)(h2:¬ c→B):if c then A else B:=by
 by_cases h:c
 ·rw[if_pos h]
  exact h1 h
 ·rw[if_neg h]
  exact h2 h
def zcx (H H':Hp):Prop:=∀b o,H b=some o→H' b=some o
theorem zcx.refl (H:Hp):zcx H H:=λ_ _ h=>h
theorem zcx.trans {H H1 H2:Hp}(a:zcx H H1)(b:zcx H1 H2):zcx H H2:=λc o h=>b c o (a c o h)
theorem zcx.free {H H':Hp}(e:zcx H H'){l:Addr}(h:H' l=Option.none):H l=Option.none:=by
 cases q:H l with
 | none=>rfl
 | some o=>
  rw[e l o q] at h
  cases h
theorem zcx.seq {K:PySem.W.Frag}{H H':Hp}{a:Addr}{xs:List V}(e:zcx H H')(h:SqL K H a xs):SqL K H' a xs:=by
 rcases h with (h | ⟨o,h⟩) | h
 ·exact .inl (.inl (e _ _ h))
 ·exact .inl (.inr ⟨o,e _ _ h⟩)
 ·exact .inr h
end L2
namespace L2
open PySem PySem.Spec PyProof.Rows
section
variable {κ:Type} [DecidableEq κ]
def zbN (kvs:List (κ×V))(k:κ):Option V:=(kvs.find? λkv=>decide (kv.1=k)).map (·.2)
def putK (kvs:List (κ×V))(k:κ)(v:V):List (κ×V):=
 if (kvs.any λkv=>decide (kv.1=k))=true then kvs.map (λkv=>if kv.1=k then (kv.1,v) else kv) else kvs++[(k,v)]
def zn6 (kvs:List (κ×V))(k:κ):List (κ×V):=kvs.filter λkv=>decide (kv.1≠k)
theorem zkN {p:κ×V}{r:List (κ×V)}{k:κ}(e:p.1=k):zbN (p::r) k=some p.2:=by simp[zbN,VaS,e]
theorem zlB {p:κ×V}{r:List (κ×V)}{k:κ}(e:¬ p.1=k):zbN (p::r) k=zbN r k:=by simp[zbN,VaS,e]
theorem znS (k:κ):∀kvs:List (κ×V),(kvs.any λkv=>decide (kv.1=k))=(zbN kvs k).isSome
 | []=>rfl
 | p::r=>by
  rw[List.any_cons]
  by_cases e:p.1=k
  ·simp only[zkN e,decide_eq_true e,Bool.true_or,Option.isSome_some]
  ·rw[zlB e,decide_eq_false e,Bool.false_or]; exact znS k r
theorem zbv.isSome_eq {o:Option V}{u:Option Value}(r:zbv o u):o.isSome=u.isSome:=by
 cases o with
 | none=>cases u with
  | none=>rfl
  | some _=>exact(show False from r).elim
 | some _=>cases u with
  | none=>exact(show False from r).elim
  | some _=>rfl
theorem zbv.getD {o:Option V}{u:Option Value}{d:V}{d':Value}(r:zbv o u)(rd:zat d d'):zat (o.getD d) (u.getD d'):=by
 cases o with
 | none=>cases u with
  | none=>exact rd
  | some _=>exact(show False from r).elim
 | some _=>cases u with
  | none=>exact(show False from r).elim
  | some _=>exact r
theorem KV.val {kvs:List (κ×V)}{vs:List (κ×Value)}(r:KV kvs vs)(k:κ):zbv (zbN kvs k) (valueAt vs k):=by
 unfold KV at r
 induction r with
 | nil=>exact True.intro
 | @cons p q ps qs h t ih=>
  obtain⟨h1,h2⟩:=h
  by_cases e:p.1=k
  ·have e':q.1=k:=h1.symm.trans e
   have b:valueAt (q::qs) k=some q.2:=by simp[valueAt,VaS,e']
   rw[zkN e,b]; exact h2
  ·have e':¬ q.1=k:=λz=>e (h1.trans z)
   have b:valueAt (q::qs) k=valueAt qs k:=by simp[valueAt,VaS,e']
   rw[zlB e,b]; exact ih
theorem KV.any {kvs:List (κ×V)}{vs:List (κ×Value)}(r:KV kvs vs)(k:κ):(kvs.any λkv=>decide (kv.1=k))=vs.any λkv=>decide (kv.1=k):=by
 unfold KV at r
 induction r with
 | nil=>rfl
 | cons h t ih=>rw[List.any_cons,List.any_cons,ih,h.1]
theorem KV.repl {kvs:List (κ×V)}{vs:List (κ×Value)}(r:KV kvs vs)(k:κ){y:V}{u:Value}(ry:zat y u):
  KV (kvs.map λkv=>if kv.1=k then (kv.1,y) else kv) (vs.map λkv=>if kv.1=k then (kv.1,u) else kv):=by
 unfold KV at r ⊢
 induction r with
 | nil=>exact .nil
 | @cons p q ps qs h t ih=>
  rw[Vau,Vau]
  refine .cons ?_ ih
  obtain⟨h1,h2⟩:=h
  by_cases e:p.1=k
  ·rw[if_pos e,if_pos (h1.symm.trans e)]; exact⟨h1,ry⟩
  ·rw[if_neg e,if_neg (λz=>e (h1.trans z))]; exact⟨h1,h2⟩
theorem KV.put {kvs:List (κ×V)}{vs:List (κ×Value)}(r:KV kvs vs)(k:κ){y:V}{u:Value}(ry:zat y u):KV (putK kvs k y) (stored vs k u):=by
 unfold putK stored
 rw[r.any k]
 by_cases e:(vs.any λkv=>decide (kv.1=k))=true
 ·rw[if_pos e,if_pos e]; exact r.repl k ry
 ·rw[if_neg e,if_neg e]; exact Paired.snoc r ⟨rfl,ry⟩
theorem KV.drop {kvs:List (κ×V)}{vs:List (κ×Value)}(r:KV kvs vs)(k:κ):KV (zn6 kvs k) (without vs k):=by
 unfold KV at r ⊢
 unfold zn6 without
 induction r with
 | nil=>exact .nil
 | @cons p q ps qs h t ih=>
  obtain⟨h1,h2⟩:=h
  rw[List.filter_cons,List.filter_cons]
  by_cases e:p.1=k
  ·have a:¬ decide (p.1≠k)=true:=by simp[e]
   have b:¬ decide (q.1≠k)=true:=by simp[h1.symm.trans e]
   rw[if_neg a,if_neg b]; exact ih
  ·have e':¬ q.1=k:=λz=>e (h1.trans z)
   have a:decide (p.1≠k)=true:=by simp[e]
   have b:decide (q.1≠k)=true:=by simp[e']
   rw[if_pos a,if_pos b]; exact .cons ⟨h1,h2⟩ ih
theorem KV.keys {kvs:List (κ×V)}{vs:List (κ×Value)}(r:KV kvs vs):kvs.map (·.1)=vs.map (·.1):=by
 unfold KV at r
 induction r with
 | nil=>rfl
 | cons h t ih=>rw[Vau,Vau,ih,h.1]
theorem KV.length {kvs:List (κ×V)}{vs:List (κ×Value)}(r:KV kvs vs):kvs.length=vs.length:=Paired.length r
end
abbrev KT (H:Hp):List (List Key×V)→List (List Key×Addr×Value)→Prop:=Paired λp q=>p.1=q.1∧H q.2.1=some (.tup (p.1.map kV))∧zat p.2 q.2.2
theorem KT.val {H:Hp}{kvs:List (List Key×V)}{xs:List (List Key×Addr×Value)}(r:KT H kvs xs)(k:List Key):zbv (zbN kvs k) ((atKey xs k).map (·.2)):=by
 induction r with
 | nil=>exact True.intro
 | @cons p q ps qs h t ih=>
  obtain⟨h1,_,h2⟩:=h
  by_cases e:p.1=k
  ·have e':q.1=k:=h1.symm.trans e
   have b:atKey (q::qs) k=some q.2:=by simp[atKey,VaS,e']
   rw[zkN e,b]; exact h2
  ·have e':¬ q.1=k:=λz=>e (h1.trans z)
   have b:atKey (q::qs) k=atKey qs k:=by simp[atKey,VaS,e']
   rw[zlB e,b]; exact ih
theorem KT.repl {H:Hp}{kvs:List (List Key×V)}{xs:List (List Key×Addr×Value)}(r:KT H kvs xs)(k:List Key){y:V}{u:Value}(ry:zat y u):
  KT H (kvs.map λkv=>if kv.1=k then (kv.1,y) else kv) (xs.map (putAt k u)):=by
 induction r with
 | nil=>exact .nil
 | @cons p q ps qs h t ih=>
  rw[Vau,Vau]
  refine .cons ?_ ih
  obtain⟨h1,h2,h3⟩:=h
  unfold putAt
  by_cases e:p.1=k
  ·rw[if_pos e,if_pos (h1.symm.trans e)]; exact⟨h1,h2,ry⟩
  ·rw[if_neg e,if_neg (λz=>e (h1.trans z))]; exact⟨h1,h2,h3⟩
theorem KT.put {H:Hp}{kvs:List (List Key×V)}{xs:List (List Key×Addr×Value)}(r:KT H kvs xs)(k:List Key){b:Addr}{y:V}{u:Value}(hb:H b=some (.tup (k.map kV)))(ry:zat y u):
  KT H (putK kvs k y) (storedH xs k b u):=by
 have e:(kvs.any λkv=>decide (kv.1=k))=(atKey xs k).isSome:=by
  rw[znS,(r.val k).isSome_eq,Option.isSome_map]
 unfold putK storedH
 rw[e]
 by_cases q:(atKey xs k).isSome=true
 ·rw[if_pos q,if_pos q]; exact r.repl k ry
 ·rw[if_neg q,if_neg q]; exact Paired.snoc r ⟨rfl,hb,ry⟩
theorem KT.keeps {H H':Hp}{kvs:List (List Key×V)}{xs:List (List Key×Addr×Value)}(r:KT H kvs xs)(ht:∀b ys,H b=some (.tup ys)→H' b=some (.tup ys)):KT H' kvs xs:=
 Paired.mapP r λ_ _ z=>⟨z.1,ht _ _ z.2.1,z.2.2⟩
section
variable {P:Program}{w:World}{H:Hp}{h:Heap}{a:Addr}
end
def zl0 (H:Hp)(a:Addr)(y:V)(r:Option V):Prop:=
 (∃kvs k,Rd H a (.dK kvs)∧y=kV k∧r=zbN kvs k)∨∃kvs k b,Rd H a (.dT kvs)∧y=.ref b∧H b=some (.tup (k.map kV))∧r=zbN kvs k
def ziA (H:Hp)(a:Addr)(y v:V)(H':Hp):Prop:=
 (∃kvs k,H a=some (.dK kvs)∧y=kV k∧kvs.length<sizeLine∧H'=upd H a (.dK (putK kvs k v)))∨
 ∃kvs k b,H a=some (.dT kvs)∧y=.ref b∧H b=some (.tup (k.map kV))∧kvs.length<sizeLine∧H'=upd H a (.dT (putK kvs k v))
theorem zl0.k {H:Hp}{a:Addr}{kvs:List (Key×V)}{k:Key}(e:H a=some (.dK kvs)):zl0 H a (kV k) (zbN kvs k):=.inl ⟨kvs,k,.inl e,rfl,rfl⟩
theorem zl0.t {H:Hp}{a b:Addr}{kvs:List (List Key×V)}{k:List Key}(e:H a=some (.dT kvs))(eb:H b=some (.tup (k.map kV))):zl0 H a (.ref b) (zbN kvs k):=.inr ⟨kvs,k,b,.inl e,rfl,eb,rfl⟩
theorem ziA.k {H:Hp}{a:Addr}{kvs:List (Key×V)}{k:Key}{v:V}(e:H a=some (.dK kvs))(hl:kvs.length<sizeLine):ziA H a (kV k) v (upd H a (.dK (putK kvs k v))):=.inl ⟨kvs,k,e,rfl,hl,rfl⟩
theorem ziA.t {H:Hp}{a b:Addr}{kvs:List (List Key×V)}{k:List Key}{v:V}(e:H a=some (.dT kvs))(eb:H b=some (.tup (k.map kV)))(hl:kvs.length<sizeLine):
  ziA H a (.ref b) v (upd H a (.dT (putK kvs k v))):=.inr ⟨kvs,k,b,e,rfl,eb,hl,rfl⟩
section
variable {X:Cx}{pins:List (Addr×Obj)}{σ:St}{H:Hp}{s:Shared}{a:Addr}{y v:V}{u r:Value}{o:Option V}{A:Around}{E:Value→Shared→Prop}
theorem Inv.big (I:Inv X pins σ H s):sysModules<s.heap.objs.size:=by
 have h:mainGlobals<s.heap.objs.size:=(I.mod.glob.keeps I.bk).lt
 exact Nat.lt_trans (by decide) h
end
section
variable {X:Cx}{pins:List (Addr×Obj)}{σ:St}{H:Hp}{s:Shared}{a:Addr}{kvs:List (Key×V)}{k:Key}{u:Value}{A:Around}{E:Value→Shared→Prop}
end
section
variable {X:Cx}{o i e value:Expr}{pos pos' tpos:Pos}{td ty tv:TE}
end
section
variable {X:Cx}{pos:Pos}
end
structure M1 (X:Cx)(o:Expr)(m:Str)(apos:Pos)(e:Expr)(cpos:Pos):Prop where
 base:attributeBase o m X.env (eval o X.env)=eval o X.env
 few:((backTo cpos (starEach [e] X.env)).all (λx=>!x.1)&&(backToKw cpos (keywordEach [] X.env)).all (λx=>x.1.isSome)
 &&decide (([e]:List Expr).length+([]:List Keyword).length+(if ([]:List Keyword).isEmpty then 0 else 1)<30))=true
 line:(apos.endLine==cpos.line)=true
 trees:backTo cpos (starEach [e] X.env)=[(false,eval e X.env)]
structure M2 (X:Cx)(o:Expr)(m:Str)(apos:Pos)(e f:Expr)(cpos:Pos):Prop where
 base:attributeBase o m X.env (eval o X.env)=eval o X.env
 few:((backTo cpos (starEach [e,f] X.env)).all (λx=>!x.1)&&(backToKw cpos (keywordEach [] X.env)).all (λx=>x.1.isSome)
 &&decide (([e,f]:List Expr).length+([]:List Keyword).length+(if ([]:List Keyword).isEmpty then 0 else 1)<30))=true
 line:(apos.endLine==cpos.line)=true
 trees:backTo cpos (starEach [e,f] X.env)=[(false,eval e X.env),(false,eval f X.env)]
section
variable {X:Cx}{pins:List (Addr×Obj)}{σ:St}{H:Hp}{s:Shared}{a:Addr}{y d:V}{u r:Value}{o:Option V}{A:Around}{E:Value→Shared→Prop}
end
section
variable {X:Cx}{o e f:Expr}{apos cpos:Pos}{td ty tx:TE}
end
section
variable {X:Cx}{pins:List (Addr×Obj)}{σ:St}{H:Hp}{s:Shared}{a:Addr}{kvs:List (Key×V)}{A:Around}{E:Value→Shared→Prop}
end
section
variable {X:Cx}{pins:List (Addr×Obj)}{σ:St}{H:Hp}{s:Shared}{a:Addr}{y:V}{u:Value}{A:Around}{E:Value→Shared→Prop}
end
end L2
namespace L3
open PySem PySem.Spec PyProof.Rows L2
abbrev St:=L2.St
inductive D where
 | non | bl (b:Bool) | int (i:Int) | str (x:Str) | tup (xs:List D) | ref (n:Nat) | exc (c:Addr)
inductive Ob where
 | lst (xs:List D) | frz (xs:List D)
  | ins (C:Addr) (fs:List (Str×D))
  | dct (kvs:List (List Key×D))
abbrev Sto:=List Ob
abbrev Ev:=List (Option D)
abbrev DK:=D→Sto→Prop
abbrev TDE:=Ev→Sto→DK→Prop
abbrev TDT:=Ev→Sto→(Bool→Sto→Prop)→Prop
abbrev TDA:=Ev→Sto→(List D→Sto→Prop)→Prop
structure zcP where
 nx:Ev→Sto→Prop
 rt:DK
 bk:Ev→Sto→Prop:=λ_ _=>False
 ct:Ev→Sto→Prop:=λ_ _=>False
abbrev TDS:=zcP→Ev→Sto→Prop
def isX (a c:Addr):HO:=.ext λh=>∃o,h.get? a=some o∧o.cls=.ref c
inductive Rp (r:List Addr)(H:Hp):D→V→Prop
 | non:Rp r H .non .non
 | bl (b:Bool):Rp r H (.bl b) (.bl b)
 | int (i:Int):Rp r H (.int i) (.int i)
 | str (x:Str):Rp r H (.str x) (.str x)
 | tup {ds:List D} {xs:List V} {a:Addr}:H a=some (.tup xs)→ds.length=xs.length→(∀(i:Nat) (d:D) (v:V),ds[i]?=some d→xs[i]?=some v→Rp r H d v)→Rp r H (.tup ds) (.ref a)
 | ref {n:Nat} {a:Addr}:r[n]?=some a→Rp r H (.ref n) (.ref a)
 | exc {c a:Addr}:H a=some (isX a c)→Rp r H (.exc c) (.ref a)
def Rps (r:List Addr)(H:Hp)(ds:List D)(vs:List V):Prop:=ds.length=vs.length∧∀(i:Nat) (d:D) (v:V),ds[i]?=some d→vs[i]?=some v→Rp r H d v
structure Ext (r r':List Addr)(H H':Hp):Prop where
 adr:∀(n:Nat) (a:Addr),r[n]?=some a→r'[n]?=some a
 tup:∀a xs,H a=some (.tup xs)→H' a=some (.tup xs)
 xc:∀a c,H a=some (isX a c)→H' a=some (isX a c)
section
variable {r r' r2:List Addr}{H H' H2:Hp}{d:D}{v:V}{ds:List D}{vs:List V}
theorem Ext.refl:Ext r r H H:=⟨λ_ _ h=>h,λ_ _ h=>h,λ_ _ h=>h⟩
theorem Ext.trans (a:Ext r r' H H')(b:Ext r' r2 H' H2):Ext r r2 H H2:=⟨λn x h=>b.adr n x (a.adr n x h),λx y h=>b.tup x y (a.tup x y h),λx y h=>b.xc x y (a.xc x y h)⟩
theorem Rp.ext (h:Rp r H d v)(e:Ext r r' H H'):Rp r' H' d v:=by
 induction h with
 | non=>exact .non
 | bl b=>exact .bl b
 | int i=>exact .int i
 | str x=>exact .str x
 | tup h l _ ih=>exact .tup (e.tup _ _ h) l ih
 | ref h=>exact .ref (e.adr _ _ h)
 | exc h=>exact .exc (e.xc _ _ h)
theorem Rps.ext (h:Rps r H ds vs)(e:Ext r r' H H'):Rps r' H' ds vs:=⟨h.1,λi d v h1 h2=>(h.2 i d v h1 h2).ext e⟩
theorem Rps.nil:Rps r H [] []:=⟨rfl,λi d v h=>by simp at h⟩
theorem Rps.cons (h:Rp r H d v)(t:Rps r H ds vs):Rps r H (d::ds) (v::vs):=by
 refine⟨by simp[t.1],λi x y h1 h2=>?_⟩
 cases i with
 | zero=>
  simp at h1 h2
  subst h1; subst h2
  exact h
 | succ i=>exact t.2 i x y (by simpa using h1) (by simpa using h2)
theorem Rps.tail {y:V}(h:Rps r H (d::ds) (y::vs)):Rp r H d y∧Rps r H ds vs:=
 ⟨h.2 0 d y rfl rfl,by simpa using h.1,λi a b h1 h2=>h.2 (i+1) a b (by simpa using h1) (by simpa using h2)⟩
theorem Rps.uncons (h:Rps r H (d::ds) vs):∃v vs',vs=v::vs'∧Rp r H d v∧Rps r H ds vs':=by
 cases vs with
 | nil=>exact absurd h.1 (by simp)
 | cons v vs'=>exact⟨v,vs',rfl,h.tail⟩
theorem Rps.unnil (h:Rps r H [] vs):vs=[]:=by
 cases vs with
 | nil=>rfl
 | cons v vs'=>exact absurd h.1 (by simp)
theorem Rps.get {i:Nat}(h:Rps r H ds vs)(e:ds[i]?=some d):∃v,vs[i]?=some v∧Rp r H d v:=by
 have hi:i<ds.length:=(Vab.mp e).1
 have hv:i<vs.length:=by rw[← h.1]; exact hi
 exact⟨vs[i],by simp[hv],h.2 i d vs[i] e (by simp[hv])⟩
theorem Rps.get' {i:Nat}(h:Rps r H ds vs)(e:vs[i]?=some v):∃d,ds[i]?=some d∧Rp r H d v:=by
 have hv:i<vs.length:=(Vab.mp e).1
 have hi:i<ds.length:=by rw[h.1]; exact hv
 exact⟨ds[i],by simp[hi],h.2 i ds[i] v (by simp[hi]) e⟩
theorem Rps.snoc (h:Rps r H ds vs)(t:Rp r H d v):Rps r H (ds++[d]) (vs++[v]):=by
 refine⟨by simp[h.1],λi x y h1 h2=>?_⟩
 by_cases hi:i<ds.length
 ·rw[Vao hi] at h1
  rw[Vao (by rw[← h.1]; exact hi)] at h2
  exact h.2 i x y h1 h2
 ·have hl:i<(ds++[d]).length:=(Vab.mp h1).1
  have e:i=ds.length:=by simp at hl; omega
  subst e
  rw[VaK (Vaa _)] at h1
  rw[h.1,VaK (Vaa _)] at h2
  simp at h1 h2
  subst h1; subst h2
  exact t
theorem Rps.tupR {a:Addr}(h:Rps r H ds vs)(e:H a=some (.tup vs)):Rp r H (.tup ds) (.ref a):=.tup e h.1 h.2
theorem Rp.untup {vs:V}(h:Rp r H (.tup ds) vs):∃a xs,vs=.ref a∧H a=some (.tup xs)∧Rps r H ds xs:=by
 cases h with
 | tup e l f=>exact⟨_,_,rfl,e,l,f⟩
end
def SqF (K:PySem.W.Frag)(H:Hp)(a:Addr)(xs:List V):Prop:=
 (∃o,H a=some (.frz o (.lst xs)))∨
  ∃(o:Obj) (its:Array Value) (n:Nat),K.lookup a=some o∧o.cls=.type "list"∧o.dict=none∧o.data=.seq its n∧its.size≤sizeLine∧zax xs its.toList
theorem SqF.sql {K:PySem.W.Frag}{H:Hp}{a:Addr}{xs:List V}(h:SqF K H a xs):SqL K H a xs:=by
 rcases h with ⟨o,h⟩ | h
 ·exact .inl (.inr ⟨o,h⟩)
 ·exact .inr h
def FR {α:Type}(r:List Addr)(H:Hp)(fs:List (α×D))(fs':List (α×V)):Prop:=fs.map (·.1)=fs'.map (·.1)∧Rps r H (fs.map (·.2)) (fs'.map (·.2))
theorem FR.ext {α:Type}{r r':List Addr}{H H':Hp}{fs:List (α×D)}{fs':List (α×V)}(h:FR r H fs fs')(e:Ext r r' H H'):FR r' H' fs fs':=⟨h.1,h.2.ext e⟩
theorem FR.nil {α:Type}{r:List Addr}{H:Hp}:FR (α:=α) r H [] []:=⟨rfl,Rps.nil⟩
def ObR (K:PySem.W.Frag)(r:List Addr)(H:Hp)(a:Addr):Ob→Prop
 | .lst ds=>∃xs,H a=some (.lst xs)∧Rps r H ds xs
 | .frz ds=>∃xs,SqF K H a xs∧Rps r H ds xs
 | .ins C fs=>∃dx fs',H a=some (.ins C dx fs')∧FR r H fs fs'
 | .dct kvs=>∃kvs',H a=some (.dT kvs')∧FR r H kvs kvs'
def zde:Ob→Bool
 | .frz _=>false
 | _=>true
structure zaW (K:PySem.W.Frag)(r:List Addr)(S:Sto)(H:Hp):Prop where
 len:r.length=S.length
 ob:∀(n:Nat) (a:Addr) (o:Ob),r[n]?=some a→S[n]?=some o→ObR K r H a o
 nd:∀(n m:Nat) (a:Addr) (o u:Ob),r[n]?=some a→r[m]?=some a→S[n]?=some o→S[m]?=some u→zde o=true→zde u=true→n=m
def zas:Ob→List D
 | .lst ds=>ds
 | .frz ds=>ds
 | _=>[.exc 0]
def zbR:Ob→Option Ob
 | .lst ds=>some (.lst ds)
 | .frz ds=>some (.frz ds)
 | _=>none
def lAt (S:Sto)(n:Nat):Option Ob:=(S[n]?).bind zbR
theorem zuq {o u:Ob}(h:zbR o=some u):u=o:=by
 cases o <;> simp[zbR] at h <;> exact h.symm
theorem zbu {S:Sto}{n:Nat}{o:Ob}(h:lAt S n=some o):S[n]?=some o∧zbR o=some o:=by
  unfold lAt at h
  cases q:S[n]? with
  | none=>
   rw[q] at h
   cases h
  | some u=>
    rw[q] at h
    have h':zbR u=some o:=h
    have e:=zuq h'
    subst e
    exact⟨rfl,h'⟩
theorem za4 {S:Sto}{n:Nat}{o:Ob}(h:S[n]?=some o)(hL:zbR o=some o):lAt S n=some o:=by
 unfold lAt
 rw[h]
 exact hL
section
variable {K:PySem.W.Frag}{r r':List Addr}{S:Sto}{H H':Hp}{n:Nat}{a p:Addr}
theorem zaW.at {o:Ob}(h:zaW K r S H)(e:S[n]?=some o):∃a,r[n]?=some a∧ObR K r H a o:=by
 have hn:n<S.length:=(Vab.mp e).1
 have hr:n<r.length:=by rw[h.len]; exact hn
 exact⟨r[n],by simp[hr],h.ob n r[n] o (by simp[hr]) e⟩
theorem ObR.list {o:Ob}(h:ObR K r H a o)(hL:zbR o=some o):∃xs,SqL K H a xs∧Rps r H (zas o) xs:=by
 cases o with
 | lst ds=>obtain⟨xs,e,q⟩:=h; exact⟨xs,SqL.of e,q⟩
 | frz ds=>obtain⟨xs,e,q⟩:=h; exact⟨xs,e.sql,q⟩
 | ins C fs=>cases hL
 | dct kvs=>cases hL
theorem ObR.keep {o:Ob}(q:ObR K r H a o)(x:Ext r r' H H')(ha:∀u,H a=some u→H' a=some u):ObR K r' H' a o:=by
 cases o with
 | lst ds=>obtain⟨xs,h3,h4⟩:=q; exact⟨xs,ha _ h3,h4.ext x⟩
 | frz ds=>
  obtain⟨xs,h3,h4⟩:=q
  refine⟨xs,?_,h4.ext x⟩
  rcases h3 with ⟨o,h3⟩ | h3
  ·exact .inl ⟨o,ha _ h3⟩
  ·exact .inr h3
 | ins C fs=>obtain⟨dx,fs',h3,h4⟩:=q; exact⟨dx,fs',ha _ h3,h4.ext x⟩
 | dct kvs=>obtain⟨ks,h3,h4⟩:=q; exact⟨ks,ha _ h3,h4.ext x⟩
theorem ObR.own {o:Ob}(q:ObR K r H a o)(h:zde o=true):∃u,H a=some u∧(∀xs,u≠HO.tup xs)∧(∀b c,u≠isX b c)∧∀z y,u≠HO.frz z y:=by
 cases o with
 | lst ds=>obtain⟨xs,h3,h4⟩:=q; exact⟨_,h3,(λ_ z=>by cases z),(λ_ _ z=>by cases z),(λ_ _ z=>by cases z)⟩
 | frz ds=>cases h
 | ins C fs=>obtain⟨dx,fs',h3,h4⟩:=q; exact⟨_,h3,(λ_ z=>by cases z),(λ_ _ z=>by cases z),(λ_ _ z=>by cases z)⟩
 | dct kvs=>obtain⟨ks,h3,h4⟩:=q; exact⟨_,h3,(λ_ z=>by cases z),(λ_ _ z=>by cases z),(λ_ _ z=>by cases z)⟩
theorem zaW.same (h:zaW K r S H)(e:∀b o,H b=some o→H' b=some o):zaW K r S H':=
 ⟨h.len,λn a o h1 h2=>(h.ob n a o h1 h2).keep ⟨λ_ _ q=>q,λa xs q=>e _ _ q,λa c q=>e _ _ q⟩ (e a),h.nd⟩
theorem zdk {o:HO}(h:H p=none):∀b u,H b=some u→(upd H p o) b=some u:=λb u q=>by rw[za2 (zc0 q h)]; exact q
theorem zi6 {n:Nat}{b:Addr}(e:(r++[p])[n]?=some b):(n<r.length∧r[n]?=some b)∨(n=r.length∧b=p):=by
 by_cases hn:n<r.length
 ·rw[Vao hn] at e; exact .inl ⟨hn,e⟩
 ·have hl:n<(r++[p]).length:=(Vab.mp e).1
  have en:n=r.length:=by simp at hl; omega
  subst en
  rw[VaK (Vaa _)] at e
  simp at e
  exact .inr ⟨rfl,e.symm⟩
theorem zaW.pushO {o:Ob}(h:zaW K r S H)(hp:H p=none)(keep:∀b u,H b=some u→H' b=some u)(q:Ext r (r++[p]) H H'→ObR K (r++[p]) H' p o):zaW K (r++[p]) (S++[o]) H'∧Ext r (r++[p]) H H':=by
 have x:Ext r (r++[p]) H H':=⟨λn a e=>by
  have hn:n<r.length:=(Vab.mp e).1
  rw[Vao hn]; exact e,λa ys e=>keep _ _ e,λa c e=>keep _ _ e⟩
 have sS:∀ {n:Nat} {u:Ob},n<r.length→(S++[o])[n]?=some u→S[n]?=some u:=λ{n u} hn e=>by
  rw[Vao (by rw[← h.len]; exact hn)] at e; exact e
 refine⟨⟨by simp[h.len],λn a u h1 h2=>?_,λn m a u w h1 h2 h3 h4 o1 o2=>?_⟩,x⟩
 ·rcases zi6 h1 with ⟨hn,e⟩ | ⟨rfl,rfl⟩
  ·exact(h.ob n a u e (sS hn h2)).keep x (keep a)
  ·rw[h.len,VaK (Vaa _)] at h2
   simp at h2
   subst h2
   exact q x
 ·rcases zi6 h1 with ⟨hn,e⟩ | ⟨rfl,rfl⟩
  ·rcases zi6 h2 with ⟨hm,e'⟩ | ⟨rfl,rfl⟩
   ·exact h.nd n m a u w e e' (sS hn h3) (sS hm h4) o1 o2
   ·obtain⟨zs,h5,_⟩:=(h.ob n _ _ e (sS hn h3)).own o1
    rw[hp] at h5; cases h5
  ·rcases zi6 h2 with ⟨hm,e'⟩ | ⟨rfl,_⟩
   ·obtain⟨zs,h5,_⟩:=(h.ob m _ _ e' (sS hm h4)).own o2
    rw[hp] at h5; cases h5
   ·rfl
theorem zaW.push {ds:List D}{xs:List V}(h:zaW K r S H)(hp:H p=none)(q:Rps r H ds xs):zaW K (r++[p]) (S++[.lst ds]) (upd H p (.lst xs))∧Ext r (r++[p]) H (upd H p (.lst xs)):=
 h.pushO hp (zdk hp) λx=>⟨xs,zcv,q.ext x⟩
theorem zaW.setO {o o':Ob}{u:HO}(h:zaW K r S H)(hn:r[n]?=some a)(hS:S[n]?=some o)(ho:zde o=true)(ho':zde o'=true)(q:Ext r r H (upd H a u)→ObR K r (upd H a u) a o'):zaW K r (S.set n o') (upd H a u)∧Ext r r H (upd H a u):=by
 obtain⟨u0,h0,t1,t2,t3⟩:=(h.ob n a _ hn hS).own ho
 have x:Ext r r H (upd H a u):=⟨λ_ _ e=>e,λb zs e=>by
  rw[za2 (zmM e h0 (λz=>t1 zs z.symm))]; exact e,λb c e=>by
  rw[za2 (zmM e h0 (λz=>t2 b c z.symm))]; exact e⟩
 have hlt:n<S.length:=(Vab.mp hS).1
 have off:∀ {m:Nat} {w:Ob},m≠n→(S.set n o')[m]?=some w→S[m]?=some w:=λ{m w} hm e=>by
  rw[VaR (Ne.symm hm)] at e; exact e
 refine⟨⟨by simp[h.len],λm b w h1 h2=>?_,λm k b w y h1 h2 h3 h4 o1 o2=>?_⟩,x⟩
 ·by_cases hm:m=n
  ·subst hm
   rw[hn] at h1; cases h1
   rw[VaY hlt] at h2
   cases h2
   exact q x
  ·have h2':=off hm h2
   have q':=h.ob m b w h1 h2'
   by_cases hw:zde w=true
   ·have hb:b≠a:=λz=>hm (by subst z; exact h.nd m n b w o h1 hn h2' hS hw ho)
    exact q'.keep x λz e=>by rw[za2 hb]; exact e
   ·cases w with
    | frz es=>
     obtain⟨zs,h3,h4⟩:=q'
     refine⟨zs,?_,h4.ext x⟩
     rcases h3 with ⟨z,h3⟩ | h3
     ·exact .inl ⟨z,by rw[za2 (zmM h3 h0 (λy=>t3 _ _ y.symm))]; exact h3⟩
     ·exact .inr h3
    | _=>exact absurd rfl hw
 ·have back:∀ {j:Nat} {w:Ob},(S.set n o')[j]?=some w→zde w=true→∃y,S[j]?=some y∧zde y=true:=λ{j w} e ow=>by
   by_cases hj:j=n
   ·subst hj; exact⟨o,hS,ho⟩
   ·exact⟨w,off hj e,ow⟩
  obtain⟨us',h3',q3⟩:=back h3 o1
  obtain⟨ws',h4',q4⟩:=back h4 o2
  exact h.nd m k b us' ws' h1 h2 h3' h4' q3 q4
theorem zaW.set {ds ds':List D}{xs:List V}(h:zaW K r S H)(hn:r[n]?=some a)(hS:S[n]?=some (.lst ds))(q:Rps r H ds' xs):zaW K r (S.set n (.lst ds')) (upd H a (.lst xs))∧Ext r r H (upd H a (.lst xs)):=
 h.setO hn hS rfl rfl λx=>⟨xs,zcv,q.ext x⟩
end
def Rs (r:List Addr)(H:Hp)(dl:Ev)(σ:St):Prop:=dl.length=σ.length∧∀(i:Nat) (d:D),dl[i]?=some (some d)→∃v,σ[i]?=some (some v)∧Rp r H d v
theorem Rs.ext {r r':List Addr}{H H':Hp}{dl:Ev}{σ:St}(h:Rs r H dl σ)(e:Ext r r' H H'):Rs r' H' dl σ:=⟨h.1,λi d q=>by
 obtain⟨v,h1,h2⟩:=h.2 i d q
 exact⟨v,h1,h2.ext e⟩⟩
theorem Rs.set {r:List Addr}{H:Hp}{dl:Ev}{σ:St}{d:D}{v:V}(i:Nat)(h:Rs r H dl σ)(q:Rp r H d v):Rs r H (dl.set i (some d)) (σ.set i (some v)):=by
 refine⟨by simp[h.1],λj e hj=>?_⟩
 by_cases hij:i=j
 ·subst hij
  have hl:i<dl.length:=by
   have:=(Vab.mp hj).1
   simpa using this
  rw[VaY hl] at hj
  cases hj
  exact⟨v,by rw[VaY (by rw[← h.1]; exact hl)],q⟩
 ·rw[VaR hij] at hj
  obtain⟨v',h1,h2⟩:=h.2 j e hj
  exact⟨v',by rw[VaR hij]; exact h1,h2⟩
structure Zx where
 ex:Ev→Addr→Sto→Prop
 w:St→XK
abbrev Zc (ex:Addr→Sto→Prop)(E:XK):Zx:=⟨λ_=>ex,λ_=>E⟩
def zdJ (K:PySem.W.Frag)(Z:Zx)(r:List Addr)(H:Hp):Prop:=∀(dl:Ev) (σ:St) (c:Addr) (H':Hp) (r':List Addr) (S':Sto),Ext r r' H H'→Rs r' H' dl σ→zaW K r' S' H'→Z.ex dl c S'→Z.w σ (.ref c) none H'
theorem zdJ.ext {K:PySem.W.Frag}{Z:Zx}{r r':List Addr}{H H':Hp}(h:zdJ K Z r H)(e:Ext r r' H H'):zdJ K Z r' H':=λdl σ c H2 r2 S2 x=>h dl σ c H2 r2 S2 (e.trans x)
structure Rel (K:PySem.W.Frag)(Z:Zx)(r:List Addr)(S:Sto)(H:Hp):Prop where
 b:zaW K r S H
 xw:zdJ K Z r H
section
variable {K:PySem.W.Frag}{Z:Zx}{r r':List Addr}{S:Sto}{H H':Hp}{n:Nat}{a p:Addr}
theorem Rel.len (h:Rel K Z r S H):r.length=S.length:=h.b.len
theorem Rel.at {o:Ob}(h:Rel K Z r S H)(e:S[n]?=some o):∃a,r[n]?=some a∧ObR K r H a o:=h.b.at e
theorem Rel.same (h:Rel K Z r S H)(e:∀b o,H b=some o→H' b=some o):Rel K Z r S H':=⟨h.b.same e,h.xw.ext ⟨λ_ _ q=>q,λa xs q=>e _ _ q,λa c q=>e _ _ q⟩⟩
theorem Rel.push {ds:List D}{xs:List V}(h:Rel K Z r S H)(hp:H p=none)(q:Rps r H ds xs):Rel K Z (r++[p]) (S++[.lst ds]) (upd H p (.lst xs))∧Ext r (r++[p]) H (upd H p (.lst xs)):=by
 obtain⟨h1,h2⟩:=h.b.push hp q
 exact⟨⟨h1,h.xw.ext h2⟩,h2⟩
theorem Rel.set {ds ds':List D}{xs:List V}(h:Rel K Z r S H)(hn:r[n]?=some a)(hS:S[n]?=some (.lst ds))(q:Rps r H ds' xs):Rel K Z r (S.set n (.lst ds')) (upd H a (.lst xs))∧Ext r r H (upd H a (.lst xs)):=by
 obtain⟨h1,h2⟩:=h.b.set hn hS q
 exact⟨⟨h1,h.xw.ext h2⟩,h2⟩
end
def Ret (K:PySem.W.Frag)(Z:Zx)(r:List Addr)(H:Hp)(Q:DK)(Qv:VK):Prop:=∀v H' r' d S',Ext r r' H H'→Rel K Z r' S' H'→Rp r' H' d v→Q d S'→Qv v H'
theorem Ret.ext {K:PySem.W.Frag}{Z:Zx}{r r':List Addr}{H H':Hp}{Q:DK}{Qv:VK}(h:Ret K Z r H Q Qv)(e:Ext r r' H H'):Ret K Z r' H' Q Qv:=λv H2 r2 d S2 x=>h v H2 r2 d S2 (e.trans x)
def up (K:PySem.W.Frag)(Z:Zx)(t:TDE):TE:=λσ H Qv=>∃r dl S Q,Rs r H dl σ∧Rel K Z r S H∧t dl S Q∧Ret K Z r H Q Qv
def upT (K:PySem.W.Frag)(Z:Zx)(t:TDT):TT:=λσ H Qb=>∃r dl S Q,Rs r H dl σ∧Rel K Z r S H∧t dl S Q∧∀b H' r' S',Ext r r' H H'→Rel K Z r' S' H'→Q b S'→Qb b H'
def upA (K:PySem.W.Frag)(Z:Zx)(t:TDA):TA:=λσ H Qv=>∃r dl S Q,Rs r H dl σ∧Rel K Z r S H∧t dl S Q∧∀vs H' r' ds S',Ext r r' H H'→Rel K Z r' S' H'→Rps r' H' ds vs→Q ds S'→Qv vs H'
structure zim (K:PySem.W.Frag)(Z:Zx)(r:List Addr)(H:Hp)(E:zcP)(F:zcV):Prop where
 nx:∀σ' H' r' dl' S',Ext r r' H H'→Rs r' H' dl' σ'→Rel K Z r' S' H'→E.nx dl' S'→F.nx σ' H'
 bk:∀σ' H' r' dl' S',Ext r r' H H'→Rs r' H' dl' σ'→Rel K Z r' S' H'→E.bk dl' S'→F.bk σ' H'
 ct:∀σ' H' r' dl' S',Ext r r' H H'→Rs r' H' dl' σ'→Rel K Z r' S' H'→E.ct dl' S'→F.ct σ' H'
 rt:Ret K Z r H E.rt F.rt
theorem zim.ext {K:PySem.W.Frag}{Z:Zx}{r r':List Addr}{H H':Hp}{E:zcP}{F:zcV}(h:zim K Z r H E F)(e:Ext r r' H H'):zim K Z r' H' E F:=
 ⟨λa b c d f x=>h.nx a b c d f (e.trans x),λa b c d f x=>h.bk a b c d f (e.trans x),λa b c d f x=>h.ct a b c d f (e.trans x),h.rt.ext e⟩
def upS (K:PySem.W.Frag)(Z:Zx)(t:TDS):TS:=λF σ H=>∃r dl S E,Rs r H dl σ∧Rel K Z r S H∧t E dl S∧zim K Z r H E F
def PD (X:Cx)(Z:Zx)(e:Expr)(t:TDE):Prop:=PE X e (up X.K Z t)
def PDT (X:Cx)(Z:Zx)(e:Expr)(t:TDT):Prop:=PT X e (upT X.K Z t)
def PDW (X:Cx)(Z:Zx)(e:Expr)(t:TDT):Prop:=PW X e (upT X.K Z t)
def PDA (X:Cx)(Z:Zx)(es:List Expr)(t:TDA):Prop:=PA X es (upA X.K Z t)
def PDS (X:Cx)(Z:Zx)(st:Stmt)(t:TDS):Prop:=PS X st (upS X.K Z t)
def zb3 (X:Cx)(Z:Zx)(st:List Stmt)(t:TDS):Prop:=PSs X st (upS X.K Z t)
section
variable {X:Cx}{Z:Zx}
theorem za6 {e:Expr}{t t':TE}(h:PE X e t)(f:∀σ H Q,t' σ H Q→t σ H Q):PE X e t':=λpins s σ H Q I q=>h pins s σ H Q I (f σ H Q q)
theorem zhQ {e:Expr}{t t':TT}(h:PT X e t)(f:∀σ H Q,t' σ H Q→t σ H Q):PT X e t':=λpins s σ H Q I q=>h pins s σ H Q I (f σ H Q q)
theorem zpM {e:Expr}{t t':TT}(h:PW X e t)(f:∀σ H Q,t' σ H Q→t σ H Q):PW X e t':=λwh pins s σ H Q I q=>h wh pins s σ H Q I (f σ H Q q)
theorem zpO {e:List Expr}{t t':TA}(h:PA X e t)(f:∀σ H Q,t' σ H Q→t σ H Q):PA X e t':=λpos pins s σ H Q I q=>h pos pins s σ H Q I (f σ H Q q)
theorem zbM {e:Stmt}{t t':TS}(h:PS X e t)(f:∀F σ H,t' F σ H→t F σ H):PS X e t':=λpins s σ H F I q=>h pins s σ H F I (f F σ H q)
theorem zoZ {e:List Stmt}{t t':TS}(h:PSs X e t)(f:∀F σ H,t' F σ H→t F σ H):PSs X e t':=λpins s σ H F I q=>h pins s σ H F I (f F σ H q)
theorem PDW.pt {e:Expr}{t:TDT}(h:PDW X Z e t):PDT X Z e t:=PW.pt h
def zjn (i:Nat):TDE:=λdl S Q=>match dl[i]? with
 | some (some d)=>Q d S
 | _=>False
def dC (d:D):TDE:=λ_ S Q=>Q d S
theorem zrz {e:Expr}{i:Nat}(h:PE X e (tVar i)):PD X Z e (zjn i):=za6 h λσ H Qv ⟨r,dl,S,Q,rs,rel,q,ret⟩=>by
 unfold zjn at q
 split at q
 ·rename_i d e
  obtain⟨v,h1,h2⟩:=rs.2 i d e
  exact⟨v,h1,ret v H r d S Ext.refl rel h2 q⟩
 ·exact q.elim
theorem dv (i:Nat){x:Str}{pos:Pos}(hN:X.N[i]?=some x:=by rfl)(hv:Vis X.env.scope x:=by first | exact Or.inl rfl | exact Or.inr (Or.inl rfl) | exact Or.inr (Or.inr rfl))(hd:(x==("__debug__":Str))=false:=by decide)
  (hcd:(x==("__classdict__":Str))=false:=by decide):PD X Z (.Name x pos) (zjn i):=zrz (zpQ hN hv hd hcd)
theorem zjZ {e:Expr}{d:D}{v:V}(h:PE X e (tC v))(q:∀r H,Rp r H d v):PD X Z e (dC d):=za6 h λσ H Qv ⟨r,dl,S,Q,rs,rel,h,ret⟩=>ret v H r d S Ext.refl rel (q r H) h
theorem zab {i j pos}:PD X Z (.Constant (.int i) j pos) (dC (.int i)):=zjZ zva λ_ _=>.int i
theorem zcD {b j pos}:PD X Z (.Constant (.bool b) j pos) (dC (.bl b)):=zjZ pe_bl λ_ _=>.bl b
theorem zaY {j pos}:PD X Z (.Constant .none j pos) (dC .non):=zjZ zvm λ_ _=>.non
theorem zaL {x j pos}:PD X Z (.Constant (.str x) j pos) (dC (.str x)):=zjZ zwf λ_ _=>.str x
abbrev W2:=D→D→Sto→DK→Prop
abbrev W1:=D→Sto→DK→Prop
def upO (K:PySem.W.Frag)(Z:Zx)(w:W2):R2:=λx y H Qv=>∃r S dx dy Q,Rel K Z r S H∧Rp r H dx x∧Rp r H dy y∧w dx dy S Q∧Ret K Z r H Q Qv
def upU (K:PySem.W.Frag)(Z:Zx)(w:W1):V→Hp→VK→Prop:=λx H Qv=>∃r S dx Q,Rel K Z r S H∧Rp r H dx x∧w dx S Q∧Ret K Z r H Q Qv
def dOp (w:W2)(ta tb:TDE):TDE:=λdl S Q=>ta dl S λx S1=>tb dl S1 λy S2=>w x y S2 Q
def dUn (w:W1)(ta:TDE):TDE:=λdl S Q=>ta dl S λx S1=>w x S1 Q
variable {a b c:Expr}{ta tb tc:TDE}{pos:Pos}
theorem zhD {w:W2}{σ:St}{H:Hp}{Qv:VK}(h:up X.K Z (dOp w ta tb) σ H Qv):tOp (upO X.K Z w) (up X.K Z ta) (up X.K Z tb) σ H Qv:=by
 obtain⟨r,dl,S,Q,rs,rel,h,ret⟩:=h
 exact⟨r,dl,S,_,rs,rel,h,λv H1 r1 dx S1 e1 rel1 p1 h1=>⟨r1,dl,S1,_,rs.ext e1,rel1,h1,λv2 H2 r2 dy S2 e2 rel2 p2 h2=>⟨r2,S2,dx,dy,Q,rel2,p1.ext e2,p2,h2,ret.ext (e1.trans e2)⟩⟩⟩
theorem zaf {op:Operator}{w:W2}(ho:OpR X (binaryOp op) (upO X.K Z w))(ha:PD X Z a ta)(hb:PD X Z b tb):PD X Z (.BinOp a op b pos) (dOp w ta tb):=za6 (pe_op ho ha hb) λ_ _ _ h=>zhD h
theorem zcr {op:UnaryOp}{w:W1}(ho:UnR X (unaryOp op) (upU X.K Z w))(ha:PD X Z a ta):PD X Z (.UnaryOp op a pos) (dUn w ta):=za6 (pe_un ho ha) λσ H Qv ⟨r,dl,S,Q,rs,rel,h,ret⟩=>
 ⟨r,dl,S,_,rs,rel,h,λv H1 r1 dx S1 e1 rel1 p1 h1=>⟨r1,S1,dx,Q,rel1,p1,h1,ret.ext e1⟩⟩
theorem zd5 {op:CmpOp}{w:W2}(ho:OpR X (compareOp op) (upO X.K Z w))(ha:PD X Z a ta)(hb:PD X Z b tb)(hm:behindInMarks op b=false):PD X Z (.Compare a [op] [b] pos) (dOp w ta tb):=za6 (zsw ho ha hb hm) λ_ _ _ h=>zhD h
theorem zeC {f:Value→Value→Sem Value}{r r':R2}(h:OpR X f r)(g:∀x y H Q,r' x y H Q→r x y H Q):OpR X f r':=λpins s σ H x y v u Q I rx ry q=>h pins s σ H x y v u Q I rx ry (g x y H Q q)
theorem zvv {f:Value→Sem Value}{r r':V→Hp→VK→Prop}(h:UnR X f r)(g:∀x H Q,r' x H Q→r x H Q):UnR X f r':=λpins s σ H x v Q I rx q=>h pins s σ H x v Q I rx (g x H Q q)
theorem zmE {f:Value}{r r':List V→Hp→VK→Prop}(h:zba X f r)(g:∀x H Q,r' x H Q→r x H Q):zba X f r':=λpins s σ H xs us Q I rx q=>h pins s σ H xs us Q I rx (g xs H Q q)
def wI (C:Int→Int→Prop)(g:Int→Int→D):W2:=λx y S Q=>match x,y with
 | .int i,.int j=>C i j∧Q (g i j) S
 | _,_=>False
def wI0 (g:Int→Int→D):W2:=λx y S Q=>match x,y with
 | .int i,.int j=>Q (g i j) S
 | _,_=>False
theorem opD {f:Value→Value→Sem Value}{C:Int→Int→Prop}{g:Int→Int→V}{g':Int→Int→D}(h:OpR X f (rI C g))(hg:∀r H i j,Rp r H (g' i j) (g i j)):OpR X f (upO X.K Z (wI C g')):=
 zeC h λx y H Qv ⟨r,S,dx,dy,Q,rel,px,py,q,ret⟩=>by
  cases px <;> cases py <;> first
   | exact⟨_,_,rfl,rfl,q.1,ret _ _ _ _ _ Ext.refl rel (hg _ _ _ _) q.2⟩
   | exact(show False from q).elim
theorem ze2 {f:Value→Value→Sem Value}{g:Int→Int→V}{g':Int→Int→D}(h:OpR X f (rI0 g))(hg:∀r H i j,Rp r H (g' i j) (g i j)):OpR X f (upO X.K Z (wI0 g')):=
 zeC h λx y H Qv ⟨r,S,dx,dy,Q,rel,px,py,q,ret⟩=>by
  cases px <;> cases py <;> first
   | exact⟨_,_,rfl,rfl,ret _ _ _ _ _ Ext.refl rel (hg _ _ _ _) q⟩
   | exact(show False from q).elim
abbrev wAdd:W2:=wI0 λi j=>.int (i+j)
abbrev wSub:W2:=wI0 λi j=>.int (i-j)
abbrev wMul:W2:=wI IntMulOk λi j=>.int (i*j)
def CFd (_ j:Int):Prop:=0<j∧j.natAbs.log2<9000
abbrev wFdiv:W2:=wI CFd λi j=>.int (i/j)
abbrev wMod:W2:=wI (λ_ j=>0<j) λi j=>.int (i%j)
abbrev wPow:W2:=wI zhC λi j=>.int (i^j.toNat)
theorem za5:OpR X (binaryOp .Add) (upO X.K Z wAdd):=ze2 zuh λ_ _ _ _=>.int _
theorem zbB:OpR X (binaryOp .Sub) (upO X.K Z wSub):=ze2 ztC λ_ _ _ _=>.int _
theorem zaI:OpR X (binaryOp .Mult) (upO X.K Z wMul):=opD (opI λ_ _ _ _ _ _ _ hc q=>mul_int q hc) λ_ _ _ _=>.int _
theorem zcc:OpR X (binaryOp .FloorDiv) (upO X.K Z wFdiv):=opD (opI λi j _ _ _ _ _ hc q=>floordiv_int (by have h:0<j:=hc.1; omega) (by have h:0<j:=hc.1; rw[Int.fdiv_eq_ediv_of_nonneg i (by omega)]; exact q) (.inl (PyProof.noPylong_of_log2 hc.2))) λ_ _ _ _=>.int _
theorem za9:OpR X (binaryOp .Mod) (upO X.K Z wMod):=opD zqS λ_ _ _ _=>.int _
theorem zsg:OpR X (binaryOp .Pow) (upO X.K Z wPow):=opD zrL λ_ _ _ _=>.int _
abbrev wLt:W2:=wI0 λi j=>.bl (decide (i<j))
abbrev wLe:W2:=wI0 λi j=>.bl (decide (i≤j))
abbrev wGt:W2:=wI0 λi j=>.bl (decide (j<i))
abbrev wGe:W2:=wI0 λi j=>.bl (decide (j≤i))
theorem zbw:OpR X (compareOp .Lt) (upO X.K Z wLt):=ze2 op_lt λ_ _ _ _=>.bl _
theorem zeI:OpR X (compareOp .LtE) (upO X.K Z wLe):=ze2 op_le λ_ _ _ _=>.bl _
theorem zgw:OpR X (compareOp .Gt) (upO X.K Z wGt):=ze2 op_gt λ_ _ _ _=>.bl _
theorem zok:OpR X (compareOp .GtE) (upO X.K Z wGe):=ze2 op_ge λ_ _ _ _=>.bl _
def wNeg:W1:=λx S Q=>match x with
 | .int i=>Q (.int (-i)) S
 | _=>False
theorem zcw:UnR X (unaryOp .USub) (upU X.K Z wNeg):=zvv zsy λx H Qv ⟨r,S,dx,Q,rel,px,q,ret⟩=>by
 cases px <;> first
  | exact⟨_,rfl,ret _ _ _ _ _ Ext.refl rel (.int _) q⟩
  | exact(show False from q).elim
end
def eqF:D→D→Option Bool
 | .non,.non=>some true
 | .bl i,.bl j=>some (i==j)
 | .int i,.int j=>some (decide (i=j))
 | .str i,.str j=>some (decide (i=j))
 | .non,.int _=>some false | .int _,.non=>some false | .non,.bl _=>some false | .bl _,.non=>some false | .non,.str _=>some false | .str _,.non=>some false
 | .int _,.str _=>some false | .str _,.int _=>some false | .bl _,.str _=>some false | .str _,.bl _=>some false
 | _,_=>none
def eqL (f:D→D→Option Bool):List D→List D→Option Bool
 | [],[]=>some true
 | x::xs,y::ys=>match f x y,eqL f xs ys with
  | some b,some c=>some (b&&c)
  | _,_=>none
 | _,_=>some false
def eqT (f:D→D→Option Bool):D→D→Option Bool
 | .tup xs,.tup ys=>eqL f xs ys
 | x,y=>eqF x y
abbrev eq1:D→D→Option Bool:=eqT eqF
abbrev eq2:D→D→Option Bool:=eqT eq1
def zc5 (n:Nat)(f:D→D→Option Bool):Prop:=∀(X:Cx) (pins:List (Addr×Obj)) (σ:St) (H:Hp) (s:Shared) (r:List Addr) (A:Around) (dx dy:D) (x y:V) (u v:Value) (b:Bool),
 Inv X pins σ H s→A.units+n<cLine→Rp r H dx x→Rp r H dy y→zat x u→zat y v→f dx dy=some b→SeqAt.EqAt A s u v b
def zeo (f:D→D→Option Bool):Prop:=∀(r:List Addr) (H:Hp) (dx dy:D) (x:V) (b:Bool),Rp r H dx x→Rp r H dy x→f dx dy=some b→b=true
theorem zel:zeo eqF:=by
 intro r H dx dy x b px py e
 cases px <;> cases py <;> simp[eqF] at e <;> first | exact e.symm | exact e
theorem zoT {f:D→D→Option Bool}(hf:zeo f){r:List Addr}{H:Hp}:∀ {xs ys:List D} {vs:List V} {b:Bool},Rps r H xs vs→Rps r H ys vs→eqL f xs ys=some b→b=true
 | [],[],_,b,_,_,e=>by simp[eqL] at e; exact e
 | [],y::ys,vs,b,p,q,e=>by
  have h1:=p.unnil
  subst h1
  exact absurd q.1 (by simp)
 | x::xs,[],vs,b,p,q,e=>by
  have h1:=q.unnil
  subst h1
  exact absurd p.1 (by simp)
 | x::xs,y::ys,vs,b,p,q,e=>by
  obtain⟨v,vs',rfl,p1,p2⟩:=p.uncons
  obtain⟨q1,q2⟩:=q.tail
  unfold eqL at e
  split at e
  ·rename_i b1 c1 e1 e2
   have h1:=hf r H x y v b1 p1 q1 e1
   have h2:=zoT hf p2 q2 e2
   subst h1; subst h2
   simp at e
   exact e
  ·cases e
theorem znX {f:D→D→Option Bool}(hf:zeo f):zeo (eqT f):=by
 intro r H dx dy x b px py e
 cases px with
 | tup e1 l1 f1=>
  cases py with
  | tup e2 l2 f2=>
   rw[e1] at e2; cases e2
   exact zoT hf ⟨l1,f1⟩ ⟨l2,f2⟩ e
  | ref h=>simp[eqT,eqF] at e
  | exc h=>simp[eqT,eqF] at e
 | non=>exact zel r H _ _ _ b .non py (by cases py <;> exact e)
 | bl i=>exact zel r H _ _ _ b (.bl i) py (by cases py <;> exact e)
 | int i=>exact zel r H _ _ _ b (.int i) py (by cases py <;> exact e)
 | str i=>exact zel r H _ _ _ b (.str i) py (by cases py <;> exact e)
 | ref h=>cases py <;> simp[eqT,eqF] at e
 | exc h=>cases py <;> simp[eqT,eqF] at e
theorem znd (n:Nat):zc5 n eqF:=by
 intro X pins σ H s r A dx dy x y u v b I hu px py rx ry e
 have fin:∀ {x y:V},zat x u→zat y v→zlE x=true→zlE y=true→eqV x y=b→SeqAt.EqAt A s u v b:=λrx ry fx fy e'=>by
  subst e'; exact zv6 rx ry fx fy
 cases px <;> cases py <;> simp[eqF] at e <;> refine fin rx ry rfl rfl ?_ <;> simp[eqV,e] <;> first | exact e | (subst e; simp) | skip
theorem zev {X:Cx}{pins:List (Addr×Obj)}{σ:St}{H:Hp}{s:Shared}{a:Addr}{xs:List V}(I:Inv X pins σ H s)(h:H a=some (.tup xs)):∃its:List Value,zax xs its∧IsTup s.heap a its.toArray∧xs.length≤sizeLine:=I.tuple (SqT.of h)
def zb7 (f:D→D→Option Bool)(xs ys:List D)(j:Nat):Bool:=match xs[j]?,ys[j]? with
 | some x,some y=>(f x y).getD false
 | _,_=>false
theorem zpx {f:D→D→Option Bool}:∀ {xs ys:List D} {b:Bool},eqL f xs ys=some b→(∀(j:Nat) (x y:D),xs[j]?=some x→ys[j]?=some y→∃c,f x y=some c)∧((List.range (min xs.length ys.length)).all (zb7 f xs ys)&&xs.length==ys.length)=b
 | [],[],b,e=>by simp[eqL] at e; subst e; simp
 | [],y::ys,b,e=>by simp[eqL] at e; subst e; simp
 | x::xs,[],b,e=>by simp[eqL] at e; subst e; simp
 | x::xs,y::ys,b,e=>by
  unfold eqL at e
  split at e
  ·rename_i b1 c1 e1 e2
   obtain⟨h1,h2⟩:=zpx e2
   refine⟨λj p q hp hq=>?_,?_⟩
   ·cases j with
    | zero=>simp at hp hq; subst hp; subst hq; exact⟨b1,e1⟩
    | succ j=>exact h1 j p q (by simpa using hp) (by simpa using hq)
   ·have z:min (x::xs).length (y::ys).length=min xs.length ys.length+1:=by simp[Nat.succ_min_succ]
    rw[z,List.range_succ_eq_map,List.all_cons,List.all_map]
    have e0:zb7 f (x::xs) (y::ys) 0=b1:=by simp[zb7,e1]
    have es:(zb7 f (x::xs) (y::ys) ∘ Nat.succ)=zb7 f xs ys:=by funext j; simp[zb7]
    rw[e0,es]
    have e3:((x::xs).length==(y::ys).length)=(xs.length==ys.length):=by simp
    rw[e3,Bool.and_assoc,h2]
    simp at e
    exact e
  ·cases e
theorem zgK {n:Nat}{f:D→D→Option Bool}(hf:zc5 n f){X:Cx}{pins:List (Addr×Obj)}{σ:St}{H:Hp}{s:Shared}{r:List Addr}{A:Around}{xs ys:List D}{us vs:List V}{is js:List Value}{b:Bool}
  (I:Inv X pins σ H s)(hu:A.units+n<cLine)(p:Rps r H xs us)(q:Rps r H ys vs)(ri:zax us is)(rj:zax vs js)(e:eqL f xs ys=some b):
  (∀j (h1:j<is.toArray.size) (h2:j<js.toArray.size),SeqAt.EqAt A s is.toArray[j] js.toArray[j] (zb7 f xs ys j))∧((List.range (min is.toArray.size js.toArray.size)).all (zb7 f xs ys)&&is.toArray.size==js.toArray.size)=b:=by
 obtain⟨h1,h2⟩:=zpx e
 have l1:is.toArray.size=xs.length:=by rw[Vam,← ri.length,p.1]
 have l2:js.toArray.size=ys.length:=by rw[Vam,← rj.length,q.1]
 refine⟨λj hj1 hj2=>?_,by rw[l1,l2]; exact h2⟩
 have k1:j<xs.length:=by omega
 have k2:j<ys.length:=by omega
 have g1:xs[j]?=some xs[j]:=by simp[k1]
 have g2:ys[j]?=some ys[j]:=by simp[k2]
 obtain⟨x,gx,px⟩:=p.get g1
 obtain⟨y,gy,py⟩:=q.get g2
 obtain⟨u,gu,ru⟩:=ri.get gx
 obtain⟨v,gv,rv⟩:=rj.get gy
 obtain⟨c,hc⟩:=h1 j _ _ g1 g2
 have eu:is.toArray[j]=u:=by
  have z:=Vab.mp gu
  simpa using z.2
 have ev:js.toArray[j]=v:=by
  have z:=Vab.mp gv
  simpa using z.2
 have ec:zb7 f xs ys j=c:=by simp[zb7,g1,g2,hc]
 rw[eu,ev,ec]
 exact hf X pins σ H s r A _ _ x y u v c I hu px py ru rv hc
theorem znR {n:Nat}{f:D→D→Option Bool}(hf:zc5 n f)(hs:zeo f):zc5 (n+1) (eqT f):=by
 intro X pins σ H s r A dx dy x y u v b I hu px py rx ry e
 have zaJ:∀ {dx dy:D} {x y:V},Rp r H dx x→Rp r H dy y→zat x u→zat y v→eqF dx dy=some b→SeqAt.EqAt A s u v b:=λpx py rx ry e=>znd (n+1) X pins σ H s r A _ _ _ _ u v b I hu px py rx ry e
 cases px with
 | @tup ds xs a e1 l1 f1=>
  cases py with
  | @tup es ys a' e2 l2 f2=>
   cases rx
   cases ry
   by_cases z:a=a'
   ·subst z
    have hb:=znX hs r H _ _ _ b (.tup e1 l1 f1) (.tup e2 l2 f2) e
    subst hb
    exact SeqAt.EqAt.same _
   ·obtain⟨is,ri,ti,_⟩:=zev I e1
    obtain⟨js,rj,tj,_⟩:=zev I e2
    obtain⟨g1,g2⟩:=zgK (A:=A.in1) hf I (by show A.units+1+n<_; omega) ⟨l1,f1⟩ ⟨l2,f2⟩ ri rj e
    have q:=SeqAt.RcAt.tuples (A:=A) ti tj (by omega) g1
    rw[g2] at q
    exact SeqAt.EqAt.of_refs z q
  | ref h=>simp[eqT,eqF] at e
  | _=>simp[eqT,eqF] at e
 | non=>exact zaJ .non py rx ry (by cases py <;> exact e)
 | bl i=>exact zaJ (.bl i) py rx ry (by cases py <;> exact e)
 | int i=>exact zaJ (.int i) py rx ry (by cases py <;> exact e)
 | str i=>exact zaJ (.str i) py rx ry (by cases py <;> exact e)
 | ref h=>cases py <;> simp[eqT,eqF] at e
 | exc h=>cases py <;> simp[eqT,eqF] at e
theorem zoD (n:Nat):zc5 (n+1) eq1:=znR (znd n) zel
def wEq (f:D→D→Option Bool):W2:=λx y S Q=>match f x y with
 | some b=>Q (.bl b) S
 | none=>False
def wNe (f:D→D→Option Bool):W2:=λx y S Q=>match f x y with
 | some b=>Q (.bl (!b)) S
 | none=>False
section
variable {X:Cx}{Z:Zx}
theorem zoL {r:List Addr}{H:Hp}{dx dy:D}{x y:V}{b:Bool}(px:Rp r H dx x)(py:Rp r H dy y)(e:eqF dx dy=some b):ziY x y=true∧decide (x=y)=b:=by
 cases px <;> cases py <;> simp[eqF] at e <;> simp[ziY] <;> first | exact e | (subst e; simp) | skip
theorem zpn {n:Nat}{f:D→D→Option Bool}(hf:zc5 n f)(hu:X.A.units+1+n<cLine):OpR X (compareOp .Eq) (upO X.K Z (wEq (eqT f))):=by
 intro pins s σ H x y v u Qv I rx ry h
 obtain⟨r,S,dx,dy,Q,rel,px,py,q,ret⟩:=h
 unfold wEq at q
 split at q
 ·rename_i b e
  have zaJ:∀ {dx dy:D} {x y:V},Rp r H dx x→Rp r H dy y→zat x v→zat y u→eqF dx dy=some b→wpAny (model X.prog X.w) X.A (compareOp .Eq v u) (EP X pins σ Qv) X.xe s:=λpx py rx ry e=>by
   obtain⟨h1,h2⟩:=zoL px py e
   refine znJ pins s σ H _ _ v u Qv I rx ry ⟨h1,?_⟩
   rw[h2]
   exact ret _ _ _ _ _ Ext.refl rel (.bl b) q
  cases px with
  | @tup ds xs a e1 l1 f1=>
   cases py with
   | @tup es ys a' e2 l2 f2=>
    cases rx
    cases ry
    obtain⟨is,ri,ti,_⟩:=zev I e1
    obtain⟨js,rj,tj,_⟩:=zev I e2
    obtain⟨g1,g2⟩:=zgK (A:=X.A.in1) hf I (by show X.A.units+1+n<_; omega) ⟨l1,f1⟩ ⟨l2,f2⟩ ri rj e
    refine SeqAt.eq_tupleAt (A:=X.A) ti tj (by omega) g1 ?_
    rw[g2]
    exact⟨.bl b,H,I,rfl,ret _ _ _ _ _ Ext.refl rel (.bl b) q⟩
   | _=>simp[eqT,eqF] at e
  | non=>exact zaJ .non py rx ry (by cases py <;> exact e)
  | bl i=>exact zaJ (.bl i) py rx ry (by cases py <;> exact e)
  | int i=>exact zaJ (.int i) py rx ry (by cases py <;> exact e)
  | str i=>exact zaJ (.str i) py rx ry (by cases py <;> exact e)
  | ref h=>cases py <;> simp[eqT,eqF] at e
  | exc h=>cases py <;> simp[eqT,eqF] at e
 ·exact q.elim
theorem zoC {n:Nat}{f:D→D→Option Bool}(hf:zc5 n f)(hu:X.A.units+1+n<cLine):OpR X (compareOp .NotEq) (upO X.K Z (wNe (eqT f))):=by
 intro pins s σ H x y v u Qv I rx ry h
 obtain⟨r,S,dx,dy,Q,rel,px,py,q,ret⟩:=h
 unfold wNe at q
 split at q
 ·rename_i b e
  have zaJ:∀ {dx dy:D} {x y:V},Rp r H dx x→Rp r H dy y→zat x v→zat y u→eqF dx dy=some b→wpAny (model X.prog X.w) X.A (compareOp .NotEq v u) (EP X pins σ Qv) X.xe s:=λpx py rx ry e=>by
   obtain⟨h1,h2⟩:=zoL px py e
   refine op_ne pins s σ H _ _ v u Qv I rx ry ⟨h1,?_⟩
   rw[h2]
   exact ret _ _ _ _ _ Ext.refl rel (.bl (!b)) q
  cases px with
  | @tup ds xs a e1 l1 f1=>
   cases py with
   | @tup es ys a' e2 l2 f2=>
    cases rx
    cases ry
    obtain⟨is,ri,ti,_⟩:=zev I e1
    obtain⟨js,rj,tj,_⟩:=zev I e2
    obtain⟨g1,g2⟩:=zgK (A:=X.A.in1) hf I (by show X.A.units+1+n<_; omega) ⟨l1,f1⟩ ⟨l2,f2⟩ ri rj e
    refine SeqAt.RcNeAt.tuples (A:=X.A) ti tj (by omega) g1 X.prog X.w _ _ ?_
    rw[g2]
    exact⟨.bl (!b),H,I,rfl,ret _ _ _ _ _ Ext.refl rel (.bl (!b)) q⟩
   | _=>simp[eqT,eqF] at e
  | non=>exact zaJ .non py rx ry (by cases py <;> exact e)
  | bl i=>exact zaJ (.bl i) py rx ry (by cases py <;> exact e)
  | int i=>exact zaJ (.int i) py rx ry (by cases py <;> exact e)
  | str i=>exact zaJ (.str i) py rx ry (by cases py <;> exact e)
  | ref h=>cases py <;> simp[eqT,eqF] at e
  | exc h=>cases py <;> simp[eqT,eqF] at e
 ·exact q.elim
theorem zaM {k:Nat}(hr:zaF k X.A):OpR X (compareOp .Eq) (upO X.K Z (wEq eq2)):=zpn (zoD 0) (by have:=hr.un; omega)
theorem zpJ {k:Nat}(hr:zaF k X.A):OpR X (compareOp .NotEq) (upO X.K Z (wNe eq2)):=zoC (zoD 0) (by have:=hr.un; omega)
end
section
variable {X:Cx}{Z:Zx}{a b c:Expr}{ta tb tc:TDE}{pos:Pos}{zbe:List Expr}
def zlA (t:TDE):TDT:=λdl S Q=>t dl S λd S'=>match d with
 | .bl k=>Q k S'
 | _=>False
theorem zm7 {K:PySem.W.Frag}{Z:Zx}{r:List Addr}{H:Hp}{Q:Bool→Sto→Prop}{Qb:Bool→Hp→Prop}(h:∀b H' r' S',Ext r r' H H'→Rel K Z r' S' H'→Q b S'→Qb b H'):
  Ret K Z r H (λd S'=>match d with | .bl k=>Q k S' | _=>False) (λx H'=>∃k,x=.bl k∧Qb k H'):=λv H' r' d S' e rel p q=>by
 cases p with
 | bl k=>exact⟨k,rfl,h k H' r' S' e rel q⟩
 | _=>exact(show False from q).elim
theorem zau {op:CmpOp}{w:W2}(ho:OpR X (compareOp op) (upO X.K Z w))(ha:PD X Z a ta)(hb:PD X Z b tb)(hm:behindInMarks op b=false):PDT X Z (.Compare a [op] [b] pos) (zlA (dOp w ta tb)):=
 zhQ (zu5 ho ha hb hm) λσ H Qb ⟨r,dl,S,Q,rs,rel,h,ret⟩=>zhD ⟨r,dl,S,_,rs,rel,h,zm7 ret⟩
theorem zck {e:Expr}{t:TDE}(h:PD X Z e t)(he:∀whole,isTrue e X.env whole=(do let v ← whole; standAt e.pos; holding [v] (truthy v)):=by intro _; rfl):PDT X Z e (zlA t):=
 zhQ (zqB h he) λσ H Qb ⟨r,dl,S,Q,rs,rel,h,ret⟩=>⟨r,dl,S,_,rs,rel,h,zm7 ret⟩
def dNot (t:TDT):TDT:=λdl S Q=>t dl S λk S'=>Q (!k) S'
theorem zd0 {t:TDT}(ha:PDT X Z a t):PDT X Z (.UnaryOp .Not a pos) (dNot t):=
 zhQ (zs5 ha) λσ H Qb ⟨r,dl,S,Q,rs,rel,h,ret⟩=>⟨r,dl,S,_,rs,rel,h,λk H' r' S' e rel' q=>ret (!k) H' r' S' e rel' q⟩
def dAnd (t u:TDT):TDT:=λdl S Q=>t dl S λk S1=>if k=true then u dl S1 Q else Q false S1
def dOr (t u:TDT):TDT:=λdl S Q=>t dl S λk S1=>if k=true then Q true S1 else u dl S1 Q
theorem zgO {t:TDT}(ha:PDT X Z a t):PDW X Z (.BoolOp .And [a] pos) t:=zrO ha
theorem zdY {t:TDT}(ha:PDT X Z a t):PDW X Z (.BoolOp .Or [a] pos) t:=zsJ ha
theorem zdV {t u:TDT}(ha:PDT X Z a t)(hb:PDW X Z (.BoolOp .And (b::zbe) pos) u):PDW X Z (.BoolOp .And (a::b::zbe) pos) (dAnd t u):=
 zpM (zrp ha hb) λσ H Qb ⟨r,dl,S,Q,rs,rel,h,ret⟩=>⟨r,dl,S,_,rs,rel,h,λk H1 r1 S1 e1 rel1 q1=>by
  cases k with
  | true=>exact zcg ⟨r1,dl,S1,Q,rs.ext e1,rel1,(by simpa using q1),λk' H2 r2 S2 e2=>ret k' H2 r2 S2 (e1.trans e2)⟩
  | false=>exact zbC (ret false H1 r1 S1 e1 rel1 (by simpa using q1))⟩
theorem zdX {t u:TDT}(ha:PDT X Z a t)(hb:PDW X Z (.BoolOp .Or (b::zbe) pos) u):PDW X Z (.BoolOp .Or (a::b::zbe) pos) (dOr t u):=
 zpM (pw_or ha hb) λσ H Qb ⟨r,dl,S,Q,rs,rel,h,ret⟩=>⟨r,dl,S,_,rs,rel,h,λk H1 r1 S1 e1 rel1 q1=>by
  cases k with
  | true=>exact zcg (ret true H1 r1 S1 e1 rel1 (by simpa using q1))
  | false=>exact zbC ⟨r1,dl,S1,Q,rs.ext e1,rel1,(by simpa using q1),λk' H2 r2 S2 e2=>ret k' H2 r2 S2 (e1.trans e2)⟩⟩
def zoh (ta tb:TDE):TDE:=λdl S Q=>ta dl S λx S1=>match x with
 | .bl k=>if k=true then tb dl S1 Q else Q (.bl false) S1
 | _=>False
def dOrV (ta tb:TDE):TDE:=λdl S Q=>ta dl S λx S1=>match x with
 | .bl k=>if k=true then Q (.bl true) S1 else tb dl S1 Q
 | _=>False
def zoc (ta:TDE):TDE:=λdl S Q=>ta dl S λx S1=>match x with
 | .bl k=>Q (.bl (!k)) S1
 | _=>False
theorem zpl {op}{t:TDE}(h:PD X Z a t):PD X Z (.BoolOp op [a] pos) t:=zt1 h
theorem znv (ha:PD X Z a ta)(hb:PD X Z (.BoolOp .And (b::zbe) pos) tb):PD X Z (.BoolOp .And (a::b::zbe) pos) (zoh ta tb):=
 za6 (zwI ha hb) λσ H Qv ⟨r,dl,S,Q,rs,rel,h,ret⟩=>⟨r,dl,S,_,rs,rel,h,λv H1 r1 d S1 e1 rel1 p q1=>by
  cases p with
  | bl k=>
   refine⟨k,rfl,?_⟩
   cases k with
   | true=>exact zcg ⟨r1,dl,S1,Q,rs.ext e1,rel1,(by simpa using q1),ret.ext e1⟩
   | false=>exact zbC (ret _ H1 r1 (.bl false) S1 e1 rel1 (.bl false) (by simpa using q1))
  | _=>exact(show False from q1).elim⟩
theorem ztu (ha:PD X Z a ta):PD X Z (.UnaryOp .Not a pos) (zoc ta):=
 za6 (zup ha) λσ H Qv ⟨r,dl,S,Q,rs,rel,h,ret⟩=>⟨r,dl,S,_,rs,rel,h,λv H1 r1 d S1 e1 rel1 p q1=>by
  cases p with
  | bl k=>exact⟨k,rfl,ret _ H1 r1 (.bl (!k)) S1 e1 rel1 (.bl (!k)) q1⟩
  | _=>exact(show False from q1).elim⟩
def dIfE (t:TDT)(ta tb:TDE):TDE:=λdl S Q=>t dl S λk S1=>if k=true then ta dl S1 Q else tb dl S1 Q
theorem zdu {t:TDT}(hc:PDT X Z c t)(ha:PD X Z a ta)(hb:PD X Z b tb):PD X Z (.IfExp c a b pos) (dIfE t ta tb):=
 za6 (zvY hc ha hb) λσ H Qv ⟨r,dl,S,Q,rs,rel,h,ret⟩=>⟨r,dl,S,_,rs,rel,h,λk H1 r1 S1 e1 rel1 q1=>by
  cases k with
  | true=>exact zcg ⟨r1,dl,S1,Q,rs.ext e1,rel1,(by simpa using q1),ret.ext e1⟩
  | false=>exact zbC ⟨r1,dl,S1,Q,rs.ext e1,rel1,(by simpa using q1),ret.ext e1⟩⟩
def zjz (w w':W2)(ta tb tc:TDE):TDE:=λdl S Q=>ta dl S λx S1=>tb dl S1 λy S2=>w x y S2 λz S3=>match z with
 | .bl k=>if k=true then tc dl S3 λu S4=>w' y u S4 Q else Q (.bl false) S3
 | _=>False
theorem zps {w w':W2}{σ:St}{H:Hp}{Qv:VK}(h:up X.K Z (zjz w w' ta tb tc) σ H Qv):zmv (upO X.K Z w) (upO X.K Z w') (up X.K Z ta) (up X.K Z tb) (up X.K Z tc) σ H Qv:=by
 obtain⟨r,dl,S,Q,rs,rel,h,ret⟩:=h
 refine⟨r,dl,S,_,rs,rel,h,λv H1 r1 dx S1 e1 rel1 p1 h1=>⟨r1,dl,S1,_,rs.ext e1,rel1,h1,λv2 H2 r2 dy S2 e2 rel2 p2 h2=>⟨r2,S2,dx,dy,_,rel2,p1.ext e2,p2,h2,λv3 H3 r3 dz S3 e3 rel3 p3 h3=>?_⟩⟩⟩
 cases p3 with
 | bl k=>
  refine⟨k,rfl,?_⟩
  cases k with
  | true=>exact zcg ⟨r3,dl,S3,_,rs.ext (e1.trans (e2.trans e3)),rel3,(by simpa using h3),λv4 H4 r4 du S4 e4 rel4 p4 h4=>⟨r4,S4,dy,du,Q,rel4,(p2.ext e3).ext e4,p4,h4,ret.ext (e1.trans (e2.trans (e3.trans e4)))⟩⟩
  | false=>exact zbC (ret _ H3 r3 (.bl false) S3 (e1.trans (e2.trans e3)) rel3 (.bl false) (by simpa using h3))
 | _=>exact(show False from h3).elim
theorem zoJ {op op':CmpOp}{w w':W2}(ho:OpR X (compareOp op) (upO X.K Z w))(ho':OpR X (compareOp op') (upO X.K Z w'))(ha:PD X Z a ta)(hb:PD X Z b tb)(hc:PD X Z c tc)
  (hm:lastMarks [op,op'] [b,c]=false:=by with_unfolding_all rfl):PD X Z (.Compare a [op,op'] [b,c] pos) (zjz w w' ta tb tc):=za6 (zwA ho ho' ha hb hc hm) λ_ _ _ h=>zps h
theorem zsC {op op':CmpOp}{w w':W2}(ho:OpR X (compareOp op) (upO X.K Z w))(ho':OpR X (compareOp op') (upO X.K Z w'))(ha:PD X Z a ta)(hb:PD X Z b tb)(hc:PD X Z c tc)
  (hm:lastMarks [op,op'] [b,c]=false:=by with_unfolding_all rfl):PDT X Z (.Compare a [op,op'] [b,c] pos) (zlA (zjz w w' ta tb tc)):=
 zhQ (zr8 ho ho' ha hb hc hm) λσ H Qb ⟨r,dl,S,Q,rs,rel,h,ret⟩=>zps ⟨r,dl,S,_,rs,rel,h,zm7 ret⟩
def ziB:D→Bool
 | .non=>true
 | _=>false
def wIsN:W2:=λx y S Q=>match y with
 | .non=>Q (.bl (ziB x)) S
 | _=>False
def zoQ:W2:=λx y S Q=>match y with
 | .non=>Q (.bl (!ziB x)) S
 | _=>False
theorem zpj {r:List Addr}{H:Hp}{d:D}{x:V}(p:Rp r H d x):decide (x=.non)=ziB d:=by
 cases p <;> simp[ziB]
theorem zbW:OpR X (compareOp .Is) (upO X.K Z wIsN):=zeC zwo λx y H Qv ⟨r,S,dx,dy,Q,rel,px,py,q,ret⟩=>by
 cases py with
 | non=>exact⟨rfl,by rw[zpj px]; exact ret _ _ _ _ _ Ext.refl rel (.bl _) q⟩
 | _=>exact(show False from q).elim
theorem zoi:OpR X (compareOp .IsNot) (upO X.K Z zoQ):=zeC ztx λx y H Qv ⟨r,S,dx,dy,Q,rel,px,py,q,ret⟩=>by
 cases py with
 | non=>exact⟨rfl,by rw[zpj px]; exact ret _ _ _ _ _ Ext.refl rel (.bl _) q⟩
 | _=>exact(show False from q).elim
variable {e:Expr}{es:List Expr}
def dNil:TDA:=λ_ S Q=>Q [] S
def zpY (ta:TDE)(tr:TDA):TDA:=λdl S Q=>ta dl S λx S1=>tr dl S1 λxs S2=>Q (x::xs) S2
theorem zac:PDA X Z [] dNil:=zpO ziW λσ H Qv ⟨r,dl,S,Q,rs,rel,h,ret⟩=>ret [] H r [] S Ext.refl rel Rps.nil h
theorem zaa {te:TDE}{t:TDA}(ha:PD X Z e te)(hr:PDA X Z es t)(hs:starEach (e::es) X.env=(false,eval e X.env)::starEach es X.env:=by rfl):PDA X Z (e::es) (zpY te t):=
 zpO (zfd ha hr hs) λσ H Qv ⟨r,dl,S,Q,rs,rel,h,ret⟩=>⟨r,dl,S,_,rs,rel,h,λv H1 r1 d S1 e1 rel1 p1 h1=>⟨r1,dl,S1,_,rs.ext e1,rel1,h1,λvs H2 r2 ds S2 e2 rel2 p2 h2=>
  ret (v::vs) H2 r2 (d::ds) S2 (e1.trans e2) rel2 (Rps.cons (p1.ext e2) p2) h2⟩⟩
def dTup (t:TDA):TDE:=λdl S Q=>t dl S λds S1=>if ds.length≤1000 then Q (.tup ds) S1 else False
def dLst (t:TDA):TDE:=λdl S Q=>t dl S λds S1=>if ds.length≤1000 then Q (.ref S1.length) (S1++[.lst ds]) else False
theorem zlz {A:Prop}{p:Prop} [Decidable p] (h:if p then A else False):p∧A:=by
 split at h
 ·exact⟨by assumption,h⟩
 ·exact h.elim
theorem zjd {n:Nat}(h:n≤1000):n≤sizeLine:=VaV (zm9 h)
theorem zaA {x1}{t:TDA}(h:PDA X Z es t):PD X Z (.Tuple es x1 pos) (dTup t):=
 za6 (zrx h) λσ H Qv ⟨r,dl,S,Q,rs,rel,h,ret⟩=>⟨r,dl,S,_,rs,rel,h,λvs H1 r1 ds S1 e1 rel1 p1 h1=>by
  obtain⟨hl,h1⟩:=zlz h1
  refine⟨by rw[← p1.1]; exact zjd hl,λp hp=>?_⟩
  have x:Ext r1 r1 H1 (upd H1 p (.tup vs)):=⟨λ_ _ q=>q,λa xs q=>zdk hp _ _ q,λa c q=>zdk hp _ _ q⟩
  exact ret _ _ r1 (.tup ds) S1 (e1.trans x) (rel1.same (zdk hp)) ((p1.ext x).tupR zcv) h1⟩
theorem zeh {r:List Addr}{p:Addr}{H:Hp}{n:Nat}(h:r.length=n):Rp (r++[p]) H (.ref n) (.ref p):=.ref (by subst h; simp)
theorem zbq {t:TDA}(h:PDA X Z es t):PD X Z (.List es pos) (dLst t):=
 za6 (zsX h) λσ H Qv ⟨r,dl,S,Q,rs,rel,h,ret⟩=>⟨r,dl,S,_,rs,rel,h,λvs H1 r1 ds S1 e1 rel1 p1 h1=>by
  obtain⟨hl,h1⟩:=zlz h1
  refine⟨by rw[← p1.1]; exact zjd hl,λp hp=>?_⟩
  obtain⟨rel2,x⟩:=rel1.push hp p1
  exact ret _ _ _ (.ref S1.length) _ (e1.trans x) rel2 (zeh rel1.len) h1⟩
def wIx:W2:=λx y S Q=>match x,y with
 | .tup xs,.int i=>match atI xs i with
  | some d=>Q d S
  | none=>False
 | .ref n,.int i=>match lAt S n with
  | some o=>match atI (zas o) i with
   | some d=>Q d S
   | none=>False
  | none=>False
 | _,_=>False
theorem zpL {r:List Addr}{H:Hp}{ds:List D}{vs:List V}{i:Int}{d:D}(h:Rps r H ds vs)(e:atI ds i=some d):∃v,atI vs i=some v∧Rp r H d v:=by
  unfold atI at e ⊢
  rw[← h.1]
  cases q:ixN ds.length i with
  | none=>
   rw[q] at e
   cases e
  | some j=>
    rw[q] at e
    exact h.get e
theorem do_ix:IxR X (upO X.K Z wIx):=by
 intro value slice pins s σ H x y v u Qv I rx ry h hs
 obtain⟨r,S,dx,dy,Q,rel,px,py,q,ret⟩:=h
 cases px with
 | @tup ds xs a e1 l1 f1=>
  cases py with
  | int i=>
   have q':(match atI ds i with | some d=>Q d S | none=>False):=q
   split at q'
   ·rename_i d e
    obtain⟨w,hw,pw⟩:=zpL ⟨l1,f1⟩ e
    exact zqW value slice pins s σ H _ _ v u Qv I rx ry ⟨a,xs,i,w,rfl,rfl,SqT.of e1,hw,ret w H r d S Ext.refl rel pw q'⟩ hs
   ·exact q'.elim
  | _=>exact(show False from q).elim
 | @ref n a e1=>
  cases py with
  | int i=>
   have q':(match lAt S n with | some o=>(match atI (zas o) i with | some d=>Q d S | none=>False) | none=>False):=q
   split at q'
   ·rename_i o eo
    obtain⟨eo,eL⟩:=zbu eo
    obtain⟨a',ha,ob⟩:=rel.at eo
    rw[e1] at ha; cases ha
    obtain⟨xs,sq,pr⟩:=ob.list eL
    split at q'
    ·rename_i d e
     obtain⟨w,hw,pw⟩:=zpL pr e
     exact zri value slice pins s σ H _ _ v u Qv I rx ry ⟨a,xs,i,w,rfl,rfl,sq,hw,ret w H r d S Ext.refl rel pw q'⟩ hs
    ·exact q'.elim
   ·exact q'.elim
  | _=>exact(show False from q).elim
 | _=>exact(show False from q).elim
theorem zae (ha:PD X Z a ta)(hb:PD X Z b tb)(hs:zno b):PD X Z (.Subscript a b pos) (dOp wIx ta tb):=za6 (pe_ix do_ix ha hb hs) λ_ _ _ h=>zhD h
end
structure Bk (fs:List Addr)(H H':Hp)(B h:Heap)(ea:Addr):Prop where
 trk:∀b u,H' b=some u→∃o,B.get? b=some o
 old:∀b o,h.get? b=some o→H b=none→b ∉ fs→B.get? b=some o
 all:∀b o,h.get? b=some o→b ∉ fs→∃o',B.get? b=some o'
 new:H' ea=none
def CXE (P:Program)(w:World):CXT:=λouter H s E e s'=>∃(ea c:Addr) (a0:Value) (B:Heap) (H':Hp),e=.ref ea∧s'.os=s.os∧AllBare s'.gens∧Un (frs outer) [] H H' s.heap s'.heap∧HOk P w H' s'.heap∧
 Heap.FlyingW B outer ea (.ref c) a0 s'.heap∧Bk (frs outer) H H' B s.heap ea∧E (.ref c) none H'
section
variable {X:Cx}{pins:List (Addr×Obj)}{σ:St}{H:Hp}{s:Shared}
end
section
variable {P:Program}{w:World}{K:PySem.W.Frag}{mg:Str→Option Value}{base:Heap}{N:List Str}{qual:Str}{scope:Scope}{f:Addr}{cdv:Value}{A:Around}{outer:List Env}{s0:Shared}{H0:Hp}{E:XK}
end
structure Xc (K:PySem.W.Frag)(mg:Str→Option Value)(x:Str)(C:Addr)(bm:List Value)(nid:String):Prop where
 bound:mg x=some (.ref C)
 ex:PySem.W.excIn K C bm nid=true
abbrev WC:=List D→Sto→DK→Prop
abbrev Sd:=List D→Sto→DK→(Addr→Sto→Prop)→Prop
def upC (K:PySem.W.Frag)(Z:Zx)(w:WC):List V→Hp→VK→Prop:=λxs H Qv=>∃r S ds Q,Rel K Z r S H∧Rps r H ds xs∧w ds S Q∧Ret K Z r H Q Qv
def upF (K:PySem.W.Frag)(sd:Sd):Sp:=λvs H Qv E=>∃ex:Addr→Sto→Prop,upC K (Zc ex E) (λds S Q=>sd ds S Q ex) vs H Qv
def zkZ (w:WC)(t:TDA):TDE:=λdl S Q=>t dl S λds S1=>w ds S1 Q
def zkv (ex:Ev→Addr→Sto→Prop)(sd:Sd)(t:TDA):TDE:=λdl S Q=>t dl S λds S1=>sd ds S1 Q (ex dl)
def zcH (X:Cx)(W:St→XK):Prop:=∀(pins:List (Addr×Obj)) (σ:St) (H:Hp) (s:Shared) (e:Value) (s':Shared),Inv X pins σ H s→CXE X.prog X.w X.stack H s (W σ) e s'→X.xe e s'
section
variable {X:Cx}{k:Nat}{f:Addr}{fd:FuncData}{ps:List Str}{sp:Sp}{W:St→XK}{x:Str}{p pos:Pos}{e:Expr}{es:List Expr}{t:TA}
theorem zmY {pins:List (Addr×Obj)}{σ:St}{H:Hp}{s:Shared}{Q:VK}{us:List Value}{vs:List V}(F:zaZ X.prog X.w X.K X.mg X.base (CXE X.prog X.w) k f fd ps sp)(hr:zaF k X.A)(hb:zbp X.K fd ps [])(hx:zcH X W)
  (I:Inv X pins σ H s)(r:zax vs us)(h:sp vs H Q (W σ)):wpAny (model X.prog X.w) X.A (call (.ref f) us) (EP X pins σ Q) X.xe s:=by
 have hl:us.length=ps.length:=by rw[← r.length]; exact F.len _ _ _ _ h
 have hb':=hb s us I.kIn (by rw[Va3]; exact hl)
 rw[Va3] at hb'
 refine wpAny_call (codeAny_mono (F.run X.A X.stack s H ⟨us,[]⟩ us vs Q (W σ) hr I.env0 hb' r h) λz s' hq=>?_)
 cases z with
 | error ev=>exact hx pins σ H s ev s' I hq
 | ok fl=>
  cases fl with
  | ret u=>exact I.after hq
  | _=>exact False.elim hq
theorem ztk (F:zaZ X.prog X.w X.K X.mg X.base (CXE X.prog X.w) k f fd ps sp)(hr:zaF k X.A)(hg:Gl X x)(hm:X.mg x=some (.ref f))(hk:PySem.W.keepIn X.K (.ref f)=true)(hb:zbp X.K fd ps [])(hx:zcH X W)
  (ha:PA X (e::es) t)(hdb:(x==("__debug__":Str))=false)(he:starEach (e::es) X.env=(false,eval e X.env)::starEach es X.env)(hpl:(backTo pos (starEach es X.env)).any (·.1)=false):
  PE X (.Call (.Name x p) (e::es) [] pos) (λσ H Q=>t σ H λvs H1=>sp vs H1 Q (W σ)):=by
 intro pins s σ H Q I h
 refine wpAny_Call_Name_kw (zpa I hg hm ?_ hdb)
 exact PySem.W.callWith_K (h₀:=X.base) I.ok.mod.kin hk (thn (ha pos pins s σ H _ I h) λus s1 ⟨vs,H1,I1,r,q⟩=>⟨I1.kIn,zmY F hr hb hx I1 r q⟩) he hpl
end
section
variable {X:Cx}{Z:Zx}{x:Str}{p pos:Pos}{e:Expr}{es:List Expr}{t:TDA}{id T:String}{w:WC}
theorem zon {σ:St}{H:Hp}{Qv:VK}(h:up X.K Z (zkZ w t) σ H Qv):upA X.K Z t σ H λvs H1=>upC X.K Z w vs H1 Qv:=by
 obtain⟨r,dl,S,Q,rs,rel,h,ret⟩:=h
 exact⟨r,dl,S,_,rs,rel,h,λvs H1 r1 ds S1 e1 rel1 p1 h1=>⟨r1,S1,ds,Q,rel1,p1,h1,ret.ext e1⟩⟩
theorem za0 (hc:zba X (.builtin id) (upC X.K Z w))(hg:Gl X x)(hm:X.mg x=none)(hv:bootBuiltins x=some (.builtin id))(ha:PDA X Z (e::es) t)(hn:x≠"__name__":=by decide)(hdb:(x==("__debug__":Str))=false:=by decide)
  (he:starEach (e::es) X.env=(false,eval e X.env)::starEach es X.env:=by rfl)(hpl:(backTo pos (starEach es X.env)).any (·.1)=false:=by rfl):PD X Z (.Call (.Name x p) (e::es) [] pos) (zkZ w t):=
 za6 (znP hc hg hm hv ha hn hdb he hpl) λ_ _ _ h=>zon h
theorem ziy (hc:zba X (.type T) (upC X.K Z w))(hg:Gl X x)(hm:X.mg x=none)(hv:bootBuiltins x=some (.type T))(ha:PDA X Z (e::es) t)(hn:x≠"__name__":=by decide)(hdb:(x==("__debug__":Str))=false:=by decide)
  (he:starEach (e::es) X.env=(false,eval e X.env)::starEach es X.env:=by rfl)(hpl:(backTo pos (starEach es X.env)).any (·.1)=false:=by rfl):PD X Z (.Call (.Name x p) (e::es) [] pos) (zkZ w t):=
 za6 (zvz hc hg hm hv ha hn hdb he hpl) λ_ _ _ h=>zon h
theorem zmf {sd:Sd}{r:List Addr}{S:Sto}{H:Hp}{dl:Ev}{σ:St}{ds:List D}{vs:List V}{Q:DK}{Qv:VK}(rs:Rs r H dl σ)(rel:Rel X.K Z r S H)(p:Rps r H ds vs)(h:sd ds S Q (Z.ex dl))(ret:Ret X.K Z r H Q Qv):upF X.K sd vs H Qv (Z.w σ):=
 ⟨Z.ex dl,r,S,ds,Q,⟨rel.b,λ_ _ c H' r' S' x _ rb q=>rel.xw dl σ c H' r' S' x (rs.ext x) rb q⟩,p,h,λv H' r' d S' x rel' pv q=>ret v H' r' d S' x ⟨rel'.b,rel.xw.ext x⟩ pv q⟩
theorem ztj {k:Nat}{f:Addr}{fd:FuncData}{ps:List Str}{sd:Sd}(F:zaZ X.prog X.w X.K X.mg X.base (CXE X.prog X.w) k f fd ps (upF X.K sd))(hr:zaF k X.A)(hg:Gl X x)(hm:X.mg x=some (.ref f))(hk:PySem.W.keepIn X.K (.ref f)=true)
  {ex:Ev→Addr→Sto→Prop}{W:St→XK}(hb:zbp X.K fd ps [])(hx:zcH X W)(ha:PDA X ⟨ex,W⟩ (e::es) t)(hdb:(x==("__debug__":Str))=false:=by decide)(he:starEach (e::es) X.env=(false,eval e X.env)::starEach es X.env:=by rfl)
  (hpl:(backTo pos (starEach es X.env)).any (·.1)=false:=by rfl):PD X ⟨ex,W⟩ (.Call (.Name x p) (e::es) [] pos) (zkv ex sd t):=
 za6 (ztk F hr hg hm hk hb hx ha hdb he hpl) λσ H Qv ⟨r,dl,S,Q,rs,rel,h,ret⟩=>⟨r,dl,S,_,rs,rel,h,λvs H1 r1 ds S1 e1 rel1 p1 h1=>zmf (Z:=⟨ex,W⟩) (rs.ext e1) rel1 p1 h1 (ret.ext e1)⟩
def wAbs:WC:=λds S Q=>match ds with
 | [.int i]=>Q (.int (if i<0 then -i else i)) S
 | _=>False
theorem zml:zba X (.builtin "abs") (upC X.K Z wAbs):=zmE ztN λxs H Qv ⟨r,S,ds,Q,rel,ps,q,ret⟩=>by
 unfold wAbs at q
 split at q
 ·rename_i i
  obtain⟨v,vs,rfl,p1,p2⟩:=ps.uncons
  have z:=p2.unnil
  subst z
  cases p1
  exact⟨i,rfl,ret _ _ _ _ _ Ext.refl rel (.int _) q⟩
 ·exact q.elim
def zdp:List D→Option (List Int)
 | []=>some []
 | .int i::r=>(zdp r).map (i::·)
 | _::_=>none
def zdR (le:Int→Int→Prop)(two:Int→Int→Int):WC:=λds S Q=>match ds with
 | [.int i,.int j]=>Q (.int (two i j)) S
 | [.ref n]=>match lAt S n with
  | some o=>match zdp (zas o) with
   | some xs=>xs≠[]∧∀m,m∈xs→(∀y∈xs,le y m)→Q (.int m) S
   | none=>False
  | none=>False
 | _=>False
abbrev wMax:WC:=zdR (λy m=>y≤m) λi j=>if j > i then j else i
abbrev wMin:WC:=zdR (λy m=>m≤y) λi j=>if j<i then j else i
theorem zm1 {r:List Addr}{H:Hp}:∀ {ds:List D} {ns:List Int} {vs:List V} {us:List Value},zdp ds=some ns→Rps r H ds vs→zax vs us→∃xs:List (Int×Tok),us.toArray=intItems xs.toArray∧xs.map (·.1)=ns
 | [],ns,vs,us,e,p,q=>by
  have z:=p.unnil
  subst z
  cases q
  simp[zdp] at e
  subst e
  exact⟨[],by simp[intItems],rfl⟩
 | d::ds,ns,vs,us,e,p,q=>by
  obtain⟨v,vs',rfl,p1,p2⟩:=p.uncons
  cases d with
  | int i=>
   cases p1
   cases q with
   | cons q1 q2=>
    obtain⟨t,rfl⟩:=q1
    simp only[zdp,Vay] at e
    obtain⟨ms,e1,rfl⟩:=e
    obtain⟨xs,h1,h2⟩:=zm1 e1 p2 q2
    refine⟨(i,t)::xs,?_,by simp[h2]⟩
    simp[intItems] at h1 ⊢
    exact h1
  | _=>simp[zdp] at e
theorem zoU (f:Nat→Int):∀k j,j≤k→f j≤f (argBest (λi j=>decide (f i > f j)) k)
 | 0,j,h=>by
  have z:j=0:=by omega
  subst z
  exact VaL _
 | k+1,j,h=>by
  have ih:=zoU f k
  unfold argBest
  split
  ·rename_i hb
   have hb':f (k+1) > f (argBest (λi j=>decide (f i > f j)) k):=of_decide_eq_true hb
   by_cases z:j=k+1
   ·subst z; exact VaL _
   ·have:=ih j (by omega); omega
  ·rename_i hb
   have hb':¬ f (k+1) > f (argBest (λi j=>decide (f i > f j)) k):=λq=>hb (decide_eq_true q)
   by_cases z:j=k+1
   ·subst z; omega
   ·exact ih j (by omega)
theorem zo6 (f:Nat→Int):∀k j,j≤k→f (argBest (λi j=>decide (f i<f j)) k)≤f j
 | 0,j,h=>by
  have z:j=0:=by omega
  subst z
  exact VaL _
 | k+1,j,h=>by
  have ih:=zo6 f k
  unfold argBest
  split
  ·rename_i hb
   have hb':f (k+1)<f (argBest (λi j=>decide (f i<f j)) k):=of_decide_eq_true hb
   by_cases z:j=k+1
   ·subst z; exact VaL _
   ·have:=ih j (by omega); omega
  ·rename_i hb
   have hb':¬ f (k+1)<f (argBest (λi j=>decide (f i<f j)) k):=λq=>hb (decide_eq_true q)
   by_cases z:j=k+1
   ·subst z; omega
   ·exact ih j (by omega)
theorem zmW (bt:Nat→Nat→Bool):∀k,argBest bt k≤k
 | 0=>Vaa _
 | k+1=>by
  unfold argBest
  split
  ·exact Vaa _
  ·exact Nat.le_succ_of_le (zmW bt k)
theorem zms {xs:List (Int×Tok)}{ns:List Int}(h:xs.map (·.1)=ns){j:Nat}{y:Int}(e:ns[j]?=some y):numAt xs.toArray j=y:=by
  subst h
  unfold numAt
  rw[Vap] at e
  simp only[List.getElem?_toArray]
  cases q:xs[j]? with
  | none=>
   rw[q] at e
   cases e
  | some z=>rw[q] at e; simpa using e
theorem zoK {xs:List (Int×Tok)}{ns:List Int}(h:xs.map (·.1)=ns){j:Nat}(hj:j<ns.length):numAt xs.toArray j∈ns:=by
 have e:ns[j]?=some ns[j]:=by simp[hj]
 rw[zms h e]
 exact List.getElem_mem hj
theorem zcq (hc:X.calm=true):zba X (.builtin "max") (upC X.K Z wMax):=by
 intro pins s σ H xs us Qv I rv h
 obtain⟨r,S,ds,Q,rel,ps,q,ret⟩:=h
 unfold wMax zdR at q
 split at q
 ·rename_i i j
  obtain⟨v,vs,rfl,p1,p2⟩:=ps.uncons
  obtain⟨v2,vs2,rfl,p3,p4⟩:=p2.uncons
  have z:=p4.unnil
  subst z
  cases p1
  cases p3
  exact zrn hc pins s σ H _ us Qv I rv ⟨i,j,rfl,ret _ _ _ _ _ Ext.refl rel (.int _) q⟩
 ·rename_i n
  obtain⟨v,vs,rfl,p1,p2⟩:=ps.uncons
  have z:=p2.unnil
  subst z
  split at q
  ·rename_i o eo
   split at q
   ·rename_i ns en
    obtain⟨hne,q⟩:=q
    obtain⟨eo,eL⟩:=zbu eo
    obtain⟨a,ha,ob⟩:=rel.at eo
    cases p1 with
    | ref h1=>
     rw[h1] at ha; cases ha
     obtain⟨ys,sq,pr⟩:=ob.list eL
     obtain⟨u,rfl,ru⟩:=zeB rv
     cases ru
     obtain⟨its,ri,pl,hz⟩:=I.list sq
     obtain⟨zs,hz1,hz2⟩:=zm1 en pr ri
     have hl:zs.length=ns.length:=by rw[← hz2,Vac]
     have hpos:0<ns.length:=List.length_pos_iff.mpr hne
     have isl:=pl.isList
     rw[hz1] at isl
     refine max_intList (I.ok.hd hc) isl (by simp; omega) λv h' tk hv hk=>?_
     have hvi:=intItems_at hv
     obtain⟨t,rfl⟩:=hvi
     have hb:=zmW (λi j=>decide (numAt zs.toArray i > numAt zs.toArray j)) (zs.toArray.size-1)
     have hsz:zs.toArray.size=ns.length:=by simp[hl]
     refine⟨.int _,H,I.kept hk,⟨_,rfl⟩,ret _ _ _ _ _ Ext.refl rel (.int _) (q _ (zoK hz2 (by omega)) λy hy=>?_)⟩
     obtain⟨j,hj,ej⟩:=VaI.mp hy
     have e1:=zms hz2 (show ns[j]?=some y by simp[hj,ej])
     rw[← e1]
     exact zoU _ _ j (by omega)
   ·exact q.elim
  ·exact q.elim
 ·exact q.elim
theorem zeE (hc:X.calm=true):zba X (.builtin "min") (upC X.K Z wMin):=by
 intro pins s σ H xs us Qv I rv h
 obtain⟨r,S,ds,Q,rel,ps,q,ret⟩:=h
 unfold wMin zdR at q
 split at q
 ·rename_i i j
  obtain⟨v,vs,rfl,p1,p2⟩:=ps.uncons
  obtain⟨v2,vs2,rfl,p3,p4⟩:=p2.uncons
  have z:=p4.unnil
  subst z
  cases p1
  cases p3
  exact zuY hc pins s σ H _ us Qv I rv ⟨i,j,rfl,ret _ _ _ _ _ Ext.refl rel (.int _) q⟩
 ·rename_i n
  obtain⟨v,vs,rfl,p1,p2⟩:=ps.uncons
  have z:=p2.unnil
  subst z
  split at q
  ·rename_i o eo
   split at q
   ·rename_i ns en
    obtain⟨hne,q⟩:=q
    obtain⟨eo,eL⟩:=zbu eo
    obtain⟨a,ha,ob⟩:=rel.at eo
    cases p1 with
    | ref h1=>
     rw[h1] at ha; cases ha
     obtain⟨ys,sq,pr⟩:=ob.list eL
     obtain⟨u,rfl,ru⟩:=zeB rv
     cases ru
     obtain⟨its,ri,pl,hz⟩:=I.list sq
     obtain⟨zs,hz1,hz2⟩:=zm1 en pr ri
     have hl:zs.length=ns.length:=by rw[← hz2,Vac]
     have hpos:0<ns.length:=List.length_pos_iff.mpr hne
     have isl:=pl.isList
     rw[hz1] at isl
     refine min_intList (I.ok.hd hc) isl (by simp; omega) λv h' tk hv hk=>?_
     have hvi:=intItems_at hv
     obtain⟨t,rfl⟩:=hvi
     have hb:=zmW (λi j=>decide (numAt zs.toArray i<numAt zs.toArray j)) (zs.toArray.size-1)
     have hsz:zs.toArray.size=ns.length:=by simp[hl]
     refine⟨.int _,H,I.kept hk,⟨_,rfl⟩,ret _ _ _ _ _ Ext.refl rel (.int _) (q _ (zoK hz2 (by omega)) λy hy=>?_)⟩
     obtain⟨j,hj,ej⟩:=VaI.mp hy
     have e1:=zms hz2 (show ns[j]?=some y by simp[hj,ej])
     rw[← e1]
     exact zo6 _ _ j (by omega)
   ·exact q.elim
  ·exact q.elim
 ·exact q.elim
def zgM:WC:=λds S Q=>match ds with
 | [.tup xs]=>Q (.int xs.length) S
 | [.ref n]=>match lAt S n with
  | some o=>Q (.int (zas o).length) S
  | none=>False
 | _=>False
theorem zcK:zba X (.builtin "len") (upC X.K Z zgM):=zmE zv1 λxs H Qv ⟨r,S,ds,Q,rel,ps,q,ret⟩=>by
 unfold zgM at q
 split at q
 ·rename_i ys
  obtain⟨v,vs,rfl,p1,p2⟩:=ps.uncons
  have z:=p2.unnil
  subst z
  obtain⟨a,zs,rfl,h1,h2⟩:=p1.untup
  exact⟨a,zs,rfl,.inr (SqT.of h1),by rw[← h2.1]; exact ret _ _ _ _ _ Ext.refl rel (.int _) q⟩
 ·rename_i n
  obtain⟨v,vs,rfl,p1,p2⟩:=ps.uncons
  have z:=p2.unnil
  subst z
  split at q
  ·rename_i o eo
   obtain⟨eo,eL⟩:=zbu eo
   obtain⟨a,ha,ob⟩:=rel.at eo
   cases p1 with
   | ref h1=>
    rw[h1] at ha; cases ha
    obtain⟨ys,sq,pr⟩:=ob.list eL
    exact⟨_,ys,rfl,.inl sq,by rw[← pr.1]; exact ret _ _ _ _ _ Ext.refl rel (.int _) q⟩
  ·exact q.elim
 ·exact q.elim
def zcG (t T:String):Bool:=t==T||(t == "bool"&&T == "int")
def zoX (T:String)(te:TDE):TDE:=λdl S Q=>te dl S λd S1=>match d with
 | .ref _=>False
 | .exc _=>False
 | .non=>Q (.bl (zcG "NoneType" T)) S1
 | .bl _=>Q (.bl (zcG "bool" T)) S1
 | .int _=>Q (.bl (zcG "int" T)) S1
 | .str _=>Q (.bl (zcG "str" T)) S1
 | .tup _=>Q (.bl (zcG "tuple" T)) S1
def Kit (K:PySem.W.Frag)(T:String):Prop:=∀t∈["NoneType","bool","int","str","tuple"],PySem.W.kitOne K (.type t) (.type T)=some (zcG t T)
def rInst (K:PySem.W.Frag):List V→Hp→VK→Prop:=λxs H Qv=>∃x T t b,xs=[x,.ty T]∧zbY K H x t∧PySem.W.kitOne K t (.type T)=some b∧Qv (.bl b) H
theorem zoz:zba X (.builtin "isinstance") (rInst X.K):=by
 intro pins s σ H xs us Q I r h
 obtain⟨x,T,t,b,rfl,ty,e,q⟩:=h
 obtain⟨u,w',rfl,r1,r2⟩:=zmz r
 cases r2
 exact ztB I r1 ty e λtk=>⟨.bl b,H,I.tok tk,rfl,q⟩
theorem znA {T:String}{te:TDE}{y:Str}{p2:Pos}(KT:Kit X.K T)(hg:Gl X "isinstance")(hm:X.mg "isinstance"=none)(hg2:Gl X y)(hm2:X.mg y=none)(hv2:bootBuiltins y=some (.type T))(ha:PD X Z e te)
  (hv:bootBuiltins "isinstance"=some (.builtin "isinstance"):=by exact PyProof.Rows.Boot.«isinstance»)
  (hn2:y≠"__name__":=by decide)(hd2:(y==("__debug__":Str))=false:=by decide)(he2:starEach [e,.Name y p2] X.env=(false,eval e X.env)::starEach [.Name y p2] X.env:=by rfl)
  (he3:starEach [.Name y p2] X.env=(false,eval (.Name y p2) X.env)::starEach [] X.env:=by rfl)(hpl:(backTo pos (starEach [.Name y p2] X.env)).any (·.1)=false:=by rfl):
  PD X Z (.Call (.Name "isinstance" p) [e,.Name y p2] [] pos) (zoX T te):=
 za6 (znP zoz hg hm hv (zfd ha (zfd (zo2 (v:=.ty T) hg2 hm2 hv2 rfl hn2 hd2) ziW he3) he2) (by decide) (by decide) he2 hpl) λσ H Qv ⟨r,dl,S,Q,rs,rel,h,ret⟩=>
  ⟨r,dl,S,_,rs,rel,h,λv H1 r1 d S1 e1 rel1 p1 h1=>by
   cases p1 with
   | non=>exact⟨_,T,_,_,rfl,.non,KT _ (by simp),ret _ _ _ _ _ e1 rel1 (.bl _) h1⟩
   | bl b=>exact⟨_,T,_,_,rfl,.bl b,KT _ (by simp),ret _ _ _ _ _ e1 rel1 (.bl _) h1⟩
   | int b=>exact⟨_,T,_,_,rfl,.int b,KT _ (by simp),ret _ _ _ _ _ e1 rel1 (.bl _) h1⟩
   | str b=>exact⟨_,T,_,_,rfl,.str b,KT _ (by simp),ret _ _ _ _ _ e1 rel1 (.bl _) h1⟩
   | tup e2 _ _=>exact⟨_,T,_,_,rfl,.tup e2,KT _ (by simp),ret _ _ _ _ _ e1 rel1 (.bl _) h1⟩
   | ref _=>exact(show False from h1).elim
   | exc _=>exact(show False from h1).elim⟩
end
section
variable {X:Cx}{Z:Zx}{st:Stmt}{zbe:List Stmt}{t u:TDS}{e:Expr}{te:TDE}{pos:Pos}
def znV:TDS:=λE dl S=>E.nx dl S
def zd1 (t u:TDS):TDS:=λE dl S=>t { nx:=λdl' S'=>u E dl' S',rt:=E.rt,bk:=E.bk,ct:=E.ct } dl S
theorem zaz:zb3 X Z [] znV:=zoZ zqi λF σ H ⟨r,dl,S,E,rs,rel,h,ret⟩=>ret.nx σ H r dl S Ext.refl rs rel h
theorem zad (h1:PDS X Z st t)(h2:zb3 X Z zbe u):zb3 X Z (st::zbe) (zd1 t u):=
 zoZ (ztK h1 h2) λF σ H ⟨r,dl,S,E,rs,rel,h,ret⟩=>⟨r,dl,S,_,rs,rel,h,λσ' H' r' dl' S' x rs' rel' q=>⟨r',dl',S',E,rs',rel',q,ret.ext x⟩,ret.bk,ret.ct,ret.rt⟩
theorem zaj (h1:PDS X Z st t):zb3 X Z [st] t:=zrF h1
def zph (te:TDE):TDS:=λE dl S=>te dl S λ_ S1=>E.nx dl S1
theorem zcR (he:PD X Z e te)(hs:swapsWith e none pos.line X.env=pure false:=by rfl):PDS X Z (.Expr e pos) (zph te):=
 zbM (zqj he hs) λF σ H ⟨r,dl,S,E,rs,rel,h,ret⟩=>⟨r,dl,S,_,rs,rel,h,λv H1 r1 d S1 x rel1 p q=>ret.nx σ H1 r1 dl S1 x (rs.ext x) rel1 q⟩
def dRet (te:TDE):TDS:=λE dl S=>te dl S E.rt
theorem zan (he:PD X Z e te):PDS X Z (.Return (some e) pos) (dRet te):=
 zbM (zqM he) λF σ H ⟨r,dl,S,E,rs,rel,h,ret⟩=>⟨r,dl,S,_,rs,rel,h,ret.rt⟩
def dRetN:TDS:=λE _ S=>E.rt .non S
def dIf (c:TDT)(t u:TDS):TDS:=λE dl S=>c dl S λk S1=>if k=true then t E dl S1 else u E dl S1
theorem zay {c:Expr}{a b:List Stmt}{tc:TDT}(hc:PDT X Z c tc)(ha:zb3 X Z a t)(hb:zb3 X Z b u):PDS X Z (.If c a b pos) (dIf tc t u):=
 zbM (ps_if hc ha hb) λF σ H ⟨r,dl,S,E,rs,rel,h,ret⟩=>⟨r,dl,S,_,rs,rel,h,λk H1 r1 S1 x rel1 q=>by
  cases k with
  | true=>exact zcg ⟨r1,dl,S1,E,rs.ext x,rel1,(by simpa using q),ret.ext x⟩
  | false=>exact zbC ⟨r1,dl,S1,E,rs.ext x,rel1,(by simpa using q),ret.ext x⟩⟩
def zlF (i:Nat)(te:TDE):TDS:=λE dl S=>te dl S λd S1=>E.nx (dl.set i (some d)) S1
theorem zap {i:Nat}{x:Str}{pos':Pos}(hN:X.N.Nodup)(hi:X.N[i]?=some x)(hx:Loc X.env.scope x)(he:PD X Z e te)(hs:swapsWith e (some (.Name x pos')) pos.line X.env=pure false:=by rfl)
  (hf:X.fn x=true∨X.env.scope.names.lookup x=some .local:=by first | exact .inl rfl | exact .inr rfl | assumption):PDS X Z (.Assign [.Name x pos'] e pos) (zlF i te):=
 zbM (zuu hN hi hx he hs hf) λF σ H ⟨r,dl,S,E,rs,rel,h,ret⟩=>⟨r,dl,S,_,rs,rel,h,λv H1 r1 d S1 x rel1 p q=>ret.nx _ H1 r1 _ S1 x ((rs.ext x).set i p) rel1 q⟩
def zru (c:TDT)(tb:TDS):TDS:=λE dl S=>∃W:Nat→Ev→Sto→Prop,(∃m,W m dl S)∧∀m dl S,W m dl S→
 c dl S λk S1=>if k=true then tb { nx:=λdl' S'=>∃m',m'<m∧W m' dl' S',rt:=E.rt,bk:=E.nx,ct:=λdl' S'=>∃m',m'<m∧W m' dl' S' } dl S1 else E.nx dl S1
theorem znW {c:Expr}{body:List Stmt}{tc:TDT}{tb:TDS}(hp:PassesOwn (model X.prog X.w) X.A X.env X.xe)(hc:PDT X Z c tc)(hb:zb3 X Z body tb):PDS X Z (.While c body [] pos) (zru tc tb):=
 zbM (zwb hp hc hb) λF σ H ⟨r,dl,S,E,rs,rel,⟨W,⟨m0,w0⟩,turn⟩,ret⟩=>by
  refine⟨λm σ' H'=>∃r' dl' S',Ext r r' H H'∧Rs r' H' dl' σ'∧Rel X.K Z r' S' H'∧W m dl' S',⟨m0,r,dl,S,Ext.refl,rs,rel,w0⟩,?_⟩
  rintro m σ1 H1 ⟨r1,dl1,S1,x1,rs1,rel1,w1⟩
  refine⟨r1,dl1,S1,_,rs1,rel1,turn m dl1 S1 w1,λk H2 r2 S2 x2 rel2 q2=>?_⟩
  cases k with
  | true=>
   refine zcg ⟨λσ' H'=>∃m',m'<m∧∃r' dl' S',Ext r r' H H'∧Rs r' H' dl' σ'∧Rel X.K Z r' S' H'∧W m' dl' S',λ_ _ z=>z,r2,dl1,S2,_,rs1.ext x2,rel2,(by simpa using q2),?_⟩
   have go:∀σ' H' r' dl' S',Ext r2 r' H2 H'→Rs r' H' dl' σ'→Rel X.K Z r' S' H'→(∃m',m'<m∧W m' dl' S')→∃m',m'<m∧∃r' dl' S',Ext r r' H H'∧Rs r' H' dl' σ'∧Rel X.K Z r' S' H'∧W m' dl' S':=
    λσ' H' r' dl' S' x rs' rel' ⟨m',hm,w'⟩=>⟨m',hm,r',dl',S',x1.trans (x2.trans x),rs',rel',w'⟩
   exact⟨go,λσ' H' r' dl' S' x rs' rel' q=>ret.nx σ' H' r' dl' S' (x1.trans (x2.trans x)) rs' rel' q,go,ret.rt.ext (x1.trans x2)⟩
  | false=>exact zbC (ret.nx σ1 H2 r2 dl1 S2 (x1.trans x2) (rs1.ext x2) rel2 (by simpa using q2))
def dFor (i:Nat)(tl:TDE)(tb:TDS):TDS:=λE dl S=>tl dl S λd S1=>match d with
 | .ref n=>(lAt S1 n).isSome=true∧∃W:Nat→Nat→Ev→Sto→Prop,(∃m,W 0 m dl S1)∧∀k m dl S,W k m dl S→match lAt S n with
  | some o=>match (zas o)[k]? with
   | some x=>tb { nx:=λdl' S'=>∃m',m'<m∧W (k+1) m' dl' S',rt:=E.rt,bk:=E.nx,ct:=λdl' S'=>∃m',m'<m∧W (k+1) m' dl' S' } (dl.set i (some x)) S
   | none=>E.nx dl S
  | none=>False
 | _=>False
theorem zdC {i:Nat}{x:Str}{pos':Pos}{iter:Expr}{body:List Stmt}{tl:TDE}{tb:TDS}(hp:PassesOwn (model X.prog X.w) X.A X.env X.xe)(hc:X.calm=true)(hN:X.N.Nodup)(hi:X.N[i]?=some x)(hx:Loc X.env.scope x)
  (hl:PD X Z iter tl)(hb:zb3 X Z body tb)(hf:X.fn x=true∨X.env.scope.names.lookup x=some .local:=by first | exact .inl rfl | exact .inr rfl | assumption)
  (hs:∀y,foldedSetIterable iter X.env y=pure y:=by intro _; rfl):PDS X Z (.For (.Name x pos') iter body [] pos) (dFor i tl tb):=
 zbM (zlI hp hc (zoS hl) (zgQ hN hi hx hf) hb hs) λF σ H ⟨r,dl,S,E,rs,rel,h,ret⟩=>by
  refine⟨r,dl,S,_,rs,rel,h,λv H1 r1 d S1 x1 rel1 p1 q1=>?_⟩
  cases p1 with
  | @ref n a hn=>
   obtain⟨hsome,W,⟨m0,w0⟩,turn⟩:=q1
   have sql:∀ {r':List Addr} {S':Sto} {H':Hp} {o:Ob},Ext r1 r' H1 H'→Rel X.K Z r' S' H'→lAt S' n=some o→∃xs,SqL X.K H' a xs∧Rps r' H' (zas o) xs:=λ{r' S' H' o} x' rel' eo=>by
    obtain⟨eo,eL⟩:=zbu eo
    obtain⟨a',ha,ob⟩:=rel'.at eo
    rw[x'.adr n a hn] at ha; cases ha
    exact ob.list eL
   obtain⟨o1,eo1⟩:=Option.isSome_iff_exists.mp hsome
   obtain⟨xs1,sq1,_⟩:=sql Ext.refl rel1 eo1
   refine⟨a,rfl,⟨xs1,sq1⟩,λk m σ' H'=>∃r' dl' S',Ext r1 r' H1 H'∧Rs r' H' dl' σ'∧Rel X.K Z r' S' H'∧W k m dl' S',⟨m0,r1,dl,S1,Ext.refl,rs.ext x1,rel1,w0⟩,?_⟩
   rintro k m σ2 H2 ⟨r2,dl2,S2,x2,rs2,rel2,w2⟩
   have q:=turn k m dl2 S2 w2
   split at q
   ·rename_i o eo
    obtain⟨xs,sq,pr⟩:=sql x2 rel2 eo
    split at q
    ·rename_i y ey
     obtain⟨v,hv,pv⟩:=pr.get ey
     have go:∀ {r3:List Addr} {H3:Hp},Ext r2 r3 H2 H3→∀σ' H' r' dl' S',Ext r3 r' H3 H'→Rs r' H' dl' σ'→Rel X.K Z r' S' H'→(∃m',m'<m∧W (k+1) m' dl' S')→∃m',m'<m∧∃r' dl' S',Ext r1 r' H1 H'∧Rs r' H' dl' σ'∧Rel X.K Z r' S' H'∧W (k+1) m' dl' S':=
      λ{r3 H3} x3 σ' H' r' dl' S' x rs' rel' ⟨m',hm,w'⟩=>⟨m',hm,r',dl',S',x2.trans (x3.trans x),rs',rel',w'⟩
     refine .inr ⟨⟨xs,v,sq,hv⟩,λσ' H'=>∃m',m'<m∧∃r' dl' S',Ext r1 r' H1 H'∧Rs r' H' dl' σ'∧Rel X.K Z r' S' H'∧W (k+1) m' dl' S',λ_ _ z=>z,λv' H' y'=>?_⟩
     obtain⟨eH,y'⟩:=y'
     subst eH
     have ev:v'=v:=by
      have z:=y' xs sq
      rw[hv] at z; exact(Option.some.inj z).symm
     subst ev
     exact⟨r2,_,S2,_,rs2.set i pv,rel2,q,go Ext.refl,λσ' H' r' dl' S' x rs' rel' z=>ret.nx σ' H' r' dl' S' (x1.trans (x2.trans x)) rs' rel' z,go Ext.refl,ret.rt.ext (x1.trans x2)⟩
    ·rename_i ey
     have hlen:(zas o).length≤k:=VaQ.mp ey
     exact .inl ⟨⟨xs,sq,by rw[← pr.1]; exact hlen⟩,ret.nx σ2 H2 r2 dl2 S2 (x1.trans x2) rs2 rel2 q⟩
   ·exact q.elim
  | _=>exact(show False from q1).elim
def dForR (i:Nat)(ta:TDA)(tb:TDS):TDS:=λE dl S=>ta dl S λds S1=>match ds with
 | [.int j]=>(-(2^62)≤j∧j<2^62)∧∃W:Nat→Ev→Sto→Prop,W 0 dl S1∧∀k dl S,W k dl S→
   if k<j.toNat then tb { nx:=λdl' S'=>W (k+1) dl' S',rt:=E.rt,bk:=E.nx,ct:=λdl' S'=>W (k+1) dl' S' } (dl.set i (some (.int k))) S else E.nx dl S
 | _=>False
theorem zmR {i:Nat}{x:Str}{pos2 pos' p:Pos}{a:Expr}{body:List Stmt}{ta:TDA}{tb:TDS}(hp:PassesOwn (model X.prog X.w) X.A X.env X.xe)(hc:X.calm=true)(hN:X.N.Nodup)(hi:X.N[i]?=some x)(hx:Loc X.env.scope x)
  (hg:Gl X "range")(hm:X.mg "range"=none)(ha:PDA X Z [a] ta)(hb:zb3 X Z body tb)(hf:X.fn x=true∨X.env.scope.names.lookup x=some .local:=by first | exact .inl rfl | exact .inr rfl | assumption)
  (hs:∀y,foldedSetIterable (.Call (.Name "range" p) [a] [] pos) X.env y=pure y:=by intro _; rfl)(hst:starEach [a] X.env=[(false,eval a X.env)]:=by rfl):
  PDS X Z (.For (.Name x pos') (.Call (.Name "range" p) [a] [] pos) body [] pos2) (dForR i ta tb):=
 zbM (zlI hp hc (znp hg hm ha hst) (zgQ hN hi hx hf) hb hs) λF σ H ⟨r,dl,S,E,rs,rel,h,ret⟩=>by
  refine⟨r,dl,S,_,rs,rel,h,λvs H1 r1 ds S1 x1 rel1 p1 q1=>?_⟩
  split at q1
  ·rename_i j
   obtain⟨v,vs',rfl,p2,p3⟩:=p1.uncons
   have z:=p3.unnil
   subst z
   cases p2
   obtain⟨⟨b1,b2⟩,W,w0,turn⟩:=q1
   refine⟨j,rfl,b1,b2,λk m σ' H'=>m=j.toNat-k∧∃r' dl' S',Ext r1 r' H1 H'∧Rs r' H' dl' σ'∧Rel X.K Z r' S' H'∧W k dl' S',⟨j.toNat,by simp,r1,dl,S1,Ext.refl,rs.ext x1,rel1,w0⟩,?_⟩
   rintro k m σ2 H2 ⟨em,r2,dl2,S2,x2,rs2,rel2,w2⟩
   have q:=turn k dl2 S2 w2
   split at q
   ·rename_i hk
    have go:∀σ' H' r' dl' S',Ext r2 r' H2 H'→Rs r' H' dl' σ'→Rel X.K Z r' S' H'→W (k+1) dl' S'→∃r' dl' S',Ext r1 r' H1 H'∧Rs r' H' dl' σ'∧Rel X.K Z r' S' H'∧W (k+1) dl' S':=
     λσ' H' r' dl' S' x rs' rel' w'=>⟨r',dl',S',x2.trans x,rs',rel',w'⟩
    have pk:Rp r2 H2 (.int (k:Int)) (.int (0+(k:Int))):=by rw[Int.zero_add]; exact .int _
    refine .inr ⟨hk,λσ' H'=>∃r' dl' S',Ext r1 r' H1 H'∧Rs r' H' dl' σ'∧Rel X.K Z r' S' H'∧W (k+1) dl' S',λσ' H' z=>⟨j.toNat-(k+1),by omega,rfl,z⟩,λv' H' y'=>?_⟩
    obtain⟨eH,y'⟩:=y'
    subst eH
    subst y'
    exact⟨r2,_,S2,_,rs2.set i pk,rel2,q,go,λσ' H' r' dl' S' x rs' rel' z=>ret.nx σ' H' r' dl' S' (x1.trans (x2.trans x)) rs' rel' z,go,ret.rt.ext (x1.trans x2)⟩
   ·rename_i hk
    exact .inl ⟨by show j.toNat≤k; omega,ret.nx σ2 H2 r2 dl2 S2 (x1.trans x2) rs2 rel2 q⟩
  ·exact q1.elim
end
def zd8 (N:List Str)(ds:List D):Ev:=ds.map some++List.replicate (N.length-ds.length) none
theorem zwd {r:List Addr}{H:Hp}{N:List Str}{ds:List D}{vs:List V}(h:Rps r H ds vs):Rs r H (zd8 N ds) (L2.zcd N vs):=by
  refine⟨by simp[zd8,L2.zcd,h.1],λi d e=>?_⟩
  unfold zd8 at e
  by_cases hi:i<ds.length
  · rw[Vao (by simpa using hi),Vap] at e
    cases q:ds[i]? with
    | none=>
   rw[q] at e
   cases e
    | some z=>
      rw[q] at e
      cases e
      obtain⟨v,hv,pv⟩:=h.get q
      refine⟨v,?_,pv⟩
      unfold L2.zcd
      rw[Vao (by simpa [h.1] using hi),Vap,hv]
      rfl
  · rw[VaK (by simpa using hi),List.getElem?_replicate] at e
    split at e <;> cases e
section
variable {P:Program}{w:World}{K:PySem.W.Frag}{mg:Str→Option Value}{base:Heap}
abbrev Z0:Zx:=Zc (λ_ _=>False) (λ_ _ _=>False)
theorem zcf {X:Cx}:zcH X Z0.w:=λ_ _ _ _ _ _ _ h=>by
 obtain⟨_,_,_,_,_,_,_,_,_,_,_,_,q⟩:=h
 exact q.elim
theorem zaw {x qual:Str}{st:Stmt}{f:Addr}{fd:FuncData}{N ps:List Str}{k:Nat}{sd:Sd}(F:Fun K x qual st f fd)(Sc:zav N ps (zaq st))(len:∀ds S Q ex,sd ds S Q ex→ds.length=ps.length)
  (hbody:∀(cdv:Value) (A:Around) (outer:List Env) (s:Shared) (H:Hp) (E:XK),zaF k (A.deeper (envOfC qual (zaq st) s.heap.objs.size f cdv))→
   ∃t,zb3 (zdB (CXE P w) P w K mg base N qual (zaq st) f cdv A outer s H E).nox Z0 (zcO st) t∧∀ds S Q ex,sd ds S Q ex→t { nx:=λ_ S'=>Q .non S',rt:=Q } (zd8 N ds) S):zaZ P w K mg base (CXE P w) (k+1) f fd ps (upF K sd):=by
 obtain⟨oc,od,kV,doc,pm,an,cdv,ct,osl,rfl,lk,hcd⟩:=F.ex
 refine zoP lk hcd Sc (λvs H Q E h=>?_) λA outer s H vs Q E hr h=>?_
 ·obtain⟨ex,r,S,ds,Q',rel,p,q,ret⟩:=h
  rw[← p.1]
  exact len ds S Q' ex q
 ·obtain⟨ex,r,S,ds,Q',rel,p,q,ret⟩:=h
  obtain⟨t,ht,hq⟩:=hbody cdv A outer s H E hr
  have back:∀ {H':Hp} {r':List Addr} {S':Sto},Ext r r' H H'→Rel K Z0 r' S' H'→Rel K (Zc ex E) r' S' H':=λx rel'=>⟨rel'.b,rel.xw.ext x⟩
  refine⟨upS K Z0 t,ht.nox,r,zd8 N ds,S,_,zwd p,⟨rel.b,λ_ _ _ _ _ _ _ _ _ z=>z.elim⟩,hq ds S Q' ex q,?_,?_,?_,?_⟩
  ·intro σ' H' r' dl' S' x _ rel' z
   exact ret .non H' r' .non S' x (back x rel') .non z
  ·intro σ' H' r' dl' S' x _ rel' z
   exact z
  ·intro σ' H' r' dl' S' x _ rel' z
   exact z
  ·intro v H' r' d S' x rel' p' z
   exact ret v H' r' d S' x (back x rel') p' z
end
open PySem
def Sz (n:Nat)(i:Int):Prop:=i.natAbs<2^n
theorem Sz.mono {m n:Nat}{i:Int}(h:Sz m i)(hn:m≤n):Sz n i:=Var h (Nat.pow_le_pow_right (by decide) hn)
theorem Sz.bits {n:Nat}{i:Int}(h:Sz n i):Builtin.Int.intBits i≤n:=by
 unfold Builtin.Int.intBits
 split
 ·exact VaC _
 ·rename_i hz
  have hp:i.natAbs≠0:=by
   intro z
   have z2:i=0:=by omega
   simp[z2] at hz
  have:=(Nat.log2_lt hp).mpr h
  omega
theorem zaE {m n:Nat}{i j:Int}(hi:Sz m i)(hj:Sz n j)(hm:m≤1048576:=by decide)(hn:n≤1048576:=by decide):IntMulOk i j:=by
 have e20:(2:Nat)^20=1048576:=by decide
 exact IntMulOk.of_bits (VaB hi.bits (by omega)) (VaB hj.bits (by omega))
theorem Sz.of {n:Nat}{i:Int}(m:Nat)(h:i.natAbs≤m)(hm:m<2^n:=by decide):Sz n i:=VaZ h hm
theorem Sz.mul {m n:Nat}{i j:Int}(hi:Sz m i)(hj:Sz n j):Sz (m+n) (i*j):=by
 unfold Sz at *
 rw[Nat.pow_add,Int.natAbs_mul]
 exact Nat.mul_lt_mul'' hi hj
theorem Sz.add {m n:Nat}{i j:Int}(hi:Sz m i)(hj:Sz n j):Sz (max m n+1) (i+j):=by
 have h1:Sz (max m n) i:=hi.mono (Nat.le_max_left _ _)
 have h2:Sz (max m n) j:=hj.mono (Nat.le_max_right _ _)
 unfold Sz at *
 have e:(2:Nat)^(max m n+1)=2^max m n+2^max m n:=by rw[Nat.pow_succ]; omega
 rw[e]
 have:=Int.natAbs_add_le i j
 omega
theorem Sz.neg {m:Nat}{i:Int}(hi:Sz m i):Sz m (-i):=by
 unfold Sz at *
 rw[Int.natAbs_neg]; exact hi
theorem Sz.sub {m n:Nat}{i j:Int}(hi:Sz m i)(hj:Sz n j):Sz (max m n+1) (i-j):=by
 rw[Int.sub_eq_add_neg]; exact hi.add hj.neg
theorem Sz.log {n:Nat}{i:Int}(h:Sz n i)(hi:i≠0)(hn:n≤9000:=by decide):i.natAbs.log2<9000:=by
 have:=(Nat.log2_lt (by omega:i.natAbs≠0)).mpr h
 omega
theorem Sz.fd {n:Nat}{i:Int}(h:Sz n i)(hi:0<i)(hn:n≤9000:=by decide):0<i∧i.natAbs.log2<9000:=⟨hi,h.log (by omega) hn⟩
theorem za7 {a b:Int}(hb:0<b):0≤a%b∧a%b<b:=⟨Int.emod_nonneg _ (by omega),Int.emod_lt_of_pos _ hb⟩
theorem p40:((10:Int)^(40:Int).toNat)=10^40:=rfl
theorem p41:((10:Int)^(41:Int).toNat)=10^41:=rfl
theorem p20:((10:Int)^(20:Int).toNat)=10^20:=rfl
example (x:Int):-(10^40)≤x%(2*10^40+1)-10^40:=by omega
example (x:Int):x%(2*10^40+1)-10^40≤10^40:=by omega
example (x:Int) (h:-(10^40)≤x) (h2:x≤2*10^41):Sz 140 x:=Sz.of (2*10^41) (by omega)
theorem zvf (a b:Int):Int.gcd b (a%b)=Int.gcd a b:=by
 rw[Int.emod_def,show a-b*(a/b)=a-(a/b)*b by rw[Vav],Int.gcd_sub_mul_right_right,Int.gcd_comm]
def zc2 (i:Int):Int:=if i<0 then -i else i
theorem zs8 (i:Int):0≤zc2 i:=by unfold zc2; split <;> omega
theorem zuc (a b:Int):Int.gcd (zc2 a) (zc2 b)=Int.gcd a b:=by
 have h:∀i:Int,(zc2 i).natAbs=i.natAbs:=λi=>by unfold zc2; split <;> omega
 unfold Int.gcd
 rw[h,h]
theorem zt8 {T B d:Int}(hB:B≠0)(hd:d=(if B<0 then -((Int.gcd T B:Nat):Int) else ((Int.gcd T B:Nat):Int))):
  d≠0∧T.fdiv d*d=T∧B.fdiv d*d=B∧1≤B.fdiv d∧Int.gcd (T.fdiv d) (B.fdiv d)=1∧T.fdiv d*B=T*B.fdiv d:=by
 have g0:0<Int.gcd T B:=Nat.pos_of_ne_zero λz=>hB (Int.gcd_eq_zero_iff.mp z).2
 have dT:((Int.gcd T B:Nat):Int) ∣ T:=Int.gcd_dvd_left T B
 have dB:((Int.gcd T B:Nat):Int) ∣ B:=Int.gcd_dvd_right T B
 have hne:d≠0:=by
  rw[hd]; split <;> omega
 have eT:d ∣ T:=by rw[hd]; split <;> first | exact Int.neg_dvd.mpr dT | exact dT
 have eB:d ∣ B:=by rw[hd]; split <;> first | exact Int.neg_dvd.mpr dB | exact dB
 have fT:T.fdiv d=T/d:=Int.fdiv_eq_ediv_of_dvd eT
 have fB:B.fdiv d=B/d:=Int.fdiv_eq_ediv_of_dvd eB
 have mT:T.fdiv d*d=T:=by rw[fT]; exact Int.ediv_mul_cancel eT
 have mB:B.fdiv d*d=B:=by rw[fB]; exact Int.ediv_mul_cancel eB
 have gg:Int.gcd (T.fdiv d) (B.fdiv d)=1:=by
  have z:=Int.gcd_ediv_gcd_ediv_gcd g0
  rw[fT,fB,hd]
  split
  ·rw[Int.ediv_neg,Int.ediv_neg,Int.neg_gcd,Int.gcd_neg]; exact z
  ·exact z
 have pos:1≤B.fdiv d:=by
  by_cases hb:B<0
  ·have dn:d<0:=by rw[hd,if_pos hb]; omega
   by_cases q:B.fdiv d≤0
   ·have:=Int.mul_nonneg_of_nonpos_of_nonpos q (Vaq dn)
    omega
   ·omega
  ·have dp:0<d:=by rw[hd,if_neg hb]; omega
   by_cases q:B.fdiv d≤0
   ·have:=Vah (show 0≤-(B.fdiv d) by omega) (Vaq dp)
    rw[Vae] at this
    omega
   ·omega
 refine⟨hne,mT,mB,pos,gg,?_⟩
 calc T.fdiv d*B=T.fdiv d*(B.fdiv d*d):=by rw[mB]
  _=T.fdiv d*d*B.fdiv d:=by grind
  _=T*B.fdiv d:=by rw[mT]
theorem zp4 {T d:Int}(hne:d≠0)(mT:T.fdiv d*d=T):(T.fdiv d).natAbs≤T.natAbs:=by
 have h:(T.fdiv d).natAbs*d.natAbs=T.natAbs:=by rw[← Int.natAbs_mul,mT]
 have hd:1≤d.natAbs:=by omega
 calc (T.fdiv d).natAbs=(T.fdiv d).natAbs*1:=by omega
  _≤(T.fdiv d).natAbs*d.natAbs:=Nat.mul_le_mul_left _ hd
  _=T.natAbs:=h
theorem zla (m:Int){g:Int}(hg:0<g):m/g*g≤m∧m<(m/g+1)*g:=by
 have h1:=Int.emod_add_mul_ediv m g
 have h2:=Int.emod_nonneg m (show g≠0 by omega)
 have h3:=Int.emod_lt_of_pos m hg
 have e:(m/g+1)*g=g*(m/g)+g:=by grind
 have e2:m/g*g=g*(m/g):=Vav _ _
 omega
theorem zot (m:Int){g:Int}(hg:0<g):m≤-(-m/g)*g∧(-(-m/g)-1)*g<m:=by
 obtain⟨h1,h2⟩:=zla (-m) hg
 have e1:-(-m/g)*g=-(-m/g*g):=by rw[Vae]
 have e2:(-(-m/g)-1)*g=-((-m/g+1)*g):=by grind
 omega
section
variable {X:Cx}{Z:Zx}
def wIf (C:Int→Int→Bool)(g:Int→Int→D):W2:=λx y S Q=>match x,y with
 | .int i,.int j=>if C i j=true then Q (g i j) S else False
 | _,_=>False
theorem opIf {f:Value→Value→Sem Value}{C:Int→Int→Prop}{C':Int→Int→Bool}{g:Int→Int→D}(h:OpR X f (upO X.K Z (wI C g)))(hc:∀i j,C' i j=true→C i j):OpR X f (upO X.K Z (wIf C' g)):=
 zeC h λx y H Qv ⟨r,S,dx,dy,Q,rel,px,py,q,ret⟩=>⟨r,S,dx,dy,Q,rel,px,py,by
  unfold wIf at q
  split at q
  ·obtain⟨h1,h2⟩:=zlz q
   exact⟨hc _ _ h1,h2⟩
  ·exact q.elim,ret⟩
def zfx (_ j:Int):Bool:=decide (0<j)&&decide (j<1073741824)
abbrev zrM:W2:=wIf zfx λi j=>.int (i/j)
abbrev wModL:W2:=wIf zfx λi j=>.int (i%j)
def powB (i j:Int):Bool:=decide (0≤j)&&decide (j≤1000)&&decide (-1000<i)&&decide (i<1000)
abbrev wPowL:W2:=wIf powB λi j=>.int (i^j.toNat)
theorem zoq {i j:Int}(h:zfx i j=true):0<j∧j<1073741824:=by
 unfold zfx at h
 simpa using h
theorem zbZ:OpR X (binaryOp .FloorDiv) (upO X.K Z zrM):=opIf zcc λi j h=>by
 obtain⟨h1,h2⟩:=zoq h
 refine⟨h1,?_⟩
 have:j.natAbs.log2<30:=(Nat.log2_lt (by omega)).mpr (by omega)
 omega
theorem za8:OpR X (binaryOp .Mod) (upO X.K Z wModL):=opIf za9 λi j h=>(zoq h).1
theorem zb5:OpR X (binaryOp .Pow) (upO X.K Z wPowL):=opIf zsg λi j h=>by
 unfold powB at h
 simp at h
 refine⟨h.1.1.1,by have:=h.1.1.2; omega,?_⟩
 have h3:=h.1.2
 have h4:=h.2
 have big:(18446744073709551616:Nat)=2^64:=by decide
 omega
structure Df (K:PySem.W.Frag)(mg:Str→Option Value)(x:Str)(st:Stmt)(ps:List Str) where
 f:Addr
 fd:FuncData
 F:Fun K x x st f fd
 m:mg x=some (.ref f)
 b:zbp K fd ps []
structure Fk (P:Program)(w:World)(K:PySem.W.Frag)(mg:Str→Option Value)(base:Heap)(k:Nat)(x:Str)(ps:List Str)(sd:Sd) where
 f:Addr
 fd:FuncData
 ok:zaZ P w K mg base (CXE P w) k f fd ps (upF K sd)
 m:mg x=some (.ref f)
 kp:PySem.W.keepIn K (.ref f)=true
 b:zbp K fd ps []
def Df.mk' {P:Program}{w:World}{K:PySem.W.Frag}{mg:Str→Option Value}{base:Heap}{k:Nat}{x:Str}{st:Stmt}{ps:List Str}{sd:Sd}(d:Df K mg x st ps)(h:zaZ P w K mg base (CXE P w) k d.f d.fd ps (upF K sd)):Fk P w K mg base k x ps sd:=
 ⟨d.f,d.fd,h,d.m,d.F.kp,d.b⟩
theorem znD {x:Str}{p pos:Pos}{e:Expr}{es:List Expr}{t:TDA}{k:Nat}{ps:List Str}{sd:Sd}{ex:Ev→Addr→Sto→Prop}{W:St→XK}(G:Fk X.prog X.w X.K X.mg X.base k x ps sd)(hr:zaF k X.A)(hx:zcH X W)(hg:Gl X x)(ha:PDA X ⟨ex,W⟩ (e::es) t)
  (hdb:(x==("__debug__":Str))=false:=by decide)(he:starEach (e::es) X.env=(false,eval e X.env)::starEach es X.env:=by rfl)(hpl:(backTo pos (starEach es X.env)).any (·.1)=false:=by rfl):
  PD X ⟨ex,W⟩ (.Call (.Name x p) (e::es) [] pos) (zkv ex sd t):=ztj G.ok hr hg G.m G.kp G.b hx ha hdb he hpl
theorem ztw {st:Stmt}:PDS X Z st (λ_ _ _=>False):=zbM zq4 λF σ H ⟨_,_,_,_,_,_,h,_⟩=>h
end
def zez:Sd:=λds S Q _=>∃ns:List Int,ds=[.ref 0]∧S=[.frz (ns.map D.int)]∧ns.length≤63∧∀S',Q (.bl true) S'
theorem zsW:∀ds S Q ex,zez ds S Q ex→ds.length=1:=λds S Q ex h=>by
 obtain⟨ns,rfl,_⟩:=h
 rfl
theorem zwJ {K:PySem.W.Frag}{H:Hp}{a:Addr}{xs:List V}(hO:zgJ H)(h:SqL K H a xs):SqF K H a xs:=by
 rcases h with (h | ⟨o,h⟩) | h
 ·rcases hO a with z | ⟨o,ys,z⟩
  ·rw[h] at z; cases z
  ·rw[h] at z; cases z
 ·exact .inl ⟨o,h⟩
 ·exact .inr h
theorem zqQ {r:List Addr}{H:Hp}(ns:List Int):Rps r H (ns.map D.int) (ns.map V.int):=by
 refine⟨by simp,λi d v h1 h2=>?_⟩
 rw[Vap] at h1 h2
 cases q:ns[i]? with
 | none=>rw[q] at h1; cases h1
 | some z=>
  rw[q] at h1 h2
  cases h1
  cases h2
  exact .int z
theorem zwj {K:PySem.W.Frag}{H:Hp}{a:Addr}{ns:List Int}(hl:ns.length≤63)(hO:zgJ H)(hS:SqL K H a (ns.map V.int)):upF K zez [.ref a] H (λv _=>v=.bl true) λ_ _ _=>False:=by
 refine⟨λ_ _=>False,[a],[.frz (ns.map D.int)],[.ref 0],λd _=>d=.bl true,⟨⟨rfl,λn b o h1 h2=>?_,λn m b xs ys h1 h2 h3 h4 o1 o2=>?_⟩,λ_ _ _ _ _ _ _ _ _ z=>z.elim⟩,Rps.cons (.ref rfl) Rps.nil,⟨ns,rfl,rfl,hl,λ_=>rfl⟩,λv H' r' d S' e rel p q=>?_⟩
 ·cases n with
  | zero=>
   simp at h1 h2
   subst h1; subst h2
   exact⟨_,zwJ hO hS,zqQ ns⟩
  | succ n=>simp at h1
 ·cases n with
  | zero=>
   simp at h3
   subst h3
   cases o1
  | succ n=>simp at h1
 ·subst q
  cases p
  rfl
theorem zuz {l:PySem.W.OpenLaw}{q:Program}{loose:List Str}{XP:(Str→Option Value)→Heap→Prop}{YP:World→Heap→Prop}{d:DefRec}{K:Params→PySem.W.Frag}{x:Str}(k:Nat)(hn:l.most=some 63)(hdf:d.params.defaults=[])(hr:zaF k callerA)
  (hY:∀(w:World) (h:Heap),YP w h→(K w.params).In h)
  (F:∀(w:World) (mg:Str→Option Value) (fa:Addr) (h:Heap),(K w.params).In h→h.Ns mainGlobals mg→mg d.name=some (.ref fa)→
   ∃fd:FuncData,(∀(s:Shared) (u:Value),BindsTo s fd ⟨[u],[]⟩ [(x,u)])∧∀base:Heap,(K w.params).In base→base.Ns mainGlobals mg→zaZ l.prog w (K w.params) mg base (CXE l.prog w) k fa fd [x] (upF (K w.params) zez)):
  PySem.W.WalkO q loose XP YP l.row.toRowW d [] (λf vs=>PySem.call f vs):=
 L2.zvQ (n:=63) (k:=k) (x:=x) (CX:=λw=>CXE l.prog w) (sp:=λw=>upF (K w.params) zez) hn (by decide) hdf hr hY F (λ_ _ a ns hl hO hS=>zwj hl hO hS) λ_ _ _ _ _ ⟨_,_,_,_,_,_,_,_,_,_,_,_,z⟩=>z
theorem znm (K:PySem.W.Frag)(T:String)(h:T∈["int","bool","tuple","str"]):Kit K T:=by
 intro t ht
 simp only[Vai,VaM,or_false] at h ht
 rcases h with rfl | rfl | rfl | rfl <;> rcases ht with rfl | rfl | rfl | rfl | rfl <;> kernel_rfl
theorem ifT {c:Bool}{A B:Prop}(h:c=true)(a:A):if c=true then A else B:=by rw[if_pos h]; exact a
theorem ifF {c:Bool}{A B:Prop}(h:c=false)(b:B):if c=true then A else B:=by rw[h]; exact zbC b
theorem ifP {c A B:Prop} [Decidable c] (h:c)(a:A):if c then A else B:=by rw[if_pos h]; exact a
theorem ifD {c:Prop} [Decidable c] {A B:Prop}(h1:c→A)(h2:¬ c→B):if decide c=true then A else B:=by
 by_cases h:c
 ·rw[decide_eq_true h]; exact zcg (h1 h)
 ·rw[decide_eq_false h]; exact zbC (h2 h)
open PySem L2
open PySem L2
theorem Sz.pow {n:Nat}{i:Int}(h:Sz n i)(k:Nat):Sz (n*k+1) (i^k):=by
 unfold Sz at *
 rw[Int.natAbs_pow,Nat.pow_succ,Nat.pow_mul]
 have h1:i.natAbs^k≤(2^n)^k:=Nat.pow_le_pow_left (VaV h) k
 have h2:0<(2^n)^k:=Nat.pow_pos (Nat.pow_pos (by decide))
 omega
theorem ifN {c:Prop} [Decidable c] {A B:Prop}(h1:¬ c→A)(h2:c→B):if (!decide c)=true then A else B:=by
 by_cases h:c
 ·rw[decide_eq_true h]; exact L2.zbC (h2 h)
 ·rw[decide_eq_false h]; exact L2.zcg (h1 h)
section
variable {X:Cx}{Z:Zx}
abbrev Cx.held (X:Cx)(pins:List (Addr×Obj))(E:Value→Shared→Prop):Cx:={ X with pn:=X.pn++pins,xe:=E }
end
structure zdK (k:Nat)(A:Around):Prop where
 dp:A.depth+3*k+5<recursionLimit
 un:A.units+16*k+200<cLine
theorem zdK.mono {j k:Nat}{A:Around}(r:zdK k A)(h:j≤k):zdK j A:=⟨by have:=r.dp; omega,by have:=r.un; omega⟩
theorem zdK.deeper {k:Nat}{A:Around}(r:zdK (k+1) A)(env:Env):zdK k (A.deeper env):=
 ⟨by have:=r.dp; show A.depth+1+3*k+5<_; omega,by have:=r.un; show A.units+3+16*k+200<_; omega⟩
structure FnOkN (P:Program)(w:World)(K:PySem.W.Frag)(mg:Str→Option Value)(base:Heap)(k:Nat)(f:Addr)(fd:FuncData)(ps:List Str)(sp:Sp):Prop where
 len:∀vs H Q E,sp vs H Q E→vs.length=ps.length
 run:∀(A:Around) (outer:List Env) (s:Shared) (H:Hp) (args:Args) (us:List Value) (vs:List V) (Q:VK) (E:XK),zdK k A→zcm P w K mg base A outer s H→BindsTo s fd args (ps.zip us)→zax vs us→sp vs H Q E→
  codeAny (model P w) A (.call (.ref f) args) (CR (CXE P w) outer P w H s Q E) s
section
variable {X:Cx}{k:Nat}{f:Addr}{fd:FuncData}{ps:List Str}{sp:Sp}{W:St→XK}{x:Str}{p pos:Pos}{e:Expr}{es:List Expr}{t:TA}
end
section
variable {X:Cx}{Z:Zx}{x:Str}{p pos:Pos}{e:Expr}{es:List Expr}{t:TDA}
end
section
variable {P:Program}{w:World}{K:PySem.W.Frag}{mg:Str→Option Value}{base:Heap}
end
structure FkN (P:Program)(w:World)(K:PySem.W.Frag)(mg:Str→Option Value)(base:Heap)(k:Nat)(x:Str)(ps:List Str)(sd:Sd) where
 f:Addr
 fd:FuncData
 ok:FnOkN P w K mg base k f fd ps (upF K sd)
 m:mg x=some (.ref f)
 kp:PySem.W.keepIn K (.ref f)=true
 b:zbp K fd ps []
section
variable {X:Cx}{Z:Zx}
theorem zqV {r:List Addr}{H:Hp}{a:Addr}{o:HO}(h:H a=none):Ext r r H (upd H a o):=⟨λ_ _ q=>q,λ_ _ q=>zdk h _ _ q,λ_ _ q=>zdk h _ _ q⟩
open PySem.W in
end
abbrev VE:List Value:=[.type "ValueError",.type "Exception",.type "BaseException",.type "object"]
structure Ec (K:PySem.W.Frag)(mg:Str→Option Value)(x:Str) where
 c:Addr
 xc:Xc K mg x c VE "ValueError.__new__"
theorem qt {Q:DK}{S:Sto}{b:Bool}(e:b=true)(h:Q (.bl true) S):Q (.bl b) S:=by rw[e]; exact h
theorem Sz.div {n:Nat}{i j:Int}(h:Sz n i)(hj:1≤j):Sz n (i/j):=by
 refine VaZ ?_ h
 obtain⟨h1,h2⟩:=zla i (show 0<j by omega)
 by_cases q:0≤i/j
 ·have:=Va4 hj q
  omega
 ·have:=Va4 hj (show 0≤-(i/j+1) by omega)
  have e:-(i/j+1)*j=-((i/j+1)*j):=Vae _ _
  omega
inductive Sco (n:Nat):D→Prop
 | non:Sco n .non
 | bl (b:Bool):Sco n (.bl b)
 | int (i:Int):Sco n (.int i)
 | str (x:Str):Sco n (.str x)
 | tup {ds:List D}:(∀d∈ds,Sco n d)→Sco n (.tup ds)
 | ref {m:Nat}:m<n→Sco n (.ref m)
 | exc (c:Addr):Sco n (.exc c)
theorem Rp.sco {r:List Addr}{H:Hp}{d:D}{v:V}(h:Rp r H d v):Sco r.length d:=by
 induction h with
 | non=>exact .non
 | bl b=>exact .bl b
 | int i=>exact .int i
 | str x=>exact .str x
 | @tup ds xs a _ l _ ih=>
  refine .tup λd hd=>?_
  obtain⟨i,hi,e⟩:=VaI.mp hd
  exact ih i d xs[i] (by simp[hi,e]) (by simp[l ▸ hi])
 | ref h=>exact .ref (Vab.mp h).1
 | exc _=>exact .exc _
theorem Rp.low {r r':List Addr}{H:Hp}{d:D}{v:V}(h:Rp r' H d v)(low:∀m a,m<r.length→r'[m]?=some a→r[m]?=some a)(s:Sco r.length d):Rp r H d v:=by
 induction h with
 | non=>exact .non
 | bl b=>exact .bl b
 | int i=>exact .int i
 | str x=>exact .str x
 | tup e l f ih=>
  cases s with
  | tup s=>exact .tup e l λi d v h1 h2=>ih i d v h1 h2 (s d (Vaz h1))
 | ref h=>
  cases s with
  | ref s=>exact .ref (low _ _ s h)
 | exc h=>exact .exc h
def Pre (S S':Sto):Prop:=∀(n:Nat) (o:Ob),S[n]?=some o→S'[n]?=some o
theorem Pre.refl {S:Sto}:Pre S S:=λ_ _ h=>h
theorem Pre.push {S S':Sto}{o:Ob}(h:Pre S S'):Pre S (S'++[o]):=λn u e=>by
 have z:=h n u e
 rw[Vao (Vab.mp z).1]; exact z
theorem Pre.trans {S S' S2:Sto}(h:Pre S S')(k:Pre S' S2):Pre S S2:=λn o e=>k n o (h n o e)
theorem zfo {r r':List Addr}{H H':Hp}(e:Ext r r' H H'):∀m a,m<r.length→r'[m]?=some a→r[m]?=some a:=λm a hm h=>by
 have z:r[m]?=some r[m]:=by simp[hm]
 rw[e.adr _ _ z] at h
 rw[z]; exact h
theorem zaW.low {K:PySem.W.Frag}{r r':List Addr}{S S':Sto}{H H':Hp}(h:zaW K r S H)(e:Ext r r' H H')(h':zaW K r' S' H')(p:Pre S S'):zaW K r S H':=by
 have rl:∀ {ds:List D} {xs ys:List V},Rps r H ds xs→Rps r' H' ds ys→Rps r H' ds ys:=λ{ds xs ys} a b=>⟨b.1,λi d v h1 h2=>by
  obtain⟨v0,_,q⟩:=a.get h1
  exact(b.2 i d v h1 h2).low (zfo e) q.sco⟩
 refine⟨h.len,λn a o h1 h2=>?_,λn m a xs ys h1 h2 h3 h4 o1 o2=>h'.nd n m a xs ys (e.adr _ _ h1) (e.adr _ _ h2) (p _ _ h3) (p _ _ h4) o1 o2⟩
 have q:=h.ob n a o h1 h2
 have q':=h'.ob n a o (e.adr _ _ h1) (p _ _ h2)
 cases o with
 | lst ds=>
  obtain⟨xs,_,a1⟩:=q
  obtain⟨ys,b0,b1⟩:=q'
  exact⟨ys,b0,rl a1 b1⟩
 | frz ds=>
  obtain⟨xs,_,a1⟩:=q
  obtain⟨ys,b0,b1⟩:=q'
  exact⟨ys,b0,rl a1 b1⟩
 | ins C fs=>
  obtain⟨_,_,_,a1⟩:=q
  obtain⟨dx,fs',b0,b1⟩:=q'
  exact⟨dx,fs',b0,b1.1,rl a1.2 b1.2⟩
 | dct kvs=>
  obtain⟨_,_,a1⟩:=q
  obtain⟨ks,b0,b1⟩:=q'
  exact⟨ks,b0,b1.1,rl a1.2 b1.2⟩
def Gc (S:Sto)(Q:DK):DK:=λd S'=>Pre S S'∧Sco S.length d∧Q d S
def GcX (S:Sto)(ex:Addr→Sto→Prop):Addr→Sto→Prop:=λc S'=>Pre S S'∧ex c S
theorem Ret.gc {K:PySem.W.Frag}{Z Z':Zx}{r:List Addr}{S:Sto}{H:Hp}{Q:DK}{Qv:VK}(h:Ret K Z r H Q Qv)(rel:Rel K Z r S H):Ret K Z' r H (Gc S Q) Qv:=λv H' r' d S' e rel' p q=>by
 obtain⟨pre,sc,q⟩:=q
 have e':Ext r r H H':=⟨λ_ _ z=>z,e.tup,e.xc⟩
 rw[← rel.len] at sc
 exact h v H' r d S e' ⟨rel.b.low e rel'.b pre,rel.xw.ext e'⟩ (p.low (zfo e) sc) q
theorem zdJ.gc {K:PySem.W.Frag}{ex:Addr→Sto→Prop}{E:XK}{r:List Addr}{S:Sto}{H:Hp}(rel:Rel K (Zc ex E) r S H):zdJ K (Zc (GcX S ex) E) r H:=λdl σ c H' r' S' e _ rb q=>by
 obtain⟨pre,q⟩:=q
 have e':Ext r r H H':=⟨λ_ _ z=>z,e.tup,e.xc⟩
 exact rel.xw [] [] c H' r S e' ⟨rfl,λi d z=>by simp at z⟩ (rel.b.low e rb pre) q
section
variable {P:Program}{w:World}{K:PySem.W.Frag}{mg:Str→Option Value}{base:Heap}
def gcS (sd:Sd):Sd:=λds S Q ex=>∃Q0 ex0,Q=Gc S Q0∧ex=GcX S ex0∧sd ds S Q0 ex0
theorem zk8 {CX:CXT}{k:Nat}{f:Addr}{fd:FuncData}{ps:List Str}{sd:Sd}(h:zaZ P w K mg base CX k f fd ps (upF K (gcS sd))):zaZ P w K mg base CX k f fd ps (upF K sd):=by
 have imp:∀vs H Q E,upF K sd vs H Q E→upF K (gcS sd) vs H Q E:=λvs H Qv E ⟨ex,r,S,ds,Q,rel,p,q,ret⟩=>
  ⟨GcX S ex,r,S,ds,Gc S Q,⟨rel.b,zdJ.gc rel⟩,p,⟨Q,ex,rfl,rfl,q⟩,ret.gc rel⟩
 obtain⟨h1,h2⟩:=h
 exact⟨λvs H Q E q=>h1 vs H Q E (imp vs H Q E q),λA outer s H args us vs Q E hr e0 hb rv q=>h2 A outer s H args us vs Q E hr e0 hb rv (imp vs H Q E q)⟩
end
theorem zk1 {sd:Sd}{n:Nat}(len:∀ds S Q ex,sd ds S Q ex→ds.length=n):∀ds S Q ex,gcS sd ds S Q ex→ds.length=n:=λds S Q ex h=>by
 obtain⟨Q0,ex0,_,_,h⟩:=h
 exact len _ _ _ _ h
structure zdf (sc around:Scope)(x:Str)(caps:List Str):Prop where
 kind:sc.kind=.function
 nocell:∀y∈sc.names,y.2≠.cell
 own:∀y∈sc.names,y.2=.local→sc.names.lookup y.1=some .local
 loc:sc.names.lookup x=some .local
 cap:∀y∈caps,sc.names.lookup y=some .free
 out:∀y∈sc.names,y.2=.free→around.names.lookup y.1=some .cell
theorem zna {α:Type}{y:Str}{v:α}:∀ {l:List (Str×α)},l.lookup y=some v→(y,v)∈l
 | [],h=>by simp at h
 | (n,k)::r,h=>by
  cases e:y==n with
  | true=>
   rw[Vat,e] at h
   have z:k=v:=Option.some.inj h
   have z2:y=n:=by simpa using e
   rw[z,z2]; exact VaW
  | false=>
   rw[Vat,e] at h
   exact VaG _ (zna h)
theorem znh {env:Env}:∀(l:List (Str×NameKind)) (acc:List (Str×Addr)),(∀y∈l,y.2=.free→∃c,env.cells.lookup y.1=some c)→(∀x c,acc.lookup x=some c→env.cells.lookup x=some c)→
  ∃cl,(forIn l acc λx r=>(if (x.2==NameKind.free)=true then do let a ← cellOf env x.1; pure (ForInStep.yield ((x.1,a)::r)) else pure (ForInStep.yield r):Sem (ForInStep (List (Str×Addr)))))=pure cl∧
   (∀x c,cl.lookup x=some c→env.cells.lookup x=some c)∧(∀y∈l,y.2=.free→cl.lookup y.1=env.cells.lookup y.1)∧∀x c,acc.lookup x=some c→∃c',cl.lookup x=some c'
 | [],acc,_,ha=>⟨acc,by simp,ha,λy hy=>(by cases hy),λx c e=>⟨c,e⟩⟩
 | (n,k)::r,acc,h,ha=>by
  cases hk:(k==NameKind.free) with
  | false=>
   obtain⟨cl,h1,h2,h3,h4⟩:=znh r acc (λy hy=>h y (VaG _ hy)) ha
   refine⟨cl,?_,h2,λy hy hf=>?_,h4⟩
   ·rw[List.forIn_cons]; simp[hk]; simpa using h1
   ·have hy':=Vai.mp hy
    rcases hy' with rfl | hy
    ·rw[show k=NameKind.free from hf] at hk; exact absurd hk (by decide)
    ·exact h3 y hy hf
  | true=>
   have hf:k=NameKind.free:=by simpa using hk
   obtain⟨c,hc⟩:=h (n,k) VaW hf
   obtain⟨cl,h1,h2,h3,h4⟩:=znh r ((n,c)::acc) (λy hy=>h y (VaG _ hy)) (λx c' e=>by
    cases q:x==n with
    | true=>
     rw[Vat,q] at e
     have z:x=n:=by simpa using q
     rw[z,hc]; exact e
    | false=>
     rw[Vat,q] at e
     exact ha x c' e)
   refine⟨cl,?_,h2,λy hy hf=>?_,λx c' e=>?_⟩
   ·have ec:cellOf env n=pure c:=by unfold cellOf; rw[hc]
    rw[List.forIn_cons]; simp[hk,ec]; simpa using h1
   ·have hy':=Vai.mp hy
    rcases hy' with rfl | hy
    ·obtain⟨c',e⟩:=h4 n c (by simp)
     rw[e]; exact(h2 _ _ e).symm
    ·exact h3 y hy hf
   ·refine h4 x (if x==n then c else c') ?_
    cases q:x==n with
    | true=>simp[Vat,q]
    | false=>simp[Vat,q,e]
theorem zr9 {sc:Scope}{env:Env}(h:∀y∈sc.names,y.2=.free→∃c,env.cells.lookup y.1=some c):
  ∃cl,closureFor sc env=pure cl∧(∀x c,cl.lookup x=some c→env.cells.lookup x=some c)∧∀y∈sc.names,y.2=.free→cl.lookup y.1=env.cells.lookup y.1:=by
 obtain⟨cl,h1,h2,h3,_⟩:=znh sc.names [] h (λx c e=>by simp at e)
 refine⟨cl,?_,h2,h3⟩
 unfold closureFor
 simp only[bind_pure]
 exact h1
theorem zpd {env:Env}:∀ {names:List (Str×NameKind)} {x:Str},names.lookup x=some .free→
  (names.map λ(n,k)=>if (k==NameKind.free&&env.scope.kind==.function&&env.kindOf n==some .cell) then (n,NameKind.cell) else (n,k)).lookup x=some .cell∨
  (names.map λ(n,k)=>if (k==NameKind.free&&env.scope.kind==.function&&env.kindOf n==some .cell) then (n,NameKind.cell) else (n,k)).lookup x=some .free
 | [],_,h=>by simp at h
 | (n,k)::r,x,h=>by
  have ih:=@zpd env r x
  rw[Vau]
  cases hx:x==n with
  | true=>
   rw[Vat,hx] at h
   have hk:k=.free:=Option.some.inj h
   subst hk
   dsimp only
   split
   ·left; simp[Vat,hx]
   ·right; simp[Vat,hx]
  | false=>
   rw[Vat,hx] at h
   dsimp only
   split
   ·simp only[Vat,hx]; exact ih h
   ·simp only[Vat,hx]; exact ih h
theorem zpG {env:Env}:∀ {names:List (Str×NameKind)} {x:Str},(∀y∈names,y.2≠.cell)→
  ((names.map λ(n,k)=>if (k==NameKind.free&&env.scope.kind==.function&&env.kindOf n==some .cell) then (n,NameKind.cell) else (n,k)).lookup x=some .cell∨
  (names.map λ(n,k)=>if (k==NameKind.free&&env.scope.kind==.function&&env.kindOf n==some .cell) then (n,NameKind.cell) else (n,k)).lookup x=some .free)→names.lookup x=some .free
 | [],_,_,h=>by simp at h
 | (n,k)::r,x,hc,h=>by
  have ih:=@zpG env r x λy hy=>hc y (VaG _ hy)
  rw[Vau] at h
  cases hx:x==n with
  | true=>
   rw[Vat,hx]
   dsimp only at h
   split at h
   ·rename_i q
    simp only[Bool.and_eq_true] at q
    have hk:k=.free:=by simpa using q.1.1
    rw[hk]
   ·simp only[Vat,hx] at h
    rcases h with h | h
    ·exact absurd (Option.some.inj h) (hc (n,k) VaW)
    ·exact h
  | false=>
   rw[Vat,hx]
   dsimp only at h
   split at h
   ·simp only[Vat,hx] at h; exact ih h
   ·simp only[Vat,hx] at h; exact ih h
abbrev Cx.comp (X:Cx)(sc:Scope)(N:List Str)(cl:List (Str×Addr))(C:Addr)(s0:Shared)(H0:Hp)(fp:List Addr)(pn:List (Addr×Obj)):Cx:=
 { X with N:=N,env:=compEnvC sc cl C X.env,s₀:=s0,H₀:=H0,outer:=X.stack,stack:=X.stack,ex:=fp,fn:=λ_=>false,pn:=pn,xe:=λ_ _=>False }
def zbD (caps:List Nat)(σ:St):St:=caps.map λj=>(σ[j]?).join
def zct (caps:List Nat)(dl:Ev):Ev:=caps.map λj=>(dl[j]?).join
def zfQ (caps:List Nat)(wi:TI)(tc:TT)(te:TE):TE:=λσ H Q=>wi σ H λJ H1=>∀D,H1 D=none→∃W:Nat→Nat→Hp→Prop,(∃m,W 0 m (upd H1 D (.lst [])))∧∀i m H,W i m H→
 (J.stop i H∧Q (.ref D) H)∨(J.go i H∧∀x H',J.yld i H x H'→tc (some x::zbD caps σ) H' λb H2=>if b=true then te (some x::zbD caps σ) H2 λy H3=>∃ys,H3 D=some (.lst ys)∧ys.length<sizeLine∧∃m',m'<m∧W (i+1) m' (upd H3 D (.lst (ys++[y])))
  else ∃m',m'<m∧W (i+1) m' H2)
def PTs (Y:Cx)(ifs:List Expr)(tc:TT):Prop:=∀(pins:List (Addr×Obj)) (s:Shared) (σ:St) (H:Hp) (Q:Bool→Hp→Prop),Inv Y pins σ H s→tc σ H Q→
 wpAny (model Y.prog Y.w) Y.A (forIn ifs true λc r=>if r=true then do let ok ← isTrue c Y.env (eval c Y.env); pure (ForInStep.yield ok) else pure (ForInStep.yield r)) (TP Y pins σ Q) Y.xe s
theorem zsu {Y:Cx}:PTs Y [] (λ_ H Q=>Q true H):=λ_ _ _ H _ I h=>wpAny_tests_nil ⟨H,I,h⟩
section
variable {X:Cx}{pins:List (Addr×Obj)}{σ:St}{H:Hp}{s:Shared}
theorem zr5 {sc:Scope}{x:Str}{N:List Str}{caps:List Nat}{cl:List (Str×Addr)}{fp:List Addr}{h1:Heap}{m:Str→Option Value}{tk:Nat}(I:Inv X pins σ H s)(cs:zdf sc X.env.scope x N)
  (hN:∀(j:Nat) (y:Str),N[j]?=some y→∃i,caps[j]?=some i∧X.N[i]?=some y)(hlen:caps.length=N.length)
  (c1:∀x c,cl.lookup x=some c→X.env.cells.lookup x=some c)(c2:∀y∈sc.names,y.2=.free→cl.lookup y.1=X.env.cells.lookup y.1)
  (hf:∀b∈fp,zbX X pins H b)(hfo:∀b∈fp,b<s.heap.objs.size)(hns:h1.Ns s.heap.objs.size m)(hk:∀b o,s.heap.get? b=some o→h1.get? b=some o):
  Inv (Cx.comp X sc (x::N) cl s.heap.objs.size s H fp (X.pn++pins)) [] (none::zbD caps σ) H { s with heap:=h1,toks:=tk }:=by
 have stk:∀b∈frs X.stack,b=X.env.locals∨b∈X.fs:=λb hb=>Vai.mp (I.stkSub b hb)
 refine⟨⟨I.ok.mod,cs.kind,I.ok.glob,I.ok.blt,Vaa _,λa b c h1 h2=>I.ok.inj a b c (c1 _ _ h1) (c1 _ _ h2),λy hy=>?_,λ_ _ z=>Bool.noConfusion z,I.ok.hd,I.ok.frames,.inl rfl,λb hb=>⟨Vas (hfo b hb),λy c e=>(hf b hb).2.2.2.2.1 y c (c1 _ _ e)⟩,
  I.bs,VaB I.ok.bsz I.sz,λb o e hb=>?_,λb hb z=>?_,I.stack,I.stkFree⟩,rfl,I.bare,Un.kept hk,⟨m,hns,λi y v e1 e2 e3=>?_⟩,λy c e=>?_,I.hok.fresh (Vaa _),λy c e=>I.freeC y c (c1 _ _ e),λp hp=>?_,I.hok.kept hk,?_⟩
 ·have hfr:sc.names.lookup y=some .free:=zpG cs.nocell hy
  have hm:=zna hfr
  obtain⟨c,e⟩:=I.ok.has y (.inl (cs.out _ hm rfl))
  exact⟨c,(c2 _ hm rfl).trans e⟩
 ·rcases (hf b hb).2.2.2.1 with z | z
  ·exact I.ok.noex b o e z
  ·exact absurd (Var (Heap.lt_size (I.ok.bs b o e).1) z) (VaJ _)
 ·rcases stk b z with z | z
  ·exact(hf b hb).2.1 z
  ·exact(hf b hb).2.2.1 z
 ·cases i with
  | zero=>simp at e2
  | succ i=>
   have e1':N[i]?=some y:=by simpa using e1
   obtain⟨j,hj,hy⟩:=hN i y e1'
   have e2':σ[j]?=some (some v):=by
    simp only[List.getElem?_cons_succ,zbD,Vap,hj,Option.map_some,Option.some.injEq] at e2
    cases q:σ[j]? with
    | none=>rw[q] at e2; cases e2
    | some o=>rw[q] at e2; simp at e2; rw[e2]
   have hfr:sc.names.lookup y=some .free:=cs.cap y (Vaz e1')
   have hm:=zna hfr
   have hce:X.env.scope.names.lookup y=some .cell:=cs.out _ hm rfl
   obtain⟨m0,_,hl⟩:=I.loc
   obtain⟨u,r,l⟩:=hl j y v hy e2' (.inr (.inl hce))
   refine⟨u,r,.inr ⟨zpd hfr,?_⟩⟩
   rcases l with ⟨k,_⟩ | ⟨_,c,ec,hcell⟩
   ·rw[show X.env.kindOf y=some .cell from hce] at k; cases k
   ·exact⟨c,(c2 _ hm rfl).trans ec,hcell.keeps hk⟩
 ·obtain⟨v,z⟩:=I.cell y c (c1 _ _ e)
  exact⟨v,z.keeps hk⟩
 ·have hp':p∈X.pn++pins:=by simpa using hp
  obtain⟨p1,p2,p3,p4,p5⟩:=I.pin p hp'
  refine⟨hk _ _ p1,p2,Vas (Heap.lt_size p1),λz=>?_,p5⟩
  rcases stk _ z with z | z
  ·exact p3 z
  ·exact p4 z
 ·simp[zbD,hlen]
end
section
variable {X:Cx}{elt iter:Expr}{x:Str}{px pos:Pos}{ifs:List Expr}{sc:Scope}{N:List Str}{caps:List Nat}{wi:TI}{tc:TT}{te:TE}
structure zuU (X:Cx)(pins:List (Addr×Obj))(σ:St)(C:Addr)(Q:VK)(D:Addr)(s':Shared):Prop where
 q:∃H',Inv X pins σ H' s'∧Q (.ref D) H'∧H' C=none
 ns:∃m,s'.heap.Ns C m
 loc:C≠X.env.locals
 old:X.s₀.heap.objs.size≤C
 cell:∀x c,X.env.cells.lookup x=some c→c≠C
 pin:∀p∈X.pn++pins,p.1≠C
theorem zoY {use:Option (Value→Sem Unit)}{Qr:Value→Shared→Prop}(hc:X.calm=true)(cs:zdf sc X.env.scope x N)(hN:∀(j:Nat) (y:Str),N[j]?=some y→∃i,caps[j]?=some i∧X.N[i]?=some y)(hlen:caps.length=N.length)(hnd:(x::N).Nodup)
  (hi:PI X (.Name x px) iter wi)(ht:∀cl C s0 H0 fp pn,PTs (Cx.comp X sc (x::N) cl C s0 H0 fp pn) ifs tc)(he:∀cl C s0 H0 fp pn,PE (Cx.comp X sc (x::N) cl C s0 H0 fp pn) elt te)
  (hs:∀y,foldedSetIterable iter X.env y=pure y)
  {pins:List (Addr×Obj)}{s:Shared}{σ:St}{H:Hp}{Q:VK}{p2:Pos}(I:Inv X pins σ H s)(h:zfQ caps wi tc te σ H Q)
  (fin:∀D C s',zuU X pins σ C Q D s'→compPost (model X.prog X.w) X.A X.xe use Qr (.ref D) C (.ok .next) s'):
  wpAny (model X.prog X.w) X.A (comprehension (.ListComp elt [⟨.Name x px,iter,ifs,0⟩] sc pos) sc X.env p2 (newList []) false (eval iter X.env) use) Qr X.xe s:=by
 obtain⟨cl,k1,k2,k3⟩:=zr9 (sc:=sc) (env:=X.env) λy hy hf=>I.ok.has y.1 (.inl (cs.out y hy hf))
 refine wpAny_comprehension_free rfl hs k1 cs.kind cs.own (thn (hi pins s σ H _ I h) λv s1 h1=>thn h1 λitv s2 h2=>?_)
 obtain⟨it,fp,tn,J,H2,e,I2,T,st2,f2,body⟩:=h2
 subst e
 have hfo:∀b∈fp,b<s2.heap.objs.size:=λb hb=>by
  obtain⟨o,e,_⟩:=T.obj _ _ st2 b hb
  exact Heap.lt_size e
 have hD:H2 s2.heap.objs.size=none:=I2.hok.fresh (Vaa _)
 obtain⟨W,⟨m0,w0⟩,turn⟩:=body _ hD
 refine wpAny_newObj_type ?_
 have I3:Inv X pins σ (upd H2 s2.heap.objs.size (.lst [])) { s2 with heap:=s2.heap.push { cls:=.type "list",dict:=none,data:=.seq ([]:List Value).toArray },toks:=s2.toks }:=
  I2.laid (t':=s2.toks) (λb u e=>Heap.get?_push_of_some _ e) (Vaa _) ⟨VaC _,[],0,.nil,Heap.get?_push_size _ rfl⟩
 generalize hs3:({ s2 with heap:=s2.heap.push { cls:=.type "list",dict:=none,data:=.seq ([]:List Value).toArray },toks:=s2.toks }:Shared)=s3 at I3
 have es3:({ s2 with heap:=s2.heap.push { cls:=.type "list",dict:=none,data:=.seq ([]:List Value).toArray } }:Shared)=s3:=hs3
 try rw[es3]
 have f3:∀b∈fp,zbX X pins (upd H2 s2.heap.objs.size (.lst [])) b:=λb hb=>⟨by rw[za2 (Vas (hfo b hb))]; exact(f2 b hb).1,(f2 b hb).2⟩
 have up3:∀b o,s2.heap.get? b=some o→s3.heap.get? b=some o:=λb o e=>by rw[← hs3]; exact Heap.get?_push_of_some _ e
 have st3:tn 0 s3.heap:=T.keep _ _ _ st2 λb _ o e=>up3 b o e
 have hfo3:∀b∈fp,b<s3.heap.objs.size:=λb hb=>by
  obtain⟨o,e,_⟩:=T.obj _ _ st3 b hb
  exact Heap.lt_size e
 refine wpAny_newFunctionEnv cs.nocell (λy hy=>by simp at hy) (λh4 ns4 sb4=>?_) cs.kind
 have hk4:∀b o,s3.heap.get? b=some o→h4.get? b=some o:=λb o e=>(sb4.2 b (Vas (Heap.lt_size e))).trans (Heap.get?_push_of_some _ e)
 have I4:=zr5 (tk:=s3.toks+([]:List (Str×Value)).length) I3 cs hN hlen k2 k3 f3 hfo3 ns4 hk4
 generalize hs4:({ s3 with heap:=h4,toks:=s3.toks+([]:List (Str×Value)).length }:Shared)=s4 at I4 ⊢
 have eh4:s4.heap=h4:=by rw[← hs4]
 have st4:tn 0 s4.heap:=by rw[eh4]; exact T.keep _ _ _ st3 λb _ o e=>hk4 b o e
 have fY:∀ {H':Hp},(∀b∈fp,H' b=none)→∀b∈fp,zbX (Cx.comp X sc (x::N) cl s3.heap.objs.size s3 (upd H2 s2.heap.objs.size (.lst [])) fp (X.pn++pins)) [] H' b:=λhn b hb=>by
  obtain⟨_,z2,z3,z4,z5,z6⟩:=f3 b hb
  refine⟨hn b hb,Vas (hfo3 b hb),λz=>?_,.inl hb,λy c e=>z5 y c (k2 _ _ e),λp hp=>z6 p (by simpa using hp)⟩
  rcases Vai.mp (I3.stkSub b z) with z | z
  ·exact z2 z
  ·exact z3 z
 have locY:(Cx.comp X sc (x::N) cl s3.heap.objs.size s3 (upd H2 s2.heap.objs.size (.lst [])) fp (X.pn++pins)).env.scope.names.lookup x=some .local:=lookup_relabel_local cs.loc
 have loop:codeAny (model X.prog X.w) X.A (.compLoop (.ListComp elt [⟨.Name x px,iter,ifs,0⟩] sc pos) 0 (.ref it) (.ref s2.heap.objs.size) (compEnvC sc cl s3.heap.objs.size X.env))
   (compPost (model X.prog X.w) X.A X.xe use Qr (.ref s2.heap.objs.size) s3.heap.objs.size) s4:=by
  refine codeAny_compLoop_tests (λn s'=>∃i o H',Inv (Cx.comp X sc (x::N) cl s3.heap.objs.size s3 (upd H2 s2.heap.objs.size (.lst [])) fp (X.pn++pins)) [] (o::zbD caps σ) H' s'∧tn i s'.heap∧(∀b∈fp,H' b=none)∧W i n H') ?_ m0
   ⟨0,none,_,I4,st4,λb hb=>(f3 b hb).1,w0⟩
  rintro n s5 ⟨i,o,H5,I5,st5,fr5,w5⟩
  rcases turn i n H5 w5 with ⟨stop,q⟩ | ⟨go,step⟩
  ·refine thn (T.done (Cx.comp X sc (x::N) cl s3.heap.objs.size s3 (upd H2 s2.heap.objs.size (.lst [])) fp (X.pn++pins)) rfl rfl rfl hc i [] s5 _ H5 _ I5 (fY fr5) st5 stop) λr s6 ⟨hr,I6⟩=>?_
   subst hr
   refine fin _ _ _ ⟨⟨H5,I3.call' I6.os I6.base I6.hok I6.bare (λb hb=>?_),q,I6.free⟩,?_,Nat.ne_of_gt I3.lt,I3.sz,λy c e z=>?_,λp hp z=>?_⟩
   ·obtain⟨_,z2,z3,z4,z5,z6⟩:=f3 b hb
    exact⟨z4,z2,z5,z6⟩
   ·obtain⟨m,hm,_⟩:=I6.loc
    exact⟨m,hm⟩
   ·obtain⟨v,hv⟩:=I3.cell y c e
    exact absurd (z ▸ hv.lt) (VaJ _)
   ·exact absurd (z ▸ Heap.lt_size (I3.pin p hp).1) (VaJ _)
  ·refine thn (T.item (Cx.comp X sc (x::N) cl s3.heap.objs.size s3 (upd H2 s2.heap.objs.size (.lst [])) fp (X.pn++pins)) rfl rfl rfl hc i [] s5 _ H5 _ I5 (fY fr5) st5 go) λr s6 ⟨u,hr,h6⟩=>?_
   subst hr
   show wpAny _ _ (letOwnedTupleGo (.Name x px) (.ref it) u >>= λ_=>assign (.Name x px) (compEnvC sc cl s3.heap.objs.size X.env) u) _ _ s6
   refine wpAny_bind (thn h6 λ_ s7 ⟨y,H7,I7,r7,y7,st7,fr7⟩=>?_)
   have I7':=I7.pinned (fY fr7) (T.obj _ _ st7)
   refine wpAny_mono (zgQ (X:=Cx.comp X sc (x::N) cl s3.heap.objs.size s3 (upd H2 s2.heap.objs.size (.lst [])) fp (X.pn++pins)) (pos:=px) hnd (i:=0) rfl (.inl locY) (.inr locY) _ s7 _ H7 y u (λσ8 H8=>σ8=some y::zbD caps σ∧H8=H7) I7' r7 ⟨rfl,rfl⟩) (λ_ s8 ⟨σ8,H8,I8,e8,e8'⟩=>?_) λ_ _ z=>z.elim
   subst e8
   subst e8'
   have stay:∀ {H':Hp} {s':Shared},Inv (Cx.comp X sc (x::N) cl s3.heap.objs.size s3 (upd H2 s2.heap.objs.size (.lst [])) fp (X.pn++pins)) ([]++zgR fp s7.heap) (some y::zbD caps σ) H' s'→∀m',m'<n→W (i+1) m' H'→
     ∃m,m<n∧∃i o H',Inv (Cx.comp X sc (x::N) cl s3.heap.objs.size s3 (upd H2 s2.heap.objs.size (.lst [])) fp (X.pn++pins)) [] (o::zbD caps σ) H' s'∧tn i s'.heap∧(∀b∈fp,H' b=none)∧W i m H':=λ{H' s'} J m' hm w'=>by
    refine⟨m',hm,i+1,some y,H',J.unpinned,T.keep _ _ _ st7 λb hb o e=>(J.pin (b,o) (VaH _ (VaH _ (zk5 hb e)))).1,λb hb=>?_,w'⟩
    obtain⟨o,e,d⟩:=T.obj _ _ st7 b hb
    exact(J.pin (b,o) (VaH _ (VaH _ (zk5 hb e)))).2.1
   refine wpAny_mono (ht _ _ _ _ _ _ _ s8 _ H8 _ I8 (step y H8 y7)) (λb s9 ⟨H9,I9,q9⟩=>?_) λ_ _ z=>z.elim
   cases b with
   | false=>
    rw[if_neg Val] at q9 ⊢
    obtain⟨m',hm,w9⟩:=q9
    exact stay I9 m' hm w9
   | true=>
    rw[if_pos rfl] at q9 ⊢
    refine wpAny_mono (he _ _ _ _ _ _ _ s9 _ H9 _ I9 q9) (λu2 s10 ⟨z,H10,I10,r10,q10⟩=>?_) λ_ _ z=>z.elim
    obtain⟨ys,hD10,hlt,m',hm,w10⟩:=q10
    refine wpAny_mono (znT (X:=(Cx.comp X sc (x::N) cl s3.heap.objs.size s3 (upd H2 s2.heap.objs.size (.lst [])) fp (X.pn++pins))) _ s10 _ H10 (.ref s2.heap.objs.size) [z] (.ref s2.heap.objs.size) [u2] (λ_ H'=>H'=upd H10 s2.heap.objs.size (.lst (ys++[z]))) I10 rfl (.cons r10 .nil) ⟨_,ys,z,rfl,rfl,hD10,hlt,rfl⟩) (λ_ s11 ⟨_,H11,I11,_,e11⟩=>?_) λ_ _ z=>z.elim
    subst e11
    exact stay I11 m' hm w10
 exact codeAny_compStart_list loop (T.self _ 0 s4 _ _ st4 loop)
theorem ziM {X:Cx}{caps:List Nat}{N:List Str}(h:caps.map (λi=>X.N[i]?)=N.map some):(∀(j:Nat) (y:Str),N[j]?=some y→∃i,caps[j]?=some i∧X.N[i]?=some y)∧caps.length=N.length:=by
 refine⟨λj y e=>?_,by simpa using congrArg List.length h⟩
 have z:(caps.map (λi=>X.N[i]?))[j]?=some (some y):=by rw[h,Vap,e]; rfl
 rw[Vap] at z
 cases q:caps[j]? with
 | none=>rw[q] at z; cases z
 | some i=>rw[q] at z; exact⟨i,rfl,by simpa using z⟩
theorem zrY (hc:X.calm=true)(cs:zdf sc X.env.scope x N)(hN:caps.map (λi=>X.N[i]?)=N.map some)(hnd:(x::N).Nodup)
  (hi:PI X (.Name x px) iter wi)(ht:∀cl C s0 H0 fp pn,PTs (Cx.comp X sc (x::N) cl C s0 H0 fp pn) ifs tc)(he:∀cl C s0 H0 fp pn,PE (Cx.comp X sc (x::N) cl C s0 H0 fp pn) elt te)
  (hs:∀y,foldedSetIterable iter X.env y=pure y:=by intro _; rfl):PE X (.ListComp elt [⟨.Name x px,iter,ifs,0⟩] sc pos) (zfQ caps wi tc te):=by
 intro pins s σ H Q I h
 rw[eval_ListComp]
 refine zoY (use:=none) hc cs (ziM hN).1 (ziM hN).2 hnd hi ht he hs I h λD C s' f=>?_
 obtain⟨⟨H',I',q,hC⟩,⟨m,ns⟩,l,o,c,p⟩:=f
 exact⟨m,ns,λh' sb=>⟨.ref D,H',I'.turned (t':=s'.toks) (λb ob hb e=>(sb.2 b hb).trans e) hC l (.inr o) c p,rfl,q⟩⟩
theorem zpD {i:Nat}{y:Str}{py spos:Pos}(hc:X.calm=true)(cs:zdf sc X.env.scope x N)(hN:caps.map (λi=>X.N[i]?)=N.map some)(hnd:(x::N).Nodup)
  (hi:PI X (.Name x px) iter wi)(ht:∀cl C s0 H0 fp pn,PTs (Cx.comp X sc (x::N) cl C s0 H0 fp pn) ifs tc)(he:∀cl C s0 H0 fp pn,PE (Cx.comp X sc (x::N) cl C s0 H0 fp pn) elt te)
  (hNd:X.N.Nodup)(hy:X.N[i]?=some y)(hl:X.env.scope.names.lookup y=some .local)
  (hsw:swapsWith (.ListComp elt [⟨.Name x px,iter,ifs,0⟩] sc pos) (some (.Name y py)) spos.line X.env=pure true)
  (hs:∀y,foldedSetIterable iter X.env y=pure y:=by intro _; rfl):PS X (.Assign [.Name y py] (.ListComp elt [⟨.Name x px,iter,ifs,0⟩] sc pos) spos) (λE σ H=>zfQ caps wi tc te σ H λv H1=>E.nx (σ.set i (some v)) H1):=by
 intro pins s σ H E I h
 rw[exec_Assign_Name_used (hs:=hsw)]
 refine wpAny_bind (wpAny_standAt ?_); refine wpAny_bind ?_; show wpAny _ _ (comprehension _ sc X.env _ (newList []) false (eval iter X.env) (some (assign (.Name y py) X.env)) >>= λ_=>pure ()) _ _ s
 refine wpAny_bind (thn (zoY (use:=some (assign (.Name y py) X.env)) (Qr:=λ_ s'=>SP X pins E .next s') hc cs (ziM hN).1 (ziM hN).2 hnd hi ht he hs I h λD C s' f=>?_) λ_ s' hq=>wpAny_pure (wpAny_pure hq))
 obtain⟨⟨H',I',q,hC⟩,⟨m,ns⟩,l,o,c,p⟩:=f
 refine wpAny_assign_Name (zn9 (v:=.ref D) I' hNd hy (.inl hl) rfl (λs'' I'' ⟨a,sb,ha⟩=>⟨m,ns.sameBut sb ?_,λh' sb'=>⟨_,H',I''.turned (t':=s''.toks) (λb ob hb e=>(sb'.2 b hb).trans e) hC l (.inr o) c p,q⟩⟩) (.inr hl))
 rcases ha with rfl | ha
 ·exact l
 ·exact Ne.symm (c _ _ ha)
end
section
variable {X:Cx}{Z:Zx}{elt iter:Expr}{x:Str}{px pos:Pos}{ifs:List Expr}{sc ar:Scope}{N:List Str}{caps:List Nat}
theorem zra {r:List Addr}{H:Hp}{dl:Ev}{σ:St}{d:D}{v:V}(h:Rs r H dl σ)(p:Rp r H d v):Rs r H (some d::zct caps dl) (some v::zbD caps σ):=by
 refine⟨by simp[zct,zbD],λi e hi=>?_⟩
 cases i with
 | zero=>simp at hi; subst hi; exact⟨v,rfl,p⟩
 | succ i=>
  simp only[List.getElem?_cons_succ,zct,Vap] at hi
  cases q:caps[i]? with
  | none=>rw[q] at hi; cases hi
  | some j=>
   rw[q] at hi
   simp only[Option.map_some,Option.some.injEq] at hi
   have hj:dl[j]?=some (some e):=by
    cases q2:dl[j]? with
    | none=>rw[q2] at hi; cases hi
    | some o=>rw[q2] at hi; simp at hi; rw[hi]
   obtain⟨w,h1,h2⟩:=h.2 j e hj
   refine⟨w,?_,h2⟩
   simp only[List.getElem?_cons_succ,zbD,Vap,q,Option.map_some,h1,Option.join_some]
def zk9 (Y:Cx)(ifs:List Expr)(t:TDT):Prop:=PTs Y ifs (upT Y.K Z0 t)
def zcA:TDT:=λ_ S Q=>Q true S
theorem zhk {Y:Cx}:zk9 Y [] zcA:=λpins s σ H Qb I ⟨r,dl,S,Q,rs,rel,q,ret⟩=>zsu pins s σ H Qb I (ret true H r S Ext.refl rel q)
def zdD (caps:List Nat)(tc:TDT)(te:TDE)(k:Nat)(dl:Ev)(d:D)(S:Sto)(nx:Sto→Prop):Prop:=
 tc (some d::zct caps dl) S λb S1=>if b=true then te (some d::zct caps dl) S1 λy S2=>match S2[k]? with
  | some (.lst ys)=>ys.length<1000∧nx (S2.set k (.lst (ys++[y])))
  | _=>False
 else nx S1
@[irreducible] def zdI (caps:List Nat)(tl:TDE)(tc:TDT)(te:TDE):TDE:=λdl S Q=>tl dl S λd S1=>match d with
 | .ref n=>(lAt S1 n).isSome=true∧∃W:Nat→Nat→Sto→Prop,(∃m,W 0 m (S1++[.lst []]))∧∀k m S2,W k m S2→match lAt S2 n with
  | some o=>match (zas o)[k]? with
   | some y=>zdD caps tc te S1.length dl y S2 λS3=>∃m',m'<m∧W (k+1) m' S3
   | none=>Q (.ref S1.length) S2
  | none=>False
 | _=>False
@[irreducible] def zdr (caps:List Nat)(ta:TDA)(tc:TDT)(te:TDE):TDE:=λdl S Q=>ta dl S λds S1=>match ds with
 | [.int j]=>(-(2^62)≤j∧j<2^62)∧∃W:Nat→Sto→Prop,W 0 (S1++[.lst []])∧∀k S2,W k S2→
   if k<j.toNat then zdD caps tc te S1.length dl (.int k) S2 λS3=>W (k+1) S3 else Q (.ref S1.length) S2
 | _=>False
theorem zpA {tc:TDT}{te:TDE}{r2:List Addr}{H2:Hp}{S1 S2:Sto}{dl:Ev}{σ:St}{D0:Addr}{d:D}{v:V}{nx:Sto→Prop}{Nx:Hp→Prop}(rs:Rs r2 H2 dl σ)(ha:r2[S1.length]?=some D0)(rb:zaW X.K r2 S2 H2)(p:Rp r2 H2 d v)
  (h:zdD caps tc te S1.length dl d S2 nx)(hn:∀r' S' H',Ext r2 r' H2 H'→zaW X.K r' S' H'→nx S'→Nx H'):
  upT X.K Z0 tc (some v::zbD caps σ) H2 λb H3=>if b=true then up X.K Z0 te (some v::zbD caps σ) H3 λy H4=>∃ys,H4 D0=some (.lst ys)∧ys.length<sizeLine∧Nx (upd H4 D0 (.lst (ys++[y]))) else Nx H3:=by
 have rsY:Rs r2 H2 (some d::zct caps dl) (some v::zbD caps σ):=zra rs p
 refine⟨r2,_,S2,_,rsY,⟨rb,λ_ _ _ _ _ _ _ _ _ z=>z.elim⟩,h,λb H3 r3 S3 x3 rel3 q3=>?_⟩
 cases b with
 | false=>rw[if_neg Val] at q3 ⊢; exact hn r3 S3 H3 x3 rel3.b q3
 | true=>
  rw[if_pos rfl] at q3 ⊢
  refine⟨r3,_,S3,_,rsY.ext x3,rel3,q3,λz H4 r4 dz S4 x4 rel4 p4 q4=>?_⟩
  split at q4
  ·rename_i ys eys
   obtain⟨hl,q4⟩:=q4
   have ha4:r4[S1.length]?=some D0:=x4.adr _ _ (x3.adr _ _ ha)
   obtain⟨zs,hD4,pz⟩:=rel4.b.ob _ _ _ ha4 eys
   obtain⟨rel5,x5⟩:=rel4.b.set ha4 eys (pz.snoc p4)
   exact⟨zs,hD4,by rw[← pz.1]; exact zm9 (VaV hl),hn r4 _ _ (x3.trans (x4.trans x5)) rel5 q4⟩
  ·exact q4.elim
theorem zmh {r:List Addr}{D0:Addr}{n:Nat}(h:r.length=n):(r++[D0])[n]?=some D0:=by subst h; simp
theorem zuy {tl:TDE}{tc:TDT}{te:TDE}{σ:St}{H:Hp}{Qv:VK}(h:up X.K Z (zdI caps tl tc te) σ H Qv):zfQ caps (zpT X.K (up X.K Z tl)) (upT X.K Z0 tc) (up X.K Z0 te) σ H Qv:=by
 obtain⟨r,dl,S,Q,rs,rel,h,ret⟩:=h
 unfold zdI at h
 refine⟨r,dl,S,_,rs,rel,h,λv H1 r1 d S1 x1 rel1 p1 q1=>?_⟩
 cases p1 with
 | @ref n a hn=>
  obtain⟨hsome,W,⟨m0,w0⟩,turn⟩:=q1
  have sql:∀ {r':List Addr} {S':Sto} {H':Hp} {o:Ob},Ext r1 r' H1 H'→zaW X.K r' S' H'→lAt S' n=some o→∃xs,SqL X.K H' a xs∧Rps r' H' (zas o) xs:=λ{r' S' H' o} x' rel' eo=>by
   obtain⟨eo,eL⟩:=zbu eo
   obtain⟨a',ha,ob⟩:=rel'.at eo
   rw[x'.adr n a hn] at ha; cases ha
   exact ob.list eL
  obtain⟨o1,eo1⟩:=Option.isSome_iff_exists.mp hsome
  obtain⟨xs1,sq1,_⟩:=sql Ext.refl rel1.b eo1
  refine⟨a,rfl,⟨xs1,sq1⟩,λD0 hD=>?_⟩
  obtain⟨rel2,x2⟩:=rel1.b.push (ds:=[]) (xs:=[]) hD Rps.nil
  refine⟨λk m H'=>∃r' S',Ext (r1++[D0]) r' (upd H1 D0 (.lst [])) H'∧zaW X.K r' S' H'∧W k m S',⟨m0,_,_,Ext.refl,rel2,w0⟩,?_⟩
  rintro k m H2 ⟨r2,S2,x3,rb2,w2⟩
  have ha2:r2[S1.length]?=some D0:=x3.adr _ _ (zmh rel1.len)
  have q:=turn k m S2 w2
  split at q
  ·rename_i o eo
   obtain⟨xs,sq,pr⟩:=sql (x2.trans x3) rb2 eo
   split at q
   ·rename_i y ey
    obtain⟨v,hv,pv⟩:=pr.get ey
    refine .inr ⟨⟨xs,v,sq,hv⟩,λv' H' y'=>?_⟩
    obtain⟨eH,y'⟩:=y'
    subst eH
    have ev:v'=v:=by
     have z:=y' xs sq
     rw[hv] at z; exact(Option.some.inj z).symm
    subst ev
    have z:=zpA (Nx:=λH'=>∃m',m'<m∧∃r' S',Ext (r1++[D0]) r' (upd H1 D0 (.lst [])) H'∧zaW X.K r' S' H'∧W (k+1) m' S') (rs.ext (x1.trans (x2.trans x3))) ha2 rb2 pv q λr' S' H' x' rb' ⟨m',hm,w'⟩=>⟨m',hm,r',S',x3.trans x',rb',w'⟩
    exact z
   ·rename_i ey
    have hlen:(zas o).length≤k:=VaQ.mp ey
    exact .inl ⟨⟨xs,sq,by rw[← pr.1]; exact hlen⟩,ret _ H2 r2 _ S2 (x1.trans (x2.trans x3)) ⟨rb2,rel.xw.ext (x1.trans (x2.trans x3))⟩ (.ref ha2) q⟩
  ·exact q.elim
 | _=>exact(show False from q1).elim
theorem zpq {ta:TDA}{tc:TDT}{te:TDE}{σ:St}{H:Hp}{Qv:VK}(h:up X.K Z (zdr caps ta tc te) σ H Qv):zfQ caps (zof (upA X.K Z ta)) (upT X.K Z0 tc) (up X.K Z0 te) σ H Qv:=by
 obtain⟨r,dl,S,Q,rs,rel,h,ret⟩:=h
 unfold zdr at h
 refine⟨r,dl,S,_,rs,rel,h,λvs H1 r1 ds S1 x1 rel1 p1 q1=>?_⟩
 split at q1
 ·rename_i j
  obtain⟨v,vs',rfl,p2,p3⟩:=p1.uncons
  have z:=p3.unnil
  subst z
  cases p2
  obtain⟨⟨b1,b2⟩,W,w0,turn⟩:=q1
  refine⟨j,rfl,b1,b2,λD0 hD=>?_⟩
  obtain⟨rel2,x2⟩:=rel1.b.push (ds:=[]) (xs:=[]) hD Rps.nil
  refine⟨λk m H'=>m=j.toNat-k∧∃r' S',Ext (r1++[D0]) r' (upd H1 D0 (.lst [])) H'∧zaW X.K r' S' H'∧W k S',⟨j.toNat,by simp,_,_,Ext.refl,rel2,w0⟩,?_⟩
  rintro k m H2 ⟨em,r2,S2,x3,rb2,w2⟩
  have ha2:r2[S1.length]?=some D0:=x3.adr _ _ (zmh rel1.len)
  have q:=turn k S2 w2
  split at q
  ·rename_i hk
   refine .inr ⟨hk,λv' H' y'=>?_⟩
   obtain⟨eH,y'⟩:=y'
   subst eH
   subst y'
   have pk:Rp r2 H' (.int (k:Int)) (.int (0+(k:Int))):=by rw[Int.zero_add]; exact .int _
   have z:=zpA (Nx:=λH'=>∃m',m'<m∧m'=j.toNat-(k+1)∧∃r' S',Ext (r1++[D0]) r' (upd H1 D0 (.lst [])) H'∧zaW X.K r' S' H'∧W (k+1) S') (rs.ext (x1.trans (x2.trans x3))) ha2 rb2 pk q
    λr' S' H' x' rb' w'=>⟨j.toNat-(k+1),by omega,rfl,r',S',x3.trans x',rb',w'⟩
   exact z
  ·rename_i hk
   exact .inl ⟨by show j.toNat≤k; omega,ret _ H2 r2 _ S2 (x1.trans (x2.trans x3)) ⟨rb2,rel.xw.ext (x1.trans (x2.trans x3))⟩ (.ref ha2) q⟩
 ·exact q1.elim
theorem zsN {ta:TDA}{tc:TDT}{te:TDE}{a:Expr}{p pos2:Pos}(har:X.env.scope=ar)(hc:X.calm=true)(cs:zdf sc ar x N)(hN:caps.map (λi=>X.N[i]?)=N.map some)(hnd:(x::N).Nodup)(hg:Gl X "range")(hm:X.mg "range"=none)(ha:PDA X Z [a] ta)
  (ht:∀cl C s0 H0 fp pn,zk9 (Cx.comp X sc (x::N) cl C s0 H0 fp pn) ifs tc)(he:∀cl C s0 H0 fp pn,PD (Cx.comp X sc (x::N) cl C s0 H0 fp pn) Z0 elt te)
  (hs:∀y,foldedSetIterable (.Call (.Name "range" p) [a] [] pos2) X.env y=pure y:=by intro _; rfl)(hst:starEach [a] X.env=[(false,eval a X.env)]:=by rfl):
  PD X Z (.ListComp elt [⟨.Name x px,.Call (.Name "range" p) [a] [] pos2,ifs,0⟩] sc pos) (zdr caps ta tc te):=by
 subst har
 exact za6 (zrY hc cs hN hnd (tc:=upT X.K Z0 tc) (te:=up X.K Z0 te) (znp hg hm ha hst) ht he hs) λ_ _ _ h=>zpq h
theorem zpC {t:TE}{td:TDE}{i:Nat}{F:zcV}{σ:St}{H:Hp}(imp:∀Qv,up X.K Z td σ H Qv→t σ H Qv)(h:upS X.K Z (λE dl S=>td dl S λd S1=>E.nx (dl.set i (some d)) S1) F σ H):t σ H λv H1=>F.nx (σ.set i (some v)) H1:=by
 obtain⟨r,dl,S,E,rs,rel,h,ret⟩:=h
 exact imp _ ⟨r,dl,S,_,rs,rel,h,λv H1 r1 d S1 x rel1 p q=>ret.nx _ H1 r1 _ S1 x ((rs.ext x).set i p) rel1 q⟩
theorem znF {tl:TDE}{tc:TDT}{te:TDE}{i:Nat}{y:Str}{py spos:Pos}(har:X.env.scope=ar)(hc:X.calm=true)(cs:zdf sc ar x N)(hN:caps.map (λi=>X.N[i]?)=N.map some)(hnd:(x::N).Nodup)(hNd:X.N.Nodup)(hy:X.N[i]?=some y)(hlo:ar.names.lookup y=some .local)
  (hl:PD X Z iter tl)(ht:∀cl C s0 H0 fp pn,zk9 (Cx.comp X sc (x::N) cl C s0 H0 fp pn) ifs tc)(he:∀cl C s0 H0 fp pn,PD (Cx.comp X sc (x::N) cl C s0 H0 fp pn) Z0 elt te)
  (hsw:swapsWith (.ListComp elt [⟨.Name x px,iter,ifs,0⟩] sc pos) (some (.Name y py)) spos.line X.env=pure true:=by rfl)
  (hs:∀y,foldedSetIterable iter X.env y=pure y:=by intro _; rfl):PDS X Z (.Assign [.Name y py] (.ListComp elt [⟨.Name x px,iter,ifs,0⟩] sc pos) spos) (zlF i (zdI caps tl tc te)):=by
 subst har
 exact zbM (zpD hc cs hN hnd (tc:=upT X.K Z0 tc) (te:=up X.K Z0 te) (zoS hl) ht he hNd hy hlo hsw hs) λF σ H h=>zpC (λ_ h=>zuy h) h
theorem zq1 {ta:TDA}{tc:TDT}{te:TDE}{a:Expr}{p pos2:Pos}{i:Nat}{y:Str}{py spos:Pos}(har:X.env.scope=ar)(hc:X.calm=true)(cs:zdf sc ar x N)(hN:caps.map (λi=>X.N[i]?)=N.map some)(hnd:(x::N).Nodup)(hNd:X.N.Nodup)(hy:X.N[i]?=some y)
  (hlo:ar.names.lookup y=some .local)(hg:Gl X "range")(hm:X.mg "range"=none)(ha:PDA X Z [a] ta)
  (ht:∀cl C s0 H0 fp pn,zk9 (Cx.comp X sc (x::N) cl C s0 H0 fp pn) ifs tc)(he:∀cl C s0 H0 fp pn,PD (Cx.comp X sc (x::N) cl C s0 H0 fp pn) Z0 elt te)
  (hsw:swapsWith (.ListComp elt [⟨.Name x px,.Call (.Name "range" p) [a] [] pos2,ifs,0⟩] sc pos) (some (.Name y py)) spos.line X.env=pure true:=by rfl)
  (hs:∀y,foldedSetIterable (.Call (.Name "range" p) [a] [] pos2) X.env y=pure y:=by intro _; rfl)(hst:starEach [a] X.env=[(false,eval a X.env)]:=by rfl):
  PDS X Z (.Assign [.Name y py] (.ListComp elt [⟨.Name x px,.Call (.Name "range" p) [a] [] pos2,ifs,0⟩] sc pos) spos) (zlF i (zdr caps ta tc te)):=by
 subst har
 exact zbM (zpD hc cs hN hnd (tc:=upT X.K Z0 tc) (te:=up X.K Z0 te) (znp hg hm ha hst) ht he hNd hy hlo hsw hs) λF σ H h=>zpC (λ_ h=>zpq h) h
@[irreducible] def zc8 (to te:TDE):TDE:=λdl S Q=>to dl S λx S1=>match x with
 | .ref n=>match S1[n]? with
  | some (.lst _)=>te dl S1 λy S2=>match S2[n]? with
   | some (.lst xs)=>if xs.length<1000 then Q .non (S2.set n (.lst (xs++[y]))) else False
   | _=>False
  | _=>False
 | _=>False
theorem zcN {o e:Expr}{to te:TDE}{apos cpos:Pos}(ho:PD X Z o to)(he:PD X Z e te)(hbase:attributeBase o "append" X.env (eval o X.env)=eval o X.env:=by rfl)
  (hfew:((backTo cpos (starEach [e] X.env)).all (λx=>!x.1)&&(backToKw cpos (keywordEach [] X.env)).all (λx=>x.1.isSome)
  &&decide (([e]:List Expr).length+([]:List Keyword).length+(if ([]:List Keyword).isEmpty then 0 else 1)<30))=true:=by rfl)
  (hline:(apos.endLine==cpos.line)=true:=by rfl)(hst:starEach [e] X.env=[(false,eval e X.env)]:=by rfl):
  PD X Z (.Call (.Attribute o "append" apos) [e] [] cpos) (zc8 to te):=
 za6 (zoI PySem.F.plainAttrs_list PySem.F.slot_list_append PySem.F.type_list_append znT ho (zfd he ziW hst) hbase hfew hline hst rfl) λσ H Qv h=>by
  obtain⟨r,dl,S,Q,rs,rel,h,ret⟩:=h
  unfold zc8 at h
  refine⟨r,dl,S,_,rs,rel,h,λv H1 r1 d S1 x1 rel1 p1 h1=>?_⟩
  cases p1 with
  | @ref n a hn=>
   dsimp only at h1
   split at h1
   ·rename_i xs0 e0
    obtain⟨a',ha,ob⟩:=rel1.at e0
    rw[hn] at ha; cases ha
    obtain⟨ys,hH,_⟩:=ob
    refine⟨.inl ⟨rfl,ys,SqL.of hH⟩,r1,dl,S1,_,rs.ext x1,rel1,h1,λv2 H2 r2 d2 S2 x2 rel2 p2 h2=>?_⟩
    split at h2
    ·rename_i xs1 e1
     obtain⟨hlt,h2⟩:=zlz h2
     have ha2:=x2.adr n a hn
     obtain⟨zs,hH2,pz⟩:=rel2.b.ob n a _ ha2 e1
     obtain⟨rel3,x3⟩:=rel2.set ha2 e1 (pz.snoc p2)
     exact⟨a,zs,v2,rfl,rfl,hH2,by rw[← pz.1]; exact zm9 (VaV hlt),ret .non _ r2 .non _ (x1.trans (x2.trans x3)) rel3 .non h2⟩
    ·exact h2.elim
   ·exact h1.elim
  | _=>exact(show False from h1).elim
def zkJ:WC:=λds S Q=>match ds with
 | [.tup xs]=>Q (.ref S.length) (S++[.lst xs])
 | [.ref n]=>match lAt S n with
  | some o=>Q (.ref S.length) (S++[.lst (zas o)])
  | none=>False
 | _=>False
theorem zhF:zba X (.type "list") (upC X.K Z zkJ):=zmE zrc λxs H Qv ⟨r,S,ds,Q,rel,ps,q,ret⟩=>by
 unfold zkJ at q
 split at q
 ·rename_i ys
  obtain⟨v,vs,rfl,p1,p2⟩:=ps.uncons
  have z:=p2.unnil
  subst z
  obtain⟨a,zs,rfl,h1,h2⟩:=p1.untup
  refine⟨a,zs,rfl,.inr (SqT.of h1),λl hl=>?_⟩
  obtain⟨rel2,x⟩:=rel.push hl h2
  exact ret _ _ _ (.ref S.length) _ x rel2 (zeh rel.len) q
 ·rename_i n
  obtain⟨v,vs,rfl,p1,p2⟩:=ps.uncons
  have z:=p2.unnil
  subst z
  split at q
  ·rename_i o eo
   obtain⟨eo,eL⟩:=zbu eo
   obtain⟨a,ha,ob⟩:=rel.at eo
   cases p1 with
   | ref h1=>
    rw[h1] at ha; cases ha
    obtain⟨ys,sq,pr⟩:=ob.list eL
    refine⟨_,ys,rfl,.inl sq,λl hl=>?_⟩
    obtain⟨rel2,x⟩:=rel.push hl pr
    exact ret _ _ _ (.ref S.length) _ x rel2 (zeh rel.len) q
  ·exact q.elim
 ·exact q.elim
@[irreducible] def irr (w:WC):WC:=w
@[irreducible] def zbK (w:W2):W2:=w
theorem zlx (w:WC):irr w=w:=by unfold irr; rfl
theorem zb4 (w:W2):zbK w=w:=by unfold zbK; rfl
theorem zbI {f:Value}{w:WC}(h:zba X f (upC X.K Z w)):zba X f (upC X.K Z (irr w)):=by rw[zlx]; exact h
theorem zaO {a b:Expr}{ta tb:TDE}(ha:PD X Z a ta)(hb:PD X Z b tb)(hs:zno b):PD X Z (.Subscript a b pos) (dOp (zbK wIx) ta tb):=by rw[zb4]; exact zae ha hb hs
theorem zaP (S:Sto)(o:Ob):(S++[o])[S.length]?=some o:=by simp
theorem zpU {S:Sto}{o u:Ob}{n:Nat}(h:S[n]?=some o):(S++[u])[n]?=some o:=by
 rw[Vao (Vab.mp h).1]; exact h
theorem zjI {tl te:TDE}{dl:Ev}{S S1:Sto}{Q:DK}{n:Nat}{o:Ob}(g:D→D)(htl:∀K:DK,K (.ref n) S1→tl dl S K)(h1:S1[n]?=some o)(hl:(zas o).length≤1000)
  (ht:∀x∈zas o,∀(S2:Sto) (K:DK),Pre S1 S2→K (g x) S2→te (some x::zct caps dl) S2 K)(hq:Q (.ref S1.length) (S1++[.lst ((zas o).map g)]))(hL:zbR o=some o:=by rfl):zdI caps tl zcA te dl S Q:=by
 unfold zdI
 refine htl _ ⟨by rw[za4 h1 hL]; rfl,λk m S2=>S2=S1++[.lst (((zas o).take k).map g)]∧m+k=(zas o).length,⟨(zas o).length,by simp,by omega⟩,?_⟩
 rintro k m S2 ⟨rfl,hm⟩
 rw[za4 (zpU h1) hL]
 dsimp only
 split
 ·rename_i x hx
  have hk:k<(zas o).length:=(Vab.mp hx).1
  unfold zdD zcA
  simp only[if_true]
  refine ht x (Vaz hx) _ _ Pre.refl.push ?_
  rw[zaP]
  refine⟨by simp; omega,m-1,by omega,?_,by omega⟩
  have e:(zas o).take (k+1)=(zas o).take k++[x]:=by rw[List.take_succ,hx]; rfl
  rw[e,VaN,List.set_append_right _ _ (Vaa _)]
  simp
 ·rename_i hx
  have hk:(zas o).length≤k:=VaQ.mp hx
  rw[List.take_of_length_le hk]
  exact hq
theorem zrI {o:Ob}{xs:List Int}(h:zdp (zas o)=some xs):zbR o=some o:=by
 cases o <;> first | rfl | cases h
theorem zdg {le:Int→Int→Prop}{two:Int→Int→Int}{n:Nat}{S:Sto}{o:Ob}{xs:List Int}{Q:DK}(h:S[n]?=some o)(hb:zdp (zas o)=some xs)(hne:xs≠[])(hq:∀m,m∈xs→(∀y∈xs,le y m)→Q (.int m) S):irr (zdR le two) [.ref n] S Q:=by
 rw[zlx]
 unfold zdR
 simp only[za4 h (zrI hb),hb]
 exact⟨hne,hq⟩
theorem zii {n:Nat}{S:Sto}{o:Ob}{Q:DK}(h:lAt S n=some o)(hq:Q (.ref S.length) (S++[.lst (zas o)])):irr zkJ [.ref n] S Q:=by
 rw[zlx]
 unfold zkJ
 simp only[h]
 exact hq
theorem zdF {to te:TDE}{dl:Ev}{S S1:Sto}{Q:DK}{n:Nat}{xs:List D}{y:D}(hto:∀K:DK,K (.ref n) S1→to dl S K)(h:S1[n]?=some (.lst xs))(hte:∀K:DK,K y S1→te dl S1 K)(hl:xs.length<1000)(hq:Q .non (S1.set n (.lst (xs++[y])))):zc8 to te dl S Q:=by
 unfold zc8
 refine hto _ ?_
 simp only[h]
 refine hte _ ?_
 simp only[h]
 exact ifP hl hq
end
theorem zi8 {n:Nat}{x y:Int}:Sco n (.tup [.int x,.int y]):=.tup λd hd=>by
 have z:d=.int x∨d=.int y:=by simpa using hd
 rcases z with rfl | rfl <;> exact .int _
open PySem PySem.Spec PyProof.Rows L2 PySem.W Builtin Builtin.ObjectAttr Builtin.Getset_descriptor
structure Nx (K:Frag)(D:Addr):Prop where
 ga:findIn K (.ref D) "__getattribute__"=some (some (.builtin "BaseException.__getattribute__"))
 hk:findIn K (.ref D) "__getattr__"=some none
 ha:findIn K (.ref D) "__class__"=some (some (.builtin "object.__class__"))
 hn:specialIn K (.builtin "object.__class__") "__get__"=some (some (.builtin "getset_descriptor.__get__"))
 ht:takesIn K (.builtin "object.__class__")=some true
 hm:mroIn K D (.type "object")=some true
 hb:mroIn K D (.type "BaseException")=some true
section
variable {X:Cx}{Z:Zx}
end
def eqN:Nat→D→D→Option Bool
 | 0=>eqF
 | k+1=>eqT (eqN k)
theorem zoG:∀k,zeo (eqN k)
 | 0=>zel
 | k+1=>znX (zoG k)
theorem zdG:∀k,zc5 k (eqN k)
 | 0=>znd 0
 | k+1=>znR (zdG k) (zoG k)
def zdd (k:Nat)(S:Sto):D→D→Option Bool
 | .ref n,.ref m=>match lAt S n,lAt S m with
  | some o,some o'=>eqL (eqN k) (zas o) (zas o')
  | _,_=>none
 | x,y=>eqN (k+1) x y
def zc3 (k:Nat):W2:=λx y S Q=>match zdd k S x y with
 | some b=>Q (.bl b) S
 | none=>False
def zdU (k:Nat):W2:=λx y S Q=>match zdd k S x y with
 | some b=>Q (.bl (!b)) S
 | none=>False
section
variable {X:Cx}{Z:Zx}
theorem zsk {k n m:Nat}{a a':Addr}{o o':Ob}{b:Bool}{pins:List (Addr×Obj)}{σ:St}{H:Hp}{s:Shared}{r:List Addr}{S:Sto}(I:Inv X pins σ H s)(rel:Rel X.K Z r S H)(hn:r[n]?=some a)(hm:r[m]?=some a')(eo:lAt S n=some o)(eo':lAt S m=some o')
  (e:eqL (eqN k) (zas o) (zas o')=some b)(hu:X.A.units+1+k<cLine):SeqAt.RcAt X.A s (.ref a) (.ref a') b:=by
 obtain⟨eo,eL⟩:=zbu eo
 obtain⟨eo',eL'⟩:=zbu eo'
 obtain⟨z,hz,ob⟩:=rel.at eo
 rw[hn] at hz; cases hz
 obtain⟨z,hz,ob'⟩:=rel.at eo'
 rw[hm] at hz; cases hz
 obtain⟨xs,sq,pr⟩:=ob.list eL
 obtain⟨ys,sq',pr'⟩:=ob'.list eL'
 obtain⟨is,ri,pl,_⟩:=I.list sq
 obtain⟨js,rj,pl',_⟩:=I.list sq'
 obtain⟨g1,g2⟩:=zgK (A:=X.A.in1) (zdG k) I (by show X.A.units+1+k<_; omega) pr pr' ri rj e
 by_cases hs:is.toArray.size=js.toArray.size
 ·have q:=SeqAt.RcAt.lists (A:=X.A) pl.isList pl'.isList hs (by omega) g1
  have e2:(List.range is.toArray.size).all (zb7 (eqN k) (zas o) (zas o'))=b:=by
   rw[← g2,← hs,Nat.min_self]; simp
  rw[e2] at q
  exact q
 ·have q:=SeqAt.RcAt.lists_lengths (A:=X.A) pl.isList pl'.isList (by simpa using hs) (by omega)
  have e2:b=false:=by
   rw[← g2,show (is.toArray.size==js.toArray.size)=false by simpa using hs,Bool.and_false]
  rw[e2]
  exact q
theorem zt5 (k:Nat){j:Nat}(hr:zaF j X.A)(hu:X.A.units+1+k<cLine):OpR X (compareOp .Eq) (upO X.K Z (zc3 k)):=by
 intro pins s σ H x y v u Qv I rx ry h
 obtain⟨r,S,dx,dy,Q,rel,px,py,q,ret⟩:=h
 have zaJ:∀ {dx dy:D} {x y:V},Rp r H dx x→Rp r H dy y→zat x v→zat y u→zdd k S dx dy=eqN (k+1) dx dy→zc3 k dx dy S Q→wpAny (model X.prog X.w) X.A (compareOp .Eq v u) (EP X pins σ Qv) X.xe s:=λpx py rx ry e q=>by
  refine zpn (Z:=Z) (zdG k) hu pins s σ H _ _ v u Qv I rx ry ⟨r,S,_,_,Q,rel,px,py,?_,ret⟩
  unfold zc3 at q
  rw[e] at q
  exact q
 cases px with
 | @ref n a hn=>
  cases py with
  | @ref m a' hm=>
   cases rx
   cases ry
   unfold zc3 zdd at q
   dsimp only at q
   split at q
   ·rename_i b e
    split at e
    ·rename_i o o' eo eo'
     exact zsk I rel hn hm eo eo' e hu X.prog X.w X.xe _ ⟨.bl b,H,I,rfl,ret _ _ _ _ _ Ext.refl rel (.bl b) q⟩
    ·cases e
   ·exact q.elim
  | non=>exact zaJ (.ref hn) .non rx ry rfl q
  | bl i=>exact zaJ (.ref hn) (.bl i) rx ry rfl q
  | int i=>exact zaJ (.ref hn) (.int i) rx ry rfl q
  | str i=>exact zaJ (.ref hn) (.str i) rx ry rfl q
  | tup a b c=>exact zaJ (.ref hn) (.tup a b c) rx ry rfl q
  | exc a=>exact zaJ (.ref hn) (.exc a) rx ry rfl q
 | non=>exact zaJ .non py rx ry rfl q
 | bl i=>exact zaJ (.bl i) py rx ry rfl q
 | int i=>exact zaJ (.int i) py rx ry rfl q
 | str i=>exact zaJ (.str i) py rx ry rfl q
 | tup a b c=>exact zaJ (.tup a b c) py rx ry rfl q
 | exc a=>exact zaJ (.exc a) py rx ry rfl q
def zbG (f:D→D→Option Bool):List D→D→Option Bool
 | [],_=>some false
 | y::ys,x=>match f y x,zbG f ys x with
  | some b,some c=>some (b||c)
  | _,_=>none
def wIn (k:Nat)(neg:Bool):W2:=λx y S Q=>match y with
 | .ref n=>match lAt S n with
  | some o=>match zbG (eqN k) (zas o) x with
   | some b=>Q (.bl (if neg then !b else b)) S
   | none=>False
  | none=>False
 | _=>False
theorem zoW {v v':V}{u:Value}(h:zat v u)(h':zat v' u):v=v':=by
 cases v <;> cases v' <;> simp[L2.zat] at h h' <;> first
  | rfl
  | (subst h; simp at h'; subst h'; rfl)
  | (obtain⟨t,rfl⟩:=h; simp at h'; subst h'; rfl)
  | (obtain⟨t,rfl⟩:=h; simp at h')
  | (subst h; simp at h')
  | skip
theorem zgA {r:List Addr}{H:Hp}{d d' x:D}{v:V}{b b':Bool}(p:Rp r H d v)(p':Rp r H d' v)(e:eqF d x=some b)(e':eqF d' x=some b'):b=b':=by
 have z:d=d':=by
  cases p <;> cases p' <;> first
   | rfl
   | (cases x <;> simp[eqF] at e)
   | (cases x <;> simp[eqF] at e')
 subst z
 rw[e] at e'
 exact Option.some.inj e'
theorem zpZ {f:D→D→Option Bool}{r:List Addr}{H:Hp}(hf:∀(d d' x:D) (v:V) (b b':Bool),Rp r H d v→Rp r H d' v→f d x=some b→f d' x=some b'→b=b'):
  ∀ {ds ds' zs:List D} {vs:List V} {b b':Bool},Rps r H ds vs→Rps r H ds' vs→eqL f ds zs=some b→eqL f ds' zs=some b'→b=b'
 | [],ds',zs,vs,b,b',p,p',e,e'=>by
  have z:=p.unnil
  subst z
  cases ds' with
  | nil=>rw[e] at e'; exact Option.some.inj e'
  | cons y ys=>exact absurd p'.1 (by simp)
 | d::ds,ds',zs,vs,b,b',p,p',e,e'=>by
  obtain⟨v,vs',rfl,p1,p2⟩:=p.uncons
  cases ds' with
  | nil=>exact absurd p'.1 (by simp)
  | cons d' ds'=>
   obtain⟨q1,q2⟩:=p'.tail
   cases zs with
   | nil=>
    simp only[eqL,Option.some.injEq] at e e'
    exact e.symm.trans e'
   | cons z zs=>
    unfold eqL at e e'
    split at e
    ·rename_i b1 c1 a1 a2
     split at e'
     ·rename_i b2 c2 a3 a4
      have h1:=hf d d' z v b1 b2 p1 q1 a1 a3
      have h2:=zpZ hf p2 q2 a2 a4
      subst h1 h2
      simp only[Option.some.injEq] at e e'
      exact e.symm.trans e'
     ·cases e'
    ·cases e
theorem zmD:∀(k:Nat) {r:List Addr} {H:Hp} (d d' x:D) (v:V) (b b':Bool),Rp r H d v→Rp r H d' v→eqN k d x=some b→eqN k d' x=some b'→b=b'
 | 0,r,H,d,d',x,v,b,b',p,p',e,e'=>zgA p p' e e'
 | k+1,r,H,d,d',x,v,b,b',p,p',e,e'=>by
  cases p with
  | tup h1 l1 f1=>
   cases p' with
   | tup h2 l2 f2=>
    rw[h1] at h2; cases h2
    cases x with
    | tup zs=>exact zpZ (λd d' x v b b'=>zmD k d d' x v b b') ⟨l1,f1⟩ ⟨l2,f2⟩ e e'
    | _=>simp[eqN,eqT,eqF] at e
   | ref h=>cases x <;> simp[eqN,eqT,eqF] at e'
   | exc h=>cases x <;> simp[eqN,eqT,eqF] at e'
  | non=>exact zgA (x:=x) .non p' (by cases x <;> exact e) (by cases p' <;> cases x <;> exact e')
  | bl i=>exact zgA (x:=x) (.bl i) p' (by cases x <;> exact e) (by cases p' <;> cases x <;> exact e')
  | int i=>exact zgA (x:=x) (.int i) p' (by cases x <;> exact e) (by cases p' <;> cases x <;> exact e')
  | str i=>exact zgA (x:=x) (.str i) p' (by cases x <;> exact e) (by cases p' <;> cases x <;> exact e')
  | ref h=>cases x <;> simp[eqN,eqT,eqF] at e
  | exc h=>cases x <;> simp[eqN,eqT,eqF] at e
theorem zpH {f:D→D→Option Bool}{x:D}:∀ {ys:List D} {b:Bool},zbG f ys x=some b→(∀y∈ys,∃c,f y x=some c)∧(b=true↔∃y∈ys,f y x=some true)
 | [],b,e=>by
  simp only[zbG,Option.some.injEq] at e
  subst e
  simp
 | y::ys,b,e=>by
  unfold zbG at e
  split at e
  ·rename_i b1 c1 e1 e2
   obtain⟨h1,h2⟩:=zpH e2
   simp only[Option.some.injEq] at e
   subst e
   refine⟨λz hz=>?_,?_⟩
   ·rcases Vai.mp hz with rfl | hz'
    ·exact⟨b1,e1⟩
    ·exact h1 z hz'
   ·rw[Bool.or_eq_true,h2]
    refine⟨λq=>?_,λ⟨z,hz,q⟩=>?_⟩
    ·rcases q with q | ⟨z,hz,q⟩
     ·exact⟨y,VaW,by rw[e1,q]⟩
     ·exact⟨z,VaG _ hz,q⟩
    ·rcases Vai.mp hz with rfl | hz'
     ·left
      rw[e1] at q
      exact Option.some.inj q
     ·exact .inr ⟨z,hz',q⟩
  ·cases e
theorem zqx {k:Nat}{pins:List (Addr×Obj)}{σ:St}{H:Hp}{s:Shared}{r:List Addr}{A:Around}{ds:List D}{vs:List V}{us:List Value}{dx:D}{x:V}{u:Value}{b:Bool}(I:Inv X pins σ H s)(hu:A.units+k<cLine)
  (p:Rps r H ds vs)(rv:zax vs us)(px:Rp r H dx x)(rx:zat x u)(e:zbG (eqN k) ds dx=some b):∃g:Value→Bool,(∀y,y∈us.toArray→SeqAt.EqAt A s y u (g y))∧us.toArray.any g=b:=by
 obtain⟨h1,h2⟩:=zpH e
 have at_:∀y∈us,∃d v,d∈ds∧Rp r H d v∧zat v y:=λy hy=>by
  obtain⟨j,hj,ej⟩:=VaI.mp hy
  have hv:j<vs.length:=by rw[rv.length]; exact hj
  have gv:vs[j]?=some vs[j]:=by simp[hv]
  obtain⟨w,gw,rw'⟩:=rv.get gv
  obtain⟨d,gd,pd⟩:=p.get' gv
  have ew:w=y:=by
   rw[Van hj,ej] at gw
   exact(Option.some.inj gw).symm
  subst ew
  exact⟨d,_,Vaz gd,pd,rw'⟩
 classical
 refine⟨λy=>decide (∃d v,d∈ds∧Rp r H d v∧zat v y∧eqN k d dx=some true),λy hy=>?_,?_⟩
 ·obtain⟨d,v,hd,pd,rd⟩:=at_ y (by simpa using hy)
  obtain⟨c,hc⟩:=h1 d hd
  have same:decide (∃d v,d∈ds∧Rp r H d v∧zat v y∧eqN k d dx=some true)=c:=by
   cases c with
   | true=>exact decide_eq_true ⟨d,v,hd,pd,rd,hc⟩
   | false=>
    refine decide_eq_false λ⟨d',v',_,pd',rd',hc'⟩=>?_
    have ev:=zoW rd rd'
    subst ev
    exact absurd (zmD k d d' dx v false true pd pd' hc hc') (by decide)
  show SeqAt.EqAt A s y u (decide _)
  rw[same]
  exact zdG k X pins σ H s r A d dx v x y u c I hu pd px rd rx hc
 ·rw[Bool.eq_iff_iff,h2,List.any_toArray,List.any_eq_true]
  refine⟨λ⟨y,hy,q⟩=>?_,λ⟨d,hd,q⟩=>?_⟩
  ·obtain⟨d,v,hd,_,_,q'⟩:=of_decide_eq_true q
   exact⟨d,hd,q'⟩
  ·obtain⟨j,hj,ej⟩:=VaI.mp hd
   have gd:ds[j]?=some d:=by simp[hj,ej]
   obtain⟨v,gv,pv⟩:=p.get gd
   obtain⟨w,gw,rw'⟩:=rv.get gv
   exact⟨w,Vaz gw,decide_eq_true ⟨d,v,hd,pv,rw',q⟩⟩
theorem zvW (k:Nat)(hu:X.A.units+1+k<cLine):OpR X (compareOp .NotIn) (upO X.K Z (wIn k true)):=by
 intro pins s σ H x y v u Qv I rx ry h
 obtain⟨r,S,dx,dy,Q,rel,px,py,q,ret⟩:=h
 cases py with
 | @ref n a hn=>
  unfold wIn at q
  dsimp only at q
  split at q
  ·rename_i o eo
   split at q
   ·rename_i b eb
    cases ry
    obtain⟨eo,eL⟩:=zbu eo
    obtain⟨a',ha,ob⟩:=rel.at eo
    rw[hn] at ha; cases ha
    obtain⟨ys,sq,pr⟩:=ob.list eL
    obtain⟨us,ru,pl,_⟩:=I.list sq
    obtain⟨g,g1,g2⟩:=zqx (A:=X.A.in1) I (by show X.A.units+1+k<_; omega) pr ru px rx eb
    refine SeqAt.notIn_listAt g pl.isList g1 ?_
    rw[g2]
    exact⟨.bl (!b),H,I,rfl,ret _ _ _ _ _ Ext.refl rel (.bl (!b)) q⟩
   ·exact q.elim
  ·exact q.elim
 | _=>exact(show False from q).elim
end
section
variable {X:Cx}{Z:Zx}{pos:Pos}
def zfT:List Nat→List D→Ev→Ev
 | i::is,d::ds,dl=>zfT is ds (dl.set i (some d))
 | _,_,dl=>dl
def zlR:List Nat→List V→St→St
 | i::is,v::vs,σ=>zlR is vs (σ.set i (some v))
 | _,_,σ=>σ
theorem zpc {r:List Addr}{H:Hp}:∀ {is:List Nat} {ds:List D} {vs:List V} {dl:Ev} {σ:St},Rs r H dl σ→Rps r H ds vs→Rs r H (zfT is ds dl) (zlR is vs σ)
 | [],ds,vs,dl,σ,h,p=>by cases ds <;> cases vs <;> exact h
 | i::is,[],vs,dl,σ,h,p=>by
  have z:=p.unnil
  subst z
  exact h
 | i::is,d::ds,vs,dl,σ,h,p=>by
  obtain⟨v,vs',rfl,p1,p2⟩:=p.uncons
  show Rs r H (zfT is ds (dl.set i (some d))) (zlR is vs' (σ.set i (some v)))
  exact zpc (Rs.set i h p1) p2
inductive Nms (X:Cx):List Expr→List Nat→Prop
 | nil:Nms X [] []
 | cons {x:Str} {p:Pos} {i:Nat} {es:List Expr} {is:List Nat}:X.N[i]?=some x→Loc X.env.scope x→(X.fn x=true∨X.env.scope.names.lookup x=some .local)→Nms X es is→Nms X (.Name x p::es) (i::is)
def gAll (is:List Nat):TGs:=λvs σ H Q=>vs.length=is.length∧Q (zlR is vs σ) H
theorem zp1 (hN:X.N.Nodup):∀ {es:List Expr} {is:List Nat},Nms X es is→PGs X es (gAll is)
 | _,_,.nil=>λpins s σ H vs us Q I r h=>by
  obtain⟨e,h⟩:=h
  have z:vs=[]:=by simpa using e
  subst z
  exact zuf pins s σ H [] us Q I r ⟨rfl,h⟩
 | _,_,.cons (x:=x) (p:=p) (es:=es) (is:=is) h1 h2 h3 t=>λpins s σ H vs us Q I r h=>by
  obtain⟨e,h⟩:=h
  cases vs with
  | nil=>simp at e
  | cons v vs=>exact zvT (zgQ hN h1 h2 h3) (zp1 hN t) rfl pins s σ H (v::vs) us Q I r ⟨v,vs,rfl,by simpa using e,h⟩
end
open PySem L2
theorem zqu (S:Sto)(o u:Ob):(S++[o]).set S.length u=S++[u]:=by simp
section
variable {X:Cx}{Z:Zx}
abbrev wShl:W2:=wI zhC λi j=>.int (i*2^j.toNat)
theorem zvN:OpR X (binaryOp .LShift) (upO X.K Z wShl):=opD zvM λ_ _ _ _=>.int _
def dBits (to:TDE):TDE:=λdl S Q=>to dl S λd S1=>match d with
 | .int i=>Q (.int (Builtin.Int.intBits i)) S1
 | _=>False
theorem zuW:MtR X "int.bit_length" (λx xs H Q=>∃i,x=.int i∧xs=[]∧Q (.int (Builtin.Int.intBits i)) H):=by
 intro pins s σ H x xs v us Q I rx rv h
 obtain⟨i,rfl,rfl,q⟩:=h
 obtain⟨t,rfl⟩:=rx
 cases rv
 exact call_int_bit_length ⟨.int _,H,I.tok _,⟨_,rfl⟩,q⟩
theorem ztH {o:Expr}{to:TDE}{apos cpos:Pos}(ho:PD X Z o to)(hbase:attributeBase o "bit_length" X.env (eval o X.env)=eval o X.env:=by rfl)(hline:(apos.endLine==cpos.line)=true:=by rfl):
  PD X Z (.Call (.Attribute o "bit_length" apos) [] [] cpos) (dBits to):=
 za6 (ztI (T:="int") ⟨⟨_,ga_int,canon_ga_int⟩,no_getattr_int⟩ slot_int_bit_length type_int_bit_length zuW ho hbase hline) λσ H Qv ⟨r,dl,S,Q,rs,rel,h,ret⟩=>⟨r,dl,S,_,rs,rel,h,λv H1 r1 d S1 e1 rel1 p1 q1=>by
  cases p1 with
  | int i=>exact⟨rfl,i,rfl,rfl,ret _ H1 r1 (.int _) S1 e1 rel1 (.int _) q1⟩
  | _=>exact(show False from q1).elim⟩
end
def zoF:Sd:=λ_ _ _ _=>False
def Df.never {P:Program}{w:World}{K:PySem.W.Frag}{mg:Str→Option Value}{base:Heap}{x:Str}{st:Stmt}{ps:List Str}(k:Nat)(d:Df K mg x st ps):Fk P w K mg base k x ps zoF:=
 ⟨d.f,d.fd,⟨λ_ _ _ _ ⟨_,_,_,_,_,_,_,z,_⟩=>z.elim,λ_ _ _ _ _ _ _ _ _ _ _ _ _ ⟨_,_,_,_,_,_,_,z,_⟩=>z.elim⟩,d.m,d.F.kp,d.b⟩
section
variable {X:Cx}{Z:Zx}{pos:Pos}
end
section
variable {X:Cx}{Z:Zx}{elt iter:Expr}{x:Str}{px pos:Pos}{ifs:List Expr}{sc ar:Scope}{N:List Str}{caps:List Nat}
theorem zsz {ta:TDA}{te:TDE}{dl:Ev}{S S1:Sto}{Q:DK}{j:Int}(g:Nat→D)(hta:∀K:List D→Sto→Prop,K [.int j] S1→ta dl S K)(hj:0≤j∧j≤1000)
  (ht:∀k:Nat,k<j.toNat→∀(S2:Sto) (K:DK),Pre S1 S2→K (g k) S2→te (some (.int k)::zct caps dl) S2 K)(hq:Q (.ref S1.length) (S1++[.lst ((List.range j.toNat).map g)])):zdr caps ta zcA te dl S Q:=by
 unfold zdr
 refine hta _ ⟨⟨by omega,by omega⟩,λk S2=>S2=S1++[.lst ((List.range k).map g)]∧k≤j.toNat,⟨by simp,by omega⟩,?_⟩
 rintro k S2 ⟨rfl,hk⟩
 split
 ·rename_i hk'
  unfold zdD zcA
  simp only[if_true]
  refine ht k hk' _ _ Pre.refl.push ?_
  rw[zaP]
  refine⟨by simp; omega,?_,by omega⟩
  rw[List.range_succ,VaN,List.set_append_right _ _ (Vaa _)]
  simp
 ·have e:k=j.toNat:=by omega
  subst e
  exact hq
end
section
variable {X:Cx}{Z:Zx}{pos:Pos}
def zaJ (zs:List Str):Str:=⟨(zs.flatMap λz=>z.cps.toList).toArray⟩
abbrev TDO:=Ev→Sto→(Option Int→Sto→Prop)→Prop
def upP (K:PySem.W.Frag)(Z:Zx)(t:TDO):TO:=λσ H Q=>∃(r:List Addr) (dl:Ev) (S:Sto) (Q':Option Int→Sto→Prop),Rs r H dl σ∧Rel K Z r S H∧t dl S Q'∧∀o H' r' S',Ext r r' H H'→Rel K Z r' S' H'→Q' o S'→Q o H'
def PDO (X:Cx)(Z:Zx)(e:Option Expr)(t:TDO):Prop:=PO X e (upP X.K Z t)
def zqO:TDO:=λ_ S Q=>Q none S
def dPart (t:TDE):TDO:=λdl S Q=>t dl S λd S1=>match d with
 | .int i=>Q (some i) S1
 | _=>False
theorem zo0 {e:Option Expr}{t t':TO}(h:PO X e t)(g:∀σ H Q,t' σ H Q→t σ H Q):PO X e t':=λpins s σ H Q I q=>h pins s σ H Q I (g σ H Q q)
theorem zmA:PDO X Z none zqO:=zo0 zq2 λσ H Q ⟨r,dl,S,Q',rs,rel,h,ret⟩=>ret none H r S Ext.refl rel h
theorem zdW {e:Expr}{t:TDE}(he:PD X Z e t):PDO X Z (some e) (dPart t):=zo0 (ztv he) λσ H Q ⟨r,dl,S,Q',rs,rel,h,ret⟩=>⟨r,dl,S,_,rs,rel,h,λv H1 r1 d S1 e1 rel1 p1 q1=>by
 cases p1 with
 | int i=>exact⟨i,rfl,ret (some i) H1 r1 S1 e1 rel1 q1⟩
 | _=>exact(show False from q1).elim⟩
end
section
variable {X:Cx}{Z:Zx}
end
section
variable {X:Cx}{Z:Zx}
end
theorem zaD {n:Nat}{S:Sto}{o:Ob}{Q:DK}{i:Int}{d:D}(ho:S[n]?=some o)(hd:atI (zas o) i=some d)(hq:Q d S)(hL:zbR o=some o:=by rfl):zbK wIx (.ref n) (.int i) S Q:=by
 rw[zb4]
 unfold wIx
 simp only[za4 ho hL,hd]
 exact hq
def zea (f:Str)(v:D):List (Str×D)→List (Str×D)
 | []=>[(f,v)]
 | p::r=>if p.1=f then (f,v)::r else p::zea f v r
theorem FR.lookup {r:List Addr}{H:Hp}{f:Str}:∀ {fs:List (Str×D)} {fs':List (Str×V)},FR r H fs fs'→(∀d,fs.lookup f=some d→∃v,fs'.lookup f=some v∧Rp r H d v)∧(fs.lookup f=none→fs'.lookup f=none)
 | [],fs',h=>by
  have e:fs'=[]:=by
   have:=h.1
   simpa using this.symm
  subst e
  exact⟨λd z=>by simp at z,λ_=>rfl⟩
 | p::fs,[],h=>by
  have:=h.1
  simp at this
 | p::fs,q::fs',h=>by
  obtain⟨h1,h2⟩:=h
  simp only[Vau,List.cons.injEq] at h1
  obtain⟨p1,p2⟩:=h2.tail
  obtain⟨i1,i2⟩:=FR.lookup (f:=f) (fs:=fs) (fs':=fs') ⟨h1.2,p2⟩
  obtain⟨pk,pv⟩:=p
  obtain⟨qk,qv⟩:=q
  have ek:pk=qk:=h1.1
  subst ek
  by_cases z:f=pk
  ·subst z
   simp only[List.lookup_cons_self]
   exact⟨λd hd=>⟨qv,rfl,by cases hd; exact p1⟩,λhd=>by cases hd⟩
  ·have zb:(f==pk)=false:=by simpa using z
   simp only[Vat,zb]
   exact⟨i1,i2⟩
theorem FR.put {r:List Addr}{H:Hp}{f:Str}{d:D}{v:V}(q:Rp r H d v):∀ {fs:List (Str×D)} {fs':List (Str×V)},FR r H fs fs'→FR r H (zea f d fs) (zbh f v fs')
 | [],fs',h=>by
  have e:fs'=[]:=by
   have:=h.1
   simpa using this.symm
  subst e
  exact⟨rfl,Rps.cons q Rps.nil⟩
 | p::fs,[],h=>by
  have:=h.1
  simp at this
 | p::fs,p'::fs',h=>by
  obtain⟨h1,h2⟩:=h
  simp only[Vau,List.cons.injEq] at h1
  obtain⟨p1,p2⟩:=h2.tail
  have ih:=FR.put (f:=f) q (fs:=fs) (fs':=fs') ⟨h1.2,p2⟩
  obtain⟨pk,pv⟩:=p
  obtain⟨qk,qv⟩:=p'
  have ek:pk=qk:=h1.1
  subst ek
  unfold zea zbh
  by_cases z:pk=f
  ·rw[if_pos z,if_pos z]
   exact⟨by simp[h1.2,z],Rps.cons q p2⟩
  ·rw[if_neg z,if_neg z]
   exact⟨by simp[ih.1],Rps.cons p1 ih.2⟩
section
variable {X:Cx}{Z:Zx}{pos:Pos}
def zco (C:Addr)(S:Sto):D→Option (Nat×List (Str×D))
 | .ref n=>match S[n]? with
  | some (.ins C' fs)=>if C'=C then some (n,fs) else none
  | _=>none
 | _=>none
theorem zmp {C:Addr}{S:Sto}{d:D}{n:Nat}{fs:List (Str×D)}(h:zco C S d=some (n,fs)):d=.ref n∧S[n]?=some (.ins C fs):=by
 unfold zco at h
 split at h
 ·split at h
  ·rename_i m _ C' fs' e
   split at h
   ·rename_i ec
    subst ec
    simp only[Option.some.injEq,Prod.mk.injEq] at h
    obtain⟨rfl,rfl⟩:=h
    exact⟨rfl,e⟩
   ·cases h
  ·cases h
 ·cases h
@[irreducible] def zk6 (C:Addr)(f:Str)(to:TDE):TDE:=λdl S Q=>to dl S λd S1=>match zco C S1 d with
 | some (_,fs)=>match fs.lookup f with
  | some v=>Q v S1
  | none=>False
 | none=>False
theorem zaQ {C:Addr}{f:Str}{o:Expr}{to:TDE}(c:Cls X.K C)(n:zbi X.K C f)(ho:PD X Z o to)(hb:attributeBase o f X.env (eval o X.env)=eval o X.env:=by rfl):PD X Z (.Attribute o f pos) (zk6 C f to):=
 za6 (ztA ho hb) λσ H Qv ⟨r,dl,S,Q,rs,rel,h,ret⟩=>by unfold zk6 at h; exact⟨r,dl,S,_,rs,rel,h,λv H1 r1 d S1 e1 rel1 p1 q1=>by
  split at q1
  ·rename_i m fs ei
   obtain⟨rfl,eS⟩:=zmp ei
   split at q1
   ·rename_i w ew
    obtain⟨a,ha,ob⟩:=rel1.at eS
    obtain⟨dx,fs',eH,fr⟩:=ob
    cases p1 with
    | ref hr=>
     rw[hr] at ha; cases ha
     obtain⟨u,hu,pu⟩:=fr.lookup.1 w ew
     exact⟨a,C,dx,fs',u,rfl,eH,c,n,hu,ret u H1 r1 w S1 e1 rel1 pu q1⟩
   ·exact q1.elim
  ·exact q1.elim⟩
@[irreducible] def zjq (C:Addr)(f:Str)(to te:TDE):TDS:=λE dl S=>te dl S λv S1=>to dl S1 λd S2=>match zco C S2 d with
 | some (n,fs)=>fs.length<1000∧E.nx dl (S2.set n (.ins C (zea f v fs)))
 | none=>False
theorem zch {C:Addr}{f:Str}{o e:Expr}{to te:TDE}{p2:Pos}(c:Cls X.K C)(n:zbi X.K C f)(ho:PD X Z o to)(he:PD X Z e te)
  (hs:swapsWith e (some (.Attribute o f p2)) pos.line X.env=pure false:=by rfl):PDS X Z (.Assign [.Attribute o f p2] e pos) (zjq C f to te):=
 zbM (ztX ho he hs) λF σ H ⟨r,dl,S,E,rs,rel,h,ret⟩=>by unfold zjq at h; exact⟨r,dl,S,_,rs,rel,h,λv H1 r1 dv S1 e1 rel1 p1 q1=>⟨r1,dl,S1,_,rs.ext e1,rel1,q1,λw H2 r2 d S2 e2 rel2 p2' q2=>by
  split at q2
  ·rename_i m fs ei
   obtain⟨rfl,eS⟩:=zmp ei
   obtain⟨hl,q2⟩:=q2
   obtain⟨a,ha,ob⟩:=rel2.at eS
   obtain⟨dx,fs',eH,fr⟩:=id ob
   cases p2' with
   | ref hr=>
    rw[hr] at ha; cases ha
    have hlen:fs'.length=fs.length:=by
     have:=congrArg List.length fr.1
     simpa using this.symm
    obtain⟨rb,x⟩:=rel2.b.setO (o':=.ins C (zea f dv fs)) (u:=.ins C dx (zbh f v fs')) hr eS rfl rfl λx=>⟨dx,_,zcv,(fr.put (p1.ext e2)).ext x⟩
    exact⟨a,C,dx,fs',rfl,eH,c,n,by omega,ret.nx _ _ r2 _ _ (e1.trans (e2.trans x)) (rs.ext (e1.trans (e2.trans x))) ⟨rb,rel2.xw.ext x⟩ q2⟩
  ·exact q2.elim⟩⟩
@[irreducible] def zlZ (C:Addr)(m:Str)(ex:Ev→Addr→Sto→Prop)(sd:Sd)(to:TDE)(t:TDA):TDE:=λdl S Q=>to dl S λd S1=>match zco C S1 d with
 | some (_,fs)=>fs.lookup m=none∧t dl S1 λds S2=>sd (d::ds) S2 Q (ex dl)
 | none=>False
theorem zqN {C:Addr}{m:Str}{f:Addr}{fd:FuncData}{k:Nat}{ps:List Str}{sp:Sp}{W:St→XK}{o e:Expr}{es:List Expr}{ta:TE}{t:TA}{apos:Pos}{pl:Sem Bool}(he:PE X o ta)(c:Cls X.K C)(hm:zey X.K C m f)
  (F:zaZ X.prog X.w X.K X.mg X.base (CXE X.prog X.w) k f fd ps sp)(hr:zaF k X.A)(hb:zbp X.K fd ps [])(hx:zcH X W)(ha:PA X (e::es) t)(hst:starEach (e::es) X.env=(false,eval e X.env)::starEach es X.env)(hpl:(backTo pos (starEach es X.env)).any (·.1)=false)
  (ht:eval (.Call (.Attribute o m apos) (e::es) [] pos) X.env=(do
   let ov ← eval o X.env
   standAt apos.atName
   let (f,first) ← holding [ov] (getMethod ov m pl)
   callWith pos f first (backTo pos (starEach (e::es) X.env)) (backToKw pos (keywordEach [] X.env)))):
  PE X (.Call (.Attribute o m apos) (e::es) [] pos) (λσ H Q=>ta σ H λx H1=>∃a dx fs,x=.ref a∧H1 a=some (.ins C dx fs)∧fs.lookup m=none∧t σ H1 λvs H2=>sp (x::vs) H2 Q (W σ)):=by
 intro pins s σ H Q I h
 refine PySem.W.methodCall_KW (pl:=pl) (thn (he pins s σ H _ I h) λu s1 ⟨x,H1,I1,rx,a,dx,fs,ex,ea,l,q⟩=>?_) ht
 subst ex
 obtain rfl:u=Value.ref a:=rx
 refine zow I1 ea c hm l ?_
 exact PySem.W.callWith_K (first:=[.ref a]) (h₀:=X.base) I.ok.mod.kin hm.kp (thn (ha pos pins s1 σ H1 _ I1 q) λus s2 ⟨vs,H2,I2,r,q2⟩=>⟨I2.kIn,zmY (us:=.ref a::us) (vs:=.ref a::vs) F hr hb hx I2 (.cons rfl r) q2⟩) hst hpl
theorem zpu {C:Addr}{r:List Addr}{S:Sto}{H:Hp}{d:D}{v:V}{n:Nat}{fs:List (Str×D)}(rel:zaW X.K r S H)(p:Rp r H d v)(h:zco C S d=some (n,fs)):∃a dx fs',v=.ref a∧r[n]?=some a∧H a=some (.ins C dx fs')∧FR r H fs fs':=by
 obtain⟨rfl,eS⟩:=zmp h
 obtain⟨a,ha,dx,fs',eH,fr⟩:=rel.at eS
 cases p with
 | ref hr=>
  rw[hr] at ha; cases ha
  exact⟨a,dx,fs',rfl,hr,eH,fr⟩
theorem zej {C:Addr}{m:Str}{f:Addr}{fd:FuncData}{k:Nat}{ps:List Str}{sd:Sd}{o e:Expr}{es:List Expr}{to:TDE}{t:TDA}{apos:Pos}{pl:Sem Bool}{ex:Ev→Addr→Sto→Prop}{W:St→XK}(ho:PD X ⟨ex,W⟩ o to)(c:Cls X.K C)(hm:zey X.K C m f)
  (F:zaZ X.prog X.w X.K X.mg X.base (CXE X.prog X.w) k f fd ps (upF X.K sd))(hr:zaF k X.A)(hb:zbp X.K fd ps [])(hx:zcH X W)(ha:PDA X ⟨ex,W⟩ (e::es) t)
  (hst:starEach (e::es) X.env=(false,eval e X.env)::starEach es X.env:=by rfl)(hpl:(backTo pos (starEach es X.env)).any (·.1)=false:=by rfl)
  (ht:eval (.Call (.Attribute o m apos) (e::es) [] pos) X.env=(do
   let ov ← eval o X.env
   standAt apos.atName
   let (f,first) ← holding [ov] (getMethod ov m pl)
   callWith pos f first (backTo pos (starEach (e::es) X.env)) (backToKw pos (keywordEach [] X.env))):=by rfl):PD X ⟨ex,W⟩ (.Call (.Attribute o m apos) (e::es) [] pos) (zlZ C m ex sd to t):=
 za6 (zqN ho c hm F hr hb hx ha hst hpl ht) λσ H Qv ⟨r,dl,S,Q,rs,rel,h,ret⟩=>by unfold zlZ at h; exact⟨r,dl,S,_,rs,rel,h,λv H1 r1 d S1 e1 rel1 p1 q1=>by
  split at q1
  ·rename_i n fs ei
   obtain⟨hl,q1⟩:=q1
   obtain⟨a,dx,fs',rfl,hr1,eH,fr⟩:=zpu rel1.b p1 ei
   exact⟨a,dx,fs',rfl,eH,fr.lookup.2 hl,r1,dl,S1,_,rs.ext e1,rel1,q1,λvs H2 r2 ds S2 e2 rel2 p2 q2=>zmf (Z:=⟨ex,W⟩) (rs.ext (e1.trans e2)) rel2 (Rps.cons (p1.ext e2) p2) q2 (ret.ext (e1.trans e2))⟩
  ·exact q1.elim⟩
def dMake (C:Addr)(ex:Addr→Sto→Prop)(sd:Sd)(t:TDA):TDE:=λdl S Q=>t dl S λds S1=>sd (.ref S1.length::ds) (S1++[.ins C []]) (λd S2=>d=.non∧Q (.ref S1.length) S2) ex
theorem zqh {C x dx:Addr}{r:List Addr}{S:Sto}{H:Hp}(rel:Rel X.K Z r S H)(h1:H x=none)(h2:H dx=none)(h3:dx≠x):
  Rel X.K Z (r++[x]) (S++[.ins C []]) (upd (upd H dx (.own x)) x (.ins C dx []))∧Ext r (r++[x]) H (upd (upd H dx (.own x)) x (.ins C dx [])):=by
 obtain⟨rb,e⟩:=rel.b.pushO (o:=.ins C []) (H':=upd (upd H dx (.own x)) x (.ins C dx [])) h1 (λb u q=>by rw[za2 (zc0 q h1),za2 (zc0 q h2)]; exact q) λ_=>⟨dx,[],zcv,FR.nil⟩
 exact⟨⟨rb,rel.xw.ext e⟩,e⟩
theorem zwv {C x:Addr}{r r':List Addr}{n:Nat}{H H':Hp}{Z:Zx}{K:PySem.W.Frag}{Q:DK}{Qv:VK}(ret:Ret K Z r H Q Qv)(e:Ext r r' H H')(hx:r'[n]?=some x):
  Ret K Z r' H' (λd S2=>d=.non∧Q (.ref n) S2) (λv H2=>v=.non∧Qv (.ref x) H2):=λv H2 r2 d S2 e2 rel2 p2 q2=>by
 obtain⟨rfl,q2⟩:=q2
 cases p2
 exact⟨rfl,ret _ H2 r2 (.ref n) S2 (e.trans e2) rel2 (.ref (e2.adr _ _ hx)) q2⟩
theorem ze4 {C f:Addr}{fd:FuncData}{k:Nat}{ps:List Str}{sd:Sd}{ex:Addr→Sto→Prop}{W:XK}{x:Str}{p:Pos}{e:Expr}{es:List Expr}{t:TDA}(M:Mk X.K C f)
  (F:zaZ X.prog X.w X.K X.mg X.base (CXE X.prog X.w) k f fd ps (upF X.K sd))(hr:zaF (k+1) X.A)(hg:Gl X x)(hm:X.mg x=some (.ref C))(hb:zbp X.K fd ps [])(hx:zll (CXE X.prog X.w) X W)(ha:PDA X (Zc ex W) (e::es) t)
  (hdb:(x==("__debug__":Str))=false:=by decide)(he:starEach (e::es) X.env=(false,eval e X.env)::starEach es X.env:=by rfl)(hpl:(backTo pos (starEach es X.env)).any (·.1)=false:=by rfl):
  PD X (Zc ex W) (.Call (.Name x p) (e::es) [] pos) (dMake C ex sd t):=
 za6 (zsi M F hr hg hm hb .nil hx ha hdb he hpl) λσ H Qv ⟨r,dl,S,Q,rs,rel,h,ret⟩=>⟨r,dl,S,_,rs,rel,h,λvs H1 r1 ds S1 e1 rel1 p1 q1=>λx dx n1 n2 n3=>by
  obtain⟨rel2,e2⟩:=zqh (C:=C) rel1 n1 n2 n3
  show upF X.K sd (.ref x::(vs++[])) _ _ W
  rw[Va3]
  exact⟨ex,_,_,.ref S1.length::ds,_,rel2,Rps.cons (zeh rel1.len) (p1.ext e2),q1,zwv (C:=C) ret (e1.trans e2) (zmh rel1.len)⟩⟩
end
section
variable {κ:Type} [DecidableEq κ]
def zdv (kvs:List (κ×D))(k:κ):Option D:=(kvs.find? λkv=>decide (kv.1=k)).map (·.2)
def zo9 (kvs:List (κ×D))(k:κ)(v:D):List (κ×D):=
 if (kvs.any λkv=>decide (kv.1=k))=true then kvs.map (λkv=>if kv.1=k then (kv.1,v) else kv) else kvs++[(k,v)]
theorem FR.split {r:List Addr}{H:Hp}{p:κ×D}{fs:List (κ×D)}{gs:List (κ×V)}(h:FR r H (p::fs) gs):∃q gs',gs=q::gs'∧p.1=q.1∧Rp r H p.2 q.2∧FR r H fs gs':=by
 cases gs with
 | nil=>
  have:=h.1
  simp at this
 | cons q gs'=>
  obtain⟨h1,h2⟩:=h
  simp only[Vau,List.cons.injEq] at h1
  obtain⟨p1,p2⟩:=h2.tail
  exact⟨q,gs',rfl,h1.1,p1,h1.2,p2⟩
theorem FR.unnil {r:List Addr}{H:Hp}{gs:List (κ×V)}(h:FR r H ([]:List (κ×D)) gs):gs=[]:=by
 have:=h.1
 simpa using this.symm
theorem FR.cons {r:List Addr}{H:Hp}{k:κ}{d:D}{v:V}{fs:List (κ×D)}{gs:List (κ×V)}(p:Rp r H d v)(h:FR r H fs gs):FR r H ((k,d)::fs) ((k,v)::gs):=⟨by simp[h.1],Rps.cons p h.2⟩
theorem FR.val {r:List Addr}{H:Hp}{k:κ}:∀ {fs:List (κ×D)} {gs:List (κ×V)},FR r H fs gs→(∀d,zdv fs k=some d→∃v,zbN gs k=some v∧Rp r H d v)∧(zdv fs k=none→zbN gs k=none)
 | [],gs,h=>by
  have z:=h.unnil
  subst z
  exact⟨(λd e=>by cases e),λ_=>rfl⟩
 | p::fs,gs,h=>by
  obtain⟨q,gs',rfl,e,pr,t⟩:=h.split
  obtain⟨i1,i2⟩:=FR.val (k:=k) t
  by_cases z:p.1=k
  ·have z':q.1=k:=e.symm.trans z
   rw[zkN z']
   have zd:zdv (p::fs) k=some p.2:=by simp[zdv,VaS,z]
   rw[zd]
   exact⟨λd hd=>⟨q.2,rfl,by cases hd; exact pr⟩,λhd=>by cases hd⟩
  ·have z':¬ q.1=k:=λy=>z (e.trans y)
   rw[zlB z']
   have zd:zdv (p::fs) k=zdv fs k:=by simp[zdv,VaS,z]
   rw[zd]
   exact⟨i1,i2⟩
theorem FR.putK {r:List Addr}{H:Hp}{k:κ}{d:D}{v:V}{fs:List (κ×D)}{gs:List (κ×V)}(p:Rp r H d v)(h:FR r H fs gs):FR r H (zo9 fs k d) (putK gs k v):=by
 have any:∀ {fs:List (κ×D)} {gs:List (κ×V)},FR r H fs gs→(fs.any λkv=>decide (kv.1=k))=(gs.any λkv=>decide (kv.1=k)):=by
  intro fs
  induction fs with
  | nil=>intro gs h; have z:=h.unnil; subst z; rfl
  | cons q fs ih=>
   intro gs h
   obtain⟨q',gs',rfl,e,_,t⟩:=h.split
   rw[List.any_cons,List.any_cons,ih t,e]
 have mp:∀ {fs:List (κ×D)} {gs:List (κ×V)},FR r H fs gs→FR r H (fs.map λkv=>if kv.1=k then (kv.1,d) else kv) (gs.map λkv=>if kv.1=k then (kv.1,v) else kv):=by
  intro fs
  induction fs with
  | nil=>intro gs h; have z:=h.unnil; subst z; exact FR.nil
  | cons q fs ih=>
   intro gs h
   obtain⟨q',gs',rfl,e,pr,t⟩:=h.split
   rw[Vau,Vau]
   obtain⟨qk,qd⟩:=q
   obtain⟨qk',qv⟩:=q'
   have e':qk=qk':=e
   subst e'
   by_cases z:qk=k
   ·rw[if_pos z,if_pos z]; exact FR.cons p (ih t)
   ·rw[if_neg z,if_neg z]; exact FR.cons pr (ih t)
 have ap:∀ {fs:List (κ×D)} {gs:List (κ×V)},FR r H fs gs→FR r H (fs++[(k,d)]) (gs++[(k,v)]):=by
  intro fs
  induction fs with
  | nil=>intro gs h; have z:=h.unnil; subst z; exact FR.cons p FR.nil
  | cons q fs ih=>
   intro gs h
   obtain⟨q',gs',rfl,e,pr,t⟩:=h.split
   obtain⟨qk,qd⟩:=q
   obtain⟨qk',qv⟩:=q'
   have e':qk=qk':=e
   subst e'
   exact FR.cons pr (ih t)
 unfold zo9 L2.putK
 rw[any h]
 split
 ·exact mp h
 ·exact ap h
end
section
variable {X:Cx}{Z:Zx}{pos:Pos}
end
section
variable {X:Cx}{Z:Zx}{pos:Pos}
def zbd (xs:List D)(lo hi:Option Int):List D:=(xs.drop (HT.sIx xs.length 0 lo)).take (HT.sIx xs.length xs.length hi-HT.sIx xs.length 0 lo)
theorem Rps.drop {r:List Addr}{H:Hp}{ds:List D}{vs:List V}(h:Rps r H ds vs)(k:Nat):Rps r H (ds.drop k) (vs.drop k):=
 ⟨by simp[h.1],λi d v h1 h2=>h.2 (k+i) d v (by simpa using h1) (by simpa using h2)⟩
theorem Rps.take {r:List Addr}{H:Hp}{ds:List D}{vs:List V}(h:Rps r H ds vs)(k:Nat):Rps r H (ds.take k) (vs.take k):=by
 refine⟨by simp[h.1],λi d v h1 h2=>?_⟩
 rw[List.getElem?_take] at h1 h2
 split at h1
 ·rw[if_pos (by assumption)] at h2
  exact h.2 i d v h1 h2
 ·cases h1
theorem Rps.cut {r:List Addr}{H:Hp}{ds:List D}{vs:List V}(h:Rps r H ds vs)(lo hi:Option Int):Rps r H (zbd ds lo hi) (zeU vs lo hi):=by
 unfold zbd zeU
 rw[h.1]
 exact(h.drop _).take _
@[irreducible] def zh7 (te:TDE)(tl th:TDO):TDE:=λdl S Q=>te dl S λd S1=>tl dl S1 λl S2=>th dl S2 λu S3=>match d with
 | .ref n=>match lAt S3 n with
  | some o=>Q (.ref S3.length) (S3++[.lst (zbd (zas o) l u)])
  | none=>False
 | _=>False
theorem zf1 {e:Expr}{te:TDE}{lo hi:Option Expr}{tl th:TDO}{p2:Pos}(he:PD X Z e te)(hl:PDO X Z lo tl)(hu:PDO X Z hi th):PD X Z (.Subscript e (.Slice lo hi none p2) pos) (zh7 te tl th):=
 za6 (zsD zqs he hl hu) λσ H Qv ⟨r,dl,S,Q,rs,rel,h,ret⟩=>by
  unfold zh7 at h
  refine⟨r,dl,S,_,rs,rel,h,λv H1 r1 d S1 e1 rel1 p1 q1=>⟨r1,dl,S1,_,rs.ext e1,rel1,q1,λl H2 r2 S2 e2 rel2 q2=>⟨r2,dl,S2,_,rs.ext (e1.trans e2),rel2,q2,λu H3 r3 S3 e3 rel3 q3=>?_⟩⟩⟩
  cases p1 with
  | @ref n a hn=>
   dsimp only at q3
   split at q3
   ·rename_i o eo
    obtain⟨eo,eL⟩:=zbu eo
    obtain⟨a',ha,ob⟩:=rel3.at eo
    rw[e3.adr _ _ (e2.adr _ _ hn)] at ha; cases ha
    obtain⟨xs,sq,pr⟩:=ob.list eL
    refine⟨a,xs,rfl,sq,λp hp=>?_⟩
    obtain⟨rel4,x⟩:=rel3.push hp (pr.cut l u)
    exact ret _ _ _ (.ref S3.length) _ (e1.trans (e2.trans (e3.trans x))) rel4 (zeh rel3.len) q3
   ·exact q3.elim
  | _=>exact(show False from q3).elim
theorem zgE {te:TDE}{tl th:TDO}{dl:Ev}{S S3:Sto}{Q:DK}{n:Nat}{o:Ob}{lo hi:Option Int}(h:∀K:DK,K (.ref n) S3→te dl S K)(hl:∀K:Option Int→Sto→Prop,K lo S3→tl dl S3 K)(hh:∀K:Option Int→Sto→Prop,K hi S3→th dl S3 K)(ho:S3[n]?=some o)
  (hq:Q (.ref S3.length) (S3++[.lst (zbd (zas o) lo hi)]))(hL:zbR o=some o:=by rfl):zh7 te tl th dl S Q:=by
 unfold zh7
 refine h _ (hl _ (hh _ ?_))
 simp only[za4 ho hL]
 exact hq
end
section
variable {X:Cx}{Z:Zx}{pos:Pos}
theorem Rps.put {r:List Addr}{H:Hp}{ds:List D}{vs:List V}{d:D}{v:V}(h:Rps r H ds vs)(p:Rp r H d v)(j:Nat):Rps r H (ds.set j d) (vs.set j v):=by
 refine⟨by simp[h.1],λi x y h1 h2=>?_⟩
 by_cases z:j=i
 ·subst z
  have hl:j<ds.length:=by
   have:=(Vab.mp h1).1
   simpa using this
  rw[VaY hl] at h1
  rw[VaY (by rw[← h.1]; exact hl)] at h2
  cases h1
  cases h2
  exact p
 ·rw[VaR z] at h1 h2
  exact h.2 i x y h1 h2
@[irreducible] def zib (to ti te:TDE):TDS:=λE dl S=>te dl S λv S1=>to dl S1 λd S2=>ti dl S2 λi S3=>match d,i with
 | .ref n,.int k=>match S3[n]? with
  | some (.lst xs)=>match ixN xs.length k with
   | some j=>E.nx dl (S3.set n (.lst (xs.set j v)))
   | none=>False
  | _=>False
 | _,_=>False
theorem zjH {o i e:Expr}{to ti te:TDE}{p2:Pos}(ho:PD X Z o to)(hi:PD X Z i ti)(he:PD X Z e te)
  (hs:swapsWithSole [.Subscript o i p2] e pos.line X.env=pure false:=by rfl)(hw:swappedStores [.Subscript o i p2] e X.env=pure none:=by rfl)(h1:(assignEach [.Subscript o i p2] X.env).map (·.2)=[assign (.Subscript o i p2) X.env]:=by rfl)
  (ha:∀v,assign (.Subscript o i p2) X.env v=(do let ov ← holding [v] (eval o X.env); let iv ← holding [v,ov] (eval i X.env); standAt p2; holding [v,ov,iv] (setItem ov iv v); release [v,ov,iv] []):=by intro _; rfl):PDS X Z (.Assign [.Subscript o i p2] e pos) (zib to ti te):=
 zbM (zvu he (zvX ho hi zrZ ha) hs hw h1) λF σ H ⟨r,dl,S,E,rs,rel,h,ret⟩=>by
  unfold zib at h
  refine⟨r,dl,S,_,rs,rel,h,λv H1 r1 dv S1 e1 rel1 p1 q1=>⟨r1,dl,S1,_,rs.ext e1,rel1,q1,λx H2 r2 d S2 e2 rel2 pd q2=>⟨r2,dl,S2,_,rs.ext (e1.trans e2),rel2,q2,λy H3 r3 di S3 e3 rel3 pi q3=>?_⟩⟩⟩
  cases pd with
  | @ref n a hn=>
   cases pi with
   | int k=>
    dsimp only at q3
    split at q3
    ·rename_i xs eS
     split at q3
     ·rename_i j ej
      have hn3:=e3.adr _ _ hn
      obtain⟨ys,eH,pr⟩:=rel3.b.ob n a _ hn3 eS
      obtain⟨rel4,x4⟩:=rel3.set hn3 eS (pr.put (p1.ext (e2.trans e3)) j)
      exact⟨a,ys,k,j,rfl,rfl,eH,by rw[← pr.1]; exact ej,ret.nx _ _ r3 _ _ (e1.trans (e2.trans (e3.trans x4))) (rs.ext (e1.trans (e2.trans (e3.trans x4)))) rel4 q3⟩
     ·exact q3.elim
    ·exact q3.elim
   | _=>exact(show False from q3).elim
  | _=>exact(show False from q3).elim
def zcJ (f:D→D→Option Bool):List D→D→Option (Option Nat)
 | [],_=>some none
 | y::ys,x=>match f y x,zcJ f ys x with
  | some true,some _=>some (some 0)
  | some false,some o=>some (o.map (·+1))
  | _,_=>none
theorem zmX {f:D→D→Option Bool}{x:D}:∀ {ys:List D} {o:Option Nat},zcJ f ys x=some o→(∀y∈ys,∃c,f y x=some c)∧∀j,o=some j→(∃y,ys[j]?=some y∧f y x=some true)∧∀m y,m<j→ys[m]?=some y→f y x=some false
 | [],o,e=>by
  have h:=Option.some.inj e
  subst h
  exact⟨(λy hy=>by cases hy),λj z=>by cases z⟩
 | y::ys,o,e=>by
  unfold zcJ at e
  split at e
  ·rename_i o1 e1 e2
   have h:=Option.some.inj e
   subst h
   obtain⟨h1,_⟩:=zmX e2
   refine⟨λz hz=>?_,λj hj=>?_⟩
   ·rcases Vai.mp hz with rfl | hz
    ·exact⟨true,e1⟩
    ·exact h1 z hz
   ·cases hj
    exact⟨⟨y,rfl,e1⟩,λm z hm=>by omega⟩
  ·rename_i o1 e1 e2
   have h:=Option.some.inj e
   subst h
   obtain⟨h1,h2⟩:=zmX e2
   refine⟨λz hz=>?_,λj hj=>?_⟩
   ·rcases Vai.mp hz with rfl | hz
    ·exact⟨false,e1⟩
    ·exact h1 z hz
   ·obtain⟨k,rfl,rfl⟩:=Vay.mp hj
    obtain⟨⟨z,hz1,hz2⟩,h3⟩:=h2 k rfl
    refine⟨⟨z,by simpa using hz1,hz2⟩,λm w hm hw=>?_⟩
    cases m with
    | zero=>
     have:w=y:=by simpa using hw.symm
     rw[this]; exact e1
    | succ m=>exact h3 m w (by omega) (by simpa using hw)
  ·cases e
theorem zww {k:Nat}{pins:List (Addr×Obj)}{σ:St}{H:Hp}{s:Shared}{r:List Addr}{A:Around}{ds:List D}{vs:List V}{us:List Value}{dx:D}{x:V}{u:Value}{j:Nat}(I:Inv X pins σ H s)(hu:A.units+k<cLine)
  (p:Rps r H ds vs)(rv:zax vs us)(px:Rp r H dx x)(rx:zat x u)(e:zcJ (eqN k) ds dx=some (some j)):
  ∃g:Value→Bool,(∀y,y∈us.toArray→SeqAt.EqAt A s y u (g y))∧∃hj:j<us.toArray.size,g us.toArray[j]=true∧∀m (hm:m<us.toArray.size),m<j→g us.toArray[m]=false:=by
 obtain⟨h1,h2⟩:=zmX e
 obtain⟨⟨yj,hyj,htj⟩,hno⟩:=h2 j rfl
 classical
 have at_:∀(m:Nat) (hm:m<us.length),∃d v,ds[m]?=some d∧Rp r H d v∧zat v us[m]:=λm hm=>by
  have hv:m<vs.length:=by rw[rv.length]; exact hm
  have gv:vs[m]?=some vs[m]:=by simp[hv]
  obtain⟨w,gw,rw'⟩:=rv.get gv
  obtain⟨d,gd,pd⟩:=p.get' gv
  have ew:w=us[m]:=by
   rw[Van hm] at gw
   exact(Option.some.inj gw).symm
  subst ew
  exact⟨d,_,gd,pd,rw'⟩
 have val:∀(m:Nat) (hm:m<us.length) (d:D) (c:Bool),ds[m]?=some d→eqN k d dx=some c→decide (∃d v,d∈ds∧Rp r H d v∧zat v us[m]∧eqN k d dx=some true)=c:=λm hm d c hd hc=>by
  obtain⟨d',v',gd,pd,rd⟩:=at_ m hm
  rw[hd] at gd; cases gd
  cases c with
  | true=>exact decide_eq_true ⟨d,v',Vaz hd,pd,rd,hc⟩
  | false=>
   refine decide_eq_false λ⟨d2,v2,_,pd2,rd2,hc2⟩=>?_
   have ev:=zoW rd rd2
   subst ev
   exact absurd (zmD k d d2 dx v' false true pd pd2 hc hc2) (by decide)
 refine⟨λy=>decide (∃d v,d∈ds∧Rp r H d v∧zat v y∧eqN k d dx=some true),λy hy=>?_,?_⟩
 ·have hy':y∈us:=by simpa using hy
  obtain⟨m,hm,rfl⟩:=VaI.mp hy'
  obtain⟨d,v,gd,pd,rd⟩:=at_ m hm
  obtain⟨c,hc⟩:=h1 d (Vaz gd)
  show SeqAt.EqAt A s us[m] u (decide _)
  rw[val m hm d c gd hc]
  exact zdG k X pins σ H s r A d dx v x _ u c I hu pd px rd rx hc
 ·have hjl:j<us.length:=by
   have:=(Vab.mp hyj).1
   rw[p.1,rv.length] at this
   exact this
  refine⟨by simpa using hjl,?_,λm hm hmj=>?_⟩
  ·have z:=val j hjl yj true hyj htj
   simpa using z
  ·have hm':m<us.length:=by simpa using hm
   obtain⟨d,v,gd,pd,rd⟩:=at_ m hm'
   have z:=val m hm' d false gd (hno m d hmj gd)
   simpa using z
def zkG (k:Nat)(d y:D)(S:Sto)(Q:DK):Prop:=match d with
 | .ref n=>match lAt S n with
  | some o=>match zcJ (eqN k) (zas o) y with
   | some (some j)=>Q (.int (j:Int)) S
   | _=>False
  | none=>False
 | _=>False
@[irreducible] def zkC (k:Nat)(to:TDE)(t:TDA):TDE:=λdl S Q=>to dl S λd S1=>(match d with
 | .ref n=>(lAt S1 n).isSome=true∧t dl S1 λds S2=>match ds with
  | [y]=>zkG k d y S2 Q
  | _=>False
 | _=>False)
theorem zsO {k j:Nat}(hr:zaF j X.A)(hk:k≤3):MtR X "list.index" (λx xs H Qv=>∃(r:List Addr) (S:Sto) (d y:D) (v:V) (Q:DK),Rel X.K Z r S H∧Rp r H d x∧xs=[v]∧Rp r H y v∧zkG k d y S Q∧Ret X.K Z r H Q Qv):=by
 intro pins s σ H x xs v us Qv I rx rv h
 obtain⟨r,S,d,y,v1,Q,rel,pd,rfl,py,q,ret⟩:=h
 obtain⟨u,rfl,ru⟩:=zeB rv
 unfold zkG at q
 split at q
 ·rename_i n
  split at q
  ·rename_i o eo
   obtain⟨eo,eL⟩:=zbu eo
   split at q
   ·rename_i i ei
    cases pd with
    | @ref n a hn=>
     cases rx
     obtain⟨a',ha,ob⟩:=rel.at eo
     rw[hn] at ha; cases ha
     obtain⟨ys,sq,pr⟩:=ob.list eL
     obtain⟨its,ri,pl,hz⟩:=I.list sq
     have hun:=hr.un
     obtain⟨g,g1,hj,g2,g3⟩:=zww (A:=X.A.in1) I (by show X.A.units+1+k<_; omega) pr ri py ru ei
     obtain⟨ob2,m,e,c,hd,hdat⟩:=pl
     obtain⟨oc,od,odat,osl⟩:=ob2
     have c':oc=.type "list":=c
     have hdat':odat=.seq its.toArray m:=hdat
     subst c' hdat'
     refine call_meets PySem.F.slot_list_index ⟨_,e,rfl⟩ PySem.F.entry_list_index (PySem.F.args_list_index_2 _ _) (PySem.SeqAt.list_indexAt a its.toArray m od osl u g i hj (by
      have:its.toArray.size≤sizeLine:=by rw[Vam,← ri.length]; exact hz
      have h2:=zgS
      omega) g2 λm hm h2=>g3 m hm h2) ⟨e,g1,?_⟩
     exact⟨.int (i:Int),H,I.tok _,⟨_,rfl⟩,ret _ H r (.int _) S Ext.refl rel (.int _) q⟩
   ·exact q.elim
  ·exact q.elim
 ·exact q.elim
theorem zuN {k j:Nat}{o e:Expr}{to:TDE}{t:TDA}{apos cpos:Pos}(hr:zaF j X.A)(hk:k≤3)(ho:PD X Z o to)(ha:PDA X Z [e] t)(hbase:attributeBase o "index" X.env (eval o X.env)=eval o X.env:=by rfl)
  (hfew:((backTo cpos (starEach [e] X.env)).all (λx=>!x.1)&&(backToKw cpos (keywordEach [] X.env)).all (λx=>x.1.isSome)
  &&decide ([e].length+([]:List Keyword).length+(if ([]:List Keyword).isEmpty then 0 else 1)<30))=true:=by rfl)
  (hline:(apos.endLine==cpos.line)=true:=by rfl)(hs:starEach [e] X.env=(false,eval e X.env)::starEach [] X.env:=by rfl)(hplain:(backTo cpos (starEach [] X.env)).any (·.1)=false:=by rfl):
  PD X Z (.Call (.Attribute o "index" apos) [e] [] cpos) (zkC k to t):=
 za6 (zoI (T:="list") PySem.F.plainAttrs_list PySem.F.slot_list_index PySem.F.type_list_index (zsO (Z:=Z) hr hk) ho ha hbase hfew hline hs hplain) λσ H Qv ⟨r,dl,S,Q,rs,rel,h,ret⟩=>by
  unfold zkC at h
  refine⟨r,dl,S,_,rs,rel,h,λv H1 r1 d S1 e1 rel1 p1 q1=>?_⟩
  cases p1 with
  | @ref n a hn=>
   obtain⟨hsome,q1⟩:=q1
   obtain⟨o1,eo⟩:=Option.isSome_iff_exists.mp hsome
   obtain⟨eo,eL⟩:=zbu eo
   obtain⟨a',ha',ob⟩:=rel1.at eo
   rw[hn] at ha'; cases ha'
   obtain⟨xs,sq,_⟩:=ob.list eL
   refine⟨.inl ⟨rfl,xs,sq⟩,r1,dl,S1,_,rs.ext e1,rel1,q1,λvs H2 r2 ds S2 e2 rel2 p2 q2=>?_⟩
   split at q2
   ·rename_i y
    obtain⟨v2,vs',rfl,p3,p4⟩:=p2.uncons
    have z:=p4.unnil
    subst z
    exact⟨r2,S2,.ref n,y,v2,Q,rel2,.ref (e2.adr _ _ hn),rfl,p3,q2,ret.ext (e1.trans e2)⟩
   ·exact q2.elim
  | _=>exact(show False from q1).elim
end
section
variable {X:Cx}{pins:List (Addr×Obj)}{σ:St}{H:Hp}{s:Shared}{h':Heap}
theorem zrb {t':Nat}{ch:List Addr}{T:Addr}{xs:List V}{vals:Array Value}(I:Inv X pins σ H s)(k:∀b o,b ∉ ch→s.heap.get? b=some o→h'.get? b=some o)(hch:∀b∈ch,zbX X pins H b)
  (hT:s.heap.objs.size≤T)(ht:h'.IsTuple T vals)(rv:zax xs vals.toList)(hl:xs.length≤sizeLine):Inv X pins σ (upd H T (.tup xs)) { s with heap:=h',toks:=t' }:=by
 have hTn:H T=none:=I.hok.fresh hT
 have old:∀ {b:Addr} {o:Obj},s.heap.get? b=some o→b≠T:=λ{b o} e z=>absurd (Var (Heap.lt_size e) hT) (by rw[z]; exact VaJ _)
 have trk:∀b u,H b=some u→b ∉ ch:=λb u e z=>by
  rw[(hch b z).1] at e; cases e
 have up:∀b u,H b=some u→(upd H T (.tup xs)) b=some u:=zdk hTn
 refine I.step (g':=s.gens) (d':=s.drawn) (ch:=ch) (λb hb=>?_) (λb o _ _ hc e _=>k b o hc e) (λb o _ _ hc e _=>⟨o.slots,k b o hc e⟩) (λb o _ e n=>by rw[za2 (old e)]; exact n)
  (λb o hc e=>⟨o,k b o hc e⟩) (λb ys e=>up _ _ e) (λb o u e=>up _ _ e) (λb ps e=>⟨#[],by rw[up _ _ e]; simp⟩) (λm hm=>?_) (λb u e=>?_) I.bare
 ·obtain⟨_,f1,_,f3,f4,f5⟩:=hch b hb
  exact⟨f3,f1,f4,f5⟩
 ·obtain⟨o,es,ep,ho,r⟩:=hm
  exact⟨o,es,ep,k _ o (λz=>(hch _ z).2.1 rfl) ho,r⟩
 ·by_cases hb:b=T
  ·subst hb
   rw[zcv] at e
   cases e
   exact⟨hl,vals.toList,rv,by rw[Array.toArray_toList]; exact ht⟩
  ·rw[za2 hb] at e
   refine(I.hok b u e).stay (λc v hc q=>k c v ?_ q) (λd z=>up _ _ z) λd ys z=>up _ _ z
   rcases hc with z | z
   ·rw[z]; exact trk b u e
   ·exact trk c _ z
theorem zop {t':Nat}{ch:List Addr}(I:Inv X pins σ H s)(k:∀b o,b ∉ ch→s.heap.get? b=some o→h'.get? b=some o)(hch:∀b∈ch,zbX X pins H b):Inv X pins σ H { s with heap:=h',toks:=t' }:=by
 have trk:∀b u,H b=some u→b ∉ ch:=λb u e z=>by
  rw[(hch b z).1] at e; cases e
 refine I.step (g':=s.gens) (d':=s.drawn) (ch:=ch) (λb hb=>?_) (λb o _ _ hc e _=>k b o hc e) (λb o _ _ hc e _=>⟨o.slots,k b o hc e⟩) (λb o _ e n=>n)
  (λb o hc e=>⟨o,k b o hc e⟩) (λb ys e=>e) (λb o u e=>e) (λb ps e=>⟨#[],by rw[e]; simp⟩) (λm hm=>?_) (λb u e=>?_) I.bare
 ·obtain⟨_,f1,_,f3,f4,f5⟩:=hch b hb
  exact⟨f3,f1,f4,f5⟩
 ·obtain⟨o,es,ep,ho,r⟩:=hm
  exact⟨o,es,ep,k _ o (λz=>(hch _ z).2.1 rfl) ho,r⟩
 ·refine(I.hok b u e).stay (λc v hc q=>k c v ?_ q) (λd z=>z) λd ys z=>z
  rcases hc with z | z
  ·rw[z]; exact trk b u e
  ·exact trk c _ z
end
def Ite (K:PySem.W.Frag)(a:Addr):It:=
 ⟨λi H=>∃xs x,SqL K H a xs∧xs[i]?=some x,λi H x H'=>∃T v,x=.ref T∧H T=none∧H'=upd H T (.tup [.int (i:Int),v])∧∀xs,SqL K H a xs→xs[i]?=some v,λi H=>∃xs,SqL K H a xs∧xs.length=i⟩
theorem zwp {P:Program}{w:World}{K:PySem.W.Frag}{elts:List Expr}{kk:Nat}{tp:Pos}(a e it:Addr)(hei:e≠it)(hae:a≠e)(hai:a≠it):
  zgk P w K (.Tuple elts kk tp) (Ite K a) [e,it] e (λi h=>(∃old,IsEnum h e it i old)∧h.IsListIter it a i) where
 mem:=by simp
 obj:=λi h st b hb=>by
  obtain⟨⟨old,he⟩,o,e1,c,d⟩:=st
  have hb':b=e∨b=it:=by simpa using hb
  rcases hb' with rfl | rfl
  ·exact⟨_,he,λv z=>by cases z⟩
  ·exact⟨o,e1,λv z=>by rw[d] at z; cases z⟩
 keep:=λi h h' st k=>by
  obtain⟨⟨old,he⟩,hit⟩:=st
  exact⟨⟨old,k e (by simp) _ he⟩,hit.at λo x=>k it (by simp) o x⟩
 item:=by
  intro X hP hw hK hc i pins s σ H E I hf st hg
  subst hP hw hK
  obtain⟨xs,x,hq,hx⟩:=hg
  obtain⟨its,rv,p,hz⟩:=I.list hq
  obtain⟨u,hu,ru⟩:=rv.get hx
  have hi:i<its.toArray.size:=by
   have:=(Vab.mp hu).1
   simpa using this
  have W:=WalksT.enumerate (prog:=X.prog) (w:=X.w) (A:=X.A) (I.ok.hd hc) e it a hei hae hai its.toArray
  refine W.item i s _ _ hi ⟨st.1,st.2,p.isList⟩ λT vals h' tk hP hT ht mid k1=>?_
  obtain⟨t,y,hy,rfl⟩:=hP
  have ey:y=u:=by
   have z:its[i]?=some y:=by simpa using hy
   rw[hu] at z; exact(Option.some.inj z).symm
  subst ey
  have hw:∀b∈[e,it],zbX X pins H b:=hf
  have I1:Inv X pins σ (upd H T (.tup [.int (i:Int),x])) { s with heap:=h',toks:=tk }:=zrb I k1 hw hT ht (.cons ⟨t,rfl⟩ (.cons ru .nil)) (show 2≤sizeLine from zjd (by decide))
  have neT:∀b∈[e,it],b≠T:=λb hb z=>W.apart i T h' mid (z ▸ hb)
  have hf1:∀b∈[e,it],zbX X pins (upd H T (.tup [.int (i:Int),x])) b:=λb hb=>⟨by rw[za2 (neT b hb)]; exact(hf b hb).1,(hf b hb).2⟩
  refine⟨.ref T,rfl,W.go elts kk tp i T _ _ _ mid λh2 st2 k2=>?_⟩
  have I2:Inv X pins σ (upd H T (.tup [.int (i:Int),x])) { s with heap:=h2,toks:=tk }:=zop (s:={ s with heap:=h',toks:=tk }) (t':=tk) I1 k2 hf1
  exact⟨.ref T,_,I2,rfl,⟨T,x,rfl,I.hok.fresh hT,rfl,λys hy=>by rw[I.list_inj hy hq]; exact hx⟩,⟨st2.1,st2.2.1⟩,λb hb=>(hf1 b hb).1⟩
 done:=by
  intro X hP hw hK hc i pins s σ H E I hf st hg
  subst hP hw hK
  obtain⟨xs,hq,hx⟩:=hg
  obtain⟨its,rv,p,hz⟩:=I.list hq
  have W:=WalksT.enumerate (prog:=X.prog) (w:=X.w) (A:=X.A) (I.ok.hd hc) e it a hei hae hai its.toArray
  have hi:i=its.toArray.size:=by rw[Vam,← rv.length]; exact hx.symm
  subst hi
  exact W.done s _ _ ⟨st.1,st.2,p.isList⟩ λh' tk k1=>⟨rfl,zop (t':=tk) I k1 hf⟩
 self:=λA i s Q E st h=>by
  obtain⟨⟨old,he⟩,_⟩:=st
  exact wpAny_pyIter_enum he h
section
variable {X:Cx}
def iEnum (K:PySem.W.Frag)(ta:TA):TI:=λσ H R=>ta σ H λvs H1=>∃a,vs=[.ref a]∧(∃xs,SqL K H1 a xs)∧R (Ite K a) H1
theorem zqK {a:Expr}{ta:TA}{p pos tp:Pos}{elts:List Expr}{kk:Nat}(hg:Gl X "enumerate")(hm:X.mg "enumerate"=none)(hv:bootBuiltins "enumerate"=some (.type "enumerate"))(ha:PA X [a] ta)(hs:starEach [a] X.env=[(false,eval a X.env)]:=by rfl):
  PI X (.Tuple elts kk tp) (.Call (.Name "enumerate" p) [a] [] pos) (iEnum X.K ta):=by
 intro pins s σ H R I h
 refine Call_ (zen I hg hm hv (PyProof.Rows.callWith_type1 (thn (ha pos pins s σ H _ I h) λus s1 ⟨vs,H1,I1,r1,q1⟩=>?_) hs rfl))
 obtain⟨l,e,⟨xs,hq⟩,q⟩:=q1
 subst e
 cases r1 with
 | cons r rr=>
  cases rr
  cases r
  obtain⟨its,rv,pl,hz⟩:=I1.list hq
  have hll:l<s1.heap.objs.size:=by
   obtain⟨o,e,_⟩:=pl.isList
   exact Heap.lt_size e
  refine call_enumerate_list pl.isList λh' he hit hsz hk=>?_
  have I2:Inv X pins σ H1 { s1 with heap:=h' }:=I1.kept (t':=s1.toks) hk
  refine wpAny_pyIter_enum he ⟨s1.heap.objs.size+1,[s1.heap.objs.size+1,s1.heap.objs.size],_,_,H1,rfl,I2,zwp l _ _ (Nat.succ_ne_self _) (Vas (Nat.lt_succ_of_lt hll)) (Vas hll),⟨⟨_,he⟩,hit⟩,λb hb=>?_,q⟩
  have hb':b=s1.heap.objs.size+1∨b=s1.heap.objs.size:=by simpa using hb
  rcases hb' with rfl | rfl
  ·exact I1.fpOk (Nat.le_succ _) (I1.hok.fresh (Nat.le_succ _))
  ·exact I1.fpOk (Vaa _) (I1.hok.fresh (Vaa _))
end
section
variable {X:Cx}
end
section
variable {X:Cx}{Z:Zx}{pos:Pos}
@[irreducible] def zi3 (is:List Nat)(ta:TDA)(tb:TDS):TDS:=λE dl S=>ta dl S λds S1=>match ds with
 | [.ref n]=>(lAt S1 n).isSome=true∧∃W:Nat→Nat→Ev→Sto→Prop,(∃m,W 0 m dl S1)∧∀k m dl S,W k m dl S→match lAt S n with
  | some o=>match (zas o)[k]? with
   | some x=>tb { nx:=λdl' S'=>∃m',m'<m∧W (k+1) m' dl' S',rt:=E.rt,bk:=E.nx,ct:=λdl' S'=>∃m',m'<m∧W (k+1) m' dl' S' } (zfT is [.int (k:Int),x] dl) S
   | none=>k=(zas o).length∧E.nx dl S
  | none=>False
 | _=>False
theorem zob {r r':List Addr}{S':Sto}{H':Hp}{n:Nat}{a:Addr}{o:Ob}(hn:r'[n]?=some a)(rel:zaW X.K r' S' H')(eo:lAt S' n=some o):∃xs,SqL X.K H' a xs∧Rps r' H' (zas o) xs:=by
 obtain⟨eo,eL⟩:=zbu eo
 obtain⟨a',ha,ob⟩:=rel.at eo
 rw[hn] at ha; cases ha
 exact ob.list eL
theorem ztd {iter:Expr}{body:List Stmt}{es:List Expr}{kk:Nat}{tp p pos2:Pos}{is:List Nat}{ta:TDA}{tb:TDS}(hp:PassesOwn (model X.prog X.w) X.A X.env X.xe)(hc:X.calm=true)(hN:X.N.Nodup)(hn:Nms X es is)(h2:is.length=2)
  (hg:Gl X "enumerate")(hm:X.mg "enumerate"=none)(hv:bootBuiltins "enumerate"=some (.type "enumerate"))(ha:PDA X Z [iter] ta)(hb:zb3 X Z body tb)
  (hlen:(assignEach es X.env).length=is.length:=by rfl)(hst:(assignEach es X.env).findIdx? (·.1)=none:=by rfl)(hse:starEach [iter] X.env=[(false,eval iter X.env)]:=by rfl)
  (hs:∀y,foldedSetIterable (.Call (.Name "enumerate" p) [iter] [] pos2) X.env y=pure y:=by intro _; rfl):PDS X Z (.For (.Tuple es kk tp) (.Call (.Name "enumerate" p) [iter] [] pos2) body [] pos) (zi3 is ta tb):=
 zbM (zlI hp hc (zqK hg hm hv ha hse) (zsQ hc (zp1 hN hn) hlen hst) hb hs) λF σ H ⟨r,dl,S,E,rs,rel,h,ret⟩=>by
  unfold zi3 at h
  refine⟨r,dl,S,_,rs,rel,h,λvs H1 r1 ds S1 x1 rel1 p1 q1=>?_⟩
  split at q1
  ·rename_i n
   obtain⟨v,vs',rfl,p2,p3⟩:=p1.uncons
   have z:=p3.unnil
   subst z
   cases p2 with
   | @ref n a hr=>
    obtain⟨hsome,W,⟨m0,w0⟩,turn⟩:=q1
    obtain⟨o1,eo1⟩:=Option.isSome_iff_exists.mp hsome
    obtain⟨xs1,sq1,_⟩:=zob (r:=r1) hr rel1.b eo1
    refine⟨a,rfl,⟨xs1,sq1⟩,λk m σ' H'=>∃r' dl' S',Ext r1 r' H1 H'∧Rs r' H' dl' σ'∧Rel X.K Z r' S' H'∧W k m dl' S',⟨m0,r1,dl,S1,Ext.refl,rs.ext x1,rel1,w0⟩,?_⟩
    rintro k m σ2 H2 ⟨r2,dl2,S2,x2,rs2,rel2,w2⟩
    have q:=turn k m dl2 S2 w2
    split at q
    ·rename_i o eo
     obtain⟨xs,sq,pr⟩:=zob (r:=r2) (x2.adr _ _ hr) rel2.b eo
     split at q
     ·rename_i y ey
      obtain⟨v,hvv,pv⟩:=pr.get ey
      refine .inr ⟨⟨xs,v,sq,hvv⟩,λσ' H'=>∃m',m'<m∧∃r' dl' S',Ext r1 r' H1 H'∧Rs r' H' dl' σ'∧Rel X.K Z r' S' H'∧W (k+1) m' dl' S',λ_ _ z=>z,λv' H' y'=>?_⟩
      obtain⟨T,w,rfl,hT,rfl,hw⟩:=y'
      have ew:w=v:=by
       have z:=hw xs sq
       rw[hvv] at z; exact(Option.some.inj z).symm
      subst ew
      have x3:Ext r2 r2 H2 (upd H2 T (.tup [.int (k:Int),w])):=zqV hT
      have pp:Rps r2 (upd H2 T (.tup [.int (k:Int),w])) [.int (k:Int),y] [.int (k:Int),w]:=Rps.cons (.int _) (Rps.cons (pv.ext x3) Rps.nil)
      have rel3:=rel2.same (zdk (o:=.tup [.int (k:Int),w]) hT)
      have go:∀σ' H' r' dl' S',Ext r2 r' (upd H2 T (.tup [.int (k:Int),w])) H'→Rs r' H' dl' σ'→Rel X.K Z r' S' H'→(∃m',m'<m∧W (k+1) m' dl' S')→∃m',m'<m∧∃r' dl' S',Ext r1 r' H1 H'∧Rs r' H' dl' σ'∧Rel X.K Z r' S' H'∧W (k+1) m' dl' S':=
       λσ' H' r' dl' S' x rs' rel' ⟨m',hm,w'⟩=>⟨m',hm,r',dl',S',x2.trans (x3.trans x),rs',rel',w'⟩
      refine⟨T,[.int (k:Int),w],rfl,SqT.of zcv,by rw[h2]; rfl,by rw[h2]; rfl,r2,_,S2,_,zpc (rs2.ext x3) pp,rel3,q,⟨go,λσ' H' r' dl' S' x rs' rel' z=>ret.nx σ' H' r' dl' S' (x1.trans (x2.trans (x3.trans x))) rs' rel' z,go,ret.rt.ext (x1.trans (x2.trans x3))⟩⟩
     ·obtain⟨hk,q⟩:=q
      exact .inl ⟨⟨xs,sq,by rw[← pr.1]; exact hk.symm⟩,ret.nx σ2 H2 r2 dl2 S2 (x1.trans x2) rs2 rel2 q⟩
    ·exact q.elim
  ·exact q1.elim
end
section
variable {X:Cx}{Z:Zx}{pos:Pos}
@[irreducible] def zlY (T:String)(te:TDE):TDE:=λdl S Q=>te dl S λd S1=>match d with
 | .ref n=>match S1[n]? with
  | some (.lst _)=>Q (.bl (zcG "list" T)) S1
  | _=>False
 | _=>False
theorem zuB {T:String}{e:Expr}{te:TDE}{y:Str}{p p2:Pos}(KT:PySem.W.kitOne X.K (.type "list") (.type T)=some (zcG "list" T))(hg:Gl X "isinstance")(hm:X.mg "isinstance"=none)(hg2:Gl X y)(hm2:X.mg y=none)(hv2:bootBuiltins y=some (.type T))(ha:PD X Z e te)
  (hv:bootBuiltins "isinstance"=some (.builtin "isinstance"):=by exact PyProof.Rows.Boot.«isinstance»)
  (hn2:y≠"__name__":=by decide)(hd2:(y==("__debug__":Str))=false:=by decide)(he2:starEach [e,.Name y p2] X.env=(false,eval e X.env)::starEach [.Name y p2] X.env:=by rfl)
  (he3:starEach [.Name y p2] X.env=(false,eval (.Name y p2) X.env)::starEach [] X.env:=by rfl)(hpl:(backTo pos (starEach [.Name y p2] X.env)).any (·.1)=false:=by rfl):
  PD X Z (.Call (.Name "isinstance" p) [e,.Name y p2] [] pos) (zlY T te):=
 za6 (znP zoz hg hm hv (zfd ha (zfd (zo2 (v:=.ty T) hg2 hm2 hv2 rfl hn2 hd2) ziW he3) he2) (by decide) (by decide) he2 hpl) λσ H Qv ⟨r,dl,S,Q,rs,rel,h,ret⟩=>
  by unfold zlY at h; exact⟨r,dl,S,_,rs,rel,h,λv H1 r1 d S1 e1 rel1 p1 h1=>by
   cases p1 with
   | @ref n a hr=>
    dsimp only at h1
    split at h1
    ·rename_i xs eS
     obtain⟨ys,eH,_⟩:=rel1.b.ob n a _ hr eS
     exact⟨_,T,_,_,rfl,.lst eH,KT,ret _ _ _ _ _ e1 rel1 (.bl _) h1⟩
    ·exact h1.elim
   | _=>exact(show False from h1).elim⟩
end
theorem zvw (K:PySem.W.Frag):PySem.W.kitOne K (.type "list") (.type "list")=some (zcG "list" "list"):=by kernel_rfl
structure Dm (K:PySem.W.Frag)(C:Addr)(m qual:Str)(st:Stmt)(ps:List Str) where
 f:Addr
 fd:FuncData
 F:Fun K m qual st f fd
 m:zey K C m f
 b:zbp K fd ps []
structure Fm (P:Program)(w:World)(K:PySem.W.Frag)(mg:Str→Option Value)(base:Heap)(k:Nat)(C:Addr)(x:Str)(ps:List Str)(sd:Sd) where
 f:Addr
 fd:FuncData
 ok:zaZ P w K mg base (CXE P w) k f fd ps (upF K sd)
 m:zey K C x f
 b:zbp K fd ps []
def Dm.mk' {P:Program}{w:World}{K:PySem.W.Frag}{mg:Str→Option Value}{base:Heap}{k:Nat}{C:Addr}{x qual:Str}{st:Stmt}{ps:List Str}{sd:Sd}(d:Dm K C x qual st ps)(h:zaZ P w K mg base (CXE P w) k d.f d.fd ps (upF K sd)):Fm P w K mg base k C x ps sd:=
 ⟨d.f,d.fd,h,d.m,d.b⟩
theorem zd2 {P:Program}{w:World}{X:Cx}:zll (CXE P w) X (λ_ _ _=>False):=λ_ _ _ _ _ _ _ h=>by
 obtain⟨_,_,_,_,_,_,_,_,_,_,_,_,q⟩:=h
 exact q.elim
section
variable {X:Cx}{Z:Zx}
theorem zpg {k:Nat}(hr:zaF k X.A):OpR X (compareOp .NotIn) (upO X.K Z (zbK (wIn 1 true))):=by rw[zb4]; exact zvW 1 (by have:=hr.un; omega)
theorem zvJ {k:Nat}(hr:zaF k X.A):OpR X (compareOp .Eq) (upO X.K Z (zbK (zc3 1))):=by rw[zb4]; exact zt5 1 hr (by have:=hr.un; omega)
end
section
variable {X:Cx}{Z:Zx}{pos:Pos}
theorem zrm {k n m:Nat}{a a':Addr}{o o':Ob}{b:Bool}{pins:List (Addr×Obj)}{σ:St}{H:Hp}{s:Shared}{r:List Addr}{S:Sto}(I:Inv X pins σ H s)(rel:Rel X.K Z r S H)(hn:r[n]?=some a)(hm:r[m]?=some a')(eo:lAt S n=some o)(eo':lAt S m=some o')
  (e:eqL (eqN k) (zas o) (zas o')=some b)(hu:X.A.units+1+k<cLine):SeqAt.RcNeAt X.A s (.ref a) (.ref a') (!b):=by
 obtain⟨eo,eL⟩:=zbu eo
 obtain⟨eo',eL'⟩:=zbu eo'
 obtain⟨z,hz,ob⟩:=rel.at eo
 rw[hn] at hz; cases hz
 obtain⟨z,hz,ob'⟩:=rel.at eo'
 rw[hm] at hz; cases hz
 obtain⟨xs,sq,pr⟩:=ob.list eL
 obtain⟨ys,sq',pr'⟩:=ob'.list eL'
 obtain⟨is,ri,pl,_⟩:=I.list sq
 obtain⟨js,rj,pl',_⟩:=I.list sq'
 obtain⟨g1,g2⟩:=zgK (A:=X.A.in1) (zdG k) I (by show X.A.units+1+k<_; omega) pr pr' ri rj e
 by_cases hs:is.toArray.size=js.toArray.size
 ·have q:=SeqAt.RcNeAt.lists (A:=X.A) pl.isList pl'.isList hs (by omega) g1
  have e2:(List.range is.toArray.size).all (zb7 (eqN k) (zas o) (zas o'))=b:=by
   rw[← g2,← hs,Nat.min_self]; simp
  rw[e2] at q
  exact q
 ·have q:=SeqAt.RcNeAt.lists_lengths (A:=X.A) pl.isList pl'.isList (by simpa using hs) (by omega)
  have e2:b=false:=by
   rw[← g2,show (is.toArray.size==js.toArray.size)=false by simpa using hs,Bool.and_false]
  rw[e2]
  exact q
theorem zsI (k:Nat){j:Nat}(hr:zaF j X.A)(hu:X.A.units+1+k<cLine):OpR X (compareOp .NotEq) (upO X.K Z (zdU k)):=by
 intro pins s σ H x y v u Qv I rx ry h
 obtain⟨r,S,dx,dy,Q,rel,px,py,q,ret⟩:=h
 have zaJ:∀ {dx dy:D} {x y:V},Rp r H dx x→Rp r H dy y→zat x v→zat y u→zdd k S dx dy=eqN (k+1) dx dy→zdU k dx dy S Q→wpAny (model X.prog X.w) X.A (compareOp .NotEq v u) (EP X pins σ Qv) X.xe s:=λpx py rx ry e q=>by
  refine zoC (Z:=Z) (zdG k) hu pins s σ H _ _ v u Qv I rx ry ⟨r,S,_,_,Q,rel,px,py,?_,ret⟩
  unfold zdU at q
  rw[e] at q
  exact q
 cases px with
 | @ref n a hn=>
  cases py with
  | @ref m a' hm=>
   cases rx
   cases ry
   unfold zdU zdd at q
   dsimp only at q
   split at q
   ·rename_i b e
    split at e
    ·rename_i o o' eo eo'
     exact zrm I rel hn hm eo eo' e hu X.prog X.w X.xe _ ⟨.bl (!b),H,I,rfl,ret _ _ _ _ _ Ext.refl rel (.bl (!b)) q⟩
    ·cases e
   ·exact q.elim
  | non=>exact zaJ (.ref hn) .non rx ry rfl q
  | bl i=>exact zaJ (.ref hn) (.bl i) rx ry rfl q
  | int i=>exact zaJ (.ref hn) (.int i) rx ry rfl q
  | str i=>exact zaJ (.ref hn) (.str i) rx ry rfl q
  | tup a b c=>exact zaJ (.ref hn) (.tup a b c) rx ry rfl q
  | exc a=>exact zaJ (.ref hn) (.exc a) rx ry rfl q
 | non=>exact zaJ .non py rx ry rfl q
 | bl i=>exact zaJ (.bl i) py rx ry rfl q
 | int i=>exact zaJ (.int i) py rx ry rfl q
 | str i=>exact zaJ (.str i) py rx ry rfl q
 | tup a b c=>exact zaJ (.tup a b c) py rx ry rfl q
 | exc a=>exact zaJ (.exc a) py rx ry rfl q
theorem zox {k:Nat}(hr:zaF k X.A):OpR X (compareOp .NotEq) (upO X.K Z (zbK (zdU 1))):=by rw[zb4]; exact zsI 1 hr (by have:=hr.un; omega)
theorem zou {k n m:Nat}{S:Sto}{Q:DK}{o o':Ob}{b:Bool}(h1:lAt S n=some o)(h2:lAt S m=some o')(e:eqL (eqN k) (zas o) (zas o')=some b)(hq:Q (.bl (!b)) S):zbK (zdU k) (.ref n) (.ref m) S Q:=by
 rw[zb4]
 unfold zdU
 simp only[zdd,h1,h2,e]
 exact hq
def zkh:W2:=λx y S Q=>match x,y with
 | .ref n,.ref m=>match S[n]?,S[m]? with
  | some (.lst xs),some (.lst ys)=>xs.length+ys.length≤1000∧Q (.ref S.length) (S++[.lst (xs++ys)])
  | _,_=>False
 | _,_=>False
theorem Rps.app {r:List Addr}{H:Hp}:∀ {ds es:List D} {xs ys:List V},Rps r H ds xs→Rps r H es ys→Rps r H (ds++es) (xs++ys)
 | [],es,xs,ys,p,q=>by
  have z:=p.unnil
  subst z
  exact q
 | d::ds,es,xs,ys,p,q=>by
  obtain⟨v,vs,rfl,p1,p2⟩:=p.uncons
  exact Rps.cons p1 (p2.app q)
theorem zto:OpR X (binaryOp .Add) (upO X.K Z (zbK zkh)):=by
 rw[zb4]
 exact zeC zsf λx y H Qv ⟨r,S,dx,dy,Q,rel,px,py,q,ret⟩=>by
  unfold zkh at q
  split at q
  ·rename_i n m
   split at q
   ·rename_i xs ys e1 e2
    obtain⟨hl,q⟩:=q
    cases px with
    | @ref _ a hn=>
     cases py with
     | @ref _ a' hm=>
      obtain⟨z,hz,ob⟩:=rel.at e1
      rw[hn] at hz; cases hz
      obtain⟨z,hz,ob'⟩:=rel.at e2
      rw[hm] at hz; cases hz
      obtain⟨us,h1,p1⟩:=ob
      obtain⟨vs,h2,p2⟩:=ob'
      refine⟨a,a',us,vs,rfl,rfl,h1,h2,?_,λp hp=>?_⟩
      ·rw[← p1.1,← p2.1]; exact zjd hl
      ·obtain⟨rel4,x⟩:=rel.push hp (p1.app p2)
       exact ret _ _ _ (.ref S.length) _ x rel4 (zeh rel.len) q
   ·exact q.elim
  ·exact q.elim
theorem zue {n m:Nat}{S:Sto}{Q:DK}{xs ys:List D}(h1:S[n]?=some (.lst xs))(h2:S[m]?=some (.lst ys))(hl:xs.length+ys.length≤1000)(hq:Q (.ref S.length) (S++[.lst (xs++ys)])):zbK zkh (.ref n) (.ref m) S Q:=by
 rw[zb4]
 unfold zkh
 simp only[h1,h2]
 exact⟨hl,hq⟩
def MT (X:Cx)(m:Str)(tbl:List (Addr×Sd)):Prop:=∀C sd,(C,sd)∈tbl→Cls X.K C∧∃(f:Addr) (fd:FuncData) (k:Nat) (ps:List Str),zey X.K C m f∧zaZ X.prog X.w X.K X.mg X.base (CXE X.prog X.w) k f fd ps (upF X.K sd)∧zaF k X.A∧zbp X.K fd ps []
theorem zog {m:Str}:MT X m []:=λ_ _ h=>by cases h
theorem zb2 {C:Addr}{m:Str}{k:Nat}{ps:List Str}{sd:Sd}{tbl:List (Addr×Sd)}(c:Cls X.K C)(G:Fm X.prog X.w X.K X.mg X.base k C m ps sd)(hr:zaF k X.A)(h:MT X m tbl):MT X m ((C,sd)::tbl):=λC' sd' hm=>by
 rcases Vai.mp hm with e | e
 ·cases e
  exact⟨c,G.f,G.fd,k,ps,G.m,G.ok,hr,G.b⟩
 ·exact h C' sd' e
theorem zsZ {m:Str}{W:St→XK}{o e:Expr}{es:List Expr}{ta:TE}{t:TA}{apos:Pos}{pl:Sem Bool}{tbl:List (Addr×Sd)}(he:PE X o ta)(M:MT X m tbl)(hx:zcH X W)(ha:PA X (e::es) t)(hst:starEach (e::es) X.env=(false,eval e X.env)::starEach es X.env)(hpl:(backTo pos (starEach es X.env)).any (·.1)=false)
  (ht:eval (.Call (.Attribute o m apos) (e::es) [] pos) X.env=(do
   let ov ← eval o X.env
   standAt apos.atName
   let (f,first) ← holding [ov] (getMethod ov m pl)
   callWith pos f first (backTo pos (starEach (e::es) X.env)) (backToKw pos (keywordEach [] X.env)))):
  PE X (.Call (.Attribute o m apos) (e::es) [] pos) (λσ H Q=>ta σ H λx H1=>∃a C dx fs sd,x=.ref a∧H1 a=some (.ins C dx fs)∧(C,sd)∈tbl∧fs.lookup m=none∧t σ H1 λvs H2=>upF X.K sd (x::vs) H2 Q (W σ)):=by
 intro pins s σ H Q I h
 refine PySem.W.methodCall_KW (pl:=pl) (thn (he pins s σ H _ I h) λu s1 ⟨x,H1,I1,rx,a,C,dx,fs,sd,ex,ea,hm',l,q⟩=>?_) ht
 subst ex
 obtain rfl:u=Value.ref a:=rx
 obtain⟨c,f,fd,k,ps,hm,F,hr,hb⟩:=M C sd hm'
 refine zow I1 ea c hm l ?_
 exact PySem.W.callWith_K (first:=[.ref a]) (h₀:=X.base) I.ok.mod.kin hm.kp (thn (ha pos pins s1 σ H1 _ I1 q) λus s2 ⟨vs,H2,I2,r,q2⟩=>⟨I2.kIn,zmY (us:=.ref a::us) (vs:=.ref a::vs) F hr hb hx I2 (.cons rfl r) q2⟩) hst hpl
@[irreducible] def zji (tbl:List (Addr×Sd))(m:Str)(ex:Ev→Addr→Sto→Prop)(to:TDE)(t:TDA):TDE:=λdl S Q=>to dl S λd S1=>∃n C fs sd,d=.ref n∧S1[n]?=some (.ins C fs)∧(C,sd)∈tbl∧fs.lookup m=none∧t dl S1 λds S2=>sd (d::ds) S2 Q (ex dl)
theorem zoy {m:Str}{o e:Expr}{es:List Expr}{to:TDE}{t:TDA}{apos:Pos}{pl:Sem Bool}{ex:Ev→Addr→Sto→Prop}{W:St→XK}{tbl:List (Addr×Sd)}(ho:PD X ⟨ex,W⟩ o to)(M:MT X m tbl)(hx:zcH X W)(ha:PDA X ⟨ex,W⟩ (e::es) t)
  (hst:starEach (e::es) X.env=(false,eval e X.env)::starEach es X.env:=by rfl)(hpl:(backTo pos (starEach es X.env)).any (·.1)=false:=by rfl)
  (ht:eval (.Call (.Attribute o m apos) (e::es) [] pos) X.env=(do
   let ov ← eval o X.env
   standAt apos.atName
   let (f,first) ← holding [ov] (getMethod ov m pl)
   callWith pos f first (backTo pos (starEach (e::es) X.env)) (backToKw pos (keywordEach [] X.env))):=by rfl):PD X ⟨ex,W⟩ (.Call (.Attribute o m apos) (e::es) [] pos) (zji tbl m ex to t):=
 za6 (zsZ ho M hx ha hst hpl ht) λσ H Qv ⟨r,dl,S,Q,rs,rel,h,ret⟩=>by
  unfold zji at h
  refine⟨r,dl,S,_,rs,rel,h,λv H1 r1 d S1 e1 rel1 p1 q1=>?_⟩
  obtain⟨n,C,fs,sd,rfl,eS,hm,hl,q1⟩:=q1
  obtain⟨a,dx,fs',rfl,hr1,eH,fr⟩:=zpu (C:=C) (n:=n) (fs:=fs) rel1.b p1 (by simp only[zco,eS,if_pos])
  exact⟨a,C,dx,fs',sd,rfl,eH,hm,fr.lookup.2 hl,r1,dl,S1,_,rs.ext e1,rel1,q1,λvs H2 r2 ds S2 e2 rel2 p2 q2=>zmf (Z:=⟨ex,W⟩) (rs.ext (e1.trans e2)) rel2 (Rps.cons (p1.ext e2) p2) q2 (ret.ext (e1.trans e2))⟩
theorem zn5 {tbl:List (Addr×Sd)}{C:Addr}{m:Str}{ex:Ev→Addr→Sto→Prop}{sd:Sd}{to:TDE}{t:TDA}{dl:Ev}{S S1:Sto}{Q:DK}{n:Nat}{fs:List (Str×D)}(hto:∀K:DK,K (.ref n) S1→to dl S K)(h:S1[n]?=some (.ins C fs))(hm:(C,sd)∈tbl)(hf:fs.lookup m=none)(hq:t dl S1 λds S2=>sd (.ref n::ds) S2 Q (ex dl)):zji tbl m ex to t dl S Q:=by
 unfold zji
 exact hto _ ⟨n,C,fs,sd,rfl,h,hm,hf,hq⟩
structure Kx (K:PySem.W.Frag)(C:Addr):Prop where
 cl:Cls K C
 ha:PySem.W.findIn K (.ref C) "__class__"=some (some (.builtin "object.__class__"))
 hn:PySem.W.specialIn K (.builtin "object.__class__") "__get__"=some (some (.builtin "getset_descriptor.__get__"))
 ht:PySem.W.takesIn K (.builtin "object.__class__")=some true
 hm:PySem.W.mroIn K C (.type "object")=some true
def KT (K:PySem.W.Frag)(cv:Value)(ans:List (Addr×Bool)):Prop:=∀C b,(C,b)∈ans→PySem.W.kitOne K (.ref C) cv=some b∧Kx K C
end
section
variable {X:Cx}{Z:Zx}
end
section
variable {n:Nat}{I:Addr}{fp wr:List Addr}{P:Nat→Value→Prop}{St:Nat→Shared→Prop}{prog:Program}{w:World}{A:Around}{s:Shared}{E:Value→Shared→Prop}{G:Array GenState→Array GenState→Prop}
end
section
variable {X:Cx}{Z:Zx}
end
structure CompScG (sc around:Scope)(own caps:List Str):Prop where
 kind:sc.kind=.function
 nocell:∀y∈sc.names,y.2≠.cell
 own:∀y∈sc.names,y.2=.local→sc.names.lookup y.1=some .local
 cap:∀y∈caps,sc.names.lookup y=some .free
 out:∀y∈sc.names,y.2=.free→around.names.lookup y.1=some .cell
section
variable {X:Cx}{pins:List (Addr×Obj)}{σ:St}{H:Hp}{s:Shared}
end
section
variable {X:Cx}{elt iter:Expr}{elts:List Expr}{kk:Nat}{tp:Pos}{pos:Pos}{sc:Scope}{own N:List Str}{caps:List Nat}{wi:TI}{gt:TG}{te:TE}
end
section
variable {X:Cx}{Z:Zx}{elt:Expr}{pos:Pos}{sc ar:Scope}{N:List Str}{caps:List Nat}
end
section
variable {X:Cx}{Z:Zx}{pos:Pos}
end
section
variable {X:Cx}{Z:Zx}
end
section
variable {X:Cx}{Z:Zx}{pos:Pos}
theorem ziE:∀ {us:List Value} {ms:List Int},IntsAre us ms→zax (ms.map V.int) us
 | _,_,.nil=>.nil
 | _,_,.cons n t h=>.cons ⟨t,rfl⟩ (ziE h)
end
section
variable {X:Cx}{Z:Zx}{elt:Expr}{pos:Pos}{sc ar:Scope}{N:List Str}{caps:List Nat}
end
section
variable {X:Cx}{Z:Zx}{pos:Pos}
end
section
variable {n:Nat}{I:Addr}{fp wr:List Addr}{P:Nat→Value→Prop}{St:Nat→Shared→Prop}{prog:Program}{w:World}{A:Around}{s:Shared}{E:Value→Shared→Prop}{G:Array GenState→Array GenState→Prop}
end
section
variable {X:Cx}{Z:Zx}{pos:Pos}
end
section
variable {X:Cx}{Z:Zx}{pos:Pos}
theorem Rps.ins {r:List Addr}{H:Hp}{y:D}{w:V}(hy:Rp r H y w):∀ {ds:List D} {xs:List V} (k:Nat),Rps r H ds xs→Rps r H (ds.take k++y::ds.drop k) (xs.take k++w::xs.drop k)
 | [],xs,k,h=>by
  have z:=h.unnil
  subst z
  simpa using Rps.cons hy h
 | d::ds,xs,0,h=>Rps.cons hy h
 | d::ds,xs,k+1,h=>by
  obtain⟨v,vs,rfl,p1,p2⟩:=h.uncons
  exact Rps.cons p1 (Rps.ins hy k p2)
end
section
variable {X:Cx}{Z:Zx}{elt iter:Expr}{elts:List Expr}{kk:Nat}{tp pos:Pos}{sc ar:Scope}{own N:List Str}{caps:List Nat}{wi:TI}{gt:TG}
end
section
variable {X:Cx}{Z:Zx}
end
section
variable {X:Cx}{Z:Zx}{pos:Pos}
end
end L3
namespace L2
open PySem PySem.Spec PyProof.Rows
def Itd (lo:Int)(n:Nat):It:=⟨λi _=>i<n,λi H x H'=>H'=H∧x=.int (lo-i),λi _=>n≤i⟩
theorem zvt {P:Program}{w:World}{K:PySem.W.Frag}{tg:Expr}(it:Addr)(lo:Int)(n:Nat):zgk P w K tg (Itd lo n) [it] it (λi h=>IsRangeIter h it (lo+(i:Nat)*(-1)) ((n:Int)-(i:Nat)) (-1)) where
 mem:=VaO.mpr rfl
 obj:=λi h st b hb=>by
  cases VaO.mp hb
  refine⟨_,st,λv z=>?_⟩
  have z':Data.fields _=Data.cell v:=z
  cases z'
 keep:=λi h h' st k=>k it (VaO.mpr rfl) _ st
 item:=by
  intro X hP hw hK hc i pins s σ H E I hf st hg
  subst hP hw hK
  obtain⟨f0,f1,f2,f3,f4,f5⟩:=hf it (VaO.mpr rfl)
  have W:=Walks.range (prog:=X.prog) (w:=X.w) (I.ok.hd hc) it lo (-1) n
  refine W.item i s _ _ hg st λv h' tk hv st' kk=>?_
  obtain⟨t,rfl⟩:=hv
  have I1:Inv X pins σ H { s with heap:=h',toks:=tk }:=I.turned (λb o hb e=>kk b o (λz=>hb (VaO.mp z)) e) f0 f1 f3 f4 f5
  have ev:lo+(i:Int)*(-1)=lo-(i:Int):=by omega
  exact⟨_,rfl,znr (s:={ s with heap:=h',toks:=tk }) (n:="range_iterator") st' rfl rfl (by decide) ⟨.int (lo-i),H,I1,⟨t,by rw[ev]⟩,⟨rfl,rfl⟩,st',λb hb=>(hf b hb).1⟩⟩
 done:=by
  intro X hP hw hK hc i pins s σ H E I hf st hg
  subst hP hw hK
  obtain⟨f0,f1,f2,f3,f4,f5⟩:=hf it (VaO.mpr rfl)
  have hg':n≤i:=hg
  exact wpAny_pyNext_range_end (I.ok.hd hc) st (by omega) λh' eb=>⟨rfl,I.turned (t':=s.toks) (λb o hb e=>eb b o hb e) f0 f1 f3 f4 f5⟩
 self:=λ_ _ _ _ _ st h=>wpAny_pyIter_rangeiter st h
section
variable {X:Cx}{tg:Expr}
theorem zwG {pins:List (Addr×Obj)}{σ:St}{H:Hp}{s:Shared}{R:It→Hp→Prop}{E:Value→Shared→Prop}{lo hi:Int}{t u v:Tok}{tk:Nat}(I:Inv X pins σ H s)(h1:-(2^62)≤lo)(h2:lo<2^62)(h3:-(2^62)≤hi)(h4:hi<2^62)
  (q:R (Itd lo (lo-hi).toNat) H):wpAny (model X.prog X.w) X.A (pyIter (.ref s.heap.objs.size)) (PIE X pins σ tg R) E { s with heap:=s.heap.push { cls:=.type "range",data:=.fields #[.int lo t,.int hi u,.int (-1) v] },toks:=tk }:=by
 have I1:Inv X pins σ H { s with heap:=s.heap.push { cls:=.type "range",data:=.fields #[.int lo t,.int hi u,.int (-1) v] },toks:=tk }:=I.kept λb o e=>Heap.get?_push_of_some _ e
 refine wpAny_pyIter_range (IsRange.new ..) (PySem.W.small_down h1 h2 h3 h4) ?_
 refine⟨(s.heap.push { cls:=.type "range",data:=.fields #[.int lo t,.int hi u,.int (-1) v] }).objs.size,[(s.heap.push { cls:=.type "range",data:=.fields #[.int lo t,.int hi u,.int (-1) v] }).objs.size],_,_,H,rfl,
  I1.kept (t':=tk) λb o e=>Heap.get?_push_of_some _ e,zvt _ lo (lo-hi).toNat,?_,λb hb=>?_,q⟩
 ·show IsRangeIter _ _ (lo+((0:Nat):Int)*(-1)) ((((lo-hi).toNat:Nat):Int)-((0:Nat):Int)) (-1)
  rw[show lo+((0:Nat):Int)*(-1)=lo by simp,show (((lo-hi).toNat:Nat):Int)-((0:Nat):Int)=Builtin.Range.rangeSize lo hi (-1) by rw[PySem.W.rangeSize_downNat]; simp]
  exact Heap.get?_push_size _ rfl
 ·cases VaO.mp hb
  exact I1.fpOk (Vaa _) (I1.hok.fresh (Vaa _))
def iRngD (ta:TA):TI:=λσ H R=>ta σ H λvs H1=>∃i j:Int,vs=[.int i,.int j,.int (-1)]∧(-(2^62)≤i∧i<2^62∧-(2^62)≤j∧j<2^62)∧R (Itd i (i-j).toNat) H1
theorem zvr {a b c:Expr}{ta:TA}{p pos:Pos}(hg:Gl X "range")(hm:X.mg "range"=none)(ha:PA X [a,b,c] ta)(hs:starEach [a,b,c] X.env=[(false,eval a X.env),(false,eval b X.env),(false,eval c X.env)]:=by rfl)(hs2:starEach [b,c] X.env=[(false,eval b X.env),(false,eval c X.env)]:=by rfl):
  PI X tg (.Call (.Name "range" p) [a,b,c] [] pos) (iRngD ta):=by
 intro pins s σ H R I h
 refine Call_ (zen I hg hm boot_range (PyProof.Rows.callWith_type1 (thn (ha pos pins s σ H _ I h) λus s1 ⟨vs,H1,I1,r1,q1⟩=>?_) (by rw[hs,hs2]) (by rw[hs2]; rfl)))
 obtain⟨i,j,e,⟨q1,q2,q3,q4⟩,q⟩:=q1
 subst e
 cases r1 with
 | cons r rr=>
  cases rr with
  | cons r' rr=>
   cases rr with
   | cons r2 rr=>
    cases rr
    obtain⟨t,rfl⟩:=r
    obtain⟨t',rfl⟩:=r'
    obtain⟨t2,rfl⟩:=r2
    exact call_range_3 (by decide) (zwG I1 q1 q2 q3 q4 q) (.inl (PyProof.noPylong_small (by omega)))
end
end L2
namespace L3
open PySem PySem.Spec PyProof.Rows L2
section
variable {X:Cx}{Z:Zx}{pos:Pos}
def zvD (i:Nat)(ta:TDA)(tb:TDS):TDS:=λE dl S=>ta dl S λds S1=>match ds with
 | [.int lo,.int hi,.int st]=>st=-1∧(-(2^62)≤lo∧lo<2^62∧-(2^62)≤hi∧hi<2^62)∧∃W:Nat→Ev→Sto→Prop,W 0 dl S1∧∀k dl S,W k dl S→
   if k<(lo-hi).toNat then tb { nx:=λdl' S'=>W (k+1) dl' S',rt:=E.rt,bk:=E.nx,ct:=λdl' S'=>W (k+1) dl' S' } (dl.set i (some (.int (lo-k)))) S else E.nx dl S
 | _=>False
theorem zvV {i:Nat}{x:Str}{pos2 pos' p:Pos}{a b c:Expr}{body:List Stmt}{ta:TDA}{tb:TDS}(hp:PassesOwn (model X.prog X.w) X.A X.env X.xe)(hc:X.calm=true)(hN:X.N.Nodup)(hi:X.N[i]?=some x)(hx:Loc X.env.scope x)
  (hg:Gl X "range")(hm:X.mg "range"=none)(ha:PDA X Z [a,b,c] ta)(hb:zb3 X Z body tb)(hf:X.fn x=true∨X.env.scope.names.lookup x=some .local:=by first | exact .inl rfl | exact .inr rfl | assumption)
  (hs:∀y,foldedSetIterable (.Call (.Name "range" p) [a,b,c] [] pos) X.env y=pure y:=by intro _; rfl)(hst:starEach [a,b,c] X.env=[(false,eval a X.env),(false,eval b X.env),(false,eval c X.env)]:=by rfl)(hst2:starEach [b,c] X.env=[(false,eval b X.env),(false,eval c X.env)]:=by rfl):
  PDS X Z (.For (.Name x pos') (.Call (.Name "range" p) [a,b,c] [] pos) body [] pos2) (zvD i ta tb):=
 zbM (zlI hp hc (zvr hg hm ha hst hst2) (zgQ hN hi hx hf) hb hs) λF σ H ⟨r,dl,S,E,rs,rel,h,ret⟩=>by
  refine⟨r,dl,S,_,rs,rel,h,λvs H1 r1 ds S1 x1 rel1 p1 q1=>?_⟩
  split at q1
  ·rename_i lo hi st
   obtain⟨v,vs',rfl,p2,p3⟩:=p1.uncons
   obtain⟨v2,vs2,rfl,p4,p5⟩:=p3.uncons
   obtain⟨v3,vs3,rfl,p6,p7⟩:=p5.uncons
   have z:=p7.unnil
   subst z
   cases p2
   cases p4
   cases p6
   obtain⟨e3,bds,W,w0,turn⟩:=q1
   subst e3
   refine⟨lo,hi,rfl,bds,λk m σ' H'=>m=(lo-hi).toNat-k∧∃r' dl' S',Ext r1 r' H1 H'∧Rs r' H' dl' σ'∧Rel X.K Z r' S' H'∧W k dl' S',⟨(lo-hi).toNat,by simp,r1,dl,S1,Ext.refl,rs.ext x1,rel1,w0⟩,?_⟩
   rintro k m σ2 H2 ⟨em,r2,dl2,S2,x2,rs2,rel2,w2⟩
   have q:=turn k dl2 S2 w2
   split at q
   ·rename_i hk
    have go:∀σ' H' r' dl' S',Ext r2 r' H2 H'→Rs r' H' dl' σ'→Rel X.K Z r' S' H'→W (k+1) dl' S'→∃r' dl' S',Ext r1 r' H1 H'∧Rs r' H' dl' σ'∧Rel X.K Z r' S' H'∧W (k+1) dl' S':=
     λσ' H' r' dl' S' x rs' rel' w'=>⟨r',dl',S',x2.trans x,rs',rel',w'⟩
    have pk:Rp r2 H2 (.int (lo-(k:Int))) (.int (lo-(k:Int))):=.int _
    refine .inr ⟨hk,λσ' H'=>∃r' dl' S',Ext r1 r' H1 H'∧Rs r' H' dl' σ'∧Rel X.K Z r' S' H'∧W (k+1) dl' S',λσ' H' z=>⟨(lo-hi).toNat-(k+1),by omega,rfl,z⟩,λv' H' y'=>?_⟩
    obtain⟨eH,y'⟩:=y'
    subst eH
    subst y'
    exact⟨r2,_,S2,_,rs2.set i pk,rel2,q,go,λσ' H' r' dl' S' x rs' rel' z=>ret.nx σ' H' r' dl' S' (x1.trans (x2.trans x)) rs' rel' z,go,ret.rt.ext (x1.trans x2)⟩
   ·rename_i hk
    exact .inl ⟨by show (lo-hi).toNat≤k; omega,ret.nx σ2 H2 r2 dl2 S2 (x1.trans x2) rs2 rel2 q⟩
  ·exact q1.elim
end
end L3
set_option Elab.async false
set_option linter.all false
set_option maxRecDepth 100000
set_option maxHeartbeats 40000000
namespace Mine
open PySem PySem.Spec PyProof.Rows L2 L3
theorem fsc {N P:List Str}{sc:Scope}(a:sc.kind=.function:=by rfl)(b:sc.isCoroutine=false:=by rfl)(c:sc.isGenerator=false:=by rfl)(d:N.Nodup:=by decide +kernel)(e:N.take P.length=P:=by rfl)(f:∀x∈P,sc.names.lookup x=some .local∨sc.names.lookup x=some .cell:=by decide +kernel)(g:∀y∈sc.names,y.2≠.free:=by decide +kernel):zav N P sc:=⟨a,b,c,d,e,f,g⟩
theorem csc {sc ar:Scope}{x:Str}{caps:List Str}(a:sc.kind=.function:=by rfl)(b:∀y∈sc.names,y.2≠.cell:=by decide +kernel)(c:∀y∈sc.names,y.2=.local→sc.names.lookup y.1=some .local:=by decide +kernel)(d:sc.names.lookup x=some .local:=by rfl)(e:∀y∈caps,sc.names.lookup y=some .free:=by decide +kernel)(f:∀y∈sc.names,y.2=.free→ar.names.lookup y.1=some .cell:=by decide +kernel):zdf sc ar x caps:=⟨a,b,c,d,e,f⟩
abbrev Ln (sp:Sd)(n:Nat):Prop:=∀ds S Q ex,sp ds S Q ex→ds.length=n
theorem zao {X:Cx}{x:Str}{p pos:Pos}{e:Expr}{es:List Expr}{t:TDA}{k j:Nat}{ps:List Str}{sd:Sd}{ex:Ev→Addr→Sto→Prop}(G:Fk X.prog X.w X.K X.mg X.base k x ps sd)(hr:zaF j X.A)(ha:PDA X ⟨ex,Z0.w⟩ (e::es) t)(hk:k≤j:=by decide)(hg:Gl X x:=by rfl)
  (hdb:(x==("__debug__":Str))=false:=by decide)(he:starEach (e::es) X.env=(false,eval e X.env)::starEach es X.env:=by rfl)(hpl:(backTo pos (starEach es X.env)).any (·.1)=false:=by rfl):PD X ⟨ex,Z0.w⟩ (.Call (.Name x p) (e::es) [] pos) (zkv ex sd t):=znD G (hr.mono hk) zcf hg ha hdb he hpl
abbrev zlV:Stmt:=top 51
abbrev zfF:List Str:=["_law_cell_here"]
theorem zpr:zav ["_law_cell_here","_law_c"] zfF (zaq zlV):=fsc
abbrev zkA:Stmt:=top 49
abbrev zgZ:List Str:=["_law_a","_law_b"]
theorem zjO:zav ["_law_a","_law_b","_law_rest"] zgZ (zaq zkA):=fsc
abbrev zlg:Stmt:=top 50
abbrev zdy:List Str:=["_law_top","_law_bottom"]
theorem zoB:zav ["_law_top","_law_bottom","_law_shared"] zdy (zaq zlg):=fsc
abbrev zlv:Stmt:=top 60
abbrev zgo:List Str:=["_law_box","_law_grid_here","_law_cell_here"]
theorem zdl:zav ["_law_box","_law_grid_here","_law_cell_here","_law_point_here","_law_c","_law_span_here","_law_whole_here","_law_part"] zgo (zaq zlv):=fsc
abbrev zkP:Stmt:=top 54
abbrev zha:List Str:=["_law_cell_here"]
theorem zlL:zav ["_law_cell_here","_law_c","_law_made"] zha (zaq zkP):=fsc
abbrev zkl:Stmt:=top 55
abbrev zfN:List Str:=["_law_cell_here","_law_size","_law_many"]
theorem zd3:zav ["_law_cell_here","_law_size","_law_many","_law_c","_law_kind","_law_one"] zfN (zaq zkl):=fsc
abbrev ziN:Stmt:=top 56
abbrev zg0:List Str:=["_law_node_here","_law_weights"]
theorem zvy:zav ["_law_node_here","_law_weights"] zg0 (zaq ziN):=fsc
abbrev zep:Stmt:=top 57
abbrev zgy:List Str:=["_law_cells","_law_many","_law_ahead","_law_heavy","_law_most"]
theorem zdT:zav ["_law_cells","_law_many","_law_ahead","_law_heavy","_law_most","_law_nodes","_law_weights","_law_cell_here","_law_node_here","_law_weight_here"] zgy (zaq zep):=fsc
abbrev zjQ:Stmt:=top 63
abbrev zgf:List Str:=["_law_nodes","_law_node_here"]
theorem zvj:zav ["_law_nodes","_law_node_here"] zgf (zaq zjQ):=fsc
abbrev zkB:Stmt:=top 53
abbrev zhv:List Str:=["_law_a","_law_many"]
theorem zli:zav ["_law_a","_law_many","_law_found","_law_turn"] zhv (zaq zkB):=fsc
abbrev zl8:Stmt:=top 58
abbrev zgX:List Str:=["_law_node_here","_law_values","_law_point_here"]
theorem znw:zav ["_law_node_here","_law_values","_law_point_here","_law_a","_law_b"] zgX (zaq zl8):=fsc
abbrev zjt:Stmt:=top 59
abbrev zec:List Str:=["_law_nodes","_law_point_here"]
theorem zmU:zav ["_law_nodes","_law_point_here","_law_values","_law_node_here"] zec (zaq zjt):=fsc
abbrev zjU:Stmt:=top 64
abbrev zg2:List Str:=["_law_nodes","_law_point_here","_law_at","_law_cell_here"]
theorem zcU:zav ["_law_nodes","_law_point_here","_law_at","_law_cell_here","_law_c","_law_k","_law_a","_law_one","_law_far","_law_number_here"] zg2 (zaq zjU):=fsc
abbrev zhR:Stmt:=top 65
abbrev zf2:List Str:=["_law_nodes","_law_point_here","_law_first","_law_cell_here"]
theorem zpb:zav ["_law_nodes","_law_point_here","_law_first","_law_cell_here","_law_at"] zf2 (zaq zhR):=fsc
abbrev zlJ:Stmt:=top 6
abbrev zgr:List Str:=["a","b"]
theorem zuC:zav ["a","b"] zgr (zaq zlJ):=fsc
abbrev zje:Stmt:=top 8
abbrev zdj:List Str:=["top","bottom"]
theorem zuF:zav ["top","bottom"] zdj (zaq zje):=fsc
abbrev zlf:Stmt:=top 9
abbrev zgj:List Str:=["low","high","grid"]
theorem zqD:zav ["low","high","grid"] zgj (zaq zlf):=fsc
abbrev ziR:Stmt:=zaG (top 30) 2
abbrev zgD:List Str:=["self","spans","box","grid"]
theorem zpW:zav ["self","spans","box","grid","number"] zgD (zaq ziR):=fsc
abbrev ziI:Stmt:=zaG (top 31) 2
abbrev zgL:List Str:=["self","spans","box","grid"]
theorem zuI:zav ["self","spans","box","grid"] zgL (zaq ziI):=fsc
abbrev zj5:Stmt:=top 10
abbrev zet:List Str:=["a","b"]
theorem zry:zav ["a","b"] zet (zaq zj5):=fsc
abbrev ziX:Stmt:=zaG (top 33) 1
abbrev zfk:List Str:=["self","spans","box","grid"]
theorem zuK:zav ["self","spans","box","grid"] zfk (zaq ziX):=fsc
abbrev zi1:Stmt:=top 11
abbrev zc7:List Str:=["a","b"]
theorem zt3:zav ["a","b"] zc7 (zaq zi1):=fsc
abbrev zl2:Stmt:=zaG (top 34) 1
abbrev zgt:List Str:=["self","spans","box","grid"]
theorem zu8:zav ["self","spans","box","grid"] zgt (zaq zl2):=fsc
abbrev zk2:Stmt:=top 12
abbrev zfV:List Str:=["a","b","grid"]
theorem zoA:zav ["a","b","grid","products"] zfV (zaq zk2):=fsc
abbrev zkS:Stmt:=zaG (top 35) 1
abbrev zfI:List Str:=["self","spans","box","grid"]
theorem zt0:zav ["self","spans","box","grid"] zfI (zaq zkS):=fsc
abbrev zl7:Stmt:=top 5
abbrev zcL:List Str:=["number","many"]
theorem ziZ:zav ["number","many","worth","step"] zcL (zaq zl7):=fsc
abbrev zhm:Stmt:=top 13
abbrev zfL:List Str:=["a","many","grid"]
theorem zh5:zav ["a","many","grid","places","powers","bottom"] zfL (zaq zhm):=fsc
abbrev zjT:Stmt:=zaG (top 36) 2
abbrev zf9:List Str:=["self","spans","box","grid"]
theorem zsv:zav ["self","spans","box","grid"] zf9 (zaq zjT):=fsc
abbrev zlK:Stmt:=zaG (top 36) 0
abbrev zfK:List Str:=["self","one","many"]
theorem zqp:zav ["self","one","many"] zfK (zaq zlK):=fsc
abbrev zi5:Stmt:=zaG (top 30) 0
abbrev zfe:List Str:=["self","top","bottom"]
theorem ztU:zav ["self","top","bottom"] zfe (zaq zi5):=fsc
abbrev zly:Stmt:=zaG (top 31) 0
abbrev zfh:List Str:=["self","place"]
theorem zwh:zav ["self","place"] zfh (zaq zly):=fsc
abbrev zjJ:Stmt:=zaG (top 32) 0
abbrev zfW:List Str:=["self","one","other"]
theorem zrW:zav ["self","one","other"] zfW (zaq zjJ):=fsc
abbrev zl4:Stmt:=zaG (top 32) 0
abbrev zgG:List Str:=["self","one","other"]
theorem zwK:zav ["self","one","other"] zgG (zaq zl4):=fsc
abbrev zkO:Stmt:=zaG (top 32) 0
abbrev zgl:List Str:=["self","one","other"]
theorem zwr:zav ["self","one","other"] zgl (zaq zkO):=fsc
abbrev zj1:Stmt:=top 37
abbrev zek:List Str:=["node"]
theorem zp9:zav ["node"] zek (zaq zj1):=fsc
abbrev zls:Stmt:=top 39
abbrev zgF:List Str:=["nodes","box","grid"]
theorem zmP:zav ["nodes","box","grid","found","node"] zgF (zaq zls):=fsc
abbrev zlb:Stmt:=top 14
abbrev zcF:List Str:=["a","b"]
theorem zmt:zav ["a","b","low","high"] zcF (zaq zlb):=fsc
abbrev zkW:Stmt:=top 41
abbrev zgc:List Str:=["word","span"]
theorem zrT:zav ["word","span"] zgc (zaq zkW):=fsc
abbrev zl3:Stmt:=zaG (top 30) 3
abbrev zfE:List Str:=["self","spans","here","grid"]
theorem zvC:zav ["self","spans","here","grid"] zfE (zaq zl3):=fsc
abbrev zjm:Stmt:=zaG (top 31) 3
abbrev zhb:List Str:=["self","spans","here","grid"]
theorem zuZ:zav ["self","spans","here","grid"] zhb (zaq zjm):=fsc
abbrev zj0:Stmt:=zaG (top 33) 2
abbrev zfp:List Str:=["self","here","x","y","grid"]
theorem zss:zav ["self","here","x","y","grid"] zfp (zaq zj0):=fsc
abbrev zkt:Stmt:=zaG (top 33) 3
abbrev zgT:List Str:=["self","here","x","y","grid"]
theorem zqI:zav ["self","here","x","y","grid"] zgT (zaq zkt):=fsc
abbrev zj2:Stmt:=zaG (top 32) 1
abbrev zfC:List Str:=["self","spans","here","grid"]
theorem zhH:zav ["self","spans","here","grid","x","y"] zfC (zaq zj2):=fsc
abbrev ziC:Stmt:=zaG (top 34) 2
abbrev zgv:List Str:=["self","here","x","y","grid"]
theorem zsU:zav ["self","here","x","y","grid"] zgv (zaq ziC):=fsc
abbrev zkK:Stmt:=zaG (top 34) 3
abbrev zht:List Str:=["self","here","x","y","grid"]
theorem zrd:zav ["self","here","x","y","grid"] zht (zaq zkK):=fsc
abbrev zlD:Stmt:=zaG (top 32) 1
abbrev zfB:List Str:=["self","spans","here","grid"]
theorem zlU:zav ["self","spans","here","grid","x","y"] zfB (zaq zlD):=fsc
abbrev zig:Stmt:=top 17
abbrev zhh:List Str:=["span"]
theorem zro:zav ["span"] zhh (zaq zig):=fsc
abbrev zky:Stmt:=top 20
abbrev zef:List Str:=["x","low","high"]
theorem zrE:zav ["x","low","high"] zef (zaq zky):=fsc
abbrev zj9:Stmt:=top 21
abbrev zfX:List Str:=["top","bottom"]
theorem ztM:zav ["top","bottom"] zfX (zaq zj9):=fsc
abbrev zk0:Stmt:=top 22
abbrev zfZ:List Str:=["products","x","y"]
theorem zg9:zav ["products","x","y","low_by","high_by","low","high"] zfZ (zaq zk0):=fsc
abbrev zkD:Stmt:=top 15
abbrev zgP:List Str:=["a","b"]
theorem zu1:zav ["a","b"] zgP (zaq zkD):=fsc
abbrev zkR:Stmt:=top 19
abbrev zeG:List Str:=["one","other"]
theorem zst:zav ["one","other"] zeG (zaq zkR):=fsc
abbrev zir:Stmt:=top 18
abbrev zdq:List Str:=["pair"]
theorem zuJ:zav ["pair"] zdq (zaq zir):=fsc
abbrev ziV:Stmt:=top 23
abbrev zeJ:List Str:=["z","x","y","grid"]
theorem zei:zav ["z","x","y","grid","products","left","turned"] zeJ (zaq ziV):=fsc
abbrev zkm:Stmt:=zaG (top 35) 2
abbrev zhu:List Str:=["self","here","x","y","grid"]
theorem zq9:zav ["self","here","x","y","grid"] zhu (zaq zkm):=fsc
abbrev zhN:Stmt:=zaG (top 35) 3
abbrev zfq:List Str:=["self","here","x","y","grid"]
theorem zu2:zav ["self","here","x","y","grid"] zfq (zaq zhN):=fsc
abbrev ziS:Stmt:=zaG (top 32) 1
abbrev zhs:List Str:=["self","spans","here","grid"]
theorem zhA:zav ["self","spans","here","grid","x","y"] zhs (zaq ziS):=fsc
abbrev ziQ:Stmt:=top 25
abbrev zfu:List Str:=["guess","number","many"]
theorem zvk:zav ["guess","number","many"] zfu (zaq ziQ):=fsc
abbrev zhP:Stmt:=top 24
abbrev zd7:List Str:=["number","many"]
theorem zfO:zav ["number","many","guess","better"] zd7 (zaq zhP):=fsc
abbrev zhn:Stmt:=top 26
abbrev zcB:List Str:=["number","many"]
theorem zjk:zav ["number","many","below"] zcB (zaq zhn):=fsc
abbrev zlM:Stmt:=top 27
abbrev zfz:List Str:=["z","x","many","grid"]
theorem zf3:zav ["z","x","many","grid","scale","powers","low","high"] zfz (zaq zlM):=fsc
abbrev zi0:Stmt:=zaG (top 36) 3
abbrev zfP:List Str:=["self","spans","here","grid"]
theorem zoj:zav ["self","spans","here","grid","x"] zfP (zaq zi0):=fsc
abbrev zjp:Stmt:=top 42
abbrev zhe:List Str:=["nodes","row","box","grid"]
theorem zdL:zav ["nodes","row","box","grid","at","spans","wished","number","left","part"] zhe (zaq zjp):=fsc
abbrev zlp:Stmt:=top 43
abbrev zfS:List Str:=["nodes","row","box","grid"]
theorem zgs:zav ["nodes","row","box","grid","spans","left","number","span","node"] zfS (zaq zlp):=fsc
abbrev zjM:Stmt:=top 45
abbrev zgI:List Str:=["_law_script","_law_k"]
theorem zqr:zav ["_law_script","_law_k"] zgI (zaq zjM):=fsc
abbrev zjj:Stmt:=top 52
abbrev zfy:List Str:=["_law_cell_here"]
theorem zc1:zav ["_law_cell_here","_law_c","_law_way","_law_low","_law_wide"] zfy (zaq zjj):=fsc
abbrev zia:Stmt:=top 66
abbrev zgd:List Str:=["_law_nodes","_law_row","_law_point_here"]
theorem zpP:zav ["_law_nodes","_law_row","_law_point_here","_law_a"] zgd (zaq zia):=fsc
abbrev zko:Stmt:=top 46
abbrev zhp:List Str:=["_law_found"]
theorem zsM:zav ["_law_found"] zhp (zaq zko):=fsc
abbrev zl1:Stmt:=top 47
abbrev zfU:List Str:=["_law_found"]
theorem zqa:zav ["_law_found"] zfU (zaq zl1):=fsc
abbrev zjb:Stmt:=top 48
abbrev zfi:List Str:=["_law_found","_law_many"]
theorem zp3:zav ["_law_found","_law_many","_law_span_here"] zfi (zaq zjb):=fsc
abbrev zl5:Stmt:=top 61
abbrev zff:List Str:=["_law_a","_law_span_here","_law_grid_here"]
theorem zvP:zav ["_law_a","_law_span_here","_law_grid_here"] zff (zaq zl5):=fsc
abbrev zlC:Stmt:=top 62
abbrev zhq:List Str:=["_law_point_here","_law_box","_law_grid_here"]
theorem zn2:zav ["_law_point_here","_law_box","_law_grid_here","_law_k"] zhq (zaq zlC):=fsc
abbrev zcI:Stmt:=top 67
abbrev zi9:List Str:=["_law_script"]
theorem zbx:zav ["_law_script","_law_grid_here","_law_first","_law_many","_law_box","_law_points","_law_point_here","_law_nodes","_law_row","_law_handed","_law_other","_law_found","_law_place","_law_kept"] zi9 (zaq zcI):=fsc
theorem kfo {K:PySem.W.Frag}{f c:Addr}{m:Value}{n q:Str}{st:Stmt}(l:K.lookup f=some (fo n q st m c)):PySem.W.keepIn K (.ref f)=true:=by
 unfold PySem.W.keepIn
 simp only[l]
theorem ifo {K:PySem.W.Frag}{f c:Addr}{m:Value}{n q:Str}{st:Stmt}(l:K.lookup f=some (fo n q st m c)):PySem.W.isFn K (.ref f)=true:=by
 unfold PySem.W.isFn PySem.W.typeIn
 simp only[l]
 rfl
theorem ln1 {P:List Value→Prop}(h:∀a,P [a]):∀us:List Value,us.length=1→P us
 | [a],_=>h a
theorem ln2 {P:List Value→Prop}(h:∀a b,P [a,b]):∀us:List Value,us.length=2→P us
 | [a,b],_=>h a b
theorem ln3 {P:List Value→Prop}(h:∀a b c,P [a,b,c]):∀us:List Value,us.length=3→P us
 | [a,b,c],_=>h a b c
theorem ln4 {P:List Value→Prop}(h:∀a b c d,P [a,b,c,d]):∀us:List Value,us.length=4→P us
 | [a,b,c,d],_=>h a b c d
theorem ln5 {P:List Value→Prop}(h:∀a b c d e,P [a,b,c,d,e]):∀us:List Value,us.length=5→P us
 | [a,b,c,d,e],_=>h a b c d e
abbrev Bn (n q:Str)(st:Stmt)(ps:List Str):Prop:=∀(kV doc pm:Value) (an:Option Addr) (cdv ct:Value) (us:List Value),us.length=ps.length→bindArgs (PySem.W.fnOf n q (zdE st) (zcO st) (zaq st) .none kV doc pm an cdv ct) ⟨us,[]⟩=pure (ps.zip us)
def dfo {K:PySem.W.Frag}{mg:Str→Option Value}{h:Heap}(X:K.In h)(G:h.Ns mainGlobals mg){n:Str}{st:Stmt}{f c:Addr}{m:Value}{ps:List Str}(a:PySem.W.nsIn K mainGlobals n=some (some (.ref f)))(l:K.lookup f=some (fo n n st m c))(e:PySem.W.codeIn K (.ref c) n=true)(b:Bn n n st ps):Df K mg n st ps:=⟨_,_,zku (st:=st) l e (kfo l),PySem.W.mg_of X G a,(zku (st:=st) l e (kfo l)).binds b⟩
def dmo {K:PySem.W.Frag}{C:Addr}{n q:Str}{st:Stmt}{f c:Addr}{m:Value}{ps:List Str}(a:PySem.W.findIn K (.ref C) n=some (some (.ref f)))(l:K.lookup f=some (fo n q st m c))(e:PySem.W.codeIn K (.ref c) q=true)(b:Bn n q st ps):Dm K C n q st ps:=⟨_,_,zku (st:=st) l e (kfo l),⟨a,ifo l,kfo l⟩,(zku (st:=st) l e (kfo l)).binds b⟩
abbrev nsA (K:PySem.W.Frag)(n:Str)(f:Addr):Prop:=PySem.W.nsIn K mainGlobals n=some (some (.ref f))
abbrev fdA (K:PySem.W.Frag)(C:Addr)(n:Str)(f:Addr):Prop:=PySem.W.findIn K (.ref C) n=some (some (.ref f))
abbrev lkA (K:PySem.W.Frag)(f:Addr)(n q:Str)(st:Stmt)(m:Value)(c:Addr):Prop:=K.lookup f=some (fo n q st m c)
abbrev cdA (K:PySem.W.Frag)(c:Addr)(q:Str):Prop:=PySem.W.codeIn K (.ref c) q=true
theorem zaK {C:Addr}{f:Str}{to:TDE}{dl:Ev}{S S1:Sto}{Q:DK}{n:Nat}{fs:List (Str×D)}{v:D}(hto:∀K:DK,K (.ref n) S1→to dl S K)(h:S1[n]?=some (.ins C fs))(hf:fs.lookup f=some v)(hq:Q v S1):zk6 C f to dl S Q:=by
 unfold zk6
 refine hto _ ?_
 simp only[zco,h,if_pos,hf]
 exact hq
theorem zcj {C:Addr}{f:Str}{to te:TDE}{dl:Ev}{S S1 S2:Sto}{E:zcP}{n:Nat}{fs:List (Str×D)}{v:D}(hte:∀K:DK,K v S1→te dl S K)(hto:∀K:DK,K (.ref n) S2→to dl S1 K)(h:S2[n]?=some (.ins C fs))(hl:fs.length<1000)(hq:E.nx dl (S2.set n (.ins C (zea f v fs)))):zjq C f to te E dl S:=by
 unfold zjq
 refine hte _ (hto _ ?_)
 simp only[zco,h,if_pos]
 exact⟨hl,hq⟩
theorem zcE {C:Addr}{m:Str}{ex:Ev→Addr→Sto→Prop}{sd:Sd}{to:TDE}{t:TDA}{dl:Ev}{S S1:Sto}{Q:DK}{n:Nat}{fs:List (Str×D)}(hto:∀K:DK,K (.ref n) S1→to dl S K)(h:S1[n]?=some (.ins C fs))(hf:fs.lookup m=none)(hq:t dl S1 λds S2=>sd (.ref n::ds) S2 Q (ex dl)):zlZ C m ex sd to t dl S Q:=by
 unfold zlZ
 refine hto _ ?_
 simp only[zco,h,if_pos]
 exact⟨hf,hq⟩
theorem zp7 {te:TDE}{dl:Ev}{S:Sto}{Q:DK}{n:Nat}{xs:List D}(ht:∀K:DK,K (.ref n) S→te dl S K)(h:S[n]?=some (.lst xs))(hq:Q (.bl true) S):zlY "list" te dl S Q:=by
 unfold zlY
 refine ht _ ?_
 simp only[h]
 exact hq
theorem zjg {to ti te:TDE}{dl:Ev}{S:Sto}{E:zcP}{n j:Nat}{k:Int}{xs:List D}{v:D}(hte:∀K:DK,K v S→te dl S K)(hto:∀K:DK,K (.ref n) S→to dl S K)(hti:∀K:DK,K (.int k) S→ti dl S K)(h:S[n]?=some (.lst xs))(hj:ixN xs.length k=some j)(hq:E.nx dl (S.set n (.lst (xs.set j v)))):zib to ti te E dl S:=by
 unfold zib
 refine hte _ (hto _ (hti _ ?_))
 simp only[h,hj]
 exact hq
theorem zdM {n:Nat}{S:Sto}{Q:DK}{xs:List D}(h:S[n]?=some (.lst xs))(hq:Q (.int (xs.length:Nat)) S):irr zgM [.ref n] S Q:=by
 rw[zlx]
 unfold zgM
 simp only[za4 h rfl]
 exact hq
theorem zb0 {S:Sto}{n a:Nat}{o u:Ob}(h:S[n]?=some o)(hn:a≠n):(S.set a u)[n]?=some o:=by rw[VaR hn]; exact h
theorem zbT {S:Sto}{n:Nat}{o u:Ob}(h:S[n]?=some o):(S.set n u)[n]?=some u:=by
 have hk:=(Vab.mp h).1
 simp[hk]
theorem zaN {S:Sto}{n:Nat}{o:Ob}{T:Sto}(h:S[n]?=some o):(S++T)[n]?=some o:=by
 have hk:=(Vab.mp h).1
 rw[Vao hk]
 exact h
theorem zcl (T R:Sto)(u:Ob):(T++u::R)[T.length]?=some u:=by simp
theorem zcn (T R:Sto)(u v:Ob):(T++u::R).set T.length v=T++v::R:=by simp
theorem zbP {S:Sto}{n:Nat}{o:Ob}(h:S[n]?=some o):n<S.length:=(Vab.mp h).1
theorem zsb {n m:Nat}{S:Sto}{Q:DK}{xs ys:List D}{b:Bool}(h1:S[n]?=some (.lst xs))(h2:S[m]?=some (.lst ys))(e:eqL (eqN 1) xs ys=some b)(hq:Q (.bl b) S):zbK (zc3 1) (.ref n) (.ref m) S Q:=by
 rw[zb4]
 unfold zc3
 simp only[zdd,za4 h1 rfl,za4 h2 rfl,zas,e]
 exact hq
theorem zoN {xs:List Int}{lo hi:Option Int}{k:Nat}{x:D}(h:(zbd (xs.map D.int) lo hi)[k]?=some x):∃c:Int,x=.int c:=by
 have m:=Vaz h
 unfold L3.zbd at m
 obtain⟨c,_,rfl⟩:=List.mem_map.mp (List.mem_of_mem_drop (List.mem_of_mem_take m))
 exact⟨c,rfl⟩
theorem zdO {i n:Nat}{tb:TDS}{E:zcP}{dl:Ev}{S:Sto}{o:Ob}(W:Nat→Ev→Sto→Prop)(h0:W 0 dl S)(hk:∀k dl' S',W k dl' S'→S'[n]?=some o)
  (ht:∀(k:Nat) (x:D) (dl':Ev) (S':Sto) (nx ct:Ev→Sto→Prop),(zas o)[k]?=some x→W k dl' S'→(∀dl2 S2,W (k+1) dl2 S2→nx dl2 S2)→tb { nx:=nx,rt:=E.rt,bk:=E.nx,ct:=ct } (dl'.set i (some x)) S')(he:∀dl' S',W (zas o).length dl' S'→E.nx dl' S')(hL:zbR o=some o:=by rfl):
  (lAt S n).isSome=true∧∃W:Nat→Nat→Ev→Sto→Prop,(∃m,W 0 m dl S)∧∀k m dl S,W k m dl S→match lAt S n with
  | some o=>match (zas o)[k]? with
   | some x=>tb { nx:=λdl' S'=>∃m',m'<m∧W (k+1) m' dl' S',rt:=E.rt,bk:=E.nx,ct:=λdl' S'=>∃m',m'<m∧W (k+1) m' dl' S' } (dl.set i (some x)) S
   | none=>E.nx dl S
  | none=>False:=by
 refine⟨by rw[za4 (hk _ _ _ h0) hL]; rfl,λk m dl' S'=>m+k=(zas o).length∧W k dl' S',⟨(zas o).length,by omega,h0⟩,?_⟩
 rintro k m dl' S' ⟨hm,w⟩
 rw[za4 (hk _ _ _ w) hL]
 show (match (zas o)[k]? with
   | some x=>tb { nx:=λdl' S''=>∃m',m'<m∧(m'+(k+1)=(zas o).length∧W (k+1) dl' S''),rt:=E.rt,bk:=E.nx,ct:=λdl' S''=>∃m',m'<m∧(m'+(k+1)=(zas o).length∧W (k+1) dl' S'') } (dl'.set i (some x)) S'
   | none=>E.nx dl' S')
 split
 ·rename_i x hx
  have hk:k<(zas o).length:=(Vab.mp hx).1
  exact ht k x dl' S' _ _ hx w λdl2 S2 w2=>⟨m-1,by omega,by omega,w2⟩
 ·rename_i hx
  have hk:k=(zas o).length:=by
   have:=VaQ.mp hx
   omega
  exact he dl' S' (hk ▸ w)
inductive Nd where
 | number (t b:Int) | unknown (k:Int) | plus (i j:Int) | minus (i j:Int) | times (i j:Int) | power (i n:Int)
def Nd.d:Nd→D
 | .number t b=>.tup [.str "number",.int t,.int b]
 | .unknown k=>.tup [.str "unknown",.int k]
 | .plus i j=>.tup [.str "plus",.int i,.int j]
 | .minus i j=>.tup [.str "minus",.int i,.int j]
 | .times i j=>.tup [.str "times",.int i,.int j]
 | .power i n=>.tup [.str "power",.int i,.int n]
def Nd.ob (cN cU cP cM cT cW:Addr):Nd→Ob
 | .number t b=>.ins cN [("top",.int t),("bottom",.int b)]
 | .unknown k=>.ins cU [("place",.int k)]
 | .plus i j=>.ins cP [("one",.int i),("other",.int j)]
 | .minus i j=>.ins cM [("one",.int i),("other",.int j)]
 | .times i j=>.ins cT [("one",.int i),("other",.int j)]
 | .power i n=>.ins cW [("one",.int i),("many",.int n)]
def inR (m i:Int):Prop:=0≤i∧i<m
def Nd.ok (m q:Int):Nd→Prop
 | .number t b=>(1≤b∧b≤10^9)∧Int.gcd t b=1∧t.natAbs≤10^9
 | .unknown k=>inR q k
 | .plus i j=>inR m i∧inR m j
 | .minus i j=>inR m i∧inR m j
 | .times i j=>inR m i∧inR m j
 | .power i n=>inR m i∧2≤n∧n≤6
def frD (p:Int×Int):D:=.tup [.int p.1,.int p.2]
abbrev gt (vs:List (Int×Int))(i:Int):Int×Int:=vs.getD i.toNat (0,1)
theorem zce {vs:List (Int×Int)}{i:Int}(h:inR vs.length i):gt vs i∈vs:=by
 obtain⟨h0,h1⟩:=h
 have hk:i.toNat<vs.length:=by omega
 have e:gt vs i=vs[i.toNat]:=by simp[gt,hk]
 rw[e]
 exact List.getElem_mem hk
theorem zaS {vs:List (Int×Int)}{i:Int}(h:inR vs.length i):atI (vs.map frD) i=some (frD (gt vs i)):=by
 obtain⟨h0,h1⟩:=h
 have hk:i.toNat<vs.length:=by omega
 have z:=ziL (xs:=vs.map frD) (j:=i.toNat) (v:=frD (gt vs i)) (by rw[Vap,Van hk]; simp[gt,hk])
 rw[show ((i.toNat:Nat):Int)=i by omega] at z
 exact z
theorem fr_eq (p q:Int×Int):eqN 1 (frD p) (frD q)=some (decide (p.1=q.1)&&(decide (p.2=q.2)&&true)):=by simp[frD,eqN,L3.eqT,eqL,eqF]
theorem zmr:∀vs:List (Int×Int),eqL (eqN 1) (vs.map frD) (vs.map frD)=some true
 | []=>rfl
 | u::us=>by
  show (match eqN 1 (frD u) (frD u),eqL (eqN 1) (us.map frD) (us.map frD) with | some b,some c=>some (b&&c) | _,_=>none)=_
  rw[fr_eq,zmr us]
  simp
theorem zpE {G:Int×Int→Prop}:∀xs:List D,(∀(k:Nat) (d:D),xs[k]?=some d→∃p,d=frD p∧G p)→∃vs:List (Int×Int),xs=vs.map frD∧∀p∈vs,G p
 | [],_=>⟨[],rfl,λp h=>by cases h⟩
 | x::xs,h=>by
  obtain⟨p,rfl,hp⟩:=h 0 x rfl
  obtain⟨vs,rfl,hv⟩:=zpE xs λk d hd=>h (k+1) d hd
  exact⟨p::vs,rfl,λq hq=>by
   rcases Vai.mp hq with e | e
   ·subst e; exact hp
   ·exact hv q e⟩
theorem ztq {xs:List D}{d e:D}{i:Nat}{P:Nat→D→Prop}(h:(xs++[d])[i]?=some e)(hp:∀i d,xs[i]?=some d→P i d)(hd:P xs.length d):P i e:=by
 by_cases hi:i<xs.length
 ·rw[Vao hi] at h
  exact hp i e h
 ·have hk:=(Vab.mp h).1
  simp only[Vax,VaE,Va0] at hk
  have e1:i=xs.length:=by omega
  subst e1
  simp at h
  subst h
  exact hd
theorem zwa {caps:List Nat}{ta:TDA}{te:TDE}{dl:Ev}{S S1:Sto}{Q:DK}{j:Int}(P:Nat→D→Prop)(hta:∀K:List D→Sto→Prop,K [.int j] S1→ta dl S K)(hj:0≤j∧j≤1000)
  (ht:∀k:Nat,k<j.toNat→∀(S2:Sto) (K:DK),Pre S1 S2→(∀d,P k d→K d S2)→te (some (.int k)::zct caps dl) S2 K)(hq:∀xs:List D,xs.length=j.toNat→(∀k d,xs[k]?=some d→P k d)→Q (.ref S1.length) (S1++[.lst xs])):zdr caps ta zcA te dl S Q:=by
 unfold zdr
 refine hta _ ⟨⟨by omega,by omega⟩,λk S2=>(∃xs:List D,S2=S1++[.lst xs]∧xs.length=k∧∀i d,xs[i]?=some d→P i d)∧k≤j.toNat,⟨⟨[],rfl,rfl,λi d h=>by simp at h⟩,by omega⟩,?_⟩
 rintro k S2 ⟨⟨xs,rfl,hx,hp⟩,hk⟩
 split
 ·rename_i hk'
  unfold zdD zcA
  simp only[if_true]
  refine ht k hk' _ _ Pre.refl.push λd hd=>?_
  rw[zaP]
  refine⟨by omega,⟨xs++[d],zqu _ _ _,by simp[hx],λi e he=>ztq he hp (hx ▸ hd)⟩,by omega⟩
 ·have e:k=j.toNat:=by omega
  subst e
  exact hq xs hx hp
theorem zqy {α:Type}{xs:List D}{lo hi:Option Int}:(zbd xs lo hi).length≤xs.length:=by
 unfold L3.zbd
 rw[Vaj,List.length_drop]
 omega
theorem zvS {S T:Sto}(h:Pre S T){n:Nat}{o:Ob}(e:S[n]?=some o):T[n]?=some o:=h n o e
structure ze0 (a b c d mn mx:Int):Prop where
 lo:mn=a*c∨mn=a*d∨mn=b*c∨mn=b*d
 l1:mn≤a*c
 l2:mn≤a*d
 l3:mn≤b*c
 l4:mn≤b*d
 hi:mx=a*c∨mx=a*d∨mx=b*c∨mx=b*d
 h1:a*c≤mx
 h2:a*d≤mx
 h3:b*c≤mx
 h4:b*d≤mx
theorem ze0.of {a b c d mn mx:Int}(m1:mn∈[a*c,a*d,b*c,b*d])(m2:∀y∈[a*c,a*d,b*c,b*d],mn≤y)(x1:mx∈[a*c,a*d,b*c,b*d])(x2:∀y∈[a*c,a*d,b*c,b*d],y≤mx):ze0 a b c d mn mx:=by
 simp only[Vai,VaM,or_false] at m1 x1
 exact⟨m1,m2 _ (by simp),m2 _ (by simp),m2 _ (by simp),m2 _ (by simp),x1,x2 _ (by simp),x2 _ (by simp),x2 _ (by simp),x2 _ (by simp)⟩
structure zcy (a b:Int)(n:Nat)(m M:Int):Prop where
 lo:m=a^n∨m=b^n∨(a<0∧0<b∧m=0)
 l1:m≤a^n
 l2:m≤b^n
 l3:a<0→0<b→m≤0
 hi:M=a^n∨M=b^n
 h1:a^n≤M
 h2:b^n≤M
theorem zpow {n:Nat}(h:1≤n):(0:Int)^n=0:=by
 cases n with
 | zero=>omega
 | succ k=>rw[Vad,VaT]
theorem zpk (n:Nat):(∀x:Int,(-x)^n=x^n)∨(∀x:Int,(-x)^n=-(x^n)):=by
 induction n with
 | zero=>left; intro x; rw[VaP,VaP]
 | succ k ih=>
  rcases ih with e | e
  ·right; intro x; rw[Vad,Vad,e,Va5]
  ·left; intro x; rw[Vad,Vad,e,Int.neg_mul_neg]
theorem zeN {x y:Int}(h0:0≤x)(h:x≤y)(n:Nat):x^n≤y^n:=by
 induction n with
 | zero=>rw[VaP,VaP]; exact VaL _
 | succ k ih=>
  rw[Vad,Vad]
  exact Int.mul_le_mul ih h h0 (VaD (by omega))
theorem zo8 {y z x m M:Int}{n:Nat}(hn:1≤n)(h1:y≤x)(h2:x≤z)(m1:m≤y^n)(m2:m≤z^n)(m3:y<0→0<z→m≤0)(M1:y^n≤M)(M2:z^n≤M):m≤x^n∧x^n≤M:=by
 by_cases hy:0≤y
 ·have e1:=zeN hy h1 n
  have e2:=zeN (show 0≤x by omega) h2 n
  omega
 ·by_cases hz:z≤0
  ·have e1:=zeN (show 0≤-z by omega) (show -z≤-x by omega) n
   have e2:=zeN (show 0≤-x by omega) (show -x≤-y by omega) n
   rcases zpk n with p | p <;> rw[p,p] at e1 e2 <;> omega
  ·have m3':=m3 (by omega) (by omega)
   have z0:(0:Int)≤z^n:=VaD (by omega)
   by_cases hx:0≤x
   ·have e1:(0:Int)≤x^n:=VaD hx
    have e2:=zeN hx h2 n
    omega
   ·have e1:(0:Int)≤(-x)^n:=VaD (by omega)
    have e2:=zeN (show 0≤-x by omega) (show -x≤-y by omega) n
    rcases zpk n with p | p
    ·rw[p] at e1
     rw[p,p] at e2
     omega
    ·rw[p] at e1
     rw[p,p] at e2
     omega
theorem zcy.scale {a b:Int}{n:Nat}{m M:Int}(h:zcy a b n m M)(hn:1≤n){p x:Int}(hp:1≤p)(h1:a*p≤x)(h2:x≤b*p):m*p^n≤x^n∧x^n≤M*p^n:=by
 have pp:(0:Int)≤p^n:=VaD (by omega)
 refine zo8 hn h1 h2 ?_ ?_ ?_ ?_ ?_
 ·rw[VaA]; exact Vaf h.l1 pp
 ·rw[VaA]; exact Vaf h.l2 pp
 ·intro y1 y2
  have a1:a<0:=by
   by_cases q:a<0
   ·exact q
   ·have:=Vah (show 0≤a by omega) (show 0≤p by omega)
    omega
  have b1:0<b:=by
   by_cases q:0<b
   ·exact q
   ·have:=Vah (show 0≤-b by omega) (show 0≤p by omega)
    rw[Vae] at this
    omega
  have:=Vah (show 0≤-m by have:=h.l3 a1 b1; omega) pp
  rw[Vae] at this
  omega
 ·rw[VaA]; exact Vaf h.h1 pp
 ·rw[VaA]; exact Vaf h.h2 pp
theorem zcy.of {a b g mn mx:Int}{n:Nat}(hg:1≤g){l:List Int}(hl:l=[a^n*g,b^n*g]∧¬ (a<0∧0<b)∨l=[a^n*g,b^n*g,0^n*g]∧a<0∧0<b)(hn:1≤n)(m1:mn∈l)(m2:∀y∈l,mn≤y)(x1:mx∈l)(x2:∀y∈l,y≤mx):
  ∃m M,zcy a b n m M∧mn=m*g∧mx=M*g:=by
 have can:∀ {x y:Int},x*g≤y*g→x≤y:=λ{x y} h=>Va1 h (by omega)
 rcases hl with ⟨rfl,hz⟩ | ⟨rfl,hz1,hz2⟩
 ·simp only[Vai,VaM,or_false] at m1 x1
  have a1:=m2 (a^n*g) (by simp)
  have a2:=m2 (b^n*g) (by simp)
  have b1:=x2 (a^n*g) (by simp)
  have b2:=x2 (b^n*g) (by simp)
  obtain⟨m,hm,em⟩:∃m,(m=a^n∨m=b^n)∧mn=m*g:=by
   rcases m1 with e | e
   ·exact⟨_,.inl rfl,e⟩
   ·exact⟨_,.inr rfl,e⟩
  obtain⟨M,hM,eM⟩:∃m,(m=a^n∨m=b^n)∧mx=m*g:=by
   rcases x1 with e | e
   ·exact⟨_,.inl rfl,e⟩
   ·exact⟨_,.inr rfl,e⟩
  subst em eM
  exact⟨m,M,⟨hm.elim .inl λe=>.inr (.inl e),can a1,can a2,λc1 c2=>absurd ⟨c1,c2⟩ hz,hM,can b1,can b2⟩,rfl,rfl⟩
 ·rw[zpow hn,Int.zero_mul] at m1 m2 x1 x2
  simp only[Vai,VaM,or_false] at m1 x1
  have a1:=m2 (a^n*g) (by simp)
  have a2:=m2 (b^n*g) (by simp)
  have a3:=m2 0 (by simp)
  have b1:=x2 (a^n*g) (by simp)
  have b2:=x2 (b^n*g) (by simp)
  have b3:=x2 0 (by simp)
  obtain⟨m,hm,em⟩:∃m,(m=a^n∨m=b^n∨m=0)∧mn=m*g:=by
   rcases m1 with e | e | e
   ·exact⟨_,.inl rfl,e⟩
   ·exact⟨_,.inr (.inl rfl),e⟩
   ·exact⟨0,.inr (.inr rfl),by rw[e,Int.zero_mul]⟩
  have bp:(0:Int)≤b^n:=VaD (by omega)
  have bg:=Vah bp (show 0≤g by omega)
  obtain⟨M,hM,eM⟩:∃m,(m=a^n∨m=b^n)∧mx=m*g:=by
   rcases x1 with e | e | e
   ·exact⟨_,.inl rfl,e⟩
   ·exact⟨_,.inr rfl,e⟩
   ·exact⟨_,.inr rfl,by omega⟩
  subst em eM
  refine⟨m,M,⟨?_,can a1,can a2,λ_ _=>can (by rw[Int.zero_mul]; exact a3),hM,can b1,can b2⟩,rfl,rfl⟩
  rcases hm with e | e | e
  ·exact .inl e
  ·exact .inr (.inl e)
  ·exact .inr (.inr ⟨hz1,hz2,e⟩)
theorem zd6 {m g:Int}{n:Nat}(hg:1≤g)(hn:1≤n):m*g/g^n=m/g^(n-1):=by
 obtain⟨k,rfl⟩:∃k,n=k+1:=⟨n-1,by omega⟩
 rw[Vad,Nat.add_sub_cancel,Int.mul_ediv_mul_of_pos_left _ _ (by omega)]
def mn4 (a b c d:Int):Int:=min (min (a*c) (a*d)) (min (b*c) (b*d))
def mx4 (a b c d:Int):Int:=max (max (a*c) (a*d)) (max (b*c) (b*d))
theorem ze0.eq {a b c d mn mx:Int}(h:ze0 a b c d mn mx):mn=mn4 a b c d∧mx=mx4 a b c d:=by
 obtain⟨h0,h1,h2,h3,h4,h5,h6,h7,h8,h9⟩:=h
 unfold mn4 mx4
 omega
def zbE (a b:Int)(n:Nat):Int:=if n%2=0∧a≤0∧0≤b then 0 else min (a^n) (b^n)
def zc4 (a b:Int)(n:Nat):Int:=max (a^n) (b^n)
theorem ze5 {n:Nat}(h:n%2=0)(x:Int):0≤x^n:=by
 obtain⟨k,rfl⟩:∃k,n=k+k:=⟨n/2,by omega⟩
 rw[Int.pow_add]
 by_cases c:0≤x^k
 ·exact Vah c c
 ·have:=Vah (show 0≤-(x^k) by omega) (show 0≤-(x^k) by omega)
  rw[Int.neg_mul_neg] at this
  exact this
theorem zpV {n:Nat}(h:n%2=1){x:Int}(hx:x<0):x^n<0:=by
 obtain⟨k,rfl⟩:∃k,n=k+1:=⟨n-1,by omega⟩
 have z:=ze5 (n:=k) (by omega) x
 have nz:∀k:Nat,x^k≠0:=λk=>by
  induction k with
  | zero=>rw[VaP]; decide
  | succ k ih=>rw[Vad]; exact Int.mul_ne_zero ih (by omega)
 have nz:=nz k
 have:=VaU (show 0<x^k by omega) (show 0 < -x by omega)
 rw[Va5] at this
 rw[Vad]
 omega
theorem zcy.eq {a b m M:Int}{n:Nat}(h:zcy a b n m M)(hn:1≤n):m=zbE a b n∧M=zc4 a b n:=by
 obtain⟨h0,h1,h2,h3,h4,h5,h6⟩:=h
 refine⟨?_,by unfold zc4; omega⟩
 unfold zbE
 split
 ·rename_i c
  obtain⟨c1,c2,c3⟩:=c
  have e1:=ze5 c1 a
  have e2:=ze5 c1 b
  by_cases z:a<0∧0<b
  ·have:=h3 z.1 z.2
   omega
  ·have z':a=0∨b=0:=by omega
   rcases z' with rfl | rfl
   ·rw[zpow hn] at h1
    omega
   ·rw[zpow hn] at h2
    omega
 ·rename_i c
  have hz:a<0→0<b→m≠0:=λa1 b1 e=>by
   by_cases p:n%2=0
   ·exact c ⟨p,by omega,by omega⟩
   ·have:=zpV (n:=n) (by omega) a1
    omega
  omega
def Nd.fw (vs bs:List (Int×Int))(g:Int):Nd→Int×Int
 | .number t b=>(t*g/b,-(-(t*g)/b))
 | .unknown k=>gt bs k
 | .plus i j=>((gt vs i).1+(gt vs j).1,(gt vs i).2+(gt vs j).2)
 | .minus i j=>((gt vs i).1-(gt vs j).2,(gt vs i).2-(gt vs j).1)
 | .times i j=>(mn4 (gt vs i).1 (gt vs i).2 (gt vs j).1 (gt vs j).2/g,-(-mx4 (gt vs i).1 (gt vs i).2 (gt vs j).1 (gt vs j).2/g))
 | .power i n=>(zbE (gt vs i).1 (gt vs i).2 n.toNat/g^(n.toNat-1),-(-zc4 (gt vs i).1 (gt vs i).2 n.toNat/g^(n.toNat-1)))
def Spn (B:Nat)(vs:List (Int×Int)):Prop:=∀p∈vs,p.1≤p.2∧Sz B p.1∧Sz B p.2
theorem Spn.at {B:Nat}{vs:List (Int×Int)}(h:Spn B vs){i:Int}(hi:inR vs.length i):(gt vs i).1≤(gt vs i).2∧Sz B (gt vs i).1∧Sz B (gt vs i).2:=h _ (zce hi)
theorem Spn.mono {B C:Nat}{vs:List (Int×Int)}(h:Spn B vs)(hc:B≤C):Spn C vs:=λp hp=>⟨(h p hp).1,(h p hp).2.1.mono hc,(h p hp).2.2.mono hc⟩
theorem znO {m M g:Int}(hg:1≤g)(h:m≤M):m/g≤-(-M/g):=by
 have h1:=Int.ediv_mul_le m (show g≠0 by omega)
 have h2:=Int.ediv_mul_le (-M) (show g≠0 by omega)
 have:m/g*g≤-(-M/g)*g:=by rw[Vae]; omega
 exact Va1 this (by omega)
theorem zv0 (a b:Int)(n:Nat):zbE a b n≤zc4 a b n:=by
 unfold zbE zc4
 split
 ·rename_i c
  have:=ze5 c.1 a
  omega
 ·omega
theorem zus (a b c d:Int):mn4 a b c d≤mx4 a b c d:=by unfold mn4 mx4; omega
theorem Nd.fw_le {vs bs:List (Int×Int)}{g:Int}{B:Nat}(h1:Spn B vs)(h2:Spn B bs)(hg:1≤g):∀v:Nd,v.ok vs.length bs.length→(v.fw vs bs g).1≤(v.fw vs bs g).2
 | .number t b,ok=>znO ok.1.1 (VaL _)
 | .unknown k,ok=>(h2.at ok).1
 | .plus i j,ok=>by
  have a:=(h1.at ok.1).1
  have b:=(h1.at ok.2).1
  show (gt vs i).1+(gt vs j).1≤(gt vs i).2+(gt vs j).2
  omega
 | .minus i j,ok=>by
  have a:=(h1.at ok.1).1
  have b:=(h1.at ok.2).1
  show (gt vs i).1-(gt vs j).2≤(gt vs i).2-(gt vs j).1
  omega
 | .times i j,ok=>znO hg (zus _ _ _ _)
 | .power i n,ok=>znO (Vak (by omega)) (zv0 _ _ _)
theorem zit {n:Nat}(v:Nd):Sco n v.d:=by
 cases v <;> exact .tup λd hd=>by
  simp only[Vai,VaM,or_false] at hd
  rcases hd with rfl | rfl | rfl <;> first | exact .str _ | exact .int _
def zaU (p q:Int×Int):Option (Int×Int):=if (if q.2<p.2 then q.2 else p.2)<(if q.1 > p.1 then q.1 else p.1) then none else some (if q.1 > p.1 then q.1 else p.1,if q.2<p.2 then q.2 else p.2)
theorem zwq {p q r:Int×Int}(h:zaU p q=some r):r.1≤r.2:=by
 have go:∀lo hi:Int,(if hi<lo then none else some (lo,hi))=some r→r.1≤r.2:=λlo hi e=>by
  split at e
  ·cases e
  ·rename_i c
   cases e
   exact Int.not_lt.mp c
 exact go _ _ h
def ptD (q:Int×(Int×Int)):D:=.tup [.int q.1,.tup [.int q.2.1,.int q.2.2]]
theorem zh2 {a b:TDS}{E:zcP}{dl:Ev}{S:Sto}(W:Ev→Sto→Prop)(ha:∀nx:Ev→Sto→Prop,(∀dl' S',W dl' S'→nx dl' S')→a { nx:=nx,rt:=E.rt,bk:=E.bk,ct:=E.ct } dl S)(hb:∀dl' S',W dl' S'→b E dl' S'):zd1 a b E dl S:=ha _ hb
theorem zm0 {a b c:TDS}{E:zcP}{dl:Ev}{S:Sto}(W:Ev→Sto→Prop)(ha:∀nx:Ev→Sto→Prop,(∀dl' S',W dl' S'→nx dl' S')→zd1 a b { nx:=nx,rt:=E.rt,bk:=E.bk,ct:=E.ct } dl S)(hb:∀dl' S',W dl' S'→c E dl' S'):zd1 a (zd1 b c) E dl S:=ha _ hb
theorem zmL {n:Nat}{m g:Int}(h:Sz n m)(hg:1≤g):Sz n (-(-m/g)):=(h.neg.div hg).neg
theorem zhZ {n:Nat}{a b:Int}(ha:Sz n a)(hb:Sz n b):Sz n (min a b):=by unfold Sz at *; omega
theorem zh6 {n:Nat}{a b:Int}(ha:Sz n a)(hb:Sz n b):Sz n (max a b):=by unfold Sz at *; omega
theorem Spn.set {B:Nat}{vs:List (Int×Int)}(h:Spn B vs){k:Nat}{u:Int}(hu:Sz B u):Spn B (vs.set k (u,u)):=λp hp=>by
 rcases List.mem_or_eq_of_mem_set hp with e | e
 ·exact h p e
 ·subst e; exact⟨VaL _,hu,hu⟩
theorem znB (vs:List (Int×Int))(k:Nat)(p:Int×Int):(vs.map frD).set k (frD p)=(vs.set k p).map frD:=(List.map_set).symm
theorem zjX {n:Nat}{i:Int}(h:inR n i):ixN n i=some i.toNat:=by
 obtain⟨h0,h1⟩:=h
 unfold ixN
 split <;> first | omega | rfl | (split <;> first | omega | rfl)
def Nd.wt (ws:List Nat):Nd→Nat
 | .number _ _=>1
 | .unknown _=>1
 | .plus i j=>ws.getD i.toNat 0+ws.getD j.toNat 0
 | .minus i j=>ws.getD i.toNat 0+ws.getD j.toNat 0
 | .times i j=>ws.getD i.toNat 0+ws.getD j.toNat 0
 | .power i n=>n.toNat*ws.getD i.toNat 0
structure zaC (q:Int)(ns:List Nd)(ws:List Nat):Prop where
 len:ws.length=ns.length
 ok:∀(k:Nat) (v:Nd),ns[k]?=some v→v.ok k q∧ws.getD k 0=v.wt ws∧1≤v.wt ws∧v.wt ws≤16
theorem zaC.nil (q:Int):zaC q [] []:=⟨rfl,λk v h=>by simp at h⟩
theorem zaC.w1 {q:Int}{ns:List Nd}{ws:List Nat}(h:zaC q ns ws){i:Int}(hi:inR ns.length i):1≤ws.getD i.toNat 0∧ws.getD i.toNat 0≤16:=by
 obtain⟨h0,h1⟩:=hi
 have hk:i.toNat<ns.length:=(by omega)
 obtain⟨_,e,a,b⟩:=h.ok i.toNat _ (Van hk)
 omega
theorem zaC.w2 {q:Int}{ns:List Nd}{ws:List Nat}(h:zaC q ns ws):∀v:Nd,v.ok ns.length q→1≤v.wt ws∧v.wt ws≤96
 | .number _ _,_=>⟨Vaa 1,show 1≤96 by decide⟩
 | .unknown _,_=>⟨Vaa 1,show 1≤96 by decide⟩
 | .plus i j,ok=>by have a:=h.w1 ok.1; have b:=h.w1 ok.2; simp only[Nd.wt]; omega
 | .minus i j,ok=>by have a:=h.w1 ok.1; have b:=h.w1 ok.2; simp only[Nd.wt]; omega
 | .times i j,ok=>by have a:=h.w1 ok.1; have b:=h.w1 ok.2; simp only[Nd.wt]; omega
 | .power i n,ok=>by
  have a:=h.w1 ok.1
  have n2:=ok.2.1
  have n6:=ok.2.2
  have m1:=Nat.mul_le_mul (show 1≤n.toNat by omega) a.1
  have m2:=Nat.mul_le_mul (show n.toNat≤6 by omega) a.2
  simp only[Nd.wt]
  omega
theorem zmV {ws:List Nat}{w:Nat}{k:Nat}(h:k<ws.length):(ws++[w]).getD k 0=ws.getD k 0:=by
 rw[Vaw,Vaw,Vao h]
theorem zpv {ws:List Nat}{w:Nat}{q:Int}{k:Nat}(hk:k≤ws.length):∀v:Nd,v.ok k q→v.wt (ws++[w])=v.wt ws:=by
 have e:∀i:Int,inR k i→(ws++[w]).getD i.toNat 0=ws.getD i.toNat 0:=λi hi=>zmV (by have a:=hi.1; have b:=hi.2; omega)
 intro v ok
 cases v with
 | number _ _=>rfl
 | unknown _=>rfl
 | plus i j=>show _+_=_+_; rw[e i ok.1,e j ok.2]
 | minus i j=>show _+_=_+_; rw[e i ok.1,e j ok.2]
 | times i j=>show _+_=_+_; rw[e i ok.1,e j ok.2]
 | power i n=>show _*_=_*_; rw[e i ok.1]
theorem zaC.snoc {q:Int}{ns:List Nd}{ws:List Nat}(h:zaC q ns ws){v:Nd}(ok:v.ok ns.length q)(h16:v.wt ws≤16):zaC q (ns++[v]) (ws++[v.wt ws]):=by
 refine⟨by simp[h.len],λk u hu=>?_⟩
 by_cases hk:k<ns.length
 ·rw[Vao hk] at hu
  obtain⟨a,b,c,d⟩:=h.ok k u hu
  have e:=zpv (w:=v.wt ws) (q:=q) (k:=k) (by rw[h.len]; omega) u a
  rw[e,zmV (by rw[h.len]; exact hk)]
  exact⟨a,b,c,d⟩
 ·have hl:=(Vab.mp hu).1
  simp only[Vax,VaE,Va0] at hl
  have ek:k=ns.length:=by omega
  subst ek
  simp at hu
  subst hu
  have e:=zpv (w:=v.wt ws) (q:=q) (k:=ns.length) (by rw[h.len]; omega) v ok
  rw[e]
  refine⟨ok,?_,(h.w2 v ok).1,h16⟩
  rw[← h.len]
  simp
theorem zaC.take {q:Int}{ns:List Nd}{ws:List Nat}(h:zaC q ns ws)(n:Nat):zaC q (ns.take n) (ws.take n):=by
 have e:∀k:Nat,k<n→(ws.take n).getD k 0=ws.getD k 0:=λk hk=>by
  rw[Vaw,Vaw,List.getElem?_take_of_lt hk]
 refine⟨by simp[h.len],λk u hu=>?_⟩
 have hl:=(Vab.mp hu).1
 rw[Vaj] at hl
 have hk:k<n:=by omega
 rw[List.getElem?_take_of_lt hk] at hu
 obtain⟨a,b,c,d⟩:=h.ok k u hu
 have e2:u.wt (ws.take n)=u.wt ws:=by
  have f:∀i:Int,inR k i→(ws.take n).getD i.toNat 0=ws.getD i.toNat 0:=λi hi=>e _ (by have:=hi.1; have:=hi.2; omega)
  cases u with
  | number _ _=>rfl
  | unknown _=>rfl
  | plus i j=>show _+_=_+_; rw[f i a.1,f j a.2]
  | minus i j=>show _+_=_+_; rw[f i a.1,f j a.2]
  | times i j=>show _+_=_+_; rw[f i a.1,f j a.2]
  | power i m=>show _*_=_*_; rw[f i a.1]
 rw[e2,e k hk]
 exact⟨a,b,c,d⟩
def zaH (bs:List (Int×Int))(g:Int)(ns:List Nd):List (Int×Int):=ns.foldl (λacc v=>acc++[v.fw acc bs g]) []
theorem zjr (bs:List (Int×Int))(g:Int)(ns:List Nd)(v:Nd):zaH bs g (ns++[v])=zaH bs g ns++[v.fw (zaH bs g ns) bs g]:=by
 unfold zaH
 rw[List.foldl_append]
 rfl
theorem zb1 {α:Type}{xs:List α}{k:Nat}{x:α}(h:xs[k]?=some x):xs.take (k+1)=xs.take k++[x]:=by rw[List.take_succ,h]; rfl
theorem zcX (bs:List (Int×Int))(g:Int)(ns:List Nd):(zaH bs g ns).length=ns.length:=by
 have z:∀k,k≤ns.length→(zaH bs g (ns.take k)).length=k:=λk=>by
  induction k with
  | zero=>intro _; rfl
  | succ k ih=>
   intro hk
   rw[zb1 (Van (show k<ns.length by omega)),zjr]
   simp[ih (by omega)]
 have:=z ns.length (Vaa _)
 rwa [Va2] at this
def SzW (ws:List Nat)(vs:List (Int×Int)):Prop:=∀(k:Nat) (p:Int×Int),vs[k]?=some p→p.1≤p.2∧Sz (60*ws.getD k 0-1) p.1∧Sz (60*ws.getD k 0-1) p.2
theorem SzW.at {ws:List Nat}{vs:List (Int×Int)}(h:SzW ws vs){i:Int}(hi:inR vs.length i):(gt vs i).1≤(gt vs i).2∧Sz (60*ws.getD i.toNat 0-1) (gt vs i).1∧Sz (60*ws.getD i.toNat 0-1) (gt vs i).2:=by
 obtain⟨h0,h1⟩:=hi
 have hk:i.toNat<vs.length:=by omega
 have e:gt vs i=vs[i.toNat]:=by simp[gt,hk]
 rw[e]
 exact h _ _ (Van hk)
theorem fw_w {ws:List Nat}{vs bs:List (Int×Int)}{g:Int}(hs:SzW ws vs)(hb:Spn 51 bs)(hg:1≤g∧g≤1000000)(hw:∀i:Int,inR vs.length i→1≤ws.getD i.toNat 0):∀v:Nd,v.ok vs.length bs.length→Sz (60*v.wt ws-1) (v.fw vs bs g).1∧Sz (60*v.wt ws-1) (v.fw vs bs g).2
 | .number t b,ok=>by
  have z:Sz 52 (t*g):=(Sz.of (n:=31) (10^9) ok.2.2).mul (Sz.of (n:=21) (10^6) (show g.natAbs≤_ by omega))
  exact⟨(z.div ok.1.1).mono (show 52≤60*1-1 by decide),(zmL z ok.1.1).mono (show 52≤60*1-1 by decide)⟩
 | .unknown k,ok=>⟨(hb.at ok).2.1.mono (show 51≤60*1-1 by decide),(hb.at ok).2.2.mono (show 51≤60*1-1 by decide)⟩
 | .plus i j,ok=>by
  have a:=hs.at ok.1
  have b:=hs.at ok.2
  have p:=hw i ok.1
  have q:=hw j ok.2
  exact⟨(a.2.1.add b.2.1).mono (by simp only[Nd.wt]; omega),(a.2.2.add b.2.2).mono (by simp only[Nd.wt]; omega)⟩
 | .minus i j,ok=>by
  have a:=hs.at ok.1
  have b:=hs.at ok.2
  have p:=hw i ok.1
  have q:=hw j ok.2
  exact⟨(a.2.1.sub b.2.2).mono (by simp only[Nd.wt]; omega),(a.2.2.sub b.2.1).mono (by simp only[Nd.wt]; omega)⟩
 | .times i j,ok=>by
  have a:=hs.at ok.1
  have b:=hs.at ok.2
  have p:=hw i ok.1
  have q:=hw j ok.2
  have le:∀ {x y:Int},Sz (60*ws.getD i.toNat 0-1) x→Sz (60*ws.getD j.toNat 0-1) y→Sz (60*Nd.wt ws (.times i j)-1) (x*y):=λh1 h2=>(h1.mul h2).mono (by simp only[Nd.wt]; omega)
  have l:=zhZ (zhZ (le a.2.1 b.2.1) (le a.2.1 b.2.2)) (zhZ (le a.2.2 b.2.1) (le a.2.2 b.2.2))
  have u:=zh6 (zh6 (le a.2.1 b.2.1) (le a.2.1 b.2.2)) (zh6 (le a.2.2 b.2.1) (le a.2.2 b.2.2))
  exact⟨l.div hg.1,zmL u hg.1⟩
 | .power i n,ok=>by
  have a:=hs.at ok.1
  have p:=hw i ok.1
  have n2:=ok.2.1
  have gp:(1:Int)≤g^(n.toNat-1):=Vak (by omega)
  have hn:(60*ws.getD i.toNat 0-1)*n.toNat+1≤60*Nd.wt ws (.power i n)-1:=by
   simp only[Nd.wt]
   rw[Nat.sub_mul,Nat.one_mul]
   have e:60*ws.getD i.toNat 0*n.toNat=60*(n.toNat*ws.getD i.toNat 0):=by rw[Nat.mul_assoc,Nat.mul_comm (ws.getD i.toNat 0)]
   have m1:=Nat.mul_le_mul (Vaa n.toNat) p
   omega
  have p1:Sz (60*Nd.wt ws (.power i n)-1) ((gt vs i).1^n.toNat):=(a.2.1.pow _).mono hn
  have p2:Sz (60*Nd.wt ws (.power i n)-1) ((gt vs i).2^n.toNat):=(a.2.2.pow _).mono hn
  have l:Sz (60*Nd.wt ws (.power i n)-1) (zbE (gt vs i).1 (gt vs i).2 n.toNat):=by
   unfold zbE
   split
   ·exact(Sz.of (n:=1) 0 (by decide)).mono (by have:=Nat.mul_le_mul (show 1≤n.toNat by omega) p; simp only[Nd.wt]; omega)
   ·exact zhZ p1 p2
  exact⟨l.div gp,zmL (zh6 p1 p2) gp⟩
theorem Spn.of_w {ws:List Nat}{vs:List (Int×Int)}(h:SzW ws vs)(hw:∀k:Nat,k<vs.length→ws.getD k 0≤16):Spn 1000 vs:=λp hp=>by
 obtain⟨k,hk,e⟩:=VaI.mp hp
 obtain⟨a,b,c⟩:=h k p (by rw[Van hk,e])
 have:=hw k hk
 exact⟨a,b.mono (by omega),c.mono (by omega)⟩
theorem ztO {q:Int}{ns:List Nd}{ws:List Nat}{bs:List (Int×Int)}{g:Int}(h:zaC q ns ws)(hq:q=bs.length)(hb:Spn 51 bs)(hg:1≤g∧g≤1000000):∀k,k≤ns.length→SzW ws (zaH bs g (ns.take k)):=λk=>by
 induction k with
 | zero=>intro _ i p hp; simp[zaH] at hp
 | succ k ih=>
  intro hk
  have hv:=Van (show k<ns.length by omega)
  have s:=ih (by omega)
  have ln:(zaH bs g (ns.take k)).length=k:=by rw[zcX,Vaj]; omega
  obtain⟨ok,e,_,_⟩:=h.ok k _ hv
  rw[zb1 hv,zjr]
  have okv:(ns[k]).ok (zaH bs g (ns.take k)).length bs.length:=by rw[ln,← hq]; exact ok
  have w1:∀i:Int,inR (zaH bs g (ns.take k)).length i→1≤ws.getD i.toNat 0:=λi hi=>(h.w1 (i:=i) (by rw[ln] at hi; exact⟨hi.1,by have:=hi.2; omega⟩)).1
  have z:=fw_w s hb hg w1 ns[k] okv
  have l:((ns[k]).fw (zaH bs g (ns.take k)) bs g).1≤((ns[k]).fw (zaH bs g (ns.take k)) bs g).2:=by
   refine Nd.fw_le (B:=6000) ?_ (hb.mono (by decide)) hg.1 _ okv
   intro p hp
   obtain⟨i,hi,ei⟩:=VaI.mp hp
   obtain⟨a,b,c⟩:=s i p (by rw[Van hi,ei])
   have:=(h.w1 (i:=i) ⟨by omega,by rw[ln] at hi; omega⟩).2
   rw[Vag] at this
   exact⟨a,b.mono (by omega),c.mono (by omega)⟩
  intro i p hp
  by_cases hi:i<k
  ·rw[Vao (by rw[ln]; exact hi)] at hp
   exact s i p hp
  ·have hl:=(Vab.mp hp).1
   simp only[Vax,VaE,Va0,ln] at hl
   have ei:i=k:=by omega
   subst ei
   rw[VaK (by rw[ln]; exact Vaa _),ln,Nat.sub_self] at hp
   simp at hp
   subst hp
   rw[e]
   exact⟨l,z⟩
theorem zfm {q:Int}{ns:List Nd}{ws:List Nat}{bs:List (Int×Int)}{g:Int}(h:zaC q ns ws)(hq:q=bs.length)(hb:Spn 51 bs)(hg:1≤g∧g≤1000000)(k:Nat)(hk:k≤ns.length):Spn 1000 (zaH bs g (ns.take k)):=
 Spn.of_w (ztO h hq hb hg k hk) λi hi=>by
  rw[zcX,Vaj] at hi
  have:=(h.w1 (i:=i) ⟨by omega,by omega⟩).2
  rwa [Vag] at this
theorem zci {S T:Sto}{n:Nat}{o:Ob}(h:Pre S T)(hn:S.length≤n):Pre S (T.set n o):=λk u e=>by
 have hk:=(Vab.mp e).1
 rw[VaR (by omega)]
 exact h k u e
theorem zfY {S T:Sto}(h:Pre S T)(U:Sto):Pre S (T++U):=λk u e=>zaN (h k u e)
theorem zql {to te:TDE}{dl:Ev}{S S1 S2:Sto}{Q:DK}{n:Nat}{xs:List D}{y:D}(hto:∀K:DK,K (.ref n) S1→to dl S K)(h:S1[n]?=some (.lst xs))(hte:∀K:DK,K y S2→te dl S1 K)(h2:S2[n]?=some (.lst xs))(hl:xs.length<1000)(hq:Q .non (S2.set n (.lst (xs++[y])))):zc8 to te dl S Q:=by
 unfold zc8
 refine hto _ ?_
 simp only[h]
 refine hte _ ?_
 simp only[h2,if_pos hl]
 exact hq
theorem zmG (u v:Nd):∃b,eqN 1 u.d v.d=some b:=by cases u <;> cases v <;> exact⟨_,rfl⟩
theorem zod (u:Nd):eqN 1 u.d u.d=some true:=by cases u <;> simp[Nd.d,eqN,L3.eqT,eqL,eqF]
theorem zie (v:Nd):∀ns:List Nd,∃b,zbG (eqN 1) (ns.map Nd.d) v.d=some b
 | []=>⟨false,rfl⟩
 | u::us=>by
  obtain⟨b,e⟩:=zmG u v
  obtain⟨c,e2⟩:=zie v us
  refine⟨b||c,?_⟩
  show (match eqN 1 u.d v.d,zbG (eqN 1) (us.map Nd.d) v.d with | some b,some c=>some (b||c) | _,_=>none)=_
  rw[e,e2]
theorem zor:∀ns:List Nd,eqL (eqN 1) (ns.map Nd.d) (ns.map Nd.d)=some true
 | []=>rfl
 | u::us=>by
  show (match eqN 1 u.d u.d,eqL (eqN 1) (us.map Nd.d) (us.map Nd.d) with | some b,some c=>some (b&&c) | _,_=>none)=_
  rw[zod,zor us]
  rfl
theorem zsG {v:Nd}{ns:List Nd}{n:Nat}{S:Sto}{Q:DK}(h:S[n]?=some (.lst (ns.map Nd.d)))(hq:∀b:Bool,Q (.bl b) S):zbK (wIn 1 true) v.d (.ref n) S Q:=by
 obtain⟨b,e⟩:=zie v ns
 rw[zb4]
 unfold wIn
 simp only[za4 h rfl,zas,e]
 exact hq _
def wtD (w:Nat):D:=.int (w:Int)
theorem zdx {ws:List Nat}{i:Int}(h:inR ws.length i):atI (ws.map wtD) i=some (.int ((ws.getD i.toNat 0:Nat):Int)):=by
 obtain⟨h0,h1⟩:=h
 have hk:i.toNat<ws.length:=by omega
 have z:=ziL (xs:=ws.map wtD) (j:=i.toNat) (v:=wtD (ws.getD i.toNat 0)) (by rw[Vap,Van hk]; simp[hk])
 rw[show ((i.toNat:Nat):Int)=i by omega] at z
 exact z
theorem zq6 (q:Nat):zaC q ((List.range q).map λ(k:Nat)=>Nd.unknown (k:Int)) ((List.range q).map λ_=>1):=by
 refine⟨by simp,λk v hv=>?_⟩
 have hl:=(Vab.mp hv).1
 simp only[Vac,List.length_range] at hl
 rw[Vap,List.getElem?_range hl] at hv
 cases hv
 refine⟨⟨by omega,by omega⟩,?_,Vaa _,show 1≤16 by decide⟩
 simp[Nd.wt,hl]
theorem ztm {u v:Nd}(h:eqN 1 u.d v.d=some true):u=v:=by
 cases u <;> cases v <;> simp[Nd.d,eqN,L3.eqT,eqL,eqF] at h
 all_goals first | (obtain⟨rfl,rfl⟩:=h; rfl) | (subst h; rfl) | exact absurd h.1 (by decide)
theorem znx (v:Nd):∀ns:List Nd,∃o:Option Nat,zcJ (eqN 1) (ns.map Nd.d) v.d=some o∧zbG (eqN 1) (ns.map Nd.d) v.d=some o.isSome∧∀j,o=some j→ns[j]?=some v
 | []=>⟨none,rfl,rfl,λj h=>by cases h⟩
 | u::us=>by
  obtain⟨b,e⟩:=zmG u v
  obtain⟨o,h1,h2,h3⟩:=znx v us
  have f1:zcJ (eqN 1) ((u::us).map Nd.d) v.d=(match eqN 1 u.d v.d,zcJ (eqN 1) (us.map Nd.d) v.d with | some true,some _=>some (some 0) | some false,some o=>some (o.map (·+1)) | _,_=>none):=rfl
  have f2:zbG (eqN 1) ((u::us).map Nd.d) v.d=(match eqN 1 u.d v.d,zbG (eqN 1) (us.map Nd.d) v.d with | some b,some c=>some (b||c) | _,_=>none):=rfl
  rw[f1,f2,e,h1,h2]
  cases b with
  | true=>exact⟨some 0,rfl,rfl,λj hj=>by
    cases hj
    rw[ztm e]
    rfl⟩
  | false=>exact⟨o.map (·+1),rfl,by cases o <;> rfl,λj hj=>by
    cases o with
    | none=>cases hj
    | some i=>
     cases hj
     exact h3 i rfl⟩
theorem zpN {v:Nd}{ns:List Nd}{n j:Nat}{to:TDE}{t:TDA}{dl:Ev}{S:Sto}{Q:DK}(hto:∀K:DK,K (.ref n) S→to dl S K)(ht:∀K:List D→Sto→Prop,K [v.d] S→t dl S K)(h:S[n]?=some (.lst (ns.map Nd.d)))(e:zcJ (eqN 1) (ns.map Nd.d) v.d=some (some j))(hq:Q (.int (j:Int)) S):zkC 1 to t dl S Q:=by
 unfold zkC
 refine hto _ ⟨by rw[za4 h rfl]; rfl,ht _ ?_⟩
 unfold zkG
 simp only[za4 h rfl,zas,e]
 exact hq
theorem znf {k m q:Int}(h:k≤m):∀ {v:Nd},v.ok k q→v.ok m q:=λ{v} ok=>by
 have z:∀i:Int,inR k i→inR m i:=λi hi=>⟨hi.1,by have:=hi.2; omega⟩
 cases v with
 | number _ _=>exact ok
 | unknown _=>exact ok
 | plus i j=>exact⟨z _ ok.1,z _ ok.2⟩
 | minus i j=>exact⟨z _ ok.1,z _ ok.2⟩
 | times i j=>exact⟨z _ ok.1,z _ ok.2⟩
 | power i n=>exact⟨z _ ok.1,ok.2⟩
theorem zvF {vs us:List (Int×Int)}{k:Nat}{i:Int}(h:inR k i)(hk:k≤vs.length):gt (vs++us) i=gt vs i:=by
 have:=h.1
 have:=h.2
 unfold gt
 rw[Vaw,Vaw,Vao (by omega)]
theorem SzW.snoc {ws:List Nat}{vs:List (Int×Int)}{p:Int×Int}(h:SzW ws vs)(h1:p.1≤p.2)(h2:Sz (60*ws.getD vs.length 0-1) p.1)(h3:Sz (60*ws.getD vs.length 0-1) p.2):SzW ws (vs++[p]):=λk q hq=>by
 by_cases hk:k<vs.length
 ·rw[Vao hk] at hq
  exact h k q hq
 ·have hl:=(Vab.mp hq).1
  simp only[Vax,VaE,Va0] at hl
  have ek:k=vs.length:=by omega
  subst ek
  simp at hq
  subst hq
  exact⟨h1,h2,h3⟩
theorem zmk {A B x:Int}(y:Int)(h1:A≤x)(h2:x≤B):min (A*y) (B*y)≤x*y∧x*y≤max (A*y) (B*y):=by
 rcases Va6 0 y with h | h
 ·have a:=Vaf h1 h
  have b:=Vaf h2 h
  omega
 ·have a:=Vaf h1 (show 0≤-y by omega)
  have b:=Vaf h2 (show 0≤-y by omega)
  simp only[Va5] at a b
  omega
theorem zqq {A B C D x y:Int}(h1:A≤x)(h2:x≤B)(h3:C≤y)(h4:y≤D):mn4 A B C D≤x*y∧x*y≤mx4 A B C D:=by
 have a:=zmk y h1 h2
 have b:=zmk A h3 h4
 have c:=zmk B h3 h4
 rw[Vav C A,Vav D A,Vav y A] at b
 rw[Vav C B,Vav D B,Vav y B] at c
 unfold mn4 mx4
 omega
theorem zkV {vs:List (Int×Int)}{p:Int×Int}{i:Int}(h:inR vs.length i):gt (vs++[p]) i=gt vs i:=by
 have hk:i.toNat<vs.length:=by
  have:=h.1
  have:=h.2
  omega
 simp only[gt,Vaw,Vao hk]
theorem zge {vs:List (Int×Int)}{p:Int×Int}{k:Nat}(h:vs.length=k):gt (vs++[p]) (k:Int)=p:=by
 subst h
 simp[gt]
def Gd (B:Nat)(vs:List (Int×Int)):Prop:=∀p∈vs,1≤p.2∧Int.gcd p.1 p.2=1∧Sz B p.1∧Sz B p.2
theorem Gd.at {B:Nat}{vs:List (Int×Int)}(h:Gd B vs){i:Int}(hi:inR vs.length i):1≤(gt vs i).2∧Int.gcd (gt vs i).1 (gt vs i).2=1∧Sz B (gt vs i).1∧Sz B (gt vs i).2:=h _ (zce hi)
theorem Gd.mono {B C:Nat}{vs:List (Int×Int)}(h:Gd B vs)(hc:B≤C):Gd C vs:=λp hp=>⟨(h p hp).1,(h p hp).2.1,(h p hp).2.2.1.mono hc,(h p hp).2.2.2.mono hc⟩
def Pz (B:Nat)(vs:List (Int×Int)):Prop:=∀p∈vs,1≤p.2∧Sz B p.1∧Sz B p.2
theorem Pz.at {B:Nat}{vs:List (Int×Int)}(h:Pz B vs){i:Int}(hi:inR vs.length i):1≤(gt vs i).2∧Sz B (gt vs i).1∧Sz B (gt vs i).2:=h _ (zce hi)
def Nd.due (vs ps:List (Int×Int)):Nd→Int×Int
 | .number t b=>(t,b)
 | .unknown k=>gt ps k
 | .plus i j=>((gt vs i).1*(gt vs j).2+(gt vs j).1*(gt vs i).2,(gt vs i).2*(gt vs j).2)
 | .minus i j=>((gt vs i).1*(gt vs j).2-(gt vs j).1*(gt vs i).2,(gt vs i).2*(gt vs j).2)
 | .times i j=>((gt vs i).1*(gt vs j).1,(gt vs i).2*(gt vs j).2)
 | .power i n=>((gt vs i).1^n.toNat,(gt vs i).2^n.toNat)
def PzW (ws:List Nat)(vs:List (Int×Int)):Prop:=∀(k:Nat) (p:Int×Int),vs[k]?=some p→1≤p.2∧Sz (112*ws.getD k 0-2) p.1∧Sz (112*ws.getD k 0-2) p.2
theorem PzW.at {ws:List Nat}{vs:List (Int×Int)}(h:PzW ws vs){i:Int}(hi:inR vs.length i):1≤(gt vs i).2∧Sz (112*ws.getD i.toNat 0-2) (gt vs i).1∧Sz (112*ws.getD i.toNat 0-2) (gt vs i).2:=by
 obtain⟨h0,h1⟩:=hi
 have hk:i.toNat<vs.length:=by omega
 have e:gt vs i=vs[i.toNat]:=by simp[gt,hk]
 rw[e]
 exact h _ _ (Van hk)
theorem due_w {ws:List Nat}{vs ps:List (Int×Int)}(hs:PzW ws vs)(hp:Pz 110 ps)(hw:∀i:Int,inR vs.length i→1≤ws.getD i.toNat 0):∀v:Nd,v.ok vs.length ps.length→1≤(v.due vs ps).2∧Sz (112*v.wt ws-2) (v.due vs ps).1∧Sz (112*v.wt ws-2) (v.due vs ps).2
 | .number t b,ok=>⟨ok.1.1,(Sz.of (n:=31) (10^9) ok.2.2).mono (show 31≤112*1-2 by decide),(Sz.of (n:=31) (10^9) (by have:=ok.1; show b.natAbs≤_; omega)).mono (show 31≤112*1-2 by decide)⟩
 | .unknown k,ok=>⟨(hp.at ok).1,(hp.at ok).2.1.mono (show 110≤112*1-2 by decide),(hp.at ok).2.2.mono (show 110≤112*1-2 by decide)⟩
 | .plus i j,ok=>by
  have a:=hs.at ok.1
  have b:=hs.at ok.2
  have p:=hw i ok.1
  have q:=hw j ok.2
  exact⟨VaU (show 0<_ by omega) (show 0<_ by omega),((a.2.1.mul b.2.2).add (b.2.1.mul a.2.2)).mono (by simp only[Nd.wt]; omega),(a.2.2.mul b.2.2).mono (by simp only[Nd.wt]; omega)⟩
 | .minus i j,ok=>by
  have a:=hs.at ok.1
  have b:=hs.at ok.2
  have p:=hw i ok.1
  have q:=hw j ok.2
  exact⟨VaU (show 0<_ by omega) (show 0<_ by omega),((a.2.1.mul b.2.2).sub (b.2.1.mul a.2.2)).mono (by simp only[Nd.wt]; omega),(a.2.2.mul b.2.2).mono (by simp only[Nd.wt]; omega)⟩
 | .times i j,ok=>by
  have a:=hs.at ok.1
  have b:=hs.at ok.2
  have p:=hw i ok.1
  have q:=hw j ok.2
  exact⟨VaU (show 0<_ by omega) (show 0<_ by omega),(a.2.1.mul b.2.1).mono (by simp only[Nd.wt]; omega),(a.2.2.mul b.2.2).mono (by simp only[Nd.wt]; omega)⟩
 | .power i n,ok=>by
  have a:=hs.at ok.1
  have p:=hw i ok.1
  have n2:=ok.2.1
  have hn:(112*ws.getD i.toNat 0-2)*n.toNat+1≤112*Nd.wt ws (.power i n)-2:=by
   simp only[Nd.wt]
   rw[Nat.sub_mul]
   have e:112*ws.getD i.toNat 0*n.toNat=112*(n.toNat*ws.getD i.toNat 0):=by rw[Nat.mul_assoc,Nat.mul_comm (ws.getD i.toNat 0)]
   have m1:=Nat.mul_le_mul (Vaa n.toNat) p
   omega
  exact⟨Vak (show 0<_ by omega),(a.2.1.pow _).mono hn,(a.2.2.pow _).mono hn⟩
def zaB (ps:List (Int×Int))(ns:List Nd):List (Int×Int):=ns.foldl (λacc v=>acc++[v.due acc ps]) []
theorem zdw (ps:List (Int×Int))(ns:List Nd)(v:Nd):zaB ps (ns++[v])=zaB ps ns++[v.due (zaB ps ns) ps]:=by
 unfold zaB
 rw[List.foldl_append]
 rfl
theorem zc6 (ps:List (Int×Int))(ns:List Nd):(zaB ps ns).length=ns.length:=by
 have z:∀k,k≤ns.length→(zaB ps (ns.take k)).length=k:=λk=>by
  induction k with
  | zero=>intro _; rfl
  | succ k ih=>
   intro hk
   rw[zb1 (Van (show k<ns.length by omega)),zdw]
   simp[ih (by omega)]
 have y:=z ns.length (Vaa _)
 rwa [Va2] at y
theorem zut {ws:List Nat}{vs:List (Int×Int)}{p:Int×Int}{k:Nat}(h:PzW ws vs)(lk:vs.length=k)(hp:1≤p.2∧Sz (112*ws.getD k 0-2) p.1∧Sz (112*ws.getD k 0-2) p.2):PzW ws (vs++[p]):=λi q hq=>by
 by_cases hi:i<k
 ·rw[Vao (by omega)] at hq
  exact h i q hq
 ·have hl:=(Vab.mp hq).1
  simp only[Vax,VaE,Va0,lk] at hl
  have ei:i=k:=by omega
  subst ei
  rw[VaK (by omega),lk,Nat.sub_self] at hq
  simp at hq
  subst hq
  exact hp
theorem zun {q:Int}{ns:List Nd}{ws:List Nat}(h:zaC q ns ws){k:Nat}{vs:List (Int×Int)}(hk:k≤ns.length)(lv:vs.length=k):∀i:Int,inR vs.length i→1≤ws.getD i.toNat 0:=λi hi=>(h.w1 (i:=i) ⟨hi.1,by have:=hi.2; omega⟩).1
theorem zh8 {q:Int}{ns:List Nd}{ws:List Nat}{ps:List (Int×Int)}(h:zaC q ns ws)(hq:q=ps.length)(hp:Pz 110 ps):∀k,k≤ns.length→PzW ws (zaB ps (ns.take k)):=by
 intro k
 induction k with
 | zero=>intro _ i p hp; simp[zaB] at hp
 | succ k ih=>
  intro hk
  have hv:=Van (show k<ns.length by omega)
  have s:=ih (by omega)
  have ln:(zaB ps (ns.take k)).length=k:=by rw[zc6,Vaj]; omega
  obtain⟨ok,e,_,_⟩:=h.ok k _ hv
  rw[zb1 hv,zdw]
  refine zut s ln ?_
  rw[e]
  exact due_w s hp (zun h (by omega) ln) _ (by rw[ln,← hq]; exact ok)
theorem Pz.of_w {ws:List Nat}{vs:List (Int×Int)}(h:PzW ws vs)(hw:∀k:Nat,k<vs.length→ws.getD k 0≤16):Pz 1800 vs:=λp hp=>by
 obtain⟨k,hk,e⟩:=VaI.mp hp
 obtain⟨a,b,c⟩:=h k p (by rw[Van hk,e])
 have:=hw k hk
 exact⟨a,b.mono (by omega),c.mono (by omega)⟩
theorem zeL {p q k:Int}(h:0≤k):min (p*k) (q*k)=min p q*k∧max (p*k) (q*k)=max p q*k:=by
 rcases Va6 p q with c | c
 ·have:=Vaf c h
  rw[Int.min_eq_left c,Int.max_eq_right c]
  omega
 ·have:=Vaf c h
  rw[Int.min_eq_right c,Int.max_eq_left c]
  omega
theorem zp0 {a b c d p q:Int}(h:0≤p*q):mn4 (a*p) (b*p) (c*q) (d*q)=mn4 a b c d*(p*q)∧mx4 (a*p) (b*p) (c*q) (d*q)=mx4 a b c d*(p*q):=by
 have e:∀x y:Int,x*p*(y*q)=x*y*(p*q):=λx y=>by grind
 unfold mn4 mx4
 rw[e,e,e,e]
 refine⟨?_,?_⟩
 ·rw[(zeL h).1,(zeL h).1,(zeL h).1]
 ·rw[(zeL h).2,(zeL h).2,(zeL h).2]
theorem zs2 {a b p x:Int}{n:Nat}(hn:1≤n)(hp:1≤p)(h1:a*p≤x)(h2:x≤b*p):zbE a b n*p^n≤x^n∧x^n≤zc4 a b n*p^n:=by
 have pp:0<p^n:=Vak (by omega)
 have lo1:zbE a b n≤a^n:=by
  unfold zbE
  split
  ·rename_i c; exact ze5 c.1 a
  ·omega
 have lo2:zbE a b n≤b^n:=by
  unfold zbE
  split
  ·rename_i c; exact ze5 c.1 b
  ·omega
 refine zo8 hn h1 h2 ?_ ?_ (λha hb=>?_) ?_ ?_
 ·rw[VaA]; exact Vaf lo1 (by omega)
 ·rw[VaA]; exact Vaf lo2 (by omega)
 ·have a0:a<0:=by
   by_cases c:a<0
   ·exact c
   ·have:=Vah (show 0≤a by omega) (show 0≤p by omega)
    omega
  have b0:0<b:=by
   by_cases c:0<b
   ·exact c
   ·have:=Vah (show 0≤-b by omega) (show 0≤p by omega)
    rw[Vae] at this
    omega
  have z:zbE a b n≤0:=by
   unfold zbE
   split
   ·exact VaL _
   ·rename_i c
    have:=zpV (n:=n) (by omega) a0
    omega
  have:=Vah (show 0≤-zbE a b n by omega) (show 0≤p^n by omega)
  rw[Vae] at this
  omega
 ·rw[VaA]; exact Vaf (by unfold zc4; omega) (by omega)
 ·rw[VaA]; exact Vaf (by unfold zc4; omega) (by omega)
theorem zpI {m M G X B:Int}(hG:1≤G)(hB:0≤B)(h1:m*B≤X*G)(h2:X*G≤M*B):m/G*B≤X∧X≤-(-M/G)*B:=by
 have a:=Vaf (zla m (show 0<G by omega)).1 hB
 have b:=Vaf (zot M (show 0<G by omega)).1 hB
 have e1:m/G*G*B=m/G*B*G:=by grind
 have e2:-(-M/G)*G*B=-(-M/G)*B*G:=by grind
 rw[e1] at a
 rw[e2] at b
 exact⟨Va1 (a:=G) (by omega) (by omega),Va1 (a:=G) (by omega) (by omega)⟩
theorem zos {to te:TDE}{dl:Ev}{S S1:Sto}{Q:DK}{n:Nat}{xs:List D}(hto:∀K:DK,K (.ref n) S1→to dl S K)(h1:S1[n]?=some (.lst xs))(hte:te dl S1 λy S2=>match S2[n]? with
   | some (.lst xs)=>if xs.length<1000 then Q .non (S2.set n (.lst (xs++[y]))) else False
   | _=>False):zc8 to te dl S Q:=by
 unfold zc8
 refine hto _ ?_
 simp only[h1]
 exact hte
theorem zoV {S2:Sto}{n:Nat}{xs:List D}{P:List D→Prop}(h:S2[n]?=some (.lst xs))(hl:xs.length<1000)(hq:P xs):match S2[n]? with
   | some (.lst xs)=>if xs.length<1000 then P xs else False
   | _=>False:=by
 rw[h]
 simp only[if_pos hl]
 exact hq
theorem zpi {lo hi w p g t b:Int}(h:lo≤hi)(hw:1≤w)(hg:1≤g)(p0:0≤p)(p1:p≤w)(hb:1≤b)(e:t*(g*w)=(lo*w+(hi-lo)*p)*b):lo*b≤t*g∧t*g≤hi*b:=by
 have a1:=Vah (show 0≤hi-lo by omega) p0
 have a2:=Va4 p1 (show 0≤hi-lo by omega)
 have b1:=Vaf (show lo*w≤lo*w+(hi-lo)*p by omega) (show 0≤b by omega)
 have e2:(hi-lo)*w=hi*w-lo*w:=by grind
 have b2:=Vaf (show lo*w+(hi-lo)*p≤hi*w by omega) (show 0≤b by omega)
 rw[← e] at b1 b2
 have c1:lo*w*b=lo*b*w:=by grind
 have c2:hi*w*b=hi*b*w:=by grind
 have c3:t*(g*w)=t*g*w:=by grind
 rw[c1,c3] at b1
 rw[c2,c3] at b2
 exact⟨Va1 b1 (by omega),Va1 b2 (by omega)⟩
theorem zp5 {lo hi w p:Int}(h:lo≤hi)(s1:Sz 51 lo)(s2:Sz 51 hi)(hw:1≤w∧w≤1000000000)(p0:0≤p)(p1:p≤w):IntMulOk lo w∧IntMulOk (hi-lo) p∧Sz 84 (lo*w+(hi-lo)*p):=by
 have sw:Sz 30 w:=Sz.of 1000000000 (by omega)
 have sp:Sz 30 p:=Sz.of 1000000000 (by omega)
 have sd:Sz 52 (hi-lo):=s2.sub s1
 exact⟨zaE s1 sw,zaE sd sp,((s1.mul sw).add (sd.mul sp)).mono (by decide)⟩
def InW (g:Int)(vs ds:List (Int×Int)):Prop:=∀i:Int,inR ds.length i→(gt vs i).1*(gt ds i).2≤(gt ds i).1*g∧(gt ds i).1*g≤(gt vs i).2*(gt ds i).2
theorem zux {vs bs ds ps:List (Int×Int)}{g:Int}{B:Nat}(hg:1≤g)(h:InW g vs ds)(hp:InW g bs ps)(pd:Pz B ds)(pp:Pz B ps):∀v:Nd,v.ok ds.length ps.length→(v.fw vs bs g).1*(v.due ds ps).2≤(v.due ds ps).1*g∧(v.due ds ps).1*g≤(v.fw vs bs g).2*(v.due ds ps).2
 | .number t b,ok=>⟨(zla (t*g) (show 0<b by have:=ok.1.1; omega)).1,(zot (t*g) (show 0<b by have:=ok.1.1; omega)).1⟩
 | .unknown k,ok=>hp k ok
 | .plus i j,ok=>by
  have a:=h i ok.1
  have b:=h j ok.2
  have p1:=(pd.at ok.1).1
  have p2:=(pd.at ok.2).1
  simp only[Nd.fw,Nd.due]
  have a1:=Vaf a.1 (show 0≤(gt ds j).2 by omega)
  have a2:=Vaf a.2 (show 0≤(gt ds j).2 by omega)
  have b1:=Vaf b.1 (show 0≤(gt ds i).2 by omega)
  have b2:=Vaf b.2 (show 0≤(gt ds i).2 by omega)
  grind
 | .minus i j,ok=>by
  have a:=h i ok.1
  have b:=h j ok.2
  have p1:=(pd.at ok.1).1
  have p2:=(pd.at ok.2).1
  simp only[Nd.fw,Nd.due]
  have a1:=Vaf a.1 (show 0≤(gt ds j).2 by omega)
  have a2:=Vaf a.2 (show 0≤(gt ds j).2 by omega)
  have b1:=Vaf b.1 (show 0≤(gt ds i).2 by omega)
  have b2:=Vaf b.2 (show 0≤(gt ds i).2 by omega)
  grind
 | .times i j,ok=>by
  have a:=h i ok.1
  have b:=h j ok.2
  have p1:=(pd.at ok.1).1
  have p2:=(pd.at ok.2).1
  have pq:0≤(gt ds i).2*(gt ds j).2:=Vah (by omega) (by omega)
  have z:=zqq a.1 a.2 b.1 b.2
  rw[(zp0 pq).1,(zp0 pq).2] at z
  have e:(gt ds i).1*g*((gt ds j).1*g)=(gt ds i).1*(gt ds j).1*g*g:=by grind
  rw[e] at z
  exact zpI hg pq z.1 z.2
 | .power i n,ok=>by
  have a:=h i ok.1
  have p1:=(pd.at ok.1).1
  have n2:=ok.2.1
  obtain⟨k,hk⟩:∃k,n.toNat=k+1:=⟨n.toNat-1,by omega⟩
  have z:=zs2 (n:=n.toNat) (by omega) p1 a.1 a.2
  have e:((gt ds i).1*g)^n.toNat=(gt ds i).1^n.toNat*g*g^(n.toNat-1):=by
   rw[VaA,hk,Nat.add_sub_cancel,Vad g k]
   grind
  rw[e] at z
  exact zpI (Vak (by omega)) (Vaq (Vak (by omega))) z.1 z.2
theorem zrv {q:Int}{ns:List Nd}{ws:List Nat}{bs ps:List (Int×Int)}{g:Int}(h:zaC q ns ws)(hq:q=bs.length)(hqp:q=ps.length)(hg:1≤g)(hp:InW g bs ps)(pp:Pz 110 ps):∀k,k≤ns.length→InW g (zaH bs g (ns.take k)) (zaB ps (ns.take k)):=by
 intro k
 induction k with
 | zero=>intro _ i hi; exact absurd hi.2 (by have:=hi.1; simp[zaB]; omega)
 | succ k ih=>
  intro hk i hi
  have hv:ns[k]?=some ns[k]:=Van (by omega)
  obtain⟨ok,_⟩:=h.ok k _ hv
  have ln:(zaH bs g (ns.take k)).length=k:=by rw[zcX,Vaj]; omega
  have lN:(zaB ps (ns.take k)).length=k:=by rw[zc6,Vaj]; omega
  rw[zb1 hv,zdw] at hi
  rw[zb1 hv,zjr,zdw]
  have hi2:i<k+1:=by have:=hi.2; simp only[Vax,VaE,Va0,lN] at this; omega
  by_cases c:i<k
  ·rw[zkV (by rw[ln]; exact⟨hi.1,c⟩),zkV (by rw[lN]; exact⟨hi.1,c⟩)]
   exact ih (by omega) i (by rw[lN]; exact⟨hi.1,c⟩)
  ·have e:i=k:=by omega
   subst e
   rw[zge ln,zge lN]
   have pz:Pz 1800 (zaB ps (ns.take k)):=Pz.of_w (zh8 h hqp pp k (by omega)) λj hj=>(h.w1 (i:=j) ⟨by omega,by omega⟩).2
   refine zux (B:=1800) hg (ih (by omega)) hp pz (λp hp=>⟨(pp p hp).1,(pp p hp).2.1.mono (by decide),(pp p hp).2.2.mono (by decide)⟩) _ ?_
   rw[lN,← hqp]
   exact ok
theorem zvU {v:Nd}{ns:List Nd}{n:Nat}{S:Sto}{Q:DK}{o:Option Nat}(h:S[n]?=some (.lst (ns.map Nd.d)))(e:zbG (eqN 1) (ns.map Nd.d) v.d=some o.isSome)(hq:Q (.bl (!o.isSome)) S):zbK (wIn 1 true) v.d (.ref n) S Q:=by
 rw[zb4]
 unfold wIn
 simp only[za4 h rfl,zas,e]
 exact hq
theorem any_some {v:Nd}:∀ {ns:List Nd} {k:Nat},ns[k]?=some v→zbG (eqN 1) (ns.map Nd.d) v.d≠some (none:Option Nat).isSome
 | [],k,h=>by simp at h
 | u::us,0,h=>by
  have e:u=v:=by simpa using h
  subst e
  show (match eqN 1 u.d u.d,zbG (eqN 1) (us.map Nd.d) u.d with | some b,some c=>some (b||c) | _,_=>none)≠_
  obtain⟨c,hc⟩:=zie u us
  rw[zod,hc]
  simp
 | u::us,k+1,h=>by
  have ih:=any_some (ns:=us) (k:=k) (by simpa using h)
  show (match eqN 1 u.d v.d,zbG (eqN 1) (us.map Nd.d) v.d with | some b,some c=>some (b||c) | _,_=>none)≠_
  obtain⟨b,hb⟩:=zmG u v
  obtain⟨c,hc⟩:=zie v us
  rw[hc] at ih
  rw[hb,hc]
  cases c
  ·exact absurd rfl ih
  ·simp
theorem zn1 {vs us ps:List (Int×Int)}{k:Nat}{q:Int}(h:∀i:Int,inR k i→gt vs i=gt us i):∀v:Nd,v.ok k q→v.due vs ps=v.due us ps
 | .number _ _,_=>rfl
 | .unknown _,_=>rfl
 | .plus i j,ok=>by simp only[Nd.due,h i ok.1,h j ok.2]
 | .minus i j,ok=>by simp only[Nd.due,h i ok.1,h j ok.2]
 | .times i j,ok=>by simp only[Nd.due,h i ok.1,h j ok.2]
 | .power i n,ok=>by simp only[Nd.due,h i ok.1]
theorem zo5 (P:List (Int×Int))(ns:List Nd):∀ms:List Nd,∃r,zaB P (ns++ms)=zaB P ns++r
 | []=>⟨[],by rw[Va3,Va3]⟩
 | v::ms=>by
  obtain⟨r,e⟩:=zo5 P (ns++[v]) ms
  rw[List.append_assoc] at e
  refine⟨v.due (zaB P ns) P::r,?_⟩
  rw[show ns++v::ms=ns++([v]++ms) from rfl,e,zdw,List.append_assoc]
  rfl
theorem znl {P:List (Int×Int)}{ns ms:List Nd}{i:Int}(h:inR ns.length i):gt (zaB P (ns++ms)) i=gt (zaB P ns) i:=by
 obtain⟨r,e⟩:=zo5 P ns ms
 rw[e]
 exact zvF (k:=ns.length) h (by rw[zc6]; exact Vaa _)
theorem zo7 {P:List (Int×Int)}{ns:List Nd}{ws:List Nat}{q:Int}{j:Nat}{v:Nd}(net:zaC q ns ws)(h:ns[j]?=some v):gt (zaB P ns) (j:Int)=v.due (zaB P ns) P:=by
 have hj:=(Vab.mp h).1
 have e:ns=ns.take (j+1)++ns.drop (j+1):=(List.take_append_drop _ _).symm
 have e2:ns=ns.take j++ns.drop j:=(List.take_append_drop _ _).symm
 have l:(ns.take (j+1)).length=j+1:=by rw[Vaj]; omega
 have lj:(ns.take j).length=j:=by rw[Vaj]; omega
 have g1:gt (zaB P ns) (j:Int)=gt (zaB P (ns.take (j+1))) (j:Int):=by
  have z:=znl (P:=P) (ns:=ns.take (j+1)) (ms:=ns.drop (j+1)) (i:=(j:Int)) ⟨by omega,by rw[l]; omega⟩
  rw[← e] at z
  exact z
 rw[g1,zb1 h,zdw,zge (by rw[zc6,lj])]
 refine zn1 (k:=j) (q:=q) (λi hi=>?_) v (net.ok j v h).1
 have z:=znl (P:=P) (ns:=ns.take j) (ms:=ns.drop j) (i:=i) (by rw[lj]; exact hi)
 rw[← e2] at z
 exact z.symm
theorem zqT {ws us:List Nat}{i:Nat}(h:i<ws.length):(ws++us).getD i 0=ws.getD i 0:=by rw[Vaw,Vaw,Vao h]
structure Gr (q a c:Nat)(S:Sto)(ns:List Nd)(ws:List Nat)(T:Sto)(ns':List Nd)(ws':List Nat):Prop where
 net:zaC q ns' ws'
 pn:∃ms,ns'=ns++ms∧ms.length≤c
 pw:∃us,ws'=ws++us
 nd:T[a]?=some (.lst (ns'.map Nd.d))
 len:S.length≤T.length
 kp:∀(x:Nat) (o:Ob),x≠a→S[x]?=some o→T[x]?=some o
theorem Gr.refl {q a:Nat}{S:Sto}{ns:List Nd}{ws:List Nat}(net:zaC q ns ws)(h:S[a]?=some (.lst (ns.map Nd.d))):Gr q a 0 S ns ws S ns ws:=⟨net,⟨[],by simp,by simp⟩,⟨[],by simp⟩,h,Vaa _,λ_ _ _ e=>e⟩
theorem Gr.trans {q a c d:Nat}{S T U:Sto}{ns ns' ns2:List Nd}{ws ws' ws2:List Nat}(h:Gr q a c S ns ws T ns' ws')(k:Gr q a d T ns' ws' U ns2 ws2):Gr q a (c+d) S ns ws U ns2 ws2:=by
 obtain⟨n1,⟨ms,rfl,l1⟩,⟨us,rfl⟩,a1,e1,k1⟩:=h
 obtain⟨n2,⟨ms2,rfl,l2⟩,⟨us2,rfl⟩,a2,e2,k2⟩:=k
 exact⟨n2,⟨ms++ms2,by rw[List.append_assoc],by rw[Vax]; omega⟩,⟨us++us2,by rw[List.append_assoc]⟩,a2,by omega,λx o hx e=>k2 x o hx (k1 x o hx e)⟩
theorem Gr.mono {q a c d:Nat}{S T:Sto}{ns ns':List Nd}{ws ws':List Nat}(h:Gr q a c S ns ws T ns' ws')(l:c≤d):Gr q a d S ns ws T ns' ws':=by
 obtain⟨n1,⟨ms,e,l1⟩,u,a1,e1,k1⟩:=h
 exact⟨n1,⟨ms,e,by omega⟩,u,a1,e1,k1⟩
theorem Gr.ln {q a c:Nat}{S T:Sto}{ns ns':List Nd}{ws ws':List Nat}(h:Gr q a c S ns ws T ns' ws'):ns.length≤ns'.length∧ns'.length≤ns.length+c:=by
 obtain⟨n1,⟨ms,rfl,l1⟩,_⟩:=h
 rw[Vax]
 omega
theorem Gr.wt {q a c:Nat}{S T:Sto}{ns ns':List Nd}{ws ws':List Nat}(h:Gr q a c S ns ws T ns' ws')(net:zaC q ns ws){i:Nat}(hi:i<ns.length):ws'.getD i 0=ws.getD i 0:=by
 obtain⟨us,rfl⟩:=h.pw
 exact zqT (by rw[net.len]; exact hi)
theorem Gr.due {q a c:Nat}{S T:Sto}{ns ns':List Nd}{ws ws':List Nat}(h:Gr q a c S ns ws T ns' ws')(P:List (Int×Int)){i:Nat}(hi:i<ns.length):gt (zaB P ns') (i:Int)=gt (zaB P ns) (i:Int):=by
 obtain⟨ms,rfl,_⟩:=h.pn
 exact znl ⟨by omega,by omega⟩
theorem Gr.push {q a:Nat}{S:Sto}{ns:List Nd}{ws:List Nat}(net:zaC q ns ws)(h:S[a]?=some (.lst (ns.map Nd.d)))(U:Sto):Gr q a 0 S ns ws (S++U) ns ws:=⟨net,⟨[],by simp,by simp⟩,⟨[],by simp⟩,zaN h,by simp,λ_ _ _ e=>zaN e⟩
structure Zr (P:List (Int×Int))(ns:List Nd)(ws:List Nat)(w i:Nat):Prop where
 lt:i<ns.length
 wt:ws.getD i 0≤w
 due:(gt (zaB P ns) (i:Int)).1=0
theorem Zr.up {P:List (Int×Int)}{q a c w i:Nat}{S T:Sto}{ns ns':List Nd}{ws ws':List Nat}(z:Zr P ns ws w i)(h:Gr q a c S ns ws T ns' ws')(net:zaC q ns ws):Zr P ns' ws' w i:=⟨by have:=h.ln; have:=z.lt; omega,by rw[h.wt net z.lt]; exact z.wt,by rw[h.due P z.lt]; exact z.due⟩
theorem zuM {q a c:Nat}{S T:Sto}{ns ns':List Nd}{ws ws':List Nat}(h:Gr q a c S ns ws T ns' ws')(net:zaC q ns ws){v:Nd}(ok:v.ok ns.length q):v.wt ws'=v.wt ws:=by
 have z:∀i:Int,inR (ns.length:Nat) i→ws'.getD i.toNat 0=ws.getD i.toNat 0:=λi hi=>by
  have h0:=hi.1
  have h1:=hi.2
  exact h.wt net (by omega)
 cases v with
 | number _ _=>rfl
 | unknown _=>rfl
 | plus i j=>show ws'.getD i.toNat 0+ws'.getD j.toNat 0=ws.getD i.toNat 0+ws.getD j.toNat 0; rw[z i ok.1,z j ok.2]
 | minus i j=>show ws'.getD i.toNat 0+ws'.getD j.toNat 0=ws.getD i.toNat 0+ws.getD j.toNat 0; rw[z i ok.1,z j ok.2]
 | times i j=>show ws'.getD i.toNat 0+ws'.getD j.toNat 0=ws.getD i.toNat 0+ws.getD j.toNat 0; rw[z i ok.1,z j ok.2]
 | power i n=>show n.toNat*ws'.getD i.toNat 0=n.toNat*ws.getD i.toNat 0; rw[z i ok.1]
theorem ztf {q a c j:Nat}{S T:Sto}{ns ns':List Nd}{ws ws':List Nat}(h:Gr q a c S ns ws T ns' ws'){v:Nd}(ok:v.ok ns.length q)(hj:ns'[j]?=some v)(P:List (Int×Int)):gt (zaB P ns') (j:Int)=v.due (zaB P ns) P:=by
 rw[zo7 (P:=P) h.net hj]
 refine zn1 (k:=ns.length) (q:=q) (λi hi=>?_) v ok
 have h0:=hi.1
 have h1:=hi.2
 have z:=h.due P (i:=i.toNat) (by omega)
 rw[show ((i.toNat:Nat):Int)=i by omega] at z
 exact z
def Ans (lo hi y0 y1 p q:Int):Prop:=(p*y0≤hi*q∨p*y1≤hi*q)∧(lo*q≤p*y0∨lo*q≤p*y1)
structure za3 (x0 x1:Int)(V Sp:Int→Int→Prop)(L U:Int):Prop where
 all:∀p q,0<q→x0*q≤p→p≤x1*q→V p q→L*q≤p∧p≤U*q
 lo:∃p q,Sp p q∧0<q∧x0*q≤p∧p≤x1*q∧V p q∧p<(L+1)*q
 hi:∃p q,Sp p q∧0<q∧x0*q≤p∧p≤x1*q∧V p q∧(U-1)*q<p
theorem dl (m:Int){g:Int}(hg:0<g):m/g*g≤m∧m<(m/g+1)*g:=by
 have h1:=Int.emod_add_mul_ediv m g
 have h2:=Int.emod_nonneg m (show g≠0 by omega)
 have h3:=Int.emod_lt_of_pos m hg
 have e:(m/g+1)*g=g*(m/g)+g:=by grind
 have e2:m/g*g=g*(m/g):=Vav _ _
 omega
theorem dh (m:Int){g:Int}(hg:0<g):m≤-(-m/g)*g∧(-(-m/g)-1)*g<m:=by
 obtain⟨h1,h2⟩:=dl (-m) hg
 have e1:-(-m/g)*g=-(-m/g*g):=by rw[Vae]
 have e2:(-(-m/g)-1)*g=-((-m/g+1)*g):=by grind
 omega
theorem mlr {a b c:Int}(h:a≤b)(hc:0≤c):a*c≤b*c:=Vaf h hc
theorem mll {a b c:Int}(h:a≤b)(hc:0≤c):c*a≤c*b:=Va4 h hc
theorem can {a b c:Int}(h:a*c≤b*c)(hc:0<c):a≤b:=Va1 h hc
structure Low (x0 x1 lo hi lb hb L:Int):Prop where
 all:∀p q,0<q→x0*q≤p→lo*q≤p*lb→L*q≤p
 ex:∃p q,(p=x0∧q=1∨p=lo∧q=lb)∧0<q∧x0*q≤p∧p≤x1*q∧(lo*q≤p*lb∧p*hb≤hi*q)∧p<(L+1)*q
theorem zfo {x0 x1 lo hi lb hb L f:Int}(hx:x0≤x1)(hl:0≤lb)(hh:0≤hb)(l0:lb=0→lo≤0)(h0:hb=0→0≤hi)(cr:lo*hb≤hi*lb)(ef:lb≠0→f=lo/lb)(hc:lb≠0→-(-lo/lb)≤x1)(hr:hb≠0→x0≤hi/hb)
  (eL:L=x0∧(lb=0∨f≤x0)∨lb≠0∧L=f∧x0≤f):Low x0 x1 lo hi lb hb L:=by
 have xh:x0*hb≤hi:=by
  by_cases z:hb=0
  ·subst z; rw[VaT]; exact h0 rfl
  ·exact Va7 (mlr (hr z) hh) (dl hi (by omega)).1
 refine⟨λp q hq h1 h2=>?_,?_⟩
 ·rcases eL with ⟨rfl,_⟩ | ⟨z,rfl,_⟩
  ·exact h1
  ·have e:=ef z
   subst e
   have d:=mlr (dl lo (show 0<lb by omega)).1 (Vaq hq)
   have e:lo/lb*lb*q=lo/lb*q*lb:=by grind
   exact can (show lo/lb*q*lb≤p*lb by omega) (by omega)
 ·by_cases z:lb=0
  ·refine⟨x0,1,.inl ⟨rfl,rfl⟩,by omega,by omega,by omega,⟨?_,by omega⟩,?_⟩
   ·have:=l0 z
    subst z; rw[VaT]; omega
   ·rcases eL with ⟨rfl,_⟩ | ⟨z',_⟩
    ·omega
    ·exact absurd z z'
  ·have lp:0<lb:=by omega
   obtain⟨d1,d2⟩:=dl lo lp
   have e:=ef z
   subst e
   have hL:lo/lb≤L∧x0≤L:=by
    rcases eL with ⟨rfl,z' | z'⟩ | ⟨_,rfl,z'⟩ <;> omega
   by_cases c:lo≤x0*lb
   ·exact⟨x0,1,.inl ⟨rfl,rfl⟩,by omega,by omega,by omega,⟨by omega,by omega⟩,by omega⟩
   ·refine⟨lo,lb,.inr ⟨rfl,rfl⟩,lp,by omega,?_,⟨VaL _,cr⟩,?_⟩
    ·exact Va7 (dh lo lp).1 (mlr (hc z) hl)
    ·exact Int.lt_of_lt_of_le d2 (mlr (by omega) hl)
theorem zpf {x1 lo lb p q:Int}(hq:0<q)(lp:0<lb)(h:x1 < -(-lo/lb))(hp:p≤x1*q)(hv:lo*q≤p*lb):False:=by
 have d:=(dh lo lp).2
 have h1:x1*lb≤(-(-lo/lb)-1)*lb:=mlr (by omega) (Vaq lp)
 have h2:p*lb≤x1*q*lb:=mlr hp (Vaq lp)
 have h3:x1*lb*q<lo*q:=Int.mul_lt_mul_of_pos_right (by omega) hq
 have e:x1*lb*q=x1*q*lb:=by grind
 omega
theorem zgh {lo hi c d p q:Int}(h0:0≤c)(hcd:c≤d)(hd:0<d)(hq:0<q):Ans lo hi c d p q↔lo*q≤p*(if lo > 0 then d else c)∧p*(if hi<0 then d else c)≤hi*q:=by
 unfold Ans
 have sl:lo > 0→0<lo*q:=λh=>VaU h hq
 have sl':¬ lo > 0→lo*q≤0:=λh=>by
  have:=mlr (show lo≤0 by omega) (Vaq hq)
  omega
 have sh:hi<0→hi*q<0:=λh=>by
  have:=Int.mul_lt_mul_of_pos_right h hq
  omega
 have sh':¬ hi<0→0≤hi*q:=λh=>Vah (by omega) (Vaq hq)
 by_cases z:0≤p
 ·have a1:=mll hcd z
  have a2:=Vah z h0
  split <;> split <;> omega
 ·have b1:=mll hcd (show 0≤-p by omega)
  have b2:=Vah (show 0≤-p by omega) h0
  simp only[Vae] at b1 b2
  split <;> split <;> omega
structure zbO (lo hi x0 x1 c d:Int):Prop where
 hz:lo≤hi
 hx:x0≤x1
 h0:0≤c
 hcd:c≤d
 hd:0<d
abbrev zaX (lo c d:Int):Int:=if lo > 0 then d else c
abbrev zaR (hi c d:Int):Int:=if hi<0 then d else c
section
variable {lo hi x0 x1 c d:Int}
theorem zbO.cross (h:zbO lo hi x0 x1 c d):lo*zaR hi c d≤hi*zaX lo c d:=by
 obtain⟨hz,hx,h0,hcd,hd⟩:=h
 unfold zaR zaX
 split <;> split
 ·omega
 ·have a1:=mlr hz h0
  have a2:=mll hcd (show 0≤-lo by omega)
  simp only[Vae] at a2
  omega
 ·have a1:=mlr hz h0
  have a2:=mll hcd (show 0≤hi by omega)
  omega
 ·exact mlr hz h0
theorem zbO.l (h:zbO lo hi x0 x1 c d):0≤zaX lo c d∧(zaX lo c d=0→lo≤0):=by
 obtain⟨hz,hx,h0,hcd,hd⟩:=h
 unfold zaX
 split <;> omega
theorem zbO.h (h:zbO lo hi x0 x1 c d):0≤zaR hi c d∧(zaR hi c d=0→0≤hi):=by
 obtain⟨hz,hx,h0,hcd,hd⟩:=h
 unfold zaR
 split <;> omega
theorem zbO.none1 (h:zbO lo hi x0 x1 c d)(n:zaX lo c d≠0)(e:x1 < -(-lo/zaX lo c d)):∀p q,0<q→x0*q≤p→p≤x1*q→¬ Ans lo hi c d p q:=λp q hq _ h2 hv=>
 zpf hq (by have:=h.l.1; omega) e h2 ((zgh h.h0 h.hcd h.hd hq).mp hv).1
theorem zbO.none2 (h:zbO lo hi x0 x1 c d)(n:zaR hi c d≠0)(e:hi/zaR hi c d<x0):∀p q,0<q→x0*q≤p→p≤x1*q→¬ Ans lo hi c d p q:=λp q hq h1 _ hv=>by
 have v:=((zgh h.h0 h.hcd h.hd hq).mp hv).2
 refine zpf (x1:=-x0) (lo:=-hi) (lb:=zaR hi c d) (p:=-p) hq (by have:=h.h.1; omega) (by rw[Int.neg_neg]; omega) (by rw[Vae]; omega) ?_
 show -hi*q≤-p*zaR hi c d
 rw[Vae,Vae]
 exact Int.neg_le_neg v
def zbS (lo hi x0 x1 c d p q:Int):Prop:=(p=x0∧q=1)∨(p=x1∧q=1)∨((p=lo∨p=hi)∧(q=c∨q=d))
theorem zbO.some (h:zbO lo hi x0 x1 c d){L U:Int}(hc:zaX lo c d≠0→-(-lo/zaX lo c d)≤x1)(hr:zaR hi c d≠0→x0≤hi/zaR hi c d)
  (eL:L=x0∧(zaX lo c d=0∨lo/zaX lo c d≤x0)∨zaX lo c d≠0∧L=lo/zaX lo c d∧x0≤lo/zaX lo c d)
  (eU:U=x1∧(zaR hi c d=0∨x1≤-(-hi/zaR hi c d))∨zaR hi c d≠0∧U=-(-hi/zaR hi c d)∧-(-hi/zaR hi c d)≤x1):za3 x0 x1 (Ans lo hi c d) (zbS lo hi x0 x1 c d) L U:=by
 obtain⟨l1,l2⟩:=h.l
 obtain⟨h1,h2⟩:=h.h
 have cr:=h.cross
 have A:=zfo h.hx l1 h1 l2 h2 cr (λ_=>rfl) hc hr eL
 have B:=zfo (x0:=-x1) (x1:=-x0) (lo:=-hi) (hi:=-lo) (lb:=zaR hi c d) (hb:=zaX lo c d) (L:=-U) (f:=-hi/zaR hi c d) (by have:=h.hx; omega) h1 l1 (λz=>by have:=h2 z; omega) (λz=>by have:=l2 z; omega)
  (by rw[Vae,Vae]; exact Int.neg_le_neg cr) (λ_=>rfl) (λz=>by have:=hr z; rw[Int.neg_neg]; omega) (λz=>by have:=hc z; omega) (by omega)
 refine⟨λp q hq p1 p2 hv=>?_,?_,?_⟩
 ·obtain⟨v1,v2⟩:=(zgh h.h0 h.hcd h.hd hq).mp hv
  refine⟨A.all p q hq p1 v1,?_⟩
  have:=B.all (-p) q hq (by rw[Vae]; omega) (by rw[Vae,Vae]; exact Int.neg_le_neg v2)
  rw[Vae] at this
  omega
 ·obtain⟨p,q,hs,hq,p1,p2,hv,t⟩:=A.ex
  refine⟨p,q,?_,hq,p1,p2,(zgh h.h0 h.hcd h.hd hq).mpr hv,t⟩
  unfold zbS
  unfold zaX at hs
  split at hs <;> omega
 ·obtain⟨p,q,hs,hq,p1,p2,hv,t⟩:=B.ex
  rw[Vae] at p1 p2
  have hv':lo*q≤-p*zaX lo c d∧-p*zaR hi c d≤hi*q:=by
   simp only[Vae] at hv ⊢
   exact⟨by omega,by omega⟩
  refine⟨-p,q,?_,hq,by omega,by omega,(zgh h.h0 h.hcd h.hd hq).mpr hv',?_⟩
  ·unfold zbS
   unfold zaR at hs
   split at hs <;> omega
  ·have e:(U-1)*q=-((-U+1)*q):=by grind
   omega
end
theorem za3.mono {x0 x1 L U:Int}{V V' Sp Sp':Int→Int→Prop}(h:za3 x0 x1 V Sp L U)(hv:∀p q,0<q→(V p q↔V' p q))(hs:∀p q,0<q→Sp p q→Sp' p q):za3 x0 x1 V' Sp' L U:=by
 refine⟨λp q hq h1 h2 v=>h.all p q hq h1 h2 ((hv p q hq).mpr v),?_,?_⟩
 ·obtain⟨p,q,s,hq,h1,h2,v,t⟩:=h.lo
  exact⟨p,q,hs p q hq s,hq,h1,h2,(hv p q hq).mp v,t⟩
 ·obtain⟨p,q,s,hq,h1,h2,v,t⟩:=h.hi
  exact⟨p,q,hs p q hq s,hq,h1,h2,(hv p q hq).mp v,t⟩
abbrev NoV (x0 x1:Int)(V:Int→Int→Prop):Prop:=∀p q,0<q→x0*q≤p→p≤x1*q→¬ V p q
theorem za3.left {x0 x1 L U:Int}{V V' Sp:Int→Int→Prop}(h:za3 x0 x1 V Sp L U)(n:NoV x0 x1 V'):za3 x0 x1 (λp q=>V p q∨V' p q) Sp L U:=by
 refine⟨λp q hq h1 h2 v=>h.all p q hq h1 h2 (v.resolve_right (n p q hq h1 h2)),?_,?_⟩
 ·obtain⟨p,q,s,hq,h1,h2,v,t⟩:=h.lo
  exact⟨p,q,s,hq,h1,h2,.inl v,t⟩
 ·obtain⟨p,q,s,hq,h1,h2,v,t⟩:=h.hi
  exact⟨p,q,s,hq,h1,h2,.inl v,t⟩
theorem za3.right {x0 x1 L U:Int}{V V' Sp:Int→Int→Prop}(h:za3 x0 x1 V' Sp L U)(n:NoV x0 x1 V):za3 x0 x1 (λp q=>V p q∨V' p q) Sp L U:=by
 refine⟨λp q hq h1 h2 v=>h.all p q hq h1 h2 (v.resolve_left (n p q hq h1 h2)),?_,?_⟩
 ·obtain⟨p,q,s,hq,h1,h2,v,t⟩:=h.lo
  exact⟨p,q,s,hq,h1,h2,.inr v,t⟩
 ·obtain⟨p,q,s,hq,h1,h2,v,t⟩:=h.hi
  exact⟨p,q,s,hq,h1,h2,.inr v,t⟩
theorem za3.both {x0 x1 L U L' U' l u:Int}{V V' Sp Sp':Int→Int→Prop}(h:za3 x0 x1 V Sp L U)(h':za3 x0 x1 V' Sp' L' U')(el:l=L∧L≤L'∨l=L'∧L'≤L)(eu:u=U∧U'≤U∨u=U'∧U≤U'):za3 x0 x1 (λp q=>V p q∨V' p q) (λp q=>Sp p q∨Sp' p q) l u:=by
 refine⟨λp q hq h1 h2 v=>?_,?_,?_⟩
 ·have hq':=Vaq hq
  rcases v with v | v
  ·obtain⟨a,b⟩:=h.all p q hq h1 h2 v
   exact⟨Va7 (mlr (by omega) hq') a,Va7 b (mlr (by omega) hq')⟩
  ·obtain⟨a,b⟩:=h'.all p q hq h1 h2 v
   exact⟨Va7 (mlr (by omega) hq') a,Va7 b (mlr (by omega) hq')⟩
 ·rcases el with ⟨rfl,_⟩ | ⟨rfl,_⟩
  ·obtain⟨p,q,s,hq,h1,h2,v,t⟩:=h.lo
   exact⟨p,q,.inl s,hq,h1,h2,.inl v,t⟩
  ·obtain⟨p,q,s,hq,h1,h2,v,t⟩:=h'.lo
   exact⟨p,q,.inr s,hq,h1,h2,.inr v,t⟩
 ·rcases eu with ⟨rfl,_⟩ | ⟨rfl,_⟩
  ·obtain⟨p,q,s,hq,h1,h2,v,t⟩:=h.hi
   exact⟨p,q,.inl s,hq,h1,h2,.inl v,t⟩
  ·obtain⟨p,q,s,hq,h1,h2,v,t⟩:=h'.hi
   exact⟨p,q,.inr s,hq,h1,h2,.inr v,t⟩
theorem za3.le {x0 x1 L U:Int}{V Sp:Int→Int→Prop}(h:za3 x0 x1 V Sp L U):L≤U:=by
 obtain⟨p,q,s,hq,h1,h2,v,t⟩:=h.lo
 obtain⟨a,b⟩:=h.all p q hq h1 h2 v
 exact can (show L*q≤U*q by omega) hq
theorem za3.within {x0 x1 L U:Int}{V Sp:Int→Int→Prop}(h:za3 x0 x1 V Sp L U):x0≤L∧U≤x1:=by
 constructor
 ·obtain⟨p,q,s,hq,h1,h2,v,t⟩:=h.lo
  have:=Int.lt_of_mul_lt_mul_right (show x0*q<(L+1)*q by omega) (Vaq hq)
  omega
 ·obtain⟨p,q,s,hq,h1,h2,v,t⟩:=h.hi
  have:=Int.lt_of_mul_lt_mul_right (show (U-1)*q<x1*q by omega) (Vaq hq)
  omega
abbrev tur (t e:Int):Int×Int:=(if e<0 then -t else t,if e<0 then -e else e)
def zeS (lo hi e:Int):List (Int×Int):=if e=0 then [] else [tur lo e,tur hi e]
def znj (lo hi x0 x1 y0 y1:Int):List (Int×Int):=[(x0,1),(x1,1)]++zeS lo hi y0++zeS lo hi y1
abbrev SpY (lo hi x0 x1 y0 y1 p q:Int):Prop:=(p,q)∈znj lo hi x0 x1 y0 y1
theorem zlO {lo hi e p q:Int}:(p,q)∈zeS lo hi e↔e≠0∧((p,q)=tur lo e∨(p,q)=tur hi e):=by
 unfold zeS
 split
 ·simp[*]
 ·rename_i h
  simp[h]
theorem zkb {lo hi x0 x1 y0 y1 p q:Int}:(p,q)∈znj lo hi x0 x1 y0 y1↔(p=x0∧q=1)∨(p=x1∧q=1)∨(p,q)∈zeS lo hi y0∨(p,q)∈zeS lo hi y1:=by
 unfold znj
 simp[VaX,or_assoc]
abbrev mx0 (a:Int):Int:=if 0 > a then 0 else a
theorem zdz {lo hi y0 y1 p q:Int}(hz:lo≤hi)(hy:y0≤y1)(nb:¬ ((y0≤0∧0≤y1)∧lo≤0∧0≤hi))(hq:0<q):
  Ans lo hi y0 y1 p q↔(y1 > 0∧Ans lo hi (mx0 y0) y1 p q)∨(y0<0∧Ans (-hi) (-lo) (mx0 (-y1)) (-y0) p q):=by
 unfold Ans mx0
 have sl:lo > 0→0<lo*q:=λh=>VaU h hq
 have sl':¬ lo > 0→lo*q≤0:=λh=>by
  have:=mlr (show lo≤0 by omega) (Vaq hq)
  omega
 have sh:hi<0→hi*q<0:=λh=>by
  have:=Int.mul_lt_mul_of_pos_right h hq
  omega
 have sh':¬ hi<0→0≤hi*q:=λh=>Vah (by omega) (Vaq hq)
 have zz:=mlr hz (Vaq hq)
 have f:∀y:Int,(0≤p→0≤y→0≤p*y)∧(0≤p→y≤0→p*y≤0)∧(p≤0→0≤y→p*y≤0)∧(p≤0→y≤0→0≤p*y):=λy=>
  ⟨Vah,Int.mul_nonpos_of_nonneg_of_nonpos,Int.mul_nonpos_of_nonpos_of_nonneg,Int.mul_nonneg_of_nonpos_of_nonpos⟩
 obtain⟨f1,f2,f3,f4⟩:=f y0
 obtain⟨g1,g2,g3,g4⟩:=f y1
 simp only[Va5,Vae]
 by_cases c1:0 > y0
 ·by_cases c2:0 > -y1
  ·rw[if_pos c1,if_pos c2,VaT]
   omega
  ·rw[if_pos c1,if_neg c2,VaT,Va5]
   omega
 ·by_cases c2:0 > -y1
  ·rw[if_neg c1,if_pos c2,VaT]
   omega
  ·rw[if_neg c1,if_neg c2,Va5]
   have e0:y0=0:=by omega
   have e1:y1=0:=by omega
   subst e0 e1
   simp only[VaT]
   omega
theorem zm8 {lo hi x0 x1 y0 y1 p q:Int}(hy:y0≤y1)(hq:0<q)(h:zbS lo hi x0 x1 (mx0 y0) y1 p q):SpY lo hi x0 x1 y0 y1 p q:=by
 unfold SpY
 rw[zkb,zlO,zlO]
 simp only[tur,Prod.mk.injEq]
 rcases h with h | h | ⟨h1,h2⟩
 ·exact .inl h
 ·exact .inr (.inl h)
 ·rcases h2 with e | e
  ·have c:¬ 0 > y0:=λc=>by rw[mx0,if_pos c] at e; omega
   rw[mx0,if_neg c] at e
   subst e
   refine .inr (.inr (.inl ⟨by omega,?_⟩))
   rw[if_neg (by omega),if_neg (by omega),if_neg (by omega)]
   omega
  ·subst e
   refine .inr (.inr (.inr ⟨by omega,?_⟩))
   rw[if_neg (by omega),if_neg (by omega),if_neg (by omega)]
   omega
theorem znn {lo hi x0 x1 y0 y1 p q:Int}(hy:y0≤y1)(hq:0<q)(h:zbS (-hi) (-lo) x0 x1 (mx0 (-y1)) (-y0) p q):SpY lo hi x0 x1 y0 y1 p q:=by
 unfold SpY
 rw[zkb,zlO,zlO]
 simp only[tur,Prod.mk.injEq]
 rcases h with h | h | ⟨h1,h2⟩
 ·exact .inl h
 ·exact .inr (.inl h)
 ·rcases h2 with e | e
  ·have c:¬ 0 > -y1:=λc=>by rw[mx0,if_pos c] at e; omega
   rw[mx0,if_neg c] at e
   subst e
   refine .inr (.inr (.inr ⟨by omega,?_⟩))
   rw[if_pos (by omega),if_pos (by omega),if_pos (by omega)]
   omega
  ·subst e
   refine .inr (.inr (.inl ⟨by omega,?_⟩))
   rw[if_pos (by omega),if_pos (by omega),if_pos (by omega)]
   omega
abbrev zdQ (lo hi x0 x1 y0 y1 L U:Int):Prop:=za3 x0 x1 (Ans lo hi y0 y1) (SpY lo hi x0 x1 y0 y1) L U
section
variable {lo hi x0 x1 y0 y1 L U L' U' l u:Int}
theorem zsh (hx:x0≤x1)(hy:y0≤0∧0≤y1)(hz:lo≤0∧0≤hi):zdQ lo hi x0 x1 y0 y1 x0 x1:=by
 have v:∀p:Int,Ans lo hi y0 y1 p 1:=λp=>by
  unfold Ans
  by_cases c:0≤p
  ·have:=Int.mul_nonpos_of_nonneg_of_nonpos c hy.1
   have:=Vah c hy.2
   omega
  ·have:=Int.mul_nonneg_of_nonpos_of_nonpos (show p≤0 by omega) hy.1
   have:=Int.mul_nonpos_of_nonpos_of_nonneg (show p≤0 by omega) hy.2
   omega
 refine⟨λp q hq h1 h2 _=>⟨h1,h2⟩,⟨x0,1,zkb.mpr (.inl ⟨rfl,rfl⟩),by omega,by omega,by omega,v _,by omega⟩,⟨x1,1,zkb.mpr (.inr (.inl ⟨rfl,rfl⟩)),by omega,by omega,by omega,v _,by omega⟩⟩
variable (hz:lo≤hi)(hy:y0≤y1)(nb:¬ ((y0≤0∧0≤y1)∧lo≤0∧0≤hi))
abbrev zdA (lo hi y0 y1:Int):Int→Int→Prop:=Ans lo hi (mx0 y0) y1
abbrev zdP (lo hi y0 y1:Int):Int→Int→Prop:=Ans (-hi) (-lo) (mx0 (-y1)) (-y0)
include hz hy nb
theorem zti (c1:¬ y1 > 0)(c2:¬ y0<0):NoV x0 x1 (Ans lo hi y0 y1):=λp q hq _ _ v=>by
 rcases (zdz hz hy nb hq).mp v with ⟨h,_⟩ | ⟨h,_⟩
 ·exact c1 h
 ·exact c2 h
theorem zvK (h:NoV x0 x1 (zdA lo hi y0 y1))(c2:¬ y0<0):NoV x0 x1 (Ans lo hi y0 y1):=λp q hq h1 h2 v=>by
 rcases (zdz hz hy nb hq).mp v with ⟨_,z⟩ | ⟨z,_⟩
 ·exact h p q hq h1 h2 z
 ·exact c2 z
theorem zs7 (c1:¬ y1 > 0)(h:NoV x0 x1 (zdP lo hi y0 y1)):NoV x0 x1 (Ans lo hi y0 y1):=λp q hq h1 h2 v=>by
 rcases (zdz hz hy nb hq).mp v with ⟨z,_⟩ | ⟨_,z⟩
 ·exact c1 z
 ·exact h p q hq h1 h2 z
theorem zqP (h1:NoV x0 x1 (zdA lo hi y0 y1))(h2:NoV x0 x1 (zdP lo hi y0 y1)):NoV x0 x1 (Ans lo hi y0 y1):=λp q hq a b v=>by
 rcases (zdz hz hy nb hq).mp v with ⟨_,z⟩ | ⟨_,z⟩
 ·exact h1 p q hq a b z
 ·exact h2 p q hq a b z
theorem zt4 (c1:y1 > 0)(c2:¬ y0<0)(h:za3 x0 x1 (zdA lo hi y0 y1) (zbS lo hi x0 x1 (mx0 y0) y1) L U):zdQ lo hi x0 x1 y0 y1 L U:=
 h.mono (λp q hq=>by rw[zdz hz hy nb hq]; exact⟨λz=>.inl ⟨c1,z⟩,λz=>z.elim (λz=>z.2) λz=>absurd z.1 c2⟩) λp q hq s=>zm8 hy hq s
theorem zp6 (c1:¬ y1 > 0)(c2:y0<0)(h:za3 x0 x1 (zdP lo hi y0 y1) (zbS (-hi) (-lo) x0 x1 (mx0 (-y1)) (-y0)) L U):zdQ lo hi x0 x1 y0 y1 L U:=
 h.mono (λp q hq=>by rw[zdz hz hy nb hq]; exact⟨λz=>.inr ⟨c2,z⟩,λz=>z.elim (λz=>absurd z.1 c1) λz=>z.2⟩) λp q hq s=>znn hy hq s
theorem znc (c1:y1 > 0)(c2:y0<0):∀p q,0<q→(zdA lo hi y0 y1 p q∨zdP lo hi y0 y1 p q↔Ans lo hi y0 y1 p q):=λp q hq=>by
 rw[zdz hz hy nb hq]
 exact⟨λz=>z.elim (λz=>.inl ⟨c1,z⟩) λz=>.inr ⟨c2,z⟩,λz=>z.elim (λz=>.inl z.2) λz=>.inr z.2⟩
theorem ztp (c1:y1 > 0)(c2:y0<0)(h:za3 x0 x1 (zdA lo hi y0 y1) (zbS lo hi x0 x1 (mx0 y0) y1) L U)(n:NoV x0 x1 (zdP lo hi y0 y1)):zdQ lo hi x0 x1 y0 y1 L U:=
 (h.left n).mono (znc hz hy nb c1 c2) λp q hq s=>zm8 hy hq s
theorem zu9 (c1:y1 > 0)(c2:y0<0)(n:NoV x0 x1 (zdA lo hi y0 y1))(h:za3 x0 x1 (zdP lo hi y0 y1) (zbS (-hi) (-lo) x0 x1 (mx0 (-y1)) (-y0)) L U):zdQ lo hi x0 x1 y0 y1 L U:=
 (h.right n).mono (znc hz hy nb c1 c2) λp q hq s=>znn hy hq s
theorem ztW (c1:y1 > 0)(c2:y0<0)(h:za3 x0 x1 (zdA lo hi y0 y1) (zbS lo hi x0 x1 (mx0 y0) y1) L U)(h':za3 x0 x1 (zdP lo hi y0 y1) (zbS (-hi) (-lo) x0 x1 (mx0 (-y1)) (-y0)) L' U'):zdQ lo hi x0 x1 y0 y1 (if L'<L then L' else L) (if U' > U then U' else U):=
 (h.both h' (by split <;> omega) (by split <;> omega)).mono (znc hz hy nb c1 c2) λp q hq s=>s.elim (zm8 hy hq) (znn hy hq)
end
theorem zws {lo hi x0 x1 c d l0 l1 h0 h1:Int}(h:zbO lo hi x0 x1 c d)(hl:zaX lo c d=0∧l0=x0∧l1=x0∨zaX lo c d≠0∧l0=lo/zaX lo c d∧l1=-(-lo/zaX lo c d))
  (hh:zaR hi c d=0∧h0=x1∧h1=x1∨zaR hi c d≠0∧h0=hi/zaR hi c d∧h1=-(-hi/zaR hi c d)):
  (l1 > x1∨h0<x0→NoV x0 x1 (Ans lo hi c d))∧(¬ l1 > x1→¬ h0<x0→za3 x0 x1 (Ans lo hi c d) (zbS lo hi x0 x1 c d) (if x0 > l0 then x0 else l0) (if x1<h1 then x1 else h1)):=by
 have hx:=h.hx
 refine⟨λz=>?_,λz1 z2=>h.some (λn=>?_) (λn=>?_) ?_ ?_⟩
 ·rcases z with z | z
  ·rcases hl with ⟨_,_,rfl⟩ | ⟨n,_,rfl⟩
   ·omega
   ·exact h.none1 n z
  ·rcases hh with ⟨_,rfl,_⟩ | ⟨n,rfl,_⟩
   ·omega
   ·exact h.none2 n z
 ·rcases hl with ⟨z,_⟩ | ⟨_,_,rfl⟩
  ·exact absurd z n
  ·omega
 ·rcases hh with ⟨z,_⟩ | ⟨_,rfl,_⟩
  ·exact absurd z n
  ·omega
 ·rcases hl with ⟨z,rfl,_⟩ | ⟨n,rfl,_⟩
  ·refine .inl ⟨by split <;> omega,.inl z⟩
  ·split <;> omega
 ·rcases hh with ⟨z,_,rfl⟩ | ⟨n,_,rfl⟩
  ·refine .inl ⟨by split <;> omega,.inl z⟩
  ·split <;> omega
theorem if2 {a b:Prop} [Decidable a] [Decidable b] {A B:Prop}(h1:a→b→A)(h2:¬ (a∧b)→B):if (decide a&&decide b)=true then A else B:=by
 by_cases z:a∧b
 ·rw[decide_eq_true z.1,decide_eq_true z.2]; exact zcg (h1 z.1 z.2)
 ·have e:(decide a&&decide b)=false:=by
   simp only[Bool.and_eq_false_iff,decide_eq_false_iff_not]
   by_cases y:a
   ·exact .inr λy2=>z ⟨y,y2⟩
   ·exact .inl y
  rw[e]; exact zbC (h2 z)
theorem and2 {a b:Prop} [Decidable a] [Decidable b] {Q:DK}{S:Sto}(h:Q (.bl (decide a&&decide b)) S):if decide a=true then Q (.bl (decide b)) S else Q (.bl false) S:=
 ifD (λe=>by rw[decide_eq_true e,Bool.true_and] at h; exact h) (λe=>by rw[decide_eq_false e,Bool.false_and] at h; exact h)
theorem zbJ (a:Int):0≤mx0 a:=by unfold mx0; split <;> omega
theorem ziH {a b:Int}(h:a≤b)(h0:0≤b):mx0 a≤b:=by unfold mx0; split <;> omega
theorem zc9 {a:Int}(h:Sz 1400 a):Sz 1400 (mx0 a):=by
 unfold mx0
 split
 ·exact Sz.of 0 (by decide)
 ·exact h
theorem zcp {a b:Int}{n:Nat}(ha:0≤a)(h:a≤b):a^n≤b^n:=by
 induction n with
 | zero=>simp
 | succ n ih=>
  rw[Vad,Vad]
  exact Int.mul_le_mul ih h ha (VaD (by omega))
theorem zdH {a b:Int}{n:Nat}(ha:0≤a)(h:a<b)(hn:1≤n):a^n<b^n:=by
 obtain⟨k,rfl⟩:∃k,n=k+1:=⟨n-1,by omega⟩
 rw[Vad,Vad]
 have h1:a^k*a≤b^k*a:=Vaf (zcp ha (by omega)) ha
 have h2:b^k*a<b^k*b:=Int.mul_lt_mul_of_pos_left h (Vak (by omega))
 omega
theorem plt {a b:Int}{n:Nat}(hb:0≤b)(h:a^n<b^n):a<b:=by
 by_cases c:a<b
 ·exact c
 ·have:=zcp (n:=n) hb (show b≤a by omega)
  omega
theorem znZ {r g:Int}(hr:0≤r)(hg:0≤g):∀k:Nat,((k:Int)+1)*g^k*r-(k:Int)*(g^k*g)≤r^k*r
 | 0=>by simp
 | k+1=>by
  have ih:=znZ hr hg k
  have m:=Vaf ih hr
  have sq:0≤((k:Int)+1)*g^k*((r-g)*(r-g)):=by
   refine Vah (Vah (by omega) (VaD hg)) ?_
   by_cases c:0≤r-g
   ·exact Vah c c
   ·exact Int.mul_nonneg_of_nonpos_of_nonpos (by omega) (by omega)
  rw[Vad,Vad]
  have e:((k:Int)+1+1)*(g^k*g)*r-((k:Int)+1)*(g^k*g*g)=(((k:Int)+1)*g^k*r-(k:Int)*(g^k*g))*r-((k:Int)+1)*g^k*((r-g)*(r-g)):=by
   grind
  have e2:(((k+1:Nat):Int)+1)*(g^k*g)*r-((k+1:Nat):Int)*(g^k*g*g)=((k:Int)+1+1)*(g^k*g)*r-((k:Int)+1)*(g^k*g*g):=by
   rw[Int.natCast_add]; rfl
  rw[e2,e]
  omega
theorem zso {r g N:Int}{n:Nat}(hn:1≤n)(hr:0≤r)(hg:0<g)(h:r^n≤N):r≤(((n:Int)-1)*g+N/g^(n-1))/n:=by
 obtain⟨k,rfl⟩:∃k,n=k+1:=⟨n-1,by omega⟩
 have t:=znZ hr (Vaq hg) k
 rw[Vad] at h
 have gp:0<g^k:=Vak hg
 have e0:(((k+1:Nat):Int)-1)=k:=by omega
 rw[e0,Nat.add_sub_cancel]
 have q:((k:Int)+1)*r-k*g≤N/g^k:=by
  refine(Int.le_ediv_iff_mul_le gp).mpr ?_
  have e:(((k:Int)+1)*r-k*g)*g^k=((k:Int)+1)*g^k*r-(k:Int)*(g^k*g):=by grind
  omega
 refine(Int.le_ediv_iff_mul_le (by omega)).mpr ?_
 have e:r*((k+1:Nat):Int)=((k:Int)+1)*r:=by rw[Vav]; rfl
 omega
theorem zu4 {g N:Int}{n:Nat}(hn:1≤n)(hg:0<g)(h:N<g^n):(((n:Int)-1)*g+N/g^(n-1))/n<g:=by
 obtain⟨k,rfl⟩:∃k,n=k+1:=⟨n-1,by omega⟩
 have gp:0<g^k:=Vak hg
 rw[Vad] at h
 have e0:(((k+1:Nat):Int)-1)=k:=by omega
 rw[e0,Nat.add_sub_cancel]
 have q:N/g^k<g:=(Int.ediv_lt_iff_lt_mul gp).mpr (by rw[Vav g]; exact h)
 refine(Int.ediv_lt_iff_lt_mul (by omega)).mpr ?_
 have e:g*((k+1:Nat):Int)=(k:Int)*g+g:=by
  rw[Vav,Int.natCast_add,Int.add_mul]
  simp
 omega
theorem zdb {n:Nat}(h:n%2=1)(a:Int):(-a)^n=-(a^n):=by
 obtain⟨k,rfl⟩:∃k,n=2*k+1:=⟨n/2,by omega⟩
 rw[Vad,Vad,Int.pow_mul,Int.pow_mul]
 have e:(-a)^2=a^2:=by rw[Vad,Vad,Vad,Vad]; grind
 rw[e]
 grind
theorem zgn {n:Nat}(h:n%2=0)(a:Int):(-a)^n=a^n:=by
 obtain⟨k,rfl⟩:∃k,n=2*k:=⟨n/2,by omega⟩
 rw[Int.pow_mul,Int.pow_mul]
 have e:(-a)^2=a^2:=by rw[Vad,Vad,Vad,Vad]; grind
 rw[e]
theorem zfc {n:Nat}(h:n%2=1){a b:Int}(hab:a≤b):a^n≤b^n:=by
 by_cases c:0≤a
 ·exact zcp c hab
 ·by_cases d:0≤b
  ·have h1:a^n=-((-a)^n):=by rw[zdb h,Int.neg_neg]
   have h2:(0:Int)≤(-a)^n:=VaD (by omega)
   have h3:(0:Int)≤b^n:=VaD d
   omega
  ·have h1:=zcp (n:=n) (show 0≤-b by omega) (show -b≤-a by omega)
   rw[zdb h,zdb h] at h1
   omega
theorem zfj {n:Nat}(h:n%2=1){a b:Int}(hab:a<b):a^n<b^n:=by
 by_cases c:0≤a
 ·exact zdH c hab (by omega)
 ·by_cases d:0≤b
  ·have h1:a^n=-((-a)^n):=by rw[zdb h,Int.neg_neg]
   have h2:(0:Int)<(-a)^n:=Vak (by omega)
   have h3:(0:Int)≤b^n:=VaD d
   omega
  ·have h1:=zdH (n:=n) (show 0≤-b by omega) (show -b < -a by omega) (by omega)
   rw[zdb h,zdb h] at h1
   omega
def Mt (n:Nat)(lo hi l h:Int):Prop:=((n%2=0∧l<0∧0<h)∧0≤hi∨¬ (n%2=0∧l<0∧0<h)∧(l^n≤hi∨h^n≤hi))∧(lo≤l^n∨lo≤h^n)
def zbl (n:Nat)(N a b:Int):Prop:=b=a∧a^n=N∨b=a+1∧a^n<N∧N<b^n
structure Rts (n:Nat)(lo hi al bl ah bh:Int):Prop where
 hz:lo≤hi
 hn:1≤n
 nn:n%2=0→0≤al∧0≤ah
 up:∀t:Int,n%2=1∨0≤t→(t^n≤hi↔t≤ah)
 dn:∀t:Int,n%2=1∨0≤t→(lo≤t^n↔bl≤t)
 el:bl=al∧(bl^n=lo∨bl=0∧n%2=0)∨bl=al+1∧bl^n≠lo
 eh:bh=ah∧ah^n=hi∨bh=ah+1∧ah^n≠hi
theorem zbl.le {n:Nat}{N a b:Int}(hn:1≤n)(h:zbl n N a b)(ok:n%2=1∨0≤a){t:Int}(ht:n%2=1∨0≤t):t^n≤N↔t≤a:=by
 have mono:t≤a→t^n≤a^n:=λz=>by
  rcases ht with o | o
  ·exact zfc o z
  ·exact zcp o z
 have strict:a+1≤t→(a+1)^n≤t^n:=λz=>by
  rcases ok with o | o
  ·exact zfc o z
  ·exact zcp (by omega) z
 have s1:a^n<(a+1)^n:=by
  rcases ok with o | o
  ·exact zfj o (by omega)
  ·exact zdH o (by omega) hn
 constructor
 ·intro q
  by_cases c:t≤a
  ·exact c
  ·have:=strict (by omega)
   rcases h with ⟨rfl,e⟩ | ⟨rfl,e1,e2⟩ <;> omega
 ·intro q
  have:=mono q
  rcases h with ⟨rfl,e⟩ | ⟨rfl,e1,e2⟩ <;> omega
theorem zbl.ge {n:Nat}{N a b:Int}(hn:1≤n)(h:zbl n N a b)(ok:n%2=1∨0≤a){t:Int}(ht:n%2=1∨0≤t):N≤t^n↔b≤t:=by
 have okb:n%2=1∨0≤b:=by
  rcases ok with o | o
  ·exact .inl o
  ·right
   rcases h with ⟨rfl,_⟩ | ⟨rfl,_⟩ <;> omega
 have mono:b≤t→b^n≤t^n:=λz=>by
  rcases okb with o | o
  ·exact zfc o z
  ·exact zcp o z
 have strict:t<b→t^n<b^n:=λz=>by
  rcases ht with o | o
  ·exact zfj o z
  ·exact zdH o z hn
 have down:t≤a→t^n≤a^n:=λz=>by
  rcases ht with o | o
  ·exact zfc o z
  ·exact zcp o z
 constructor
 ·intro q
  by_cases c:b≤t
  ·exact c
  ·have:=strict (by omega)
   rcases h with ⟨rfl,e⟩ | ⟨rfl,e1,e2⟩
   ·omega
   ·have:=down (by omega)
    omega
 ·intro q
  have:=mono q
  rcases h with ⟨rfl,e⟩ | ⟨rfl,e1,e2⟩ <;> omega
theorem zm5 {n:Nat}(hn:1≤n):(0:Int)^n=0:=by
 obtain⟨k,rfl⟩:∃k,n=k+1:=⟨n-1,by omega⟩
 rw[Vad,VaT]
def Mp (n:Nat)(bl ah l h:Int):Prop:=l≤ah∧bl≤h∨n%2=0∧-ah≤h∧l≤-bl
section
variable {n:Nat}{lo hi al bl ah bh:Int}
theorem Rts.b0 (R:Rts n lo hi al bl ah bh)(he:n%2=0):0≤bl:=by
 have:=(R.nn he).1
 rcases R.el with ⟨e,_⟩ | ⟨e,_⟩ <;> omega
theorem Rts.hi0 (R:Rts n lo hi al bl ah bh)(he:n%2=0):0≤hi:=by
 have h:=(R.up 0 (.inr (by omega))).mpr (R.nn he).2
 rw[zm5 R.hn] at h
 exact h
theorem Rts.up' (R:Rts n lo hi al bl ah bh)(t:Int)(he:n%2=0)(ht:t≤0):t^n≤hi↔-t≤ah:=by
 rw[← R.up (-t) (.inr (by omega)),zgn he]
theorem Rts.dn' (R:Rts n lo hi al bl ah bh)(t:Int)(he:n%2=0)(ht:t≤0):lo≤t^n↔bl≤-t:=by
 rw[← R.dn (-t) (.inr (by omega)),zgn he]
theorem Rts.meets (R:Rts n lo hi al bl ah bh){l h:Int}(hlh:l≤h):Mt n lo hi l h↔Mp n bl ah l h:=by
 unfold Mt Mp
 rcases Nat.mod_two_eq_zero_or_one n with he | ho
 ·have b0:=R.b0 he
  have a0:=(R.nn he).2
  have h0:=R.hi0 he
  rcases Va6 0 l with c | c
  ·have u1:=R.up l (.inr c)
   have u2:=R.up h (.inr (by omega))
   have d1:=R.dn l (.inr c)
   have d2:=R.dn h (.inr (by omega))
   rw[u1,u2,d1,d2]
   omega
  ·have u1:=R.up' l he c
   have d1:=R.dn' l he c
   rcases Va6 0 h with d | d
   ·have u2:=R.up h (.inr d)
    have d2:=R.dn h (.inr d)
    rw[u1,u2,d1,d2]
    omega
   ·have u2:=R.up' h he d
    have d2:=R.dn' h he d
    rw[u1,u2,d1,d2]
    omega
 ·have u1:=R.up l (.inl ho)
  have u2:=R.up h (.inl ho)
  have d1:=R.dn l (.inl ho)
  have d2:=R.dn h (.inl ho)
  rw[u1,u2,d1,d2]
  omega
structure Least (n:Nat)(lo hi x0 x1 m:Int):Prop where
 a:x0≤m
 b:m≤x1
 c:Mt n lo hi x0 m
 d:∀k,x0≤k→k<m→¬ Mt n lo hi x0 k
def zkz (n:Nat)(lo hi x0 x1 v:Int):Prop:=∃m,Least n lo hi x0 x1 m∧(m=x0∧v=x0∨m≠x0∧(((m-1)^n<lo∧m^n=lo∨(m-1)^n > hi∧m^n=hi)∧v=m∨¬ ((m-1)^n<lo∧m^n=lo∨(m-1)^n > hi∧m^n=hi)∧v=m-1))
def zrD (n:Nat)(al bl ah bh x0 x1 v:Int):Prop:=
 (x0≤ah∧bl≤x1)∧¬ (n%2=0∧-ah≤x1∧x0≤-bl)∧v=(if x0 > al then x0 else al)∨
 (n%2=0∧-ah≤x1∧x0≤-bl)∧v=(if x0 > -bh then x0 else -bh)
theorem Rts.first (R:Rts n lo hi al bl ah bh){x0 x1 v w:Int}(F:zkz n lo hi x0 x1 v)(L:zrD n al bl ah bh x0 x1 w):v=w:=by
 obtain⟨m,⟨a,b,c,d⟩,e⟩:=F
 rw[R.meets a] at c
 have d':∀k,x0≤k→k<m→¬ Mp n bl ah x0 k:=λk h1 h2=>by
  rw[← R.meets h1]
  exact d k h1 h2
 unfold Mp at c d'
 have hz:=R.hz
 have el:=R.el
 have eh:=R.eh
 rcases L with ⟨⟨p1,p2⟩,p3,rfl⟩ | ⟨⟨q0,q1,q2⟩,rfl⟩
 ·have c':bl≤m:=by omega
  by_cases z:m=x0
  ·subst z
   split <;> omega
  ·have z2:m≤bl:=by
    have:=d' (m-1) (by omega) (by omega)
    omega
   have em:m=bl:=by omega
   subst em
   rcases Nat.mod_two_eq_zero_or_one n with he | ho
   ·have b0:=R.b0 he
    have a0:=(R.nn he).2
    have m1:¬ (lo≤(m-1)^n):=λz=>by
     have:=(R.dn (m-1) (.inr (by omega))).mp z
     omega
    split <;> omega
   ·have m1:¬ (lo≤(m-1)^n):=λz=>by
     have:=(R.dn (m-1) (.inl ho)).mp z
     omega
    split <;> omega
 ·have b0:=R.b0 q0
  have a0:=(R.nn q0).2
  have c':-ah≤m:=by omega
  by_cases z:m=x0
  ·subst z
   split <;> omega
  ·have z2:m≤-ah:=by
    have:=d' (m-1) (by omega) (by omega)
    omega
   have em:m=-ah:=by omega
   subst em
   have m1:¬ ((-ah-1)^n≤hi):=λz=>by
    have:=(R.up' (-ah-1) q0 (by omega)).mp z
    omega
   have m2:(-ah)^n=ah^n:=zgn q0 ah
   rw[m2] at e
   split <;> omega
theorem Rts.has (R:Rts n lo hi al bl ah bh){t:Int}(h1:lo≤t^n)(h2:t^n≤hi):bl≤t∧t≤ah∨n%2=0∧-ah≤t∧t≤-bl:=by
 rcases Nat.mod_two_eq_zero_or_one n with he | ho
 ·rcases Va6 0 t with c | c
  ·exact .inl ⟨(R.dn t (.inr c)).mp h1,(R.up t (.inr c)).mp h2⟩
  ·have a:=(R.dn' t he c).mp h1
   have b:=(R.up' t he c).mp h2
   exact .inr ⟨he,by omega,by omega⟩
 ·exact .inl ⟨(R.dn t (.inl ho)).mp h1,(R.up t (.inl ho)).mp h2⟩
end
theorem zwi {n:Nat}(he:n%2=0)(t:Int):0≤t^n:=by
 rcases Va6 0 t with c | c
 ·exact VaD c
 ·rw[← zgn he]
  exact VaD (by omega)
structure zcV (n:Nat)(lo hi x0 x1 L U:Int):Prop where
 m:Mt n lo hi x0 x1
 low:∀v,zkz n lo hi x0 x1 v→v=L
 he:n%2=0→∀v,zkz n lo hi (-x1) (-x0) v→v=-U
 ho:n%2=1→∀v,zkz n (-hi) (-lo) (-x1) (-x0) v→v=-U
 lu:L≤U
 has:∀t,x0≤t→t≤x1→lo≤t^n→t^n≤hi→L≤t∧t≤U
section
variable {n:Nat}{lo hi al bl ah bh x0 x1:Int}
end
theorem zoa {n:Nat}(hn:1≤n){N:Int}(h0:0≤N):∃r:Int,0≤r∧r^n≤N∧N<(r+1)^n:=by
 have key:∀k:Nat,N<((k:Int)+1)^n→∃r:Int,0≤r∧r^n≤N∧N<(r+1)^n:=by
  intro k
  induction k with
  | zero=>exact λh=>⟨0,by omega,by rw[zm5 hn]; exact h0,by simpa using h⟩
  | succ k ih=>
   intro h
   by_cases c:N<((k:Int)+1)^n
   ·exact ih c
   ·exact⟨(k:Int)+1,by omega,by omega,by simpa using h⟩
 refine key N.toNat ?_
 have h1:N<N+1:=by omega
 have h2:(N+1)^1≤(N+1)^n:=by
  obtain⟨k,rfl⟩:∃k,n=k+1:=⟨n-1,by omega⟩
  rw[Vad (N+1) k,Vad,VaP]
  have:0<(N+1)^k:=Vak (by omega)
  exact Vaf (show (1:Int)≤(N+1)^k by omega) (by omega)
 have e:((N.toNat:Nat):Int)=N:=by omega
 rw[e]
 have e1:(N+1)^1=N+1:=by rw[Vad,VaP,Int.one_mul]
 omega
theorem zpo {n:Nat}{N r:Int}(h1:r^n≤N)(h2:N<(r+1)^n):(r^n=N→zbl n N r r)∧(r^n≠N→zbl n N r (r+1)):=
 ⟨λe=>.inl ⟨rfl,e⟩,λe=>.inr ⟨rfl,by omega,h2⟩⟩
theorem zuO {n:Nat}{N a b:Int}(ho:n%2=1)(h:zbl n (-N) a b):zbl n N (-b) (-a):=by
 unfold zbl at h ⊢
 rw[zdb ho,zdb ho]
 rcases h with ⟨rfl,e⟩ | ⟨rfl,e1,e2⟩
 ·exact .inl ⟨rfl,by omega⟩
 ·exact .inr ⟨by omega,by omega,by omega⟩
theorem Sz.mid {n:Nat}{a b x:Int}(ha:Sz n a)(hb:Sz n b)(h1:a≤x)(h2:x≤b):Sz n x:=by
 unfold Sz at *
 generalize 2^n=B at *
 omega
theorem zsn (N:Int)(h:0≤N):N<2^(Builtin.Int.intBits N):=by
 unfold Builtin.Int.intBits
 split
 ·rename_i z
  have:N=0:=by simpa using z
  subst this
  decide
 ·have l:N.natAbs<2^(N.natAbs.log2+1):=Nat.lt_log2_self
  have e:((2^(N.natAbs.log2+1):Nat):Int)=2^(N.natAbs.log2+1):=by simp
  omega
theorem zvs {N n:Int}(h0:0≤N)(hn:1≤n):N<(1*2^((Builtin.Int.intBits N:Int)/n+1).toNat)^n.toNat:=by
 have b:=zsn N h0
 rw[Int.one_mul,← Int.pow_mul]
 refine Int.lt_of_lt_of_le b ?_
 have e:(2:Int)^(((Builtin.Int.intBits N:Int)/n+1).toNat*n.toNat)=((2^(((Builtin.Int.intBits N:Int)/n+1).toNat*n.toNat):Nat):Int):=by simp
 have e2:(2:Int)^(Builtin.Int.intBits N)=((2^(Builtin.Int.intBits N):Nat):Int):=by simp
 rw[e,e2]
 refine Int.ofNat_le.mpr (Nat.pow_le_pow_right (by decide) ?_)
 have d1:=Int.emod_add_mul_ediv (Builtin.Int.intBits N:Int) n
 have d2:=Int.emod_lt_of_pos (Builtin.Int.intBits N:Int) (show 0<n by omega)
 have d3:=Int.ediv_nonneg (show (0:Int)≤(Builtin.Int.intBits N:Int) by omega) (show 0≤n by omega)
 have m:(((((Builtin.Int.intBits N:Int)/n+1).toNat*n.toNat:Nat):Int))=n*((Builtin.Int.intBits N:Int)/n)+n:=by
  rw[Int.natCast_mul,Int.toNat_of_nonneg (by omega),Int.toNat_of_nonneg (by omega)]
  grind
 omega
theorem zum {N n:Int}(hn:2≤n)(s:Sz 1300 N):Sz 652 (1*2^((Builtin.Int.intBits N:Int)/n+1).toNat):=by
 have b:=s.bits
 rw[Int.one_mul]
 unfold Sz
 rw[Int.natAbs_pow]
 have e:(2:Int).natAbs=2:=rfl
 rw[e]
 refine Nat.pow_lt_pow_right (by decide) ?_
 have d:(Builtin.Int.intBits N:Int)/n≤650:=by
  have h1:(Builtin.Int.intBits N:Int)/n≤(Builtin.Int.intBits N:Int)/2:=by
   refine(Int.le_ediv_iff_mul_le (by omega)).mpr ?_
   have d1:=Int.emod_add_mul_ediv (Builtin.Int.intBits N:Int) n
   have d2:=Int.emod_nonneg (Builtin.Int.intBits N:Int) (show n≠0 by omega)
   have d3:=Int.ediv_nonneg (show (0:Int)≤(Builtin.Int.intBits N:Int) by omega) (show 0≤n by omega)
   have d4:=Vaf hn d3
   have d5:(Builtin.Int.intBits N:Int)/n*2=2*((Builtin.Int.intBits N:Int)/n):=Vav _ _
   omega
  omega
 omega
theorem zvZ {n g N:Int}(hn:1≤n):((n-1)*g+N/g^(n-1).toNat)/n=((((n.toNat:Nat):Int)-1)*g+N/g^(n.toNat-1))/((n.toNat:Nat):Int):=by
 have e1:((n.toNat:Nat):Int)=n:=by omega
 have e2:(n-1).toNat=n.toNat-1:=by omega
 rw[e1,e2]
def bk2 (i j:Int)(f:Option (Int×Int))(s:Int×Int→Option (Int×Int)):Option (List (Int×(Int×Int))):=match f with
 | none=>none
 | some x=>match s x with
  | none=>none
  | some y=>some [(i,x),(j,y)]
theorem zq7 {caps:List Nat}{tl te:TDE}{dl:Ev}{S S1:Sto}{Q:DK}{n:Nat}{o:Ob}(W:Nat→List D→Sto→Prop)(htl:∀K:DK,K (.ref n) S1→tl dl S K)(h1:S1[n]?=some o)(hw:∀k ys S2,W k ys S2→S2[n]?=some o∧S2[S1.length]?=some (.lst ys)∧ys.length=k)(hl:(zas o).length≤1000)(h0:W 0 [] (S1++[.lst []]))
  (ht:∀(k:Nat) (x:D) (ys:List D) (S2:Sto) (K:DK),(zas o)[k]?=some x→W k ys S2→(∀y S3,S3[S1.length]?=some (.lst ys)→W (k+1) (ys++[y]) (S3.set S1.length (.lst (ys++[y])))→K y S3)→te (some x::zct caps dl) S2 K)
  (hq:∀ys S2,W (zas o).length ys S2→Q (.ref S1.length) S2)(hL:zbR o=some o:=by rfl):zdI caps tl zcA te dl S Q:=by
 unfold zdI
 refine htl _ ⟨by rw[za4 h1 hL]; rfl,λk m S2=>(∃ys,W k ys S2)∧m+k=(zas o).length,⟨(zas o).length,⟨_,h0⟩,by omega⟩,?_⟩
 rintro k m S2 ⟨⟨ys,w⟩,hm⟩
 obtain⟨w1,w2,w3⟩:=hw _ _ _ w
 rw[za4 w1 hL]
 dsimp only
 split
 ·rename_i x hx
  have hk:k<(zas o).length:=(Vab.mp hx).1
  unfold zdD zcA
  simp only[if_true]
  refine ht k x ys S2 _ hx w λy S3 e3 w4=>?_
  rw[e3]
  exact⟨by omega,m-1,by omega,⟨_,w4⟩,by omega⟩
 ·rename_i hx
  have hk:k=(zas o).length:=by
   have:=VaQ.mp hx
   omega
  exact hq ys S2 (hk ▸ w)
theorem zpR {vs:List Nd}{k:Nat}{v:Nd}(h:vs[k]?=some v):atI (vs.map Nd.d) (k:Int)=some v.d:=ziL (by rw[Vap,h]; rfl)
theorem zqd {is:List Nat}{ta:TDA}{tb:TDS}{E:zcP}{dl:Ev}{S S1:Sto}{n:Nat}{xs:List D}(W:Nat→Ev→Sto→Prop)(hta:∀K:List D→Sto→Prop,K [.ref n] S1→ta dl S K)(hk:∀k dl' S',W k dl' S'→S'[n]?=some (.lst xs))(h0:W 0 dl S1)
  (hb:∀(k:Nat) (x:D) (dl':Ev) (S':Sto) (nx ct:Ev→Sto→Prop),xs[k]?=some x→W k dl' S'→(∀dl2 S2,W (k+1) dl2 S2→nx dl2 S2)→tb { nx:=nx,rt:=E.rt,bk:=E.nx,ct:=ct } (zfT is [.int (k:Int),x] dl') S')(he:∀dl' S',W xs.length dl' S'→E.nx dl' S'):zi3 is ta tb E dl S:=by
 unfold zi3
 refine hta _ ⟨by rw[za4 (hk _ _ _ h0) rfl]; rfl,λk m dl' S'=>W k dl' S'∧k+m=xs.length,⟨xs.length,h0,by omega⟩,?_⟩
 rintro k m dl' S' ⟨w,hm⟩
 rw[za4 (hk _ _ _ w) rfl]
 dsimp only[zas]
 split
 ·rename_i x e1
  have l1:=(Vab.mp e1).1
  exact hb k x dl' S' _ _ e1 w (λdl2 S2 w2=>⟨m-1,by omega,w2,by omega⟩)
 ·rename_i e1
  have l1:=VaQ.mp e1
  have ek:k=xs.length:=by omega
  exact⟨ek,he _ _ (ek ▸ w)⟩
theorem zmw {xs:List D}{n:Int}(h0:0≤n)(h1:n≤xs.length):zbd xs none (some n)=xs.take n.toNat:=by
 unfold L3.zbd
 have e:HT.sIx xs.length xs.length (some n)=n.toNat:=by
  have z:=HT.sIx_nat xs.length xs.length n.toNat
  rw[Int.toNat_of_nonneg h0] at z
  rw[z]
  omega
 rw[e,HT.sIx_none,List.drop_zero,Nat.sub_zero]
def ptB (x l h:Int×Int):Option (Int×Int):=if l.2 > x.2 then none else if h.1<x.1 then none else some (if x.1 > l.1 then x.1 else l.1,if x.2<h.2 then x.2 else h.2)
def loE (lo:Int)(x:Int×Int)(lb:Int):Int×Int:=if lb=0 then (x.1,x.1) else (lo/lb,-(-lo/lb))
def hiE (hi:Int)(x:Int×Int)(hb:Int):Int×Int:=if hb=0 then (x.2,x.2) else (hi/hb,-(-hi/hb))
def sdS (lo hi:Int)(x:Int×Int)(c d:Int):Option (Int×Int):=ptB x (loE lo x (zaX lo c d)) (hiE hi x (zaR hi c d))
def joS:Option (Int×Int)→Option (Int×Int)→Option (Int×Int)
 | none,o=>o
 | some p,none=>some p
 | some p,some q=>some (if q.1<p.1 then q.1 else p.1,if q.2 > p.2 then q.2 else p.2)
def btS (z x y:Int×Int)(g:Int):Option (Int×Int):=
 if (y.1≤0∧0≤y.2)∧z.1≤0∧0≤z.2 then some x else
  joS (if y.2 > 0 then sdS (z.1*g) (z.2*g) x (mx0 y.1) y.2 else none) (if y.1<0 then sdS (-(z.2*g)) (-(z.1*g)) x (mx0 (-y.2)) (-y.1) else none)
theorem znL {lo hi c d:Int}{x:Int×Int}(h:zbO lo hi x.1 x.2 c d):(sdS lo hi x c d=none→NoV x.1 x.2 (Ans lo hi c d))∧∀p,sdS lo hi x c d=some p→za3 x.1 x.2 (Ans lo hi c d) (zbS lo hi x.1 x.2 c d) p.1 p.2:=by
 have hl:zaX lo c d=0∧(loE lo x (zaX lo c d)).1=x.1∧(loE lo x (zaX lo c d)).2=x.1∨zaX lo c d≠0∧(loE lo x (zaX lo c d)).1=lo/zaX lo c d∧(loE lo x (zaX lo c d)).2=-(-lo/zaX lo c d):=by
  by_cases e:zaX lo c d=0
  ·exact .inl ⟨e,by rw[loE,if_pos e],by rw[loE,if_pos e]⟩
  ·exact .inr ⟨e,by rw[loE,if_neg e],by rw[loE,if_neg e]⟩
 have hh:zaR hi c d=0∧(hiE hi x (zaR hi c d)).1=x.2∧(hiE hi x (zaR hi c d)).2=x.2∨zaR hi c d≠0∧(hiE hi x (zaR hi c d)).1=hi/zaR hi c d∧(hiE hi x (zaR hi c d)).2=-(-hi/zaR hi c d):=by
  by_cases e:zaR hi c d=0
  ·exact .inl ⟨e,by rw[hiE,if_pos e],by rw[hiE,if_pos e]⟩
  ·exact .inr ⟨e,by rw[hiE,if_neg e],by rw[hiE,if_neg e]⟩
 have z:=zws h hl hh
 unfold sdS ptB
 refine⟨λe=>?_,λp e=>?_⟩
 ·refine z.1 ?_
  split at e
  ·exact .inl ‹_›
  ·split at e
   ·exact .inr ‹_›
   ·cases e
 ·split at e
  ·cases e
  ·split at e
   ·cases e
   ·cases e
    exact z.2 ‹_› ‹_›
theorem zov {z x y:Int×Int}{g:Int}(hz:z.1≤z.2)(hx:x.1≤x.2)(hy:y.1≤y.2)(hg:1≤g):(btS z x y g=none→NoV x.1 x.2 (Ans (z.1*g) (z.2*g) y.1 y.2))∧∀p,btS z x y g=some p→zdQ (z.1*g) (z.2*g) x.1 x.2 y.1 y.2 p.1 p.2:=by
 have hzz:z.1*g≤z.2*g:=mlr hz (by omega)
 have zlo:z.1*g≤0∧0≤z.2*g↔z.1≤0∧0≤z.2:=by
  constructor
  ·rintro⟨a,b⟩
   exact⟨can (show z.1*g≤0*g by omega) (by omega),can (show 0*g≤z.2*g by omega) (by omega)⟩
  ·rintro⟨a,b⟩
   exact⟨Int.mul_nonpos_of_nonpos_of_nonneg a (by omega),Vah b (by omega)⟩
 unfold btS
 split
 ·rename_i c
  refine⟨λe=>(by cases e),λp e=>?_⟩
  cases e
  exact zsh hx c.1 (zlo.mpr c.2)
 ·rename_i c
  have nb:¬ ((y.1≤0∧0≤y.2)∧z.1*g≤0∧0≤z.2*g):=λq=>c ⟨q.1,zlo.mp q.2⟩
  by_cases c1:y.2 > 0
  ·have S1:=znL (x:=x) (lo:=z.1*g) (hi:=z.2*g) (c:=mx0 y.1) (d:=y.2) ⟨hzz,hx,zbJ _,ziH (by omega) (by omega),c1⟩
   rw[if_pos c1]
   by_cases c2:y.1<0
   ·have S2:=znL (x:=x) (lo:=-(z.2*g)) (hi:=-(z.1*g)) (c:=mx0 (-y.2)) (d:=-y.1) ⟨by omega,hx,zbJ _,ziH (by omega) (by omega),by omega⟩
    rw[if_pos c2]
    generalize sdS (z.1*g) (z.2*g) x (mx0 y.1) y.2=o1 at S1
    generalize sdS (-(z.2*g)) (-(z.1*g)) x (mx0 (-y.2)) (-y.1)=o2 at S2
    cases o1 with
    | none=>cases o2 with
     | none=>exact⟨λ_=>zqP hzz hy nb (S1.1 rfl) (S2.1 rfl),λp e=>by cases e⟩
     | some q=>exact⟨λe=>(by cases e),λp e=>by cases e; exact zu9 hzz hy nb c1 c2 (S1.1 rfl) (S2.2 _ rfl)⟩
    | some p=>cases o2 with
     | none=>exact⟨λe=>(by cases e),λp e=>by cases e; exact ztp hzz hy nb c1 c2 (S1.2 _ rfl) (S2.1 rfl)⟩
     | some q=>exact⟨λe=>(by cases e),λp e=>by cases e; exact ztW hzz hy nb c1 c2 (S1.2 _ rfl) (S2.2 _ rfl)⟩
   ·rw[if_neg c2]
    generalize sdS (z.1*g) (z.2*g) x (mx0 y.1) y.2=o1 at S1
    cases o1 with
    | none=>exact⟨λ_=>zvK hzz hy nb (S1.1 rfl) c2,λp e=>by cases e⟩
    | some p=>exact⟨λe=>(by cases e),λp e=>by cases e; exact zt4 hzz hy nb c1 c2 (S1.2 _ rfl)⟩
  ·rw[if_neg c1]
   by_cases c2:y.1<0
   ·have S2:=znL (x:=x) (lo:=-(z.2*g)) (hi:=-(z.1*g)) (c:=mx0 (-y.2)) (d:=-y.1) ⟨by omega,hx,zbJ _,ziH (by omega) (by omega),by omega⟩
    rw[if_pos c2]
    generalize sdS (-(z.2*g)) (-(z.1*g)) x (mx0 (-y.2)) (-y.1)=o2 at S2
    cases o2 with
    | none=>exact⟨λ_=>zs7 hzz hy nb c1 (S2.1 rfl),λp e=>by cases e⟩
    | some q=>exact⟨λe=>(by cases e),λp e=>by cases e; exact zp6 hzz hy nb c1 c2 (S2.2 _ rfl)⟩
   ·rw[if_neg c2]
    exact⟨λ_=>zti hzz hy nb c1 c2,λp e=>by cases e⟩
def Sub (x:Int×Int)(o:Option (Int×Int)):Prop:=∀p,o=some p→p.1≤p.2∧x.1≤p.1∧p.2≤x.2
theorem zjN {z x y:Int×Int}{g:Int}(hz:z.1≤z.2)(hx:x.1≤x.2)(hy:y.1≤y.2)(hg:1≤g):Sub x (btS z x y g):=λp e=>by
 have W:=(zov hz hx hy hg).2 p e
 exact⟨W.le,W.within.1,W.within.2⟩
def InF (s:Int×Int)(g t u:Int):Prop:=s.1*u≤t*g∧t*g≤s.2*u
def Has (g t u:Int)(o:Option (Int×Int)):Prop:=∃p,o=some p∧InF p g t u
theorem zoO {z x y:Int×Int}{g t u r s:Int}(hz:z.1≤z.2)(hx:x.1≤x.2)(hy:y.1≤y.2)(hg:1≤g)(hu:1≤u)(hs:1≤s)(ix:InF x g t u)(iy:InF y g r s)(iz:InF z g (t*r) (u*s)):Has g t u (btS z x y g):=by
 have A:Ans (z.1*g) (z.2*g) y.1 y.2 (t*g) u:=by
  have e1:=mlr iz.1 (show 0≤g by omega)
  have e2:=mlr iz.2 (show 0≤g by omega)
  have f1:z.1*(u*s)*g=z.1*g*u*s:=by grind
  have f2:t*r*g*g=t*g*(r*g):=by grind
  have f3:z.2*(u*s)*g=z.2*g*u*s:=by grind
  rw[f1,f2] at e1
  rw[f2,f3] at e2
  have q:(t*g*y.1*s≤t*g*(r*g)∧t*g*(r*g)≤t*g*y.2*s)∨(t*g*y.2*s≤t*g*(r*g)∧t*g*(r*g)≤t*g*y.1*s):=by
   have k1:∀a:Int,t*g*a*s=t*g*(a*s):=λa=>Int.mul_assoc _ _ _
   rw[k1,k1]
   by_cases c:0≤t*g
   ·exact .inl ⟨Va4 iy.1 c,Va4 iy.2 c⟩
   ·exact .inr ⟨Int.mul_le_mul_of_nonpos_left (by omega) iy.2,Int.mul_le_mul_of_nonpos_left (by omega) iy.1⟩
  have cs:∀ {a b:Int},a*s≤b*s→a≤b:=λh=>can h (by omega)
  unfold Ans
  rcases q with ⟨q1,q2⟩ | ⟨q1,q2⟩
  ·exact⟨.inl (cs (by omega)),.inr (cs (by omega))⟩
  ·exact⟨.inr (cs (by omega)),.inl (cs (by omega))⟩
 have E:=zov hz hx hy hg
 generalize btS z x y g=o at E
 cases o with
 | none=>exact absurd A (E.1 rfl _ _ (by omega) ix.1 ix.2)
 | some p=>exact⟨p,rfl,(E.2 p rfl).all _ _ (by omega) ix.1 ix.2 A⟩
noncomputable def rbS (N:Int)(n:Nat):Int:=open Classical in if h:∃r:Int,0≤r∧r^n≤N∧N<(r+1)^n then Classical.choose h else 0
theorem zmN {N r:Int}{n:Nat}(h0:0≤r)(h1:r^n≤N)(h2:N<(r+1)^n):r=rbS N n:=by
 have ex:∃r:Int,0≤r∧r^n≤N∧N<(r+1)^n:=⟨r,h0,h1,h2⟩
 have e:rbS N n=Classical.choose ex:=by unfold rbS; rw[dif_pos ex]
 obtain⟨c0,c1,c2⟩:=Classical.choose_spec ex
 rw[← e] at c0 c1 c2
 have a:=plt (n:=n) (show 0≤rbS N n+1 by omega) (Int.lt_of_le_of_lt h1 c2)
 have b:=plt (n:=n) (show 0≤r+1 by omega) (Int.lt_of_le_of_lt c1 h2)
 omega
noncomputable def rt0 (N:Int)(n:Nat):Int×Int:=if (rbS N n)^n=N then (rbS N n,rbS N n) else (rbS N n,rbS N n+1)
noncomputable def rtS (N:Int)(n:Nat):Int×Int:=if N<0 then (-(rt0 (-N) n).2,-(rt0 (-N) n).1) else rt0 N n
theorem zpB {N:Int}{n:Nat}(hn:1≤n)(h0:0≤N):zbl n N (rt0 N n).1 (rt0 N n).2∧0≤(rt0 N n).1:=by
 obtain⟨r,r0,r1,r2⟩:=zoa hn h0
 have e:=zmN r0 r1 r2
 unfold rt0
 rw[← e]
 split
 ·exact⟨(zpo r1 r2).1 ‹_›,r0⟩
 ·exact⟨(zpo r1 r2).2 ‹_›,r0⟩
theorem zdo {N:Int}{n:Nat}(hn:1≤n)(h:n%2=1∨0≤N):zbl n N (rtS N n).1 (rtS N n).2∧(0≤N→0≤(rtS N n).1):=by
 unfold rtS
 split
 ·exact⟨zuO (by omega) (zpB hn (by omega)).1,λz=>by omega⟩
 ·have z:=zpB (N:=N) hn (by omega)
  exact⟨z.1,λ_=>z.2⟩
noncomputable def bpS (z x:Int×Int)(n g:Int):Option (Int×Int):=
 if n%2=1 then ptB x (rtS (z.1*g^(n-1).toNat) n.toNat) (rtS (z.2*g^(n-1).toNat) n.toNat) else
  if z.2*g^(n-1).toNat<0 then none else
   joS (ptB x (rtS (mx0 (z.1*g^(n-1).toNat)) n.toNat) (rtS (z.2*g^(n-1).toNat) n.toNat))
    (ptB x (-(rtS (z.2*g^(n-1).toNat) n.toNat).2,-(rtS (z.2*g^(n-1).toNat) n.toNat).1) (-(rtS (mx0 (z.1*g^(n-1).toNat)) n.toNat).2,-(rtS (mx0 (z.1*g^(n-1).toNat)) n.toNat).1))
theorem zbl.ab {n:Nat}{N a b:Int}(h:zbl n N a b):a≤b∧a^n≤N∧N≤b^n:=by
 unfold zbl at h
 rcases h with ⟨e,h⟩ | ⟨e,h1,h2⟩
 ·subst e; omega
 ·omega
theorem zmK {x l h:Int×Int}(hx:x.1≤x.2)(hl:l.1≤l.2)(hh:h.1≤h.2)(lh:l.1≤h.2):Sub x (ptB x l h):=λp e=>by
 unfold ptB at e
 split at e
 ·cases e
 ·split at e
  ·cases e
  ·cases e
   dsimp only
   split <;> split <;> omega
theorem zuE {x:Int×Int}{a b:Option (Int×Int)}(h1:Sub x a)(h2:Sub x b):Sub x (joS a b):=λp e=>by
 cases a with
 | none=>exact h2 p e
 | some q=>cases b with
  | none=>exact h1 p e
  | some r=>
   have z1:=h1 q rfl
   have z2:=h2 r rfl
   cases e
   dsimp only
   split <;> split <;> omega
theorem jo_l {a b:Option (Int×Int)}{g t u:Int}(hu:0≤u)(h:Has g t u a):Has g t u (joS a b):=by
 obtain⟨p,rfl,i⟩:=h
 cases b with
 | none=>exact⟨p,rfl,i⟩
 | some q=>
  refine⟨_,rfl,?_,?_⟩
  ·dsimp only
   split
   ·have:=mlr (c:=u) (show q.1≤p.1 by omega) hu
    have:=i.1
    omega
   ·exact i.1
  ·dsimp only
   split
   ·have:=mlr (c:=u) (show p.2≤q.2 by omega) hu
    have:=i.2
    omega
   ·exact i.2
theorem jo_r {a b:Option (Int×Int)}{g t u:Int}(hu:0≤u)(h:Has g t u b):Has g t u (joS a b):=by
 obtain⟨p,rfl,i⟩:=h
 cases a with
 | none=>exact⟨p,rfl,i⟩
 | some q=>
  refine⟨_,rfl,?_,?_⟩
  ·dsimp only
   split
   ·exact i.1
   ·have:=mlr (c:=u) (show q.1≤p.1 by omega) hu
    have:=i.1
    omega
  ·dsimp only
   split
   ·exact i.2
   ·have:=mlr (c:=u) (show p.2≤q.2 by omega) hu
    have:=i.2
    omega
theorem zoM {n:Nat}{N M al bl ah bh:Int}(hn:1≤n)(ok:n%2=1∨0≤al∧0≤ah)(h1:zbl n N al bl)(h2:zbl n M ah bh)(h:N≤M):al≤bh:=by
 have a:=h1.ab
 have b:=h2.ab
 by_cases c:al≤bh
 ·exact c
 ·rcases ok with ho | ⟨o1,o2⟩
  ·have:=zfj ho (show bh<al by omega)
   omega
  ·have:=zdH (n:=n) (show 0≤bh by omega) (show bh<al by omega) hn
   omega
theorem zoE (a:Int):mx0 a=a∧0≤a∨mx0 a=0∧a≤0:=by
 unfold mx0
 split <;> omega
theorem zuQ {z x:Int×Int}{n g:Int}(hz:z.1≤z.2)(hx:x.1≤x.2)(hg:1≤g)(hn:2≤n):Sub x (bpS z x n g):=by
 have gp:(0:Int)<g^(n-1).toNat:=Vak (by omega)
 have hzz:z.1*g^(n-1).toNat≤z.2*g^(n-1).toNat:=mlr hz (by omega)
 unfold bpS
 generalize g^(n-1).toNat=G at gp hzz
 generalize z.1*G=lo at hzz
 generalize z.2*G=hi at hzz
 have hn1:1≤n.toNat:=by omega
 split
 ·have ho:n.toNat%2=1:=by omega
  have r1:=(zdo (N:=lo) hn1 (.inl ho)).1
  have r2:=(zdo (N:=hi) hn1 (.inl ho)).1
  exact zmK hx r1.ab.1 r2.ab.1 (zoM hn1 (.inl ho) r1 r2 hzz)
 ·split
  ·exact λp e=>by cases e
  ·have m0:0≤mx0 lo:=zbJ lo
   have r1:=zdo (N:=mx0 lo) hn1 (.inr m0)
   have r2:=zdo (N:=hi) hn1 (.inr (by omega))
   have le:mx0 lo≤hi:=ziH hzz (by omega)
   have k:=zoM hn1 (.inr ⟨r1.2 m0,r2.2 (by omega)⟩) r1.1 r2.1 le
   have a1:=r1.1.ab.1
   have a2:=r2.1.ab.1
   refine zuE (zmK hx a1 a2 k) (zmK hx ?_ ?_ ?_)
   ·show -(rtS hi n.toNat).2≤-(rtS hi n.toNat).1
    omega
   ·show -(rtS (mx0 lo) n.toNat).2≤-(rtS (mx0 lo) n.toNat).1
    omega
   ·show -(rtS hi n.toNat).2≤-(rtS (mx0 lo) n.toNat).1
    omega
theorem pw_le {n:Nat}(hn:1≤n){a P u N:Int}(hu:1≤u)(ok:n%2=1∨0≤P∧0≤a)(h1:a^n≤N)(h2:N*u^n≤P^n):a*u≤P:=by
 have up:0<u^n:=Vak (by omega)
 have e:=mlr h1 (Vaq up)
 rw[← VaA] at e
 by_cases c:a*u≤P
 ·exact c
 ·rcases ok with ho | ⟨o1,o2⟩
  ·have:=zfj ho (show P<a*u by omega)
   omega
  ·have:=zdH (n:=n) o1 (show P<a*u by omega) hn
   omega
theorem pw_ge {n:Nat}(hn:1≤n){b P u N:Int}(hu:1≤u)(ok:n%2=1∨0≤b)(h1:N≤b^n)(h2:P^n≤N*u^n):P≤b*u:=by
 have up:0<u^n:=Vak (by omega)
 have e:=mlr h1 (Vaq up)
 rw[← VaA] at e
 by_cases c:P≤b*u
 ·exact c
 ·rcases ok with ho | o1
  ·have:=zfj ho (show b*u<P by omega)
   omega
  ·have:=zdH (n:=n) (Vah o1 (by omega)) (show b*u<P by omega) hn
   omega
theorem zm6 {n:Nat}(hn:1≤n){x:Int×Int}{lo hi al bl ah bh g t u:Int}(hu:1≤u)(ok:n%2=1∨0≤t*g∧0≤al∧0≤ah)(r1:zbl n lo al bl)(r2:zbl n hi ah bh)(ix:InF x g t u)(h1:lo*u^n≤(t*g)^n)(h2:(t*g)^n≤hi*u^n):Has g t u (ptB x (al,bl) (ah,bh)):=by
 have up:0<u^n:=Vak (by omega)
 have a1:=r1.ab
 have a2:=r2.ab
 have k1:al*u≤t*g:=pw_le hn hu (by omega) a1.2.1 h1
 have k2:t*g≤bh*u:=pw_ge hn hu (by omega) a2.2.2 h2
 have c1:¬ bl > x.2:=by
  have px:n%2=1∨0≤x.2:=by
   rcases ok with o | o
   ·exact .inl o
   ·exact .inr (can (show 0*u≤x.2*u by have:=ix.2; omega) (by omega))
  have z:lo≤x.2^n:=by
   have p:(t*g)^n≤(x.2*u)^n:=by
    rcases ok with o | o
    ·exact zfc o ix.2
    ·exact zcp o.1 ix.2
   rw[show (x.2*u)^n=x.2^n*u^n from VaA] at p
   exact can (show lo*u^n≤x.2^n*u^n by omega) up
  have:=(r1.ge hn (by omega) px).mp z
  omega
 have c2:¬ ah<x.1:=by
  by_cases px:n%2=1∨0≤x.1
  ·have z:x.1^n≤hi:=by
    have p:(x.1*u)^n≤(t*g)^n:=by
     rcases px with o | o
     ·exact zfc o ix.1
     ·exact zcp (Vah o (by omega)) ix.1
    rw[show (x.1*u)^n=x.1^n*u^n from VaA] at p
    exact can (show x.1^n*u^n≤hi*u^n by omega) up
   have:=(r2.le hn (by omega) px).mp z
   omega
  ·omega
 unfold ptB
 rw[if_neg c1,if_neg c2]
 refine⟨_,rfl,?_,?_⟩
 ·dsimp only
  split
  ·exact ix.1
  ·exact k1
 ·dsimp only
  split
  ·exact ix.2
  ·exact k2
theorem zt6 {z x:Int×Int}{n g t u:Int}(hz:z.1≤z.2)(hg:1≤g)(hn:2≤n)(hu:1≤u)(ix:InF x g t u)(iz:InF z g (t^n.toNat) (u^n.toNat)):Has g t u (bpS z x n g):=by
 have gp:(0:Int)<g^(n-1).toNat:=Vak (by omega)
 have hn1:1≤n.toNat:=by omega
 have up:0<u^n.toNat:=Vak (by omega)
 have eg:(t*g)^n.toNat=t^n.toNat*g*g^(n-1).toNat:=by
  rw[VaA,show n.toNat=(n-1).toNat+1 by omega,Vad g]
  grind
 have h1:z.1*g^(n-1).toNat*u^n.toNat≤(t*g)^n.toNat:=by
  have e:=mlr iz.1 (Vaq gp)
  rw[eg]
  have f:z.1*u^n.toNat*g^(n-1).toNat=z.1*g^(n-1).toNat*u^n.toNat:=by grind
  omega
 have h2:(t*g)^n.toNat≤z.2*g^(n-1).toNat*u^n.toNat:=by
  have e:=mlr iz.2 (Vaq gp)
  rw[eg]
  have f:z.2*u^n.toNat*g^(n-1).toNat=z.2*g^(n-1).toNat*u^n.toNat:=by grind
  omega
 have hzz:z.1*g^(n-1).toNat≤z.2*g^(n-1).toNat:=mlr hz (by omega)
 unfold bpS
 generalize g^(n-1).toNat=G at *
 generalize z.1*G=lo at *
 generalize z.2*G=hi at *
 split
 ·have ho:n.toNat%2=1:=by omega
  exact zm6 hn1 hu (.inl ho) (zdo (N:=lo) hn1 (.inl ho)).1 (zdo (N:=hi) hn1 (.inl ho)).1 ix h1 h2
 ·have he:n.toNat%2=0:=by omega
  have q0:=zwi he (t*g)
  have hi0:0≤hi:=can (show 0*u^n.toNat≤hi*u^n.toNat by omega) up
  rw[if_neg (by omega)]
  have m0:0≤mx0 lo:=zbJ lo
  have r1:=zdo (N:=mx0 lo) hn1 (.inr m0)
  have r2:=zdo (N:=hi) hn1 (.inr hi0)
  have h1':mx0 lo*u^n.toNat≤(t*g)^n.toNat:=by
   rcases zoE lo with ⟨e,_⟩ | ⟨e,_⟩
   ·rw[e]; exact h1
   ·rw[e]; omega
  by_cases c:0≤t*g
  ·exact jo_l (by omega) (zm6 hn1 hu (.inr ⟨c,r1.2 m0,r2.2 hi0⟩) r1.1 r2.1 ix h1' h2)
  ·refine jo_r (by omega) ?_
   have e:(-t*g)^n.toNat=(t*g)^n.toNat:=by rw[Vae,zgn he]
   have ix':InF (-x.2,-x.1) g (-t) u:=⟨by show -x.2*u≤-t*g; rw[Vae,Vae]; have:=ix.2; omega,by show -t*g≤-x.1*u; rw[Vae,Vae]; have:=ix.1; omega⟩
   obtain⟨p,ep,ip⟩:=zm6 hn1 hu (.inr ⟨by rw[Vae]; omega,r1.2 m0,r2.2 hi0⟩) r1.1 r2.1 ix' (by rw[e]; exact h1') (by rw[e]; exact h2)
   have i1:=ip.1
   have i2:=ip.2
   rw[Vae] at i1 i2
   refine⟨(-p.2,-p.1),?_,?_,?_⟩
   ·unfold ptB at ep ⊢
    dsimp only at ep ⊢
    split at ep
    ·cases ep
    ·split at ep
     ·cases ep
     ·cases ep
      rw[if_neg (show ¬ -(rtS hi n.toNat).1 > x.2 by omega),if_neg (show ¬ -(rtS (mx0 lo) n.toNat).2<x.1 by omega)]
      congr 1
      refine Prod.ext ?_ ?_
      ·dsimp only
       split <;> split <;> omega
      ·dsimp only
       split <;> split <;> omega
   ·show -p.2*u≤t*g
    rw[Vae]
    omega
   ·show t*g≤-p.1*u
    rw[Vae]
    omega
theorem zga {p q:Int×Int}{g t u:Int}(hu:1≤u)(h1:InF p g t u)(h2:InF q g t u):Has g t u (zaU p q):=by
 have go:∀lo hi:Int,lo*u≤t*g→t*g≤hi*u→Has g t u (if hi<lo then none else some (lo,hi)):=λlo hi a b=>by
  have:lo≤hi:=can (show lo*u≤hi*u by omega) (by omega)
  rw[if_neg (by omega)]
  exact⟨_,rfl,a,b⟩
 unfold zaU
 refine go _ _ ?_ ?_
 ·split
  ·exact h2.1
  ·exact h1.1
 ·split
  ·exact h2.2
  ·exact h1.2
theorem zgV {p q:Int×Int}:Sub p (zaU p q):=λr e=>by
 refine⟨zwq e,?_⟩
 unfold zaU at e
 have go:∀lo hi:Int,p.1≤lo→hi≤p.2→(if hi<lo then none else some (lo,hi))=some r→p.1≤r.1∧r.2≤p.2:=λlo hi a b e=>by
  split at e
  ·cases e
  ·cases e
   exact⟨a,b⟩
 refine go _ _ ?_ ?_ e
 ·split <;> omega
 ·split <;> omega
noncomputable def Nd.bk (vs:List (Int×Int))(z:Int×Int)(g:Int):Nd→Option (List (Int×(Int×Int)))
 | .plus i j=>bk2 i j (zaU (gt vs i) (z.1-(gt vs j).2,z.2-(gt vs j).1)) λx=>zaU (if i=j then x else gt vs j) (z.1-x.2,z.2-x.1)
 | .minus i j=>bk2 i j (zaU (gt vs i) (z.1+(gt vs j).1,z.2+(gt vs j).2)) λx=>zaU (if i=j then x else gt vs j) (x.1-z.2,x.2-z.1)
 | .times i j=>bk2 i j (btS z (gt vs i) (gt vs j) g) λx=>btS z (if i=j then x else gt vs j) x g
 | .power i n=>match bpS z (gt vs i) n g with
  | none=>none
  | some x=>some [(i,x)]
 | _=>some []
theorem Sz.in2 {B:Nat}{x p:Int×Int}(h1:Sz B x.1)(h2:Sz B x.2)(h:p.1≤p.2∧x.1≤p.1∧p.2≤x.2):p.1≤p.2∧Sz B p.1∧Sz B p.2:=⟨h.1,Sz.mid h1 h2 h.2.1 (by omega),Sz.mid h1 h2 (by omega) h.2.2⟩
def Pts (B:Nat)(m:Int)(l:List (Int×(Int×Int))):Prop:=l.length≤2∧∀p∈l,inR m p.1∧p.2.1≤p.2.2∧Sz B p.2.1∧Sz B p.2.2
theorem zny {B:Nat}{vs:List (Int×Int)}{i j:Int}{f:Option (Int×Int)}{s:Int×Int→Option (Int×Int)}{l:List (Int×(Int×Int))}(hs:Spn B vs)(hi:inR vs.length i)(hj:inR vs.length j)(h1:Sub (gt vs i) f)(h2:∀x,f=some x→Sub (if i=j then x else gt vs j) (s x))(h:bk2 i j f s=some l):Pts B vs.length l:=by
 unfold bk2 at h
 split at h
 ·cases h
 ·rename_i x
  split at h
  ·cases h
  ·rename_i y ey
   cases h
   have a:=(hs.at hi).2
   have b:=(hs.at hj).2
   have zx:=Sz.in2 a.1 a.2 (h1 x rfl)
   have zy:y.1≤y.2∧Sz B y.1∧Sz B y.2:=by
    have q:=h2 x rfl y ey
    split at q
    ·exact Sz.in2 zx.2.1 zx.2.2 q
    ·exact Sz.in2 b.1 b.2 q
   refine⟨by simp,λp hp=>?_⟩
   simp only[Vai,VaM,or_false] at hp
   rcases hp with rfl | rfl
   ·exact⟨hi,zx⟩
   ·exact⟨hj,zy⟩
theorem Nd.bk_pts {B:Nat}{vs:List (Int×Int)}{z:Int×Int}{g q:Int}(hs:Spn B vs)(hz:z.1≤z.2)(hg:1≤g):∀(v:Nd) (l:List (Int×(Int×Int))),v.ok vs.length q→v.bk vs z g=some l→Pts B vs.length l
 | .number _ _,l,_,h=>by cases h; exact⟨by simp,λp hp=>nomatch hp⟩
 | .unknown _,l,_,h=>by cases h; exact⟨by simp,λp hp=>nomatch hp⟩
 | .plus i j,l,ok,h=>zny hs ok.1 ok.2 zgV (λx _=>zgV) h
 | .minus i j,l,ok,h=>zny hs ok.1 ok.2 zgV (λx _=>zgV) h
 | .times i j,l,ok,h=>by
  have a:=(hs.at ok.1).1
  have b:=(hs.at ok.2).1
  have s1:=zjN (z:=z) (x:=gt vs i) (y:=gt vs j) hz a b hg
  refine zny hs ok.1 ok.2 s1 (λx e=>?_) h
  have lx:=(s1 x e).1
  refine zjN hz ?_ lx hg
  split
  ·exact lx
  ·exact b
 | .power i n,l,ok,h=>by
  have a:=hs.at ok.1
  have s1:=zuQ (z:=z) (x:=gt vs i) (n:=n) hz a.1 hg ok.2.1
  unfold Nd.bk at h
  dsimp only at h
  split at h
  ·cases h
  ·rename_i x ex
   cases h
   refine⟨by simp,λp hp=>?_⟩
   simp only[Vai,VaM,or_false] at hp
   subst hp
   exact⟨ok.1,Sz.in2 a.2.1 a.2.2 (s1 x ex)⟩
theorem zm2 {g:Int}{i j:Int}{f:Option (Int×Int)}{s:Int×Int→Option (Int×Int)}{V:Int→Int×Int}(h1:Has g (V i).1 (V i).2 f)(h2:∀x,InF x g (V i).1 (V i).2→f=some x→Has g (V j).1 (V j).2 (s x)):∃l,bk2 i j f s=some l∧∀p∈l,InF p.2 g (V p.1).1 (V p.1).2:=by
 obtain⟨x,rfl,ix⟩:=h1
 obtain⟨y,ey,iy⟩:=h2 x ix rfl
 refine⟨[(i,x),(j,y)],?_,λp hp=>?_⟩
 ·unfold bk2
  dsimp only
  rw[ey]
 ·simp only[Vai,VaM,or_false] at hp
  rcases hp with rfl | rfl
  ·exact ix
  ·exact iy
theorem zer {u a b:Int}(hu:1≤u)(h:a*u≤b*u):a≤b:=can h (by omega)
theorem zn4 {z y:Int×Int}{g t u r s:Int}(hu:1≤u)(hs:1≤s)(iz:InF z g (t*s+r*u) (u*s))(iy:InF y g r s):InF (z.1-y.2,z.2-y.1) g t u:=by
 have a:=mlr iy.1 (show 0≤u by omega)
 have b:=mlr iy.2 (show 0≤u by omega)
 have c:=iz.1
 have d:=iz.2
 refine⟨zer hs ?_,zer hs ?_⟩
 ·show (z.1-y.2)*u*s≤t*g*s
  grind
 ·show t*g*s≤(z.2-y.1)*u*s
  grind
theorem zuT {z y:Int×Int}{g t u r s:Int}(hu:1≤u)(hs:1≤s)(iz:InF z g (t*s-r*u) (u*s))(iy:InF y g r s):InF (z.1+y.1,z.2+y.2) g t u:=by
 have a:=mlr iy.1 (show 0≤u by omega)
 have b:=mlr iy.2 (show 0≤u by omega)
 have c:=iz.1
 have d:=iz.2
 refine⟨zer hs ?_,zer hs ?_⟩
 ·show (z.1+y.1)*u*s≤t*g*s
  grind
 ·show t*g*s≤(z.2+y.2)*u*s
  grind
theorem zsp {z x:Int×Int}{g t u r s:Int}(hu:1≤u)(hs:1≤s)(iz:InF z g (t*s-r*u) (u*s))(ix:InF x g t u):InF (x.1-z.2,x.2-z.1) g r s:=by
 have a:=mlr ix.1 (show 0≤s by omega)
 have b:=mlr ix.2 (show 0≤s by omega)
 have c:=iz.1
 have d:=iz.2
 refine⟨zer hu ?_,zer hu ?_⟩
 ·show (x.1-z.2)*s*u≤r*g*u
  grind
 ·show r*g*u≤(x.2-z.1)*s*u
  grind
theorem ztZ {z:Int×Int}{g t u r s:Int}(iz:InF z g (t*s+r*u) (u*s)):InF z g (r*u+t*s) (s*u):=by
 unfold InF at *
 rw[Vav s u,Int.add_comm]
 exact iz
theorem Nd.bk_has {B:Nat}{vs ds ps:List (Int×Int)}{z:Int×Int}{g q:Int}(hs:Spn B vs)(hz:z.1≤z.2)(hg:1≤g)(hd:∀p∈ds,1≤p.2)(hw:InW g vs ds)(ln:vs.length=ds.length):∀v:Nd,v.ok vs.length q→InF z g (v.due ds ps).1 (v.due ds ps).2→∃l,v.bk vs z g=some l∧∀p∈l,InF p.2 g (gt ds p.1).1 (gt ds p.1).2
 | .number _ _,_,_=>⟨[],rfl,λp hp=>nomatch hp⟩
 | .unknown _,_,_=>⟨[],rfl,λp hp=>nomatch hp⟩
 | .plus i j,ok,iz=>by
  rw[ln] at ok
  have pi:=hd _ (zce ok.1)
  have pj:=hd _ (zce ok.2)
  have wi:InF (gt vs i) g (gt ds i).1 (gt ds i).2:=hw i ok.1
  have wj:InF (gt vs j) g (gt ds j).1 (gt ds j).2:=hw j ok.2
  refine zm2 (V:=gt ds) (zga pi wi (zn4 pi pj iz wj)) (λx ix _=>zga pj ?_ (zn4 pj pi (ztZ iz) ix))
  split
  ·rename_i e; subst e; exact ix
  ·exact wj
 | .minus i j,ok,iz=>by
  rw[ln] at ok
  have pi:=hd _ (zce ok.1)
  have pj:=hd _ (zce ok.2)
  have wi:InF (gt vs i) g (gt ds i).1 (gt ds i).2:=hw i ok.1
  have wj:InF (gt vs j) g (gt ds j).1 (gt ds j).2:=hw j ok.2
  refine zm2 (V:=gt ds) (zga pi wi (zuT pi pj iz wj)) (λx ix _=>zga pj ?_ (zsp pi pj iz ix))
  split
  ·rename_i e; subst e; exact ix
  ·exact wj
 | .times i j,ok,iz=>by
  have a:=(hs.at ok.1).1
  have b:=(hs.at ok.2).1
  rw[ln] at ok
  have pi:=hd _ (zce ok.1)
  have pj:=hd _ (zce ok.2)
  have wi:InF (gt vs i) g (gt ds i).1 (gt ds i).2:=hw i ok.1
  have wj:InF (gt vs j) g (gt ds j).1 (gt ds j).2:=hw j ok.2
  refine zm2 (V:=gt ds) (zoO hz a b hg pi pj wi wj iz) (λx ix ex=>?_)
  have lx:=(zjN hz a b hg x ex).1
  have iz':InF z g ((gt ds j).1*(gt ds i).1) ((gt ds j).2*(gt ds i).2):=by
   rw[Vav (gt ds j).1,Vav (gt ds j).2]
   exact iz
  refine zoO hz ?_ lx hg pj pi ?_ ix iz'
  ·split
   ·exact lx
   ·exact b
  ·split
   ·rename_i e; subst e; exact ix
   ·exact wj
 | .power i n,ok,iz=>by
  have a:=(hs.at ok.1).1
  obtain⟨ok1,n2,_⟩:=ok
  rw[ln] at ok1
  have pi:=hd _ (zce ok1)
  obtain⟨x,ex,ix⟩:=zt6 (x:=gt vs i) hz hg n2 pi (hw i ok1) iz
  refine⟨[(i,x)],?_,λp hp=>?_⟩
  ·show (match bpS z (gt vs i) n g with | none=>none | some x=>some [(i,x)])=_
   rw[ex]
  ·simp only[Vai,VaM,or_false] at hp
   subst hp
   exact ix
def zbL (vs:List (Int×Int))(l:List (Int×(Int×Int))):List (Int×Int):=l.foldl (λa p=>a.set p.1.toNat p.2) vs
theorem zrs (vs:List (Int×Int))(l:List (Int×(Int×Int)))(p:Int×(Int×Int)):zbL vs (l++[p])=(zbL vs l).set p.1.toNat p.2:=by
 unfold zbL
 rw[List.foldl_append]
 rfl
theorem zew:∀(l:List (Int×(Int×Int))) (vs:List (Int×Int)),(zbL vs l).length=vs.length
 | [],vs=>rfl
 | p::r,vs=>by
  show (zbL (vs.set p.1.toNat p.2) r).length=_
  rw[zew r,VaF]
theorem zpz {vs:List (Int×Int)}{k:Int}{i:Int}{p:Int×Int}(hi:inR vs.length i)(hk:inR vs.length k):gt (vs.set k.toNat p) i=if i=k then p else gt vs i:=by
 have h0:=hi.1
 have h1:=hi.2
 have k0:=hk.1
 unfold gt
 rw[Vaw,Vaw,List.getElem?_set]
 by_cases e:i=k
 ·subst e
  rw[if_pos rfl,if_pos (by omega),if_pos rfl]
  rfl
 ·rw[if_neg (by omega),if_neg e]
theorem Spn.set2 {B:Nat}{vs:List (Int×Int)}(h:Spn B vs){k:Nat}{u:Int×Int}(hu:u.1≤u.2∧Sz B u.1∧Sz B u.2):Spn B (vs.set k u):=λp hp=>by
 rcases List.mem_or_eq_of_mem_set hp with e | e
 ·exact h p e
 ·subst e; exact hu
theorem zln {B:Nat}:∀(l:List (Int×(Int×Int))) (vs:List (Int×Int)),Spn B vs→(∀p∈l,p.2.1≤p.2.2∧Sz B p.2.1∧Sz B p.2.2)→Spn B (zbL vs l)
 | [],vs,h,_=>h
 | p::r,vs,h,hl=>zln r _ (h.set2 (hl p (.head _))) λq hq=>hl q (.tail _ hq)
theorem InW.set {g:Int}{vs ds:List (Int×Int)}{k:Int}{p:Int×Int}(h:InW g vs ds)(ln:vs.length=ds.length)(hk:inR vs.length k)(hp:InF p g (gt ds k).1 (gt ds k).2):InW g (vs.set k.toNat p) ds:=λi hi=>by
 rw[zpz (by rw[ln]; exact hi) hk]
 split
 ·rename_i e; subst e; exact hp
 ·exact h i hi
theorem zom {g:Int}{ds:List (Int×Int)}:∀(l:List (Int×(Int×Int))) (vs:List (Int×Int)),InW g vs ds→vs.length=ds.length→(∀p∈l,inR vs.length p.1∧InF p.2 g (gt ds p.1).1 (gt ds p.1).2)→InW g (zbL vs l) ds
 | [],vs,h,_,_=>h
 | p::r,vs,h,ln,hl=>zom r _ (h.set ln (hl p (.head _)).1 (hl p (.head _)).2) (by rw[VaF]; exact ln) λq hq=>by rw[VaF]; exact hl q (.tail _ hq)
noncomputable def zb6 (g:Int)(ns:List Nd):Nat→List (Int×Int)→Option (List (Int×Int))
 | 0,vs=>some vs
 | k+1,vs=>match ns[k]? with
  | none=>none
  | some v=>match v.bk vs (gt vs (k:Int)) g with
   | none=>none
   | some l=>zb6 g ns k (zbL vs l)
theorem zoe {g:Int}{ns:List Nd}{k:Nat}{vs:List (Int×Int)}{v:Nd}(hv:ns[k]?=some v)(h:v.bk vs (gt vs (k:Int)) g=none):zb6 g ns (k+1) vs=none:=by
 unfold zb6
 rw[hv]
 dsimp only
 rw[h]
theorem zmZ {g:Int}{ns:List Nd}{k:Nat}{vs:List (Int×Int)}{v:Nd}{l:List (Int×(Int×Int))}(hv:ns[k]?=some v)(h:v.bk vs (gt vs (k:Int)) g=some l):zb6 g ns (k+1) vs=zb6 g ns k (zbL vs l):=by
 conv=>lhs; unfold zb6
 rw[hv]
 dsimp only
 rw[h]
theorem zoo {q:Nat}{ns:List Nd}{ws:List Nat}{B:Nat}{ds ps:List (Int×Int)}{g:Int}(net:zaC q ns ws)(hg:1≤g)(hd:∀p∈ds,1≤p.2)(due:∀(k:Nat) (v:Nd),k<ds.length→ns[k]?=some v→gt ds (k:Int)=v.due ds ps)(ld:ds.length≤ns.length):∀(k:Nat) (vs:List (Int×Int)),k≤ds.length→vs.length=ds.length→Spn B vs→InW g vs ds→∃us,zb6 g ns k vs=some us∧InW g us ds∧us.length=ds.length
 | 0,vs,_,ln,_,hw=>⟨vs,rfl,hw,ln⟩
 | k+1,vs,hk,ln,hs,hw=>by
  have hv:ns[k]?=some ns[k]:=Van (by omega)
  generalize ns[k]=v at hv
  have okv:=(net.ok k v hv).1
  have ok:v.ok vs.length q:=znf (by omega) okv
  have ik:inR ((vs.length:Nat):Int) (k:Int):=⟨by omega,by omega⟩
  have iz:InF (gt vs (k:Int)) g (v.due ds ps).1 (v.due ds ps).2:=by
   rw[← due k v (by omega) hv]
   exact hw k (by rw[← ln]; exact ik)
  obtain⟨l,el,hl⟩:=v.bk_has (ps:=ps) hs (hs.at ik).1 hg hd hw ln ok iz
  have P:=v.bk_pts hs (hs.at ik).1 hg l ok el
  rw[zmZ hv el]
  exact zoo net hg hd due ld k (zbL vs l) (by omega) (by rw[zew]; exact ln) (zln l vs hs λp hp=>(P.2 p hp).2) (zom l vs hw ln λp hp=>⟨(P.2 p hp).1,hl p hp⟩)
def zdm (zero:Bool)(s:Int×Int):Option (Int×Int):=zaU s (if zero then (0,0) else (0,mx0 s.2))
noncomputable def sbS (ns:List Nd)(zero:Bool)(k:Nat)(bs:List (Int×Int))(g:Int):Option (List (Int×Int)):=match zdm zero (gt (zaH bs g (ns.take (k+1))) (k:Int)) with
 | none=>none
 | some w=>zb6 g ns (k+1) ((zaH bs g (ns.take (k+1))).set k w)
def zby (bs:List (Int×Int))(l:List (Nd×(Int×Int))):List (Int×Int):=l.foldl (λa p=>match p.1 with
 | .unknown u=>a.set u.toNat p.2
 | _=>a) bs
theorem zn8 (bs:List (Int×Int))(l:List (Nd×(Int×Int)))(p:Nd×(Int×Int)):zby bs (l++[p])=match p.1 with
 | .unknown u=>(zby bs l).set u.toNat p.2
 | _=>zby bs l:=by
 unfold zby
 rw[List.foldl_append]
 rfl
noncomputable def nwS (ns:List Nd)(zero:Bool)(k:Nat)(bs:List (Int×Int))(g:Int):Option (List (Int×Int)):=(sbS ns zero k bs g).map λus=>zby bs (ns.zip us)
theorem znK {q:Nat}{ns:List Nd}{ws:List Nat}{bs us:List (Int×Int)}(net:zaC q ns ws)(hq:q=bs.length)(P:Int→Int×Int→Prop)(h0:∀i:Int,inR bs.length i→P i (gt bs i))(hu:∀(k:Nat) (u:Int),ns[k]?=some (.unknown u)→k<us.length→P u (gt us (k:Int))):∀k,k≤(ns.zip us).length→(zby bs ((ns.zip us).take k)).length=bs.length∧∀i:Int,inR bs.length i→P i (gt (zby bs ((ns.zip us).take k)) i):=by
 intro k
 induction k with
 | zero=>intro _; exact⟨rfl,h0⟩
 | succ k ih=>
  intro hk
  obtain⟨ln,ih⟩:=ih (by omega)
  have hl:k<ns.length∧k<us.length:=by rw[List.length_zip] at hk; omega
  have hz:(ns.zip us)[k]?=some (ns[k],us[k]):=by rw[Van (by omega)]; simp
  have hv:ns[k]?=some ns[k]:=Van hl.1
  have eu:us[k]=gt us (k:Int):=by simp[gt,hl.2]
  rw[zb1 hz,zn8]
  dsimp only
  generalize ns[k]=v at hv
  cases v with
  | unknown u=>
   dsimp only
   have ok:inR q u:=(net.ok k _ hv).1
   rw[hq] at ok
   refine⟨by rw[VaF]; exact ln,λi hi=>?_⟩
   rw[zpz (by rw[ln]; exact hi) (by rw[ln]; exact ok)]
   split
   ·rename_i e
    subst e
    rw[eu]
    exact hu k i hv hl.2
   ·exact ih i hi
  | number _ _=>exact⟨ln,ih⟩
  | plus _ _=>exact⟨ln,ih⟩
  | minus _ _=>exact⟨ln,ih⟩
  | times _ _=>exact⟨ln,ih⟩
  | power _ _=>exact⟨ln,ih⟩
theorem zmq {q:Nat}{ns:List Nd}{ws:List Nat}{B:Nat}{g:Int}(net:zaC q ns ws)(hg:1≤g):∀(k:Nat) (vs us:List (Int×Int)),k≤vs.length→Spn B vs→zb6 g ns k vs=some us→us.length=vs.length∧Spn B us
 | 0,vs,us,_,hs,e=>by cases e; exact⟨rfl,hs⟩
 | k+1,vs,us,hk,hs,e=>by
  cases hv:ns[k]? with
  | none=>
   unfold zb6 at e
   rw[hv] at e
   cases e
  | some v=>
   have ok:v.ok vs.length q:=znf (by omega) (net.ok k v hv).1
   have ik:inR ((vs.length:Nat):Int) (k:Int):=⟨by omega,by omega⟩
   cases el:v.bk vs (gt vs (k:Int)) g with
   | none=>rw[zoe hv el] at e; cases e
   | some l=>
    have P:=v.bk_pts hs (hs.at ik).1 hg l ok el
    rw[zmZ hv el] at e
    have z:=zmq net hg k (zbL vs l) us (by rw[zew]; omega) (zln l vs hs λp hp=>(P.2 p hp).2) e
    rw[zew] at z
    exact z
theorem ziu {zero:Bool}{s:Int×Int}:Sub s (zdm zero s):=zgV
theorem zs9 {zero:Bool}{s:Int×Int}{g t u:Int}(hg:1≤g)(hu:1≤u)(h:InF s g t u)(row:if zero then t=0 else 0≤t):Has g t u (zdm zero s):=by
 unfold zdm
 refine zga hu h ?_
 cases zero with
 | true=>
  have e:t=0:=row
  subst e
  exact⟨by show 0*u≤0*g; omega,by show 0*g≤0*u; omega⟩
 | false=>
  have e:0≤t:=row
  refine⟨?_,?_⟩
  ·show 0*u≤t*g
   have:=Vah e (show 0≤g by omega)
   omega
  ·show t*g≤mx0 s.2*u
   have a:=h.2
   rcases zoE s.2 with ⟨e,_⟩ | ⟨e,l⟩
   ·rw[e]; exact a
   ·have:=mlr l (show 0≤u by omega)
    rw[e]
    omega
theorem zuV {B:Nat}{vs:List (Int×Int)}(h:∀i:Int,inR vs.length i→(gt vs i).1≤(gt vs i).2∧Sz B (gt vs i).1∧Sz B (gt vs i).2):Spn B vs:=λp hp=>by
 obtain⟨k,hk,e⟩:=VaI.mp hp
 have z:=h (k:Int) ⟨by omega,by omega⟩
 have e2:gt vs (k:Int)=p:=by simp[gt,hk,e]
 rw[e2] at z
 exact z
theorem zu6 {vs:List (Int×Int)}(h:Spn 51 vs):Spn 1000 vs:=h.mono (by decide)
theorem zmo {ns:List Nd}{ws:List Nat}{zero:Bool}{k:Nat}{bs r:List (Int×Int)}{g:Int}(net:zaC bs.length ns ws)(gp:Spn 51 bs)(hg:1≤g∧g≤1000000)(hk:k<ns.length)(e:nwS ns zero k bs g=some r):r.length=bs.length∧Spn 1000 r:=by
 unfold nwS at e
 obtain⟨us,eu,er⟩:=Vay.mp e
 have s1:Spn 1000 (zaH bs g (ns.take (k+1))):=zfm net rfl gp hg (k+1) (by omega)
 have l1:(zaH bs g (ns.take (k+1))).length=k+1:=by rw[zcX,Vaj]; omega
 unfold sbS at eu
 split at eu
 ·cases eu
 ·rename_i w ew
  have a:=s1.at (i:=(k:Int)) ⟨by omega,by rw[l1]; omega⟩
  have zw:=Sz.in2 a.2.1 a.2.2 (ziu w ew)
  obtain⟨lu,su⟩:=zmq net hg.1 (k+1) _ us (by rw[VaF,l1]; omega) (s1.set2 zw) eu
  rw[VaF,l1] at lu
  have lz:(ns.zip us).length=k+1:=by rw[List.length_zip]; omega
  obtain⟨lr,P⟩:=znK net rfl (us:=us) (bs:=bs) (λ_ p=>p.1≤p.2∧Sz 1000 p.1∧Sz 1000 p.2) (λi hi=>(zu6 gp).at hi) (λj u _ hj=>su.at ⟨by omega,by omega⟩) (ns.zip us).length (Vaa _)
  rw[Va2] at lr P
  subst er
  exact⟨lr,zuV λi hi=>P i (by rw[← lr]; exact hi)⟩
theorem zsr {ns:List Nd}{ws:List Nat}{zero:Bool}{k:Nat}{bs ps:List (Int×Int)}{g:Int}(net:zaC bs.length ns ws)(gp:Spn 51 bs)(hg:1≤g∧g≤1000000)(hk:k<ns.length)(lp:ps.length=bs.length)(pp:Pz 110 ps)(ip:InW g bs ps)(row:if zero then (gt (zaB ps (ns.take (k+1))) (k:Int)).1=0 else 0≤(gt (zaB ps (ns.take (k+1))) (k:Int)).1):∃r,nwS ns zero k bs g=some r∧InW g r ps:=by
 have s1:Spn 1000 (zaH bs g (ns.take (k+1))):=zfm net rfl gp hg (k+1) (by omega)
 have l1:(zaH bs g (ns.take (k+1))).length=k+1:=by rw[zcX,Vaj]; omega
 have ld:(zaB ps (ns.take (k+1))).length=k+1:=by rw[zc6,Vaj]; omega
 have inw:=zrv net rfl (by rw[lp]) hg.1 ip pp (k+1) (by omega)
 have pz:Pz 1800 (zaB ps (ns.take (k+1))):=Pz.of_w (zh8 net (by rw[lp]) pp (k+1) (by omega)) λj hj=>(net.w1 (i:=j) ⟨by omega,by omega⟩).2
 have hd:∀p∈zaB ps (ns.take (k+1)),1≤p.2:=λp hp=>(pz p hp).1
 have netk:zaC bs.length (ns.take (k+1)) (ws.take (k+1)):=net.take (k+1)
 have due:∀(j:Nat) (v:Nd),j<(zaB ps (ns.take (k+1))).length→ns[j]?=some v→gt (zaB ps (ns.take (k+1))) (j:Int)=v.due (zaB ps (ns.take (k+1))) ps:=λj v hj hv=>zo7 netk (by rw[List.getElem?_take_of_lt (by omega)]; exact hv)
 have ik:inR (((zaB ps (ns.take (k+1))).length:Nat):Int) (k:Int):=⟨by omega,by omega⟩
 have ik2:inR (((zaH bs g (ns.take (k+1))).length:Nat):Int) (k:Int):=⟨by omega,by omega⟩
 obtain⟨w,ew,iw⟩:=zs9 (zero:=zero) hg.1 (hd _ (zce ik)) (inw k ik) row
 have a:=s1.at ik2
 have zw:=Sz.in2 a.2.1 a.2.2 (ziu w ew)
 have e1:(zaH bs g (ns.take (k+1))).set k w=(zaH bs g (ns.take (k+1))).set (k:Int).toNat w:=by rw[Vag]
 obtain⟨us,eu,iu,lu⟩:=zoo (B:=1000) net hg.1 hd due (by omega) (k+1) ((zaH bs g (ns.take (k+1))).set k w) (by omega) (by rw[VaF]; omega) (s1.set2 zw) (by rw[e1]; exact inw.set (by omega) ik2 iw)
 have e2:sbS ns zero k bs g=some us:=by
  unfold sbS
  rw[ew]
  exact eu
 refine⟨zby bs (ns.zip us),by unfold nwS; rw[e2]; rfl,?_⟩
 obtain⟨lr,P⟩:=znK net rfl (us:=us) (bs:=bs) (λi p=>InF p g (gt ps i).1 (gt ps i).2) (λi hi=>ip i (by rw[lp]; exact hi)) (λj u hu hj=>by
  have z:=iu (j:Int) ⟨by omega,by omega⟩
  rw[due j _ (by omega) hu] at z
  exact z) (ns.zip us).length (Vaa _)
 rw[Va2] at lr P
 exact λi hi=>P i (by rw[← lp]; exact hi)
theorem zuG {ns:List Nd}{ws:List Nat}{zero:Bool}{k:Nat}{bs us:List (Int×Int)}{g:Int}(net:zaC bs.length ns ws)(gp:Spn 51 bs)(hg:1≤g∧g≤1000000)(hk:k<ns.length)(eu:sbS ns zero k bs g=some us):us.length=k+1:=by
 have s1:Spn 1000 (zaH bs g (ns.take (k+1))):=zfm net rfl gp hg (k+1) (by omega)
 have l1:(zaH bs g (ns.take (k+1))).length=k+1:=by rw[zcX,Vaj]; omega
 unfold sbS at eu
 split at eu
 ·cases eu
 ·rename_i w ew
  have a:=s1.at (i:=(k:Int)) ⟨by omega,by rw[l1]; omega⟩
  have zw:=Sz.in2 a.2.1 a.2.2 (ziu w ew)
  obtain⟨lu,su⟩:=zmq net hg.1 (k+1) _ us (by rw[VaF,l1]; omega) (s1.set2 zw) eu
  rw[VaF,l1] at lu
  exact lu
theorem zqg {ns:List Nd}{us:List (Int×Int)}{i:Nat}{v:Nd}{p:Int×Int}(h1:ns[i]?=some v)(h2:us[i]?=some p):(ns.zip us)[i]?=some (v,p):=by
 obtain⟨a1,rfl⟩:=Vab.mp h1
 obtain⟨a2,rfl⟩:=Vab.mp h2
 rw[Van (by rw[List.length_zip]; omega)]
 simp
def rwW (zero:Bool)(w:Str):Prop:=zero=true∧w="zero"∨zero=false∧w="least"
def Hv (hv:Nat)(ws:List Nat):Prop:=∀k:Nat,ws.getD k 0≤hv
theorem zvd {hv:Nat}(h:1≤hv)(ns:List Nd):Hv hv (ns.map λ_=>1):=λk=>by
 rw[Vaw,Vap]
 cases ns[k]? with
 | none=>exact VaC _
 | some _=>exact h
theorem znQ {hv w:Nat}{ws:List Nat}(h:Hv hv ws)(hw:w≤hv):Hv hv (ws++[w]):=λk=>by
 by_cases c:k<ws.length
 ·rw[zmV c]
  exact h k
 ·rw[Vaw,VaK (by omega)]
  match k-ws.length with
  | 0=>exact hw
  | j+1=>exact VaC _
theorem Gr.pre {q a:Nat}{S T:Sto}{ns:List Nd}{ws:List Nat}(net:zaC q ns ws)(h:S[a]?=some (.lst (ns.map Nd.d)))(pr:Pre S T)(hl:S.length≤T.length):Gr q a 0 S ns ws T ns ws:=⟨net,⟨[],by simp,by simp⟩,⟨[],by simp⟩,pr _ _ h,hl,λx o _ e=>pr x o e⟩
def Ptn (g:Int)(bs qs:List (Int×Int)):Prop:=qs.length=bs.length∧Gd 110 qs∧InW g bs qs
def zcZ (g:Int)(bs:List (Int×Int))(L:Nat)(S:Sto)(ys:List D):Prop:=∀y∈ys,∃(m:Nat) (qs:List (Int×Int)),y=.ref m∧m≠L∧S[m]?=some (.lst (qs.map frD))∧Ptn g bs qs
theorem zcZ.up {g:Int}{bs:List (Int×Int)}{L:Nat}{S T:Sto}{ys:List D}(h:zcZ g bs L S ys)(pr:Pre S T):zcZ g bs L T ys:=λy hy=>by
 obtain⟨m,qs,e,n,hm,p⟩:=h y hy
 exact⟨m,qs,e,n,pr _ _ hm,p⟩
theorem zcZ.snoc {g:Int}{bs qs:List (Int×Int)}{L m:Nat}{S:Sto}{ys:List D}{o:Ob}(h:zcZ g bs L S ys)(n:m≠L)(hm:S[m]?=some (.lst (qs.map frD)))(p:Ptn g bs qs):zcZ g bs L (S.set L o) (ys++[.ref m]):=λy hy=>by
 rcases VaX.mp hy with z | z
 ·obtain⟨m,qs,e,n,hm,p⟩:=h y z
  exact⟨m,qs,e,n,zb0 hm (Ne.symm n),p⟩
 ·exact⟨m,qs,VaO.mp z,n,zb0 hm (Ne.symm n),p⟩
def FdAt (o:Option (List (Int×Int)))(L:Nat)(S:Sto)(fd:D):Prop:=(fd=.non∧o=none)∨∃(r:List (Int×Int)) (mf:Nat),fd=.ref mf∧o=some r∧S[mf]?=some (.lst (r.map frD))∧L≤mf
theorem zth {S:Sto}{Q:DK}(hq:Q (.bl true) S):zbK (zc3 1) .non .non S Q:=by
 rw[zb4]
 exact hq
theorem nine {i:Int}(h:(if i<0 then -i else i)<10^Int.toNat 9):i.natAbs≤10^9:=by
 have e:(10:Int)^Int.toNat 9=1000000000:=rfl
 split at h <;> omega
theorem zpw {u:Int}(h:u<10^Int.toNat 9):u≤10^9:=by
 have e:(10:Int)^Int.toNat 9=1000000000:=rfl
 omega
theorem zvl (hv:Nat):Hv hv []:=λk=>by simp
structure zbn (K:PySem.W.Frag)(mg:Str→Option Value) where
 C:Addr
 m:mg "Number"=some (.ref C)
 cl:Cls K C
 n_bottom:zbi K C "bottom"
 n_top:zbi K C "top"
 makes:PySem.W.makesIn K C=true
 kp:PySem.W.keepIn K (.ref C)=true
structure zbm (K:PySem.W.Frag)(mg:Str→Option Value) where
 C:Addr
 m:mg "Unknown"=some (.ref C)
 cl:Cls K C
 n_place:zbi K C "place"
 makes:PySem.W.makesIn K C=true
 kp:PySem.W.keepIn K (.ref C)=true
structure zbf (K:PySem.W.Frag)(mg:Str→Option Value) where
 C:Addr
 m:mg "Plus"=some (.ref C)
 cl:Cls K C
 n_other:zbi K C "other"
 n_one:zbi K C "one"
 makes:PySem.W.makesIn K C=true
 kp:PySem.W.keepIn K (.ref C)=true
structure zbj (K:PySem.W.Frag)(mg:Str→Option Value) where
 C:Addr
 m:mg "Minus"=some (.ref C)
 cl:Cls K C
 n_other:zbi K C "other"
 n_one:zbi K C "one"
 makes:PySem.W.makesIn K C=true
 kp:PySem.W.keepIn K (.ref C)=true
structure zbk (K:PySem.W.Frag)(mg:Str→Option Value) where
 C:Addr
 m:mg "Times"=some (.ref C)
 cl:Cls K C
 n_other:zbi K C "other"
 n_one:zbi K C "one"
 makes:PySem.W.makesIn K C=true
 kp:PySem.W.keepIn K (.ref C)=true
structure zbo (K:PySem.W.Frag)(mg:Str→Option Value) where
 C:Addr
 m:mg "Power"=some (.ref C)
 cl:Cls K C
 n_many:zbi K C "many"
 n_one:zbi K C "one"
 makes:PySem.W.makesIn K C=true
 kp:PySem.W.keepIn K (.ref C)=true
def zhl:Sd:=λds S Q ex=>match ds with
 | [.int _]=>∀g:Int,1≤g→g≤1000000→Q (.int g) S
 | _=>False
theorem zta:Ln (zhl) 1:=λds S Q ex h=>by unfold zhl at h; split at h <;> first | rfl | exact h.elim
def zfR:Sd:=λds S Q ex=>match ds with
 | [.int a,.int b]=>(0≤a∧0≤b)∧Q (.int ((Int.gcd a b:Nat):Int)) S
 | _=>False
theorem zsT:Ln (zfR) 2:=λds S Q ex h=>by unfold zfR at h; split at h <;> first | rfl | exact h.elim
def zdt:Sd:=λds S Q ex=>match ds with
 | [.int T,.int B]=>(0<B∧Sz 4000 B)∧∀t b:Int,1≤b→Int.gcd t b=1→t*B=T*b→t.natAbs≤T.natAbs→b≤B→Q (.tup [.int t,.int b]) S
 | _=>False
theorem zui:Ln (zdt) 2:=λds S Q ex h=>by unfold zdt at h; split at h <;> first | rfl | exact h.elim
def zhc:Sd:=λds S Q ex=>match ds with
 | [.ref b,.int g,.int _]=>∃bs:List (Int×Int),S[b]?=some (.lst (bs.map frD))∧Spn 51 bs∧(1≤g∧g≤1000000)∧bs.length≤4∧∀(T:Sto) (m:Nat) (ps:List (Int×Int)),Pre S T→S.length≤m→T[m]?=some (.lst (ps.map frD))→ps.length=bs.length→Gd 110 ps→InW g bs ps→Q (.ref m) T
 | _=>False
theorem zwL:Ln (zhc) 3:=λds S Q ex h=>by unfold zhc at h; split at h <;> first | rfl | exact h.elim
def zg1:Sd:=λds S Q ex=>match ds with
 | [.int _]=>∀t b:Int,(1≤b∧b≤10^9)→Int.gcd t b=1→t.natAbs≤10^9→Q (.tup [.str "number",.int t,.int b]) S
 | _=>False
theorem zv3:Ln (zg1) 1:=λds S Q ex h=>by unfold zg1 at h; split at h <;> first | rfl | exact h.elim
def zfG:Sd:=λds S Q ex=>match ds with
 | [.int _,.int m,.int q]=>(0≤m∧m≤1000∧1≤q∧q≤4)∧∀v:Nd,v.ok m q→Q v.d S
 | _=>False
theorem zvp:Ln (zfG) 3:=λds S Q ex h=>by unfold zfG at h; split at h <;> first | rfl | exact h.elim
def zg4:Sd:=λds S Q ex=>match ds with
 | [d,.ref n]=>∃(v:Nd) (ws:List Nat) (q:Int),d=v.d∧S[n]?=some (Ob.lst (ws.map wtD))∧v.ok ws.length q∧(∀i:Int,inR ws.length i→ws.getD i.toNat 0≤16)∧Q (.int (v.wt ws:Nat)) S
 | _=>False
theorem ztr:Ln (zg4) 2:=λds S Q ex h=>by unfold zg4 at h; split at h <;> first | rfl | exact h.elim
def zg6:Sd:=λds S Q ex=>match ds with
 | [.ref c,.int q,.bl _,.int h16,.int most]=>∃(cs:List D) (qn hv:Nat),S[c]?=some (.lst cs)∧(∀x∈cs,∃i:Int,x=.int i)∧q=qn∧(1≤qn∧qn≤4)∧h16=(hv:Int)∧(1≤hv∧hv≤16)∧(1≤most∧most≤60)∧∀(ns:List Nd) (ws:List Nat) (T:Sto) (m:Nat),zaC qn ns ws→Hv hv ws→1≤ns.length→ns.length≤60→Pre S T→S.length≤m→T[m]?=some (.lst (ns.map Nd.d))→Q (.ref m) T
 | _=>False
theorem zul:Ln (zg6) 5:=λds S Q ex h=>by unfold zg6 at h; split at h <;> first | rfl | exact h.elim
def zf7:Sd:=λds S Q ex=>match ds with
 | [.ref a,d]=>∃(q:Nat) (v:Nd) (ns:List Nd) (ws:List Nat),d=v.d∧S[a]?=some (.lst (ns.map Nd.d))∧ns.length<900∧zaC q ns ws∧v.ok ns.length q∧v.wt ws≤16∧∀(T:Sto) (j:Nat) (ns':List Nd) (ws':List Nat),Gr q a 1 S ns ws T ns' ws'→j<ns'.length→ns'[j]?=some v→ws'.getD j 0=v.wt ws→(∀P,gt (zaB P ns') (j:Int)=v.due (zaB P ns) P)→Q (.int (j:Int)) T
 | _=>False
theorem zte:Ln (zf7) 2:=λds S Q ex h=>by unfold zf7 at h; split at h <;> first | rfl | exact h.elim
def zgC:Sd:=λds S Q ex=>match ds with
 | [.int x,.int n]=>(0≤n∧n≤6∧Sz 2000 x)∧Q (.int (x^n.toNat)) S
 | _=>False
theorem zwu:Ln (zgC) 2:=λds S Q ex h=>by unfold zgC at h; split at h <;> first | rfl | exact h.elim
def zfr:Sd:=λds S Q ex=>match ds with
 | [d,.ref w,.ref p]=>∃(v:Nd) (vs ps:List (Int×Int)),d=v.d∧S[w]?=some (.lst (vs.map frD))∧S[p]?=some (.lst (ps.map frD))∧v.ok vs.length ps.length∧Pz 1990 vs∧Pz 1990 ps∧Q (frD (v.due vs ps)) S
 | _=>False
theorem zqm:Ln (zfr) 3:=λds S Q ex h=>by unfold zfr at h; split at h <;> first | rfl | exact h.elim
def ze7:Sd:=λds S Q ex=>match ds with
 | [.ref a,.ref b]=>∃(ns:List Nd) (ws:List Nat) (ps:List (Int×Int)),S[a]?=some (.lst (ns.map Nd.d))∧S[b]?=some (.lst (ps.map frD))∧zaC ps.length ns ws∧Gd 110 ps∧ns.length≤70∧∀(T:Sto) (m:Nat),Pre S T→S.length≤m→T[m]?=some (.lst ((zaB ps ns).map frD))→Q (.ref m) T
 | _=>False
theorem zsE:Ln (ze7) 2:=λds S Q ex h=>by unfold ze7 at h; split at h <;> first | rfl | exact h.elim
def zf5:Sd:=λds S Q ex=>match ds with
 | [.ref a,.ref b,.int at',.int _]=>∃(ns:List Nd) (ws:List Nat) (ps:List (Int×Int)),S[a]?=some (.lst (ns.map Nd.d))∧S[b]?=some (.lst (ps.map frD))∧a≠b∧zaC ps.length ns ws∧Hv 14 ws∧Gd 110 ps∧(1≤ps.length∧ps.length≤4)∧inR ns.length at'∧ns.length≤60∧∀(T:Sto) (w:Str) (zero:Bool) (k:Nat) (ns':List Nd) (ws':List Nat),rwW zero w→Gr ps.length a 4 S ns ws T ns' ws'→k<ns'.length→Q (.tup [.str w,.int (k:Int)]) T
 | _=>False
theorem zqk:Ln (zf5) 4:=λds S Q ex h=>by unfold zf5 at h; split at h <;> first | rfl | exact h.elim
def zhr:Sd:=λds S Q ex=>match ds with
 | [.ref a,.ref b,.int f,.int _]=>∃(ns:List Nd) (ws:List Nat) (ps:List (Int×Int)),S[a]?=some (.lst (ns.map Nd.d))∧S[b]?=some (.lst (ps.map frD))∧a≠b∧zaC ps.length ns ws∧Hv 14 ws∧Gd 110 ps∧(1≤ps.length∧ps.length≤4)∧1≤ns.length∧ns.length≤60∧∀(T:Sto) (w:Str) (zero:Bool) (k:Nat) (ns':List Nd) (ws':List Nat),rwW zero w→Gr ps.length a 4 S ns ws T ns' ws'→k<ns'.length→Q (.tup [.str w,.int (k:Int)]) T
 | _=>False
theorem zua:Ln (zhr) 4:=λds S Q ex h=>by unfold zhr at h; split at h <;> first | rfl | exact h.elim
def zhf:Sd:=λds S Q ex=>match ds with
 | [.tup [.int a,.int b],.tup [.int c,.int d]]=>(IntMulOk a d∧IntMulOk c b)∧Q (.bl (decide (a*d<c*b))) S
 | _=>False
theorem zv9:Ln (zhf) 2:=λds S Q ex h=>by unfold zhf at h; split at h <;> first | rfl | exact h.elim
def zdn:Sd:=λds S Q ex=>match ds with
 | [.int t,.int b]=>CFd 0 b∧Q (.int (-(-t/b))) S
 | _=>False
theorem zrQ:Ln (zdn) 2:=λds S Q ex h=>by unfold zdn at h; split at h <;> first | rfl | exact h.elim
def zg8:Sd:=λds S Q ex=>match ds with
 | [.tup [.int a,.int b],.tup [.int c,.int d],.int g]=>((IntMulOk c b∧IntMulOk a d)∧¬ c*b<a*d∧IntMulOk a g∧IntMulOk c g∧CFd 0 b∧CFd 0 d)∧Q (.tup [.int (a*g/b),.int (-(-(c*g)/d))]) S
 | _=>False
theorem zwz:Ln (zg8) 3:=λds S Q ex h=>by unfold zg8 at h; split at h <;> first | rfl | exact h.elim
def zeW (cNumber:Addr)(cUnknown:Addr)(cPlus:Addr)(cMinus:Addr)(cTimes:Addr)(cPower:Addr):Sd:=λds S Q ex=>match ds with
 | [.ref n,.ref w,.ref p,.int g]=>∃(x y:Int) (vs bs:List (Int×Int)),S[n]?=some (Nd.ob cNumber cUnknown cPlus cMinus cTimes cPower (Nd.number x y))∧S[w]?=some (.lst (vs.map frD))∧S[p]?=some (.lst (bs.map frD))∧Nd.ok vs.length bs.length (Nd.number x y)∧Spn 1400 vs∧(1≤g∧g≤1000000)∧Q (frD (Nd.fw vs bs g (Nd.number x y))) S
 | _=>False
theorem zwO (cNumber:Addr)(cUnknown:Addr)(cPlus:Addr)(cMinus:Addr)(cTimes:Addr)(cPower:Addr):Ln (zeW cNumber cUnknown cPlus cMinus cTimes cPower) 4:=λds S Q ex h=>by unfold zeW at h; split at h <;> first | rfl | exact h.elim
def zeD (cNumber:Addr)(cUnknown:Addr)(cPlus:Addr)(cMinus:Addr)(cTimes:Addr)(cPower:Addr):Sd:=λds S Q ex=>match ds with
 | [.ref n,.ref w,.ref p,.int g]=>∃(k:Int) (vs bs:List (Int×Int)),S[n]?=some (Nd.ob cNumber cUnknown cPlus cMinus cTimes cPower (Nd.unknown k))∧S[w]?=some (.lst (vs.map frD))∧S[p]?=some (.lst (bs.map frD))∧Nd.ok vs.length bs.length (Nd.unknown k)∧Spn 1400 vs∧(1≤g∧g≤1000000)∧Q (frD (Nd.fw vs bs g (Nd.unknown k))) S
 | _=>False
theorem zvG (cNumber:Addr)(cUnknown:Addr)(cPlus:Addr)(cMinus:Addr)(cTimes:Addr)(cPower:Addr):Ln (zeD cNumber cUnknown cPlus cMinus cTimes cPower) 4:=λds S Q ex h=>by unfold zeD at h; split at h <;> first | rfl | exact h.elim
def zeM:Sd:=λds S Q ex=>match ds with
 | [.tup [.int a,.int b],.tup [.int c,.int d]]=>Q (.tup [.int (a+c),.int (b+d)]) S
 | _=>False
theorem zu0:Ln (zeM) 2:=λds S Q ex h=>by unfold zeM at h; split at h <;> first | rfl | exact h.elim
def ze1 (cNumber:Addr)(cUnknown:Addr)(cPlus:Addr)(cMinus:Addr)(cTimes:Addr)(cPower:Addr):Sd:=λds S Q ex=>match ds with
 | [.ref n,.ref w,.ref p,.int g]=>∃(i j:Int) (vs bs:List (Int×Int)),S[n]?=some (Nd.ob cNumber cUnknown cPlus cMinus cTimes cPower (Nd.plus i j))∧S[w]?=some (.lst (vs.map frD))∧S[p]?=some (.lst (bs.map frD))∧Nd.ok vs.length bs.length (Nd.plus i j)∧Spn 1400 vs∧(1≤g∧g≤1000000)∧Q (frD (Nd.fw vs bs g (Nd.plus i j))) S
 | _=>False
theorem zuL (cNumber:Addr)(cUnknown:Addr)(cPlus:Addr)(cMinus:Addr)(cTimes:Addr)(cPower:Addr):Ln (ze1 cNumber cUnknown cPlus cMinus cTimes cPower) 4:=λds S Q ex h=>by unfold ze1 at h; split at h <;> first | rfl | exact h.elim
def zds:Sd:=λds S Q ex=>match ds with
 | [.tup [.int a,.int b],.tup [.int c,.int d]]=>Q (.tup [.int (a-d),.int (b-c)]) S
 | _=>False
theorem zq3:Ln (zds) 2:=λds S Q ex h=>by unfold zds at h; split at h <;> first | rfl | exact h.elim
def zem (cNumber:Addr)(cUnknown:Addr)(cPlus:Addr)(cMinus:Addr)(cTimes:Addr)(cPower:Addr):Sd:=λds S Q ex=>match ds with
 | [.ref n,.ref w,.ref p,.int g]=>∃(i j:Int) (vs bs:List (Int×Int)),S[n]?=some (Nd.ob cNumber cUnknown cPlus cMinus cTimes cPower (Nd.minus i j))∧S[w]?=some (.lst (vs.map frD))∧S[p]?=some (.lst (bs.map frD))∧Nd.ok vs.length bs.length (Nd.minus i j)∧Spn 1400 vs∧(1≤g∧g≤1000000)∧Q (frD (Nd.fw vs bs g (Nd.minus i j))) S
 | _=>False
theorem zuS (cNumber:Addr)(cUnknown:Addr)(cPlus:Addr)(cMinus:Addr)(cTimes:Addr)(cPower:Addr):Ln (zem cNumber cUnknown cPlus cMinus cTimes cPower) 4:=λds S Q ex h=>by unfold zem at h; split at h <;> first | rfl | exact h.elim
def zgB:Sd:=λds S Q ex=>match ds with
 | [.tup [.int a,.int b],.tup [.int c,.int d],.int g]=>((IntMulOk a c∧IntMulOk a d∧IntMulOk b c∧IntMulOk b d)∧CFd 0 g)∧∀mn mx:Int,ze0 a b c d mn mx→Q (.tup [.int (mn/g),.int (-(-mx/g))]) S
 | _=>False
theorem zvb:Ln (zgB) 3:=λds S Q ex h=>by unfold zgB at h; split at h <;> first | rfl | exact h.elim
def zeq (cNumber:Addr)(cUnknown:Addr)(cPlus:Addr)(cMinus:Addr)(cTimes:Addr)(cPower:Addr):Sd:=λds S Q ex=>match ds with
 | [.ref n,.ref w,.ref p,.int g]=>∃(i j:Int) (vs bs:List (Int×Int)),S[n]?=some (Nd.ob cNumber cUnknown cPlus cMinus cTimes cPower (Nd.times i j))∧S[w]?=some (.lst (vs.map frD))∧S[p]?=some (.lst (bs.map frD))∧Nd.ok vs.length bs.length (Nd.times i j)∧Spn 1400 vs∧(1≤g∧g≤1000000)∧Q (frD (Nd.fw vs bs g (Nd.times i j))) S
 | _=>False
theorem zsR (cNumber:Addr)(cUnknown:Addr)(cPlus:Addr)(cMinus:Addr)(cTimes:Addr)(cPower:Addr):Ln (zeq cNumber cUnknown cPlus cMinus cTimes cPower) 4:=λds S Q ex h=>by unfold zeq at h; split at h <;> first | rfl | exact h.elim
def zcQ:Sd:=λds S Q ex=>match ds with
 | [.int x,.int n]=>(0≤n∧n≤6∧Sz 2000 x)∧Q (.int (x^n.toNat)) S
 | _=>False
theorem zuo:Ln (zcQ) 2:=λds S Q ex h=>by unfold zcQ at h; split at h <;> first | rfl | exact h.elim
def zgz:Sd:=λds S Q ex=>match ds with
 | [.tup [.int a,.int b],.int n,.int g]=>(2≤n∧n≤6∧Sz 1400 a∧Sz 1400 b∧1≤g∧Sz 1400 g)∧∀m M:Int,zcy a b n.toNat m M→Q (.tup [.int (m/g^(n.toNat-1)),.int (-(-M/g^(n.toNat-1)))]) S
 | _=>False
theorem zrw:Ln (zgz) 3:=λds S Q ex h=>by unfold zgz at h; split at h <;> first | rfl | exact h.elim
def zeY (cNumber:Addr)(cUnknown:Addr)(cPlus:Addr)(cMinus:Addr)(cTimes:Addr)(cPower:Addr):Sd:=λds S Q ex=>match ds with
 | [.ref n,.ref w,.ref p,.int g]=>∃(i m:Int) (vs bs:List (Int×Int)),S[n]?=some (Nd.ob cNumber cUnknown cPlus cMinus cTimes cPower (Nd.power i m))∧S[w]?=some (.lst (vs.map frD))∧S[p]?=some (.lst (bs.map frD))∧Nd.ok vs.length bs.length (Nd.power i m)∧Spn 1400 vs∧(1≤g∧g≤1000000)∧Q (frD (Nd.fw vs bs g (Nd.power i m))) S
 | _=>False
theorem zqe (cNumber:Addr)(cUnknown:Addr)(cPlus:Addr)(cMinus:Addr)(cTimes:Addr)(cPower:Addr):Ln (zeY cNumber cUnknown cPlus cMinus cTimes cPower) 4:=λds S Q ex h=>by unfold zeY at h; split at h <;> first | rfl | exact h.elim
def zgY (cPower:Addr):Sd:=λds S Q ex=>match ds with
 | [.ref n,x,y]=>∃T:Sto,S=T++[.ins cPower []]∧n=T.length∧Q .non (T++[.ins cPower [("one",x),("many",y)]])
 | _=>False
theorem zuP (cPower:Addr):Ln (zgY cPower) 3:=λds S Q ex h=>by unfold zgY at h; split at h <;> first | rfl | exact h.elim
def zfg (cNumber:Addr):Sd:=λds S Q ex=>match ds with
 | [.ref n,x,y]=>∃T:Sto,S=T++[.ins cNumber []]∧n=T.length∧Q .non (T++[.ins cNumber [("top",x),("bottom",y)]])
 | _=>False
theorem zwD (cNumber:Addr):Ln (zfg cNumber) 3:=λds S Q ex h=>by unfold zfg at h; split at h <;> first | rfl | exact h.elim
def zhg (cUnknown:Addr):Sd:=λds S Q ex=>match ds with
 | [.ref n,x]=>∃T:Sto,S=T++[.ins cUnknown []]∧n=T.length∧Q .non (T++[.ins cUnknown [("place",x)]])
 | _=>False
theorem zrk (cUnknown:Addr):Ln (zhg cUnknown) 2:=λds S Q ex h=>by unfold zhg at h; split at h <;> first | rfl | exact h.elim
def zf8 (cPlus:Addr):Sd:=λds S Q ex=>match ds with
 | [.ref n,x,y]=>∃T:Sto,S=T++[.ins cPlus []]∧n=T.length∧Q .non (T++[.ins cPlus [("one",x),("other",y)]])
 | _=>False
theorem zwg (cPlus:Addr):Ln (zf8 cPlus) 3:=λds S Q ex h=>by unfold zf8 at h; split at h <;> first | rfl | exact h.elim
def zhi (cMinus:Addr):Sd:=λds S Q ex=>match ds with
 | [.ref n,x,y]=>∃T:Sto,S=T++[.ins cMinus []]∧n=T.length∧Q .non (T++[.ins cMinus [("one",x),("other",y)]])
 | _=>False
theorem zwe (cMinus:Addr):Ln (zhi cMinus) 3:=λds S Q ex h=>by unfold zhi at h; split at h <;> first | rfl | exact h.elim
def zgx (cTimes:Addr):Sd:=λds S Q ex=>match ds with
 | [.ref n,x,y]=>∃T:Sto,S=T++[.ins cTimes []]∧n=T.length∧Q .non (T++[.ins cTimes [("one",x),("other",y)]])
 | _=>False
theorem zs4 (cTimes:Addr):Ln (zgx cTimes) 3:=λds S Q ex h=>by unfold zgx at h; split at h <;> first | rfl | exact h.elim
def zeZ (cNumber:Addr)(cUnknown:Addr)(cPlus:Addr)(cMinus:Addr)(cTimes:Addr)(cPower:Addr):Sd:=λds S Q ex=>match ds with
 | [d]=>∃v:Nd,d=v.d∧Q (.ref S.length) (S++[v.ob cNumber cUnknown cPlus cMinus cTimes cPower])
 | _=>False
theorem zqz (cNumber:Addr)(cUnknown:Addr)(cPlus:Addr)(cMinus:Addr)(cTimes:Addr)(cPower:Addr):Ln (zeZ cNumber cUnknown cPlus cMinus cTimes cPower) 1:=λds S Q ex h=>by unfold zeZ at h; split at h <;> first | rfl | exact h.elim
def zg5:Sd:=λds S Q ex=>match ds with
 | [.ref a,.ref b,.int g]=>∃(ns:List Nd) (ws:List Nat) (bs:List (Int×Int)),S[a]?=some (.lst (ns.map Nd.d))∧S[b]?=some (.lst (bs.map frD))∧zaC bs.length ns ws∧Spn 51 bs∧(1≤g∧g≤1000000)∧ns.length≤70∧∀(T:Sto) (m:Nat),Pre S T→S.length≤m→T[m]?=some (.lst ((zaH bs g ns).map frD))→Q (.ref m) T
 | _=>False
theorem ztR:Ln (zg5) 3:=λds S Q ex h=>by unfold zg5 at h; split at h <;> first | rfl | exact h.elim
def zcT:Sd:=λds S Q ex=>match ds with
 | [.tup [.int a,.int b],.tup [.int c,.int d]]=>(zaU (a,b) (c,d)=none→Q .non S)∧∀p,zaU (a,b) (c,d)=some p→Q (frD p) S
 | _=>False
theorem zv7:Ln (zcT) 2:=λds S Q ex h=>by unfold zcT at h; split at h <;> first | rfl | exact h.elim
def zg3:Sd:=λds S Q ex=>match ds with
 | [.str w,.tup [.int a,.int b]]=>∃zero:Bool,rwW zero w∧(zdm zero (a,b)=none→Q .non S)∧∀p,zdm zero (a,b)=some p→Q (frD p) S
 | _=>False
theorem ztz:Ln (zg3) 2:=λds S Q ex h=>by unfold zg3 at h; split at h <;> first | rfl | exact h.elim
def ze3 (cNumber:Addr)(cUnknown:Addr)(cPlus:Addr)(cMinus:Addr)(cTimes:Addr)(cPower:Addr):Sd:=λds S Q ex=>match ds with
 | [.ref n,.ref w,.tup [.int z0,.int z1],.int g]=>∃(x y:Int) (vs:List (Int×Int)) (q:Int),S[n]?=some (Nd.ob cNumber cUnknown cPlus cMinus cTimes cPower (Nd.number x y))∧S[w]?=some (.lst (vs.map frD))∧Nd.ok vs.length q (Nd.number x y)∧Spn 1000 vs∧(z0≤z1∧Sz 1000 z0∧Sz 1000 z1)∧(1≤g∧g≤1000000)∧(Nd.bk vs (z0,z1) g (Nd.number x y)=none→Q .non S)∧∀l,Nd.bk vs (z0,z1) g (Nd.number x y)=some l→Q (.ref S.length) (S++[.lst (l.map ptD)])
 | _=>False
theorem ztS (cNumber:Addr)(cUnknown:Addr)(cPlus:Addr)(cMinus:Addr)(cTimes:Addr)(cPower:Addr):Ln (ze3 cNumber cUnknown cPlus cMinus cTimes cPower) 4:=λds S Q ex h=>by unfold ze3 at h; split at h <;> first | rfl | exact h.elim
def ze8 (cNumber:Addr)(cUnknown:Addr)(cPlus:Addr)(cMinus:Addr)(cTimes:Addr)(cPower:Addr):Sd:=λds S Q ex=>match ds with
 | [.ref n,.ref w,.tup [.int z0,.int z1],.int g]=>∃(k:Int) (vs:List (Int×Int)) (q:Int),S[n]?=some (Nd.ob cNumber cUnknown cPlus cMinus cTimes cPower (Nd.unknown k))∧S[w]?=some (.lst (vs.map frD))∧Nd.ok vs.length q (Nd.unknown k)∧Spn 1000 vs∧(z0≤z1∧Sz 1000 z0∧Sz 1000 z1)∧(1≤g∧g≤1000000)∧(Nd.bk vs (z0,z1) g (Nd.unknown k)=none→Q .non S)∧∀l,Nd.bk vs (z0,z1) g (Nd.unknown k)=some l→Q (.ref S.length) (S++[.lst (l.map ptD)])
 | _=>False
theorem zrg (cNumber:Addr)(cUnknown:Addr)(cPlus:Addr)(cMinus:Addr)(cTimes:Addr)(cPower:Addr):Ln (ze8 cNumber cUnknown cPlus cMinus cTimes cPower) 4:=λds S Q ex h=>by unfold ze8 at h; split at h <;> first | rfl | exact h.elim
def zgg:Sd:=λds S Q ex=>match ds with
 | [.ref _,.tup [.int z0,.int z1],.tup [.int x0,.int x1],.tup [.int y0,.int y1],.int _]=>(zaU (x0,x1) (z0-y1,z1-y0)=none→Q .non S)∧∀p,zaU (x0,x1) (z0-y1,z1-y0)=some p→Q (frD p) S
 | _=>False
theorem ztT:Ln (zgg) 5:=λds S Q ex h=>by unfold zgg at h; split at h <;> first | rfl | exact h.elim
def zft:Sd:=λds S Q ex=>match ds with
 | [.ref _,.tup [.int z0,.int z1],.tup [.int x0,.int x1],.tup [.int y0,.int y1],.int _]=>(zaU (y0,y1) (z0-x1,z1-x0)=none→Q .non S)∧∀p,zaU (y0,y1) (z0-x1,z1-x0)=some p→Q (frD p) S
 | _=>False
theorem zsx:Ln (zft) 5:=λds S Q ex h=>by unfold zft at h; split at h <;> first | rfl | exact h.elim
def zd9 (cNumber:Addr)(cUnknown:Addr)(cPlus:Addr)(cMinus:Addr)(cTimes:Addr)(cPower:Addr):Sd:=λds S Q ex=>match ds with
 | [.ref n,.ref w,.tup [.int z0,.int z1],.int g]=>∃(i j:Int) (vs:List (Int×Int)) (q:Int),S[n]?=some (Nd.ob cNumber cUnknown cPlus cMinus cTimes cPower (Nd.plus i j))∧S[w]?=some (.lst (vs.map frD))∧Nd.ok vs.length q (Nd.plus i j)∧Spn 1000 vs∧(z0≤z1∧Sz 1000 z0∧Sz 1000 z1)∧(1≤g∧g≤1000000)∧(Nd.bk vs (z0,z1) g (Nd.plus i j)=none→Q .non S)∧∀l,Nd.bk vs (z0,z1) g (Nd.plus i j)=some l→Q (.ref S.length) (S++[.lst (l.map ptD)])
 | _=>False
theorem zvg (cNumber:Addr)(cUnknown:Addr)(cPlus:Addr)(cMinus:Addr)(cTimes:Addr)(cPower:Addr):Ln (zd9 cNumber cUnknown cPlus cMinus cTimes cPower) 4:=λds S Q ex h=>by unfold zd9 at h; split at h <;> first | rfl | exact h.elim
def zf0:Sd:=λds S Q ex=>match ds with
 | [.ref _,.tup [.int z0,.int z1],.tup [.int x0,.int x1],.tup [.int y0,.int y1],.int _]=>(zaU (x0,x1) (z0+y0,z1+y1)=none→Q .non S)∧∀p,zaU (x0,x1) (z0+y0,z1+y1)=some p→Q (frD p) S
 | _=>False
theorem zqY:Ln (zf0) 5:=λds S Q ex h=>by unfold zf0 at h; split at h <;> first | rfl | exact h.elim
def zfM:Sd:=λds S Q ex=>match ds with
 | [.ref _,.tup [.int z0,.int z1],.tup [.int x0,.int x1],.tup [.int y0,.int y1],.int _]=>(zaU (y0,y1) (x0-z1,x1-z0)=none→Q .non S)∧∀p,zaU (y0,y1) (x0-z1,x1-z0)=some p→Q (frD p) S
 | _=>False
theorem zqF:Ln (zfM) 5:=λds S Q ex h=>by unfold zfM at h; split at h <;> first | rfl | exact h.elim
def zeP (cNumber:Addr)(cUnknown:Addr)(cPlus:Addr)(cMinus:Addr)(cTimes:Addr)(cPower:Addr):Sd:=λds S Q ex=>match ds with
 | [.ref n,.ref w,.tup [.int z0,.int z1],.int g]=>∃(i j:Int) (vs:List (Int×Int)) (q:Int),S[n]?=some (Nd.ob cNumber cUnknown cPlus cMinus cTimes cPower (Nd.minus i j))∧S[w]?=some (.lst (vs.map frD))∧Nd.ok vs.length q (Nd.minus i j)∧Spn 1000 vs∧(z0≤z1∧Sz 1000 z0∧Sz 1000 z1)∧(1≤g∧g≤1000000)∧(Nd.bk vs (z0,z1) g (Nd.minus i j)=none→Q .non S)∧∀l,Nd.bk vs (z0,z1) g (Nd.minus i j)=some l→Q (.ref S.length) (S++[.lst (l.map ptD)])
 | _=>False
theorem zrr (cNumber:Addr)(cUnknown:Addr)(cPlus:Addr)(cMinus:Addr)(cTimes:Addr)(cPower:Addr):Ln (zeP cNumber cUnknown cPlus cMinus cTimes cPower) 4:=λds S Q ex h=>by unfold zeP at h; split at h <;> first | rfl | exact h.elim
def zfl:Sd:=λds S Q ex=>match ds with
 | [.tup [.int a,.int b]]=>Q (.bl (decide (a≤0)&&decide (0≤b))) S
 | _=>False
theorem zwk:Ln (zfl) 1:=λds S Q ex h=>by unfold zfl at h; split at h <;> first | rfl | exact h.elim
def zeK:Sd:=λds S Q ex=>match ds with
 | [.tup [.int x0,.int x1],.tup [.int l0,.int l1],.tup [.int h0,.int h1]]=>(ptB (x0,x1) (l0,l1) (h0,h1)=none→Q .non S)∧∀p,ptB (x0,x1) (l0,l1) (h0,h1)=some p→Q (frD p) S
 | _=>False
theorem zwy:Ln (zeK) 3:=λds S Q ex h=>by unfold zeK at h; split at h <;> first | rfl | exact h.elim
def zfJ:Sd:=λds S Q ex=>match ds with
 | [.int t,.int b]=>CFd 0 b∧Q (.tup [.int (t/b),.int (-(-t/b))]) S
 | _=>False
theorem zrJ:Ln (zfJ) 2:=λds S Q ex h=>by unfold zfJ at h; split at h <;> first | rfl | exact h.elim
def zhx:Sd:=λds S Q ex=>match ds with
 | [.tup [.int lo,.int hi],.tup [.int x0,.int x1],.tup [.int c,.int d]]=>(0≤c∧0<d∧Sz 1400 c∧Sz 1400 d)∧(sdS lo hi (x0,x1) c d=none→Q .non S)∧∀p,sdS lo hi (x0,x1) c d=some p→Q (frD p) S
 | _=>False
theorem ztE:Ln (zhx) 3:=λds S Q ex h=>by unfold zhx at h; split at h <;> first | rfl | exact h.elim
def zgU:Sd:=λds S Q ex=>match ds with
 | [.tup [.int a,.int b],.tup [.int c,.int d]]=>Q (.tup [.int (if c<a then c else a),.int (if d > b then d else b)]) S
 | _=>False
theorem zv4:Ln (zgU) 2:=λds S Q ex h=>by unfold zgU at h; split at h <;> first | rfl | exact h.elim
def zfa:Sd:=λds S Q ex=>match ds with
 | [.non,y]=>Q y S
 | [.tup [.int a,.int b],.non]=>Q (.tup [.int a,.int b]) S
 | [.tup [.int a,.int b],.tup [.int c,.int d]]=>Q (.tup [.int (if c<a then c else a),.int (if d > b then d else b)]) S
 | _=>False
theorem zrt:Ln (zfa) 2:=λds S Q ex h=>by unfold zfa at h; split at h <;> first | rfl | exact h.elim
def zcY:Sd:=λds S Q ex=>match ds with
 | [.tup [.int a,.int b]]=>Q (.tup [.int (-b),.int (-a)]) S
 | _=>False
theorem zr7:Ln (zcY) 1:=λds S Q ex h=>by unfold zcY at h; split at h <;> first | rfl | exact h.elim
def zeO:Sd:=λds S Q ex=>match ds with
 | [.tup [.int z0,.int z1],.tup [.int x0,.int x1],.tup [.int y0,.int y1],.int g]=>(y0≤y1∧Sz 1100 z0∧Sz 1100 z1∧Sz 1100 y0∧Sz 1100 y1∧Sz 30 g)∧(btS (z0,z1) (x0,x1) (y0,y1) g=none→Q .non S)∧∀p,btS (z0,z1) (x0,x1) (y0,y1) g=some p→Q (frD p) S
 | _=>False
theorem zp8:Ln (zeO) 4:=λds S Q ex h=>by unfold zeO at h; split at h <;> first | rfl | exact h.elim
def zfn:Sd:=λds S Q ex=>match ds with
 | [.ref _,.tup [.int z0,.int z1],.tup [.int x0,.int x1],.tup [.int y0,.int y1],.int g]=>(y0≤y1∧Sz 1100 z0∧Sz 1100 z1∧Sz 1100 y0∧Sz 1100 y1∧Sz 30 g)∧(btS (z0,z1) (x0,x1) (y0,y1) g=none→Q .non S)∧∀p,btS (z0,z1) (x0,x1) (y0,y1) g=some p→Q (frD p) S
 | _=>False
theorem zsH:Ln (zfn) 5:=λds S Q ex h=>by unfold zfn at h; split at h <;> first | rfl | exact h.elim
def zgW:Sd:=λds S Q ex=>match ds with
 | [.ref _,.tup [.int z0,.int z1],.tup [.int x0,.int x1],.tup [.int y0,.int y1],.int g]=>(x0≤x1∧Sz 1100 z0∧Sz 1100 z1∧Sz 1100 x0∧Sz 1100 x1∧Sz 30 g)∧(btS (z0,z1) (y0,y1) (x0,x1) g=none→Q .non S)∧∀p,btS (z0,z1) (y0,y1) (x0,x1) g=some p→Q (frD p) S
 | _=>False
theorem zrl:Ln (zgW) 5:=λds S Q ex h=>by unfold zgW at h; split at h <;> first | rfl | exact h.elim
def zd4 (cNumber:Addr)(cUnknown:Addr)(cPlus:Addr)(cMinus:Addr)(cTimes:Addr)(cPower:Addr):Sd:=λds S Q ex=>match ds with
 | [.ref n,.ref w,.tup [.int z0,.int z1],.int g]=>∃(i j:Int) (vs:List (Int×Int)) (q:Int),S[n]?=some (Nd.ob cNumber cUnknown cPlus cMinus cTimes cPower (Nd.times i j))∧S[w]?=some (.lst (vs.map frD))∧Nd.ok vs.length q (Nd.times i j)∧Spn 1000 vs∧(z0≤z1∧Sz 1000 z0∧Sz 1000 z1)∧(1≤g∧g≤1000000)∧(Nd.bk vs (z0,z1) g (Nd.times i j)=none→Q .non S)∧∀l,Nd.bk vs (z0,z1) g (Nd.times i j)=some l→Q (.ref S.length) (S++[.lst (l.map ptD)])
 | _=>False
theorem zvx (cNumber:Addr)(cUnknown:Addr)(cPlus:Addr)(cMinus:Addr)(cTimes:Addr)(cPower:Addr):Ln (zd4 cNumber cUnknown cPlus cMinus cTimes cPower) 4:=λds S Q ex h=>by unfold zd4 at h; split at h <;> first | rfl | exact h.elim
def zgq:Sd:=λds S Q ex=>match ds with
 | [.int g,.int N,.int n]=>(2≤n∧n≤6∧0<g∧Sz 800 g)∧Q (.int (((n-1)*g+N/g^(n-1).toNat)/n)) S
 | _=>False
theorem zrH:Ln (zgq) 3:=λds S Q ex h=>by unfold zgq at h; split at h <;> first | rfl | exact h.elim
def zeA:Sd:=λds S Q ex=>match ds with
 | [.int N,.int n]=>(2≤n∧n≤6∧0≤N∧Sz 1300 N)∧∀r:Int,0≤r→Sz 800 r→r^n.toNat≤N→N<(r+1)^n.toNat→Q (.int r) S
 | _=>False
theorem zsA:Ln (zeA) 2:=λds S Q ex h=>by unfold zeA at h; split at h <;> first | rfl | exact h.elim
def zho:Sd:=λds S Q ex=>match ds with
 | [.int N,.int n]=>(2≤n∧n≤6∧0≤N∧Sz 1300 N)∧Q (frD (rt0 N n.toNat)) S
 | _=>False
theorem zq0:Ln (zho) 2:=λds S Q ex h=>by unfold zho at h; split at h <;> first | rfl | exact h.elim
def zgu:Sd:=λds S Q ex=>match ds with
 | [.int N,.int n]=>(2≤n∧n≤6∧(n%2=1∨0≤N)∧Sz 1300 N)∧Q (frD (rtS N n.toNat)) S
 | _=>False
theorem zuj:Ln (zgu) 2:=λds S Q ex h=>by unfold zgu at h; split at h <;> first | rfl | exact h.elim
def zfH:Sd:=λds S Q ex=>match ds with
 | [.tup [.int z0,.int z1],.tup [.int x0,.int x1],.int n,.int g]=>(2≤n∧n≤6∧1≤g∧Sz 30 g∧Sz 1100 z0∧Sz 1100 z1)∧(bpS (z0,z1) (x0,x1) n g=none→Q .non S)∧∀p,bpS (z0,z1) (x0,x1) n g=some p→Q (frD p) S
 | _=>False
theorem zr2:Ln (zfH) 4:=λds S Q ex h=>by unfold zfH at h; split at h <;> first | rfl | exact h.elim
def zeF (cNumber:Addr)(cUnknown:Addr)(cPlus:Addr)(cMinus:Addr)(cTimes:Addr)(cPower:Addr):Sd:=λds S Q ex=>match ds with
 | [.ref n,.ref w,.tup [.int z0,.int z1],.int g]=>∃(i m:Int) (vs:List (Int×Int)) (q:Int),S[n]?=some (Nd.ob cNumber cUnknown cPlus cMinus cTimes cPower (Nd.power i m))∧S[w]?=some (.lst (vs.map frD))∧Nd.ok vs.length q (Nd.power i m)∧Spn 1000 vs∧(z0≤z1∧Sz 1000 z0∧Sz 1000 z1)∧(1≤g∧g≤1000000)∧(Nd.bk vs (z0,z1) g (Nd.power i m)=none→Q .non S)∧∀l,Nd.bk vs (z0,z1) g (Nd.power i m)=some l→Q (.ref S.length) (S++[.lst (l.map ptD)])
 | _=>False
theorem zu3 (cNumber:Addr)(cUnknown:Addr)(cPlus:Addr)(cMinus:Addr)(cTimes:Addr)(cPower:Addr):Ln (zeF cNumber cUnknown cPlus cMinus cTimes cPower) 4:=λds S Q ex h=>by unfold zeF at h; split at h <;> first | rfl | exact h.elim
def zhy:Sd:=λds S Q ex=>match ds with
 | [.ref a,.tup [.str w,.int k],.ref b,.int g]=>∃(ns:List Nd) (ws:List Nat) (bs:List (Int×Int)) (zero:Bool),S[a]?=some (.lst (ns.map Nd.d))∧S[b]?=some (.lst (bs.map frD))∧rwW zero w∧inR ns.length k∧zaC bs.length ns ws∧Spn 51 bs∧(1≤g∧g≤1000000)∧ns.length≤70∧(sbS ns zero k.toNat bs g=none→∀T:Sto,Pre S T→Q .non T)∧∀(us:List (Int×Int)) (T:Sto) (m:Nat),sbS ns zero k.toNat bs g=some us→Pre S T→S.length≤m→T[m]?=some (.lst (us.map frD))→Q (.ref m) T
 | _=>False
theorem zwx:Ln (zhy) 4:=λds S Q ex h=>by unfold zhy at h; split at h <;> first | rfl | exact h.elim
def zfv:Sd:=λds S Q ex=>match ds with
 | [.ref a,.tup [.str w,.int k],.ref b,.int g]=>∃(ns:List Nd) (ws:List Nat) (bs:List (Int×Int)) (zero:Bool),S[a]?=some (.lst (ns.map Nd.d))∧S[b]?=some (.lst (bs.map frD))∧rwW zero w∧inR ns.length k∧zaC bs.length ns ws∧Spn 51 bs∧(1≤g∧g≤1000000)∧ns.length≤70∧(nwS ns zero k.toNat bs g=none→∀T:Sto,Pre S T→Q .non T)∧∀(us:List (Int×Int)) (T:Sto) (m:Nat),nwS ns zero k.toNat bs g=some us→Pre S T→S.length≤m→T[m]?=some (.lst (us.map frD))→Q (.ref m) T
 | _=>False
theorem ztn:Ln (zfv) 4:=λds S Q ex h=>by unfold zfv at h; split at h <;> first | rfl | exact h.elim
def zgi:Sd:=λds S Q ex=>match ds with
 | [.ref n,.int k]=>∃ns:List Int,S[n]?=some (.frz (ns.map D.int))∧0≤k∧Q (.int (ns.getD k.toNat 0)) S
 | _=>False
theorem zqU:Ln (zgi) 2:=λds S Q ex h=>by unfold zgi at h; split at h <;> first | rfl | exact h.elim
def zf6:Sd:=λds S Q ex=>match ds with
 | [.int _]=>∀lo hi:Int,lo≤hi→lo.natAbs≤10^15→hi.natAbs≤10^15→Q (.tup [.int lo,.int hi]) S
 | _=>False
theorem zvL:Ln (zf6) 1:=λds S Q ex h=>by unfold zf6 at h; split at h <;> first | rfl | exact h.elim
def zgb:Sd:=λds S Q ex=>match ds with
 | [.ref a,.tup [.str w,.int k],.ref b]=>∃(ns:List Nd) (ws:List Nat) (ps:List (Int×Int)) (zero:Bool),S[a]?=some (.lst (ns.map Nd.d))∧S[b]?=some (.lst (ps.map frD))∧rwW zero w∧inR ns.length k∧zaC ps.length ns ws∧Gd 110 ps∧ns.length≤70∧∀(T:Sto) (r:Bool),Pre S T→(r=true→if zero then (gt (zaB ps (ns.take (k.toNat+1))) k).1=0 else 0≤(gt (zaB ps (ns.take (k.toNat+1))) k).1)→Q (.bl r) T
 | _=>False
theorem zr3:Ln (zgb) 3:=λds S Q ex h=>by unfold zgb at h; split at h <;> first | rfl | exact h.elim
def zhd:Sd:=λds S Q ex=>match ds with
 | [.int _]=>Q (.bl true) S
 | _=>False
theorem zqt:Ln (zhd) 1:=λds S Q ex h=>by unfold zhd at h; split at h <;> first | rfl | exact h.elim
def zfw:Sd:=λds S Q ex=>match ds with
 | [.tup [.int a,.int b]]=>a≤b∧Q (.bl true) S
 | _=>False
theorem zub:Ln (zfw) 1:=λds S Q ex h=>by unfold zfw at h; split at h <;> first | rfl | exact h.elim
def zgm:Sd:=λds S Q ex=>match ds with
 | [.ref a,.int m]=>∃vs:List (Int×Int),S[a]?=some (.lst (vs.map frD))∧m=vs.length∧(∀p∈vs,p.1≤p.2)∧Q (.bl true) S
 | _=>False
theorem zt9:Ln (zgm) 2:=λds S Q ex h=>by unfold zgm at h; split at h <;> first | rfl | exact h.elim
def zf4:Sd:=λds S Q ex=>match ds with
 | [.tup [.int t,.int u],.tup [.int x,.int y],.int g]=>(Sz 1800 t∧Sz 1800 u∧Sz 1800 x∧Sz 1800 y∧Sz 20 g)∧x*u≤t*g∧t*g≤y*u∧Q (.bl true) S
 | _=>False
theorem zt7:Ln (zf4) 3:=λds S Q ex h=>by unfold zf4 at h; split at h <;> first | rfl | exact h.elim
def zgN:Sd:=λds S Q ex=>match ds with
 | [.ref p,.ref b,.int g]=>∃(ps bs:List (Int×Int)),S[p]?=some (.lst (ps.map frD))∧S[b]?=some (.lst (bs.map frD))∧bs.length=ps.length∧bs.length≤4∧Gd 110 ps∧Spn 1000 bs∧(1≤g∧g≤1000000)∧InW g bs ps∧Q (.bl true) S
 | _=>False
theorem zrq:Ln (zgN) 3:=λds S Q ex h=>by unfold zgN at h; split at h <;> first | rfl | exact h.elim
section
variable {P:Program}{w:World}{K:PySem.W.Frag}{mg:Str→Option Value}{base:Heap}
def zwM  (zkk:Df K mg "_law_grid" zlV zfF):Fk P w K mg base 1 "_law_grid" zfF zhl:=
 zkk.mk' (zk8 (zaw (k:=0) zkk.F zpr (zk1 (zta)) λcdv A outer s H E hr=>⟨_,(zad (zap (i:=1) zpr.nd rfl (Or.inl rfl) (zaf za9 (dv 0) (zaf zb5 zab zab))) (zaj (zan (zaf za5 zab (zaf za9 (zaf za9 (zaf zaI (zaf zbZ (dv 1) zab) zab) zab) (zaO (zbq (zaa zab (zaa zab (zaa zab (zaa zab zac))))) (zaf za8 (dv 1) zab) (λ_ _=>rfl))))))),λds S Q ex h=>by
  obtain⟨Q0,ex0,rfl,rfl,h⟩:=h
  unfold zhl at h
  split at h
  ·rename_i c
   have r0:=za7 (a:=c) (b:=10^Int.toNat 20) (by decide)
   have e20:(10:Int)^Int.toNat 20=100000000000000000000:=rfl
   have s0:Sz 70 (c%10^Int.toNat 20):=Sz.of (10^20) (by omega)
   have mo:=zaE (m:=70) (n:=17) (s0.div (j:=4) (by decide)) (j:=48271) (by unfold Sz; decide)
   refine⟨show (0:Int)<10^Int.toNat 20 by decide,mo,show (0:Int)<2147483647 by decide,?_⟩
   have four:∀i:Int,inR 4 i→∃x:Int,(1≤x∧x≤1000000)∧atI [D.int 1,D.int 12,D.int 1000,D.int 1000000] i=some (.int x):=λi hi=>by
    obtain⟨h0,h3⟩:=hi
    have z:i=0∨i=1∨i=2∨i=3:=by omega
    rcases z with rfl | rfl | rfl | rfl
    ·exact⟨_,by decide,rfl⟩
    ·exact⟨_,by decide,rfl⟩
    ·exact⟨_,by decide,rfl⟩
    ·exact⟨_,by decide,rfl⟩
   obtain⟨x,hx,ex'⟩:=four (c%10^Int.toNat 20%4) (za7 (by decide))
   refine zaD (o:=.lst [.int 1,.int 12,.int 1000,.int 1000000]) (zaP _ _) ex' ?_
   have px:0<x:=by omega
   have rx:=za7 (a:=c%10^Int.toNat 20/4*48271%2147483647) px
   exact⟨px,Pre.refl.push,.int _,h _ (by omega) (by omega)⟩
  ·exact h.elim⟩))
def ztY  (zlT:Df K mg "_law_divisor" zkA zgZ):Fk P w K mg base 1 "_law_divisor" zgZ zfR:=
 zlT.mk' (zaw (k:=0) zlT.F zjO (zsT) λcdv A outer s H E hr=>⟨_,(zad (znW PassesOwn.never (zau zgw (dv 1) zab (zar _)) (zad (zap (i:=2) zjO.nd rfl (Or.inl rfl) (zaf za9 (dv 0) (dv 1))) (zad (zap (i:=0) zjO.nd rfl (Or.inl rfl) (dv 1)) (zaj (zap (i:=1) zjO.nd rfl (Or.inl rfl) (dv 2)))))) (zaj (zan (dv 0)))),λds S Q ex h=>by
  unfold zfR at h
  split at h
  ·rename_i a b
   obtain⟨⟨ha,hb⟩,h⟩:=h
   refine⟨λm dl' S'=>S'=S∧∃(x y:Int) (o:Option D),dl'=[some (.int x),some (.int y),o]∧0≤x∧0≤y∧Int.gcd x y=Int.gcd a b∧m=y.toNat,⟨b.toNat,rfl,a,b,none,rfl,ha,hb,rfl,rfl⟩,?_⟩
   rintro m dl' S' ⟨rfl,x,y,o,rfl,hx,hy,hg,rfl⟩
   refine ifD (λc'=>?_) (λc=>?_)
   ·exact⟨c',⟨(x%y).toNat,by have:=za7 (a:=x) c'; omega,rfl,y,x%y,_,rfl,hy,(za7 (a:=x) c').1,(zvf x y).trans hg,rfl⟩⟩
   ·have c:y=0:=by omega
    subst c
    have e:((Int.gcd a b:Nat):Int)=x:=by rw[← hg,Int.gcd_zero_right]; omega
    rw[e] at h
    exact h
  ·exact h.elim⟩)
def zre  (zjo:Df K mg "_law_fraction" zlg zdy)(zmQ:Fk P w K mg base 1 "_law_divisor" zgZ zfR)(zcb:mg "abs"=none):Fk P w K mg base 2 "_law_fraction" zdy zdt:=
 zjo.mk' (zaw (k:=1) zjo.F zoB (zui) λcdv A outer s H E hr=>⟨_,(zad (zap (i:=2) zoB.nd rfl (Or.inl rfl) (zao zmQ hr (zaa (za0 zml rfl zcb Boot.«abs» (zaa (dv 0) zac)) (zaa (dv 1) zac)))) (zaj (zan (zaA (zaa (zaf zcc (dv 0) (dv 2)) (zaa (zaf zcc (dv 1) (dv 2)) zac)))))),λds S Q ex h=>by
  unfold zdt at h
  split at h
  ·rename_i T B
   obtain⟨⟨hB,sB⟩,h⟩:=h
   refine⟨⟨zs8 T,by omega⟩,?_⟩
   have eg:Int.gcd (if T<0 then -T else T) B=Int.gcd T B:=by
    have z:=zuc T B
    rw[show zc2 B=B by unfold zc2; split <;> omega] at z
    exact z
   rw[eg]
   have f:=zt8 (T:=T) (B:=B) (d:=((Int.gcd T B:Nat):Int)) (by omega) (by rw[if_neg (by omega)])
   obtain⟨f1,f2,f3,f4,f5,f6⟩:=f
   have gp:(0:Int)<((Int.gcd T B:Nat):Int):=by omega
   have gle:((Int.gcd T B:Nat):Int)≤B:=Int.le_of_dvd hB (Int.gcd_dvd_right T B)
   have sg:Sz 4000 ((Int.gcd T B:Nat):Int):=by
    unfold Sz at sB ⊢
    omega
   refine⟨sg.fd gp,sg.fd gp,?_⟩
   have e1:T/((Int.gcd T B:Nat):Int)=T.fdiv ((Int.gcd T B:Nat):Int):=(Int.fdiv_eq_ediv_of_nonneg _ (by omega)).symm
   have e2:B/((Int.gcd T B:Nat):Int)=B.fdiv ((Int.gcd T B:Nat):Int):=(Int.fdiv_eq_ediv_of_nonneg _ (by omega)).symm
   have q:=h _ _ f4 f5 f6 (zp4 f1 f2) (by have:=zp4 f1 f3; omega)
   rw[← e1,← e2] at q
   exact q
  ·exact h.elim⟩)
def zwE  (zlQ:Df K mg "_law_point" zlv zgo)(zcu:Fk P w K mg base 2 "_law_fraction" zdy zdt):Fk P w K mg base 3 "_law_point" zgo zhc:=
 zlQ.mk' (zaw (k:=2) zlQ.F zdl (zwL) λcdv A outer s H E hr=>⟨_,(zad (zap (i:=3) zdl.nd rfl (Or.inl rfl) (zbq zac)) (zad (zap (i:=4) zdl.nd rfl (Or.inl rfl) (zaf za9 (dv 2) (zaf zb5 zab zab))) (zad (zdC (i:=5) PassesOwn.never rfl zdl.nd rfl (Or.inl rfl) (dv 0) (zad (zap (i:=6) zdl.nd rfl (Or.inl rfl) (zaf za5 zab (zaf za8 (dv 4) zab))) (zad (zay (zau (zaM hr) (zaf za8 (dv 4) zab) zab (zar _)) (zaj (zap (i:=6) zdl.nd rfl (Or.inl rfl) (zaf za5 zab (zaf za8 (dv 4) zab)))) zaz) (zad (zap (i:=7) zdl.nd rfl (Or.inl rfl) (zaf za9 (zaf zbZ (dv 4) zab) (zaf za5 (dv 6) zab))) (zad (zcR (zcN (dv 3) (zao zcu hr (zaa (zaf za5 (zaf zaI (zae (dv 5) zab (λ_ _=>rfl)) (dv 6)) (zaf zaI (zaf zbB (zae (dv 5) zab (λ_ _=>rfl)) (zae (dv 5) zab (λ_ _=>rfl))) (dv 7))) (zaa (zaf zaI (dv 1) (dv 6)) zac))))) (zaj (zap (i:=4) zdl.nd rfl (Or.inl rfl) (zaf za5 (zaf zbZ (dv 4) zab) (zaf za9 (zaf zaI (dv 4) zab) zab))))))))) (zaj (zan (dv 3)))))),λds S Q ex h=>by
  unfold zhc at h
  split at h
  ·rename_i b g c
   obtain⟨bs,hb,sb,hg,l4,h⟩:=h
   have sg:Sz 20 g:=Sz.of 1000000 (by omega)
   have k1:Sz 17 48271:=by unfold Sz; decide
   have e60:(10:Int)^Int.toNat 60=1000000000000000000000000000000000000000000000000000000000000:=rfl
   have r0:=za7 (a:=c) (b:=10^Int.toNat 60) (by decide)
   refine⟨show (0:Int)<10^Int.toNat 60 by decide,?_⟩
   refine zdO (n:=b) (o:=.lst (bs.map frD)) (λk dl' S'=>k≤bs.length∧Pre S S'∧(∃ps:List (Int×Int),S'[S.length]?=some (.lst (ps.map frD))∧ps.length=k∧Gd 110 ps∧∀i:Int,inR k i→(gt bs i).1*(gt ps i).2≤(gt ps i).1*g∧(gt ps i).1*g≤(gt bs i).2*(gt ps i).2)∧∃(c1:Int) (u v w:Option D),(0≤c1∧c1≤1000000000000000000000000000000000000000000000000000000000000)∧dl'=[some (.ref b),some (.int g),some (.int c),some (.ref S.length),some (.int c1),u,v,w])
    ⟨VaC _,Pre.refl.push,⟨[],zaP _ _,rfl,λp hp=>(by cases hp),λi hi=>absurd hi.2 (by have:=hi.1; omega)⟩,c%10^Int.toNat 60,_,_,_,⟨r0.1,by omega⟩,rfl⟩ (λk dl' S' w=>w.2.1 _ _ hb) ?_ ?_
   ·rintro k x dl' S' nx ct ex' ⟨hk,pr,⟨ps,hf,lp,gp,ip⟩,c,u,v,w,hc,rfl⟩ hn
    have ex2:(bs.map frD)[k]?=some x:=ex'
    rw[Vap] at ex2
    obtain⟨q0,hq0,rfl⟩:=Vay.mp ex2
    have hk':=(Vab.mp hq0).1
    have eq0:gt bs (k:Int)=q0:=by simp[gt,Vaw,hq0]
    have q:=sb q0 (Vaz hq0)
    have sc:Sz 201 c:=Sz.of (10^60) (by omega)
    refine ifD (c:=c%7=1) (λ_=>?_) (λ_=>?_)
    ·refine⟨show (0:Int)<(1+c%999999999)+1 by omega,?_⟩
     have rp:=za7 (a:=c/7) (b:=(1+c%999999999)+1) (by omega)
     obtain⟨m1,m2,sT⟩:=zp5 q.1 q.2.1 q.2.2 (w:=(1+c%999999999)) (p:=c/7%((1+c%999999999)+1)) (by omega) rp.1 (by omega)
     have sW:Sz 30 (1+c%999999999):=Sz.of 1000000000 (by omega)
     have gw:0<g*(1+c%999999999):=VaU (by omega) (by omega)
     refine zos (n:=S.length) (S1:=S') (xs:=ps.map frD) (λK hK=>by exact hK) hf ?_
     refine⟨m1,m2,zaE sg sW,⟨⟨gw,(sg.mul sW).mono (by decide)⟩,λt b' h1 h2 h3 h4 h5=>?_⟩⟩
     refine zoV hf (by rw[Vac]; omega) ?_
     refine⟨zaE sc k1,show (0:Int)<2147483647 by decide,?_⟩
     refine hn _ _ ⟨by omega,zci pr (Vaa _),⟨ps++[(t,b')],?_,by simp[lp],λz hz=>?_,λi hi=>?_⟩,c/31+c*48271%2147483647,_,_,_,⟨by omega,by omega⟩,rfl⟩
     ·rw[VaN]
      exact zbT hf
     ·rcases VaX.mp hz with hz | hz
      ·exact gp z hz
      ·have ez:z=(t,b'):=by simpa using hz
       subst ez
       refine⟨h1,h2,?_,?_⟩
       ·exact VaZ h4 (sT.mono (show 84≤110 by decide))
       ·have sb':Sz 51 (g*(1+c%999999999)):=(sg.mul sW).mono (by decide)
        have:b'.natAbs≤(g*(1+c%999999999)).natAbs:=by omega
        exact VaZ this (sb'.mono (show 51≤110 by decide))
     ·by_cases ci:i<k
      ·rw[zkV (by rw[lp]; exact⟨hi.1,ci⟩)]
       exact ip i ⟨hi.1,by omega⟩
      ·have ei:i=k:=by have:=hi.2; simp[lp] at this; omega
       subst ei
       rw[zge lp,eq0]
       exact zpi q.1 (by omega) hg.1 rp.1 (by omega) h1 h3
    ·refine⟨show (0:Int)<(1+c%6)+1 by omega,?_⟩
     have rp:=za7 (a:=c/7) (b:=(1+c%6)+1) (by omega)
     obtain⟨m1,m2,sT⟩:=zp5 q.1 q.2.1 q.2.2 (w:=(1+c%6)) (p:=c/7%((1+c%6)+1)) (by omega) rp.1 (by omega)
     have sW:Sz 30 (1+c%6):=Sz.of 1000000000 (by omega)
     have gw:0<g*(1+c%6):=VaU (by omega) (by omega)
     refine zos (n:=S.length) (S1:=S') (xs:=ps.map frD) (λK hK=>by exact hK) hf ?_
     refine⟨m1,m2,zaE sg sW,⟨⟨gw,(sg.mul sW).mono (by decide)⟩,λt b' h1 h2 h3 h4 h5=>?_⟩⟩
     refine zoV hf (by rw[Vac]; omega) ?_
     refine⟨zaE sc k1,show (0:Int)<2147483647 by decide,?_⟩
     refine hn _ _ ⟨by omega,zci pr (Vaa _),⟨ps++[(t,b')],?_,by simp[lp],λz hz=>?_,λi hi=>?_⟩,c/31+c*48271%2147483647,_,_,_,⟨by omega,by omega⟩,rfl⟩
     ·rw[VaN]
      exact zbT hf
     ·rcases VaX.mp hz with hz | hz
      ·exact gp z hz
      ·have ez:z=(t,b'):=by simpa using hz
       subst ez
       refine⟨h1,h2,?_,?_⟩
       ·exact VaZ h4 (sT.mono (show 84≤110 by decide))
       ·have sb':Sz 51 (g*(1+c%6)):=(sg.mul sW).mono (by decide)
        have:b'.natAbs≤(g*(1+c%6)).natAbs:=by omega
        exact VaZ this (sb'.mono (show 51≤110 by decide))
     ·by_cases ci:i<k
      ·rw[zkV (by rw[lp]; exact⟨hi.1,ci⟩)]
       exact ip i ⟨hi.1,by omega⟩
      ·have ei:i=k:=by have:=hi.2; simp[lp] at this; omega
       subst ei
       rw[zge lp,eq0]
       exact zpi q.1 (by omega) hg.1 rp.1 (by omega) h1 h3
   ·rintro dl' S' ⟨hk,pr,⟨ps,hf,lp,gp,ip⟩,c1,u,v,w,hc,rfl⟩
    have e:(zas (.lst (bs.map frD))).length=bs.length:=by
     show (bs.map frD).length=_
     rw[Vac]
    rw[e] at lp ip
    exact h _ _ ps pr (Vaa _) hf lp gp (λi hi=>ip i (by rw[lp] at hi; exact hi))
  ·exact h.elim⟩)
def zrR  (zkj:Df K mg "_law_number" zkP zha)(zcu:Fk P w K mg base 2 "_law_fraction" zdy zdt):Fk P w K mg base 3 "_law_number" zha zg1:=
 zkj.mk' (zaw (k:=2) zkj.F zlL (zv3) λcdv A outer s H E hr=>⟨_,(zad (zap (i:=1) zlL.nd rfl (Or.inl rfl) (zaf za9 (dv 0) (zaf zb5 zab zab))) (zad (zay (zau (zaM hr) (zaf za8 (dv 1) zab) zab (zar _)) (zaj (zap (i:=2) zlL.nd rfl (Or.inl rfl) (zao zcu hr (zaa (zaf zbB (zaf za9 (zaf zbZ (dv 1) zab) zab) zab) (zaa (zaf za5 zab (zaf za8 (zaf zaI (dv 1) zab) zab)) zac))))) (zaj (zap (i:=2) zlL.nd rfl (Or.inl rfl) (zao zcu hr (zaa (zaf zbB (zaf za8 (zaf zbZ (dv 1) zab) zab) zab) (zaa (zaf za5 zab (zaf za8 (zaf za9 (zaf zaI (dv 1) zab) zab) zab)) zac)))))) (zaj (zan (zaA (zaa zaL (zaa (zae (dv 2) zab (λ_ _=>rfl)) (zaa (zae (dv 2) zab (λ_ _=>rfl)) zac)))))))),λds S Q ex h=>by
  unfold zg1 at h
  split at h
  ·rename_i c
   have r0:=za7 (a:=c) (b:=10^Int.toNat 40) (by decide)
   have s0:Sz 140 (c%10^Int.toNat 40):=Sz.of (10^40) (by have e:(10:Int)^Int.toNat 40=10000000000000000000000000000000000000000:=rfl; omega)
   have k1:Sz 17 48271:=by unfold Sz; decide
   have mo:=zaE (m:=140) (n:=17) s0 k1
   refine⟨show (0:Int)<10^Int.toNat 40 by decide,?_⟩
   refine ifD (λe=>?_) (λe=>?_)
   ·have r1:=za7 (a:=c%10^Int.toNat 40/4) (b:=1999999999) (by decide)
    have r2:=za7 (a:=c%10^Int.toNat 40*48271) (b:=999999999) (by decide)
    refine⟨show (0:Int)<1999999999 by decide,mo,?_⟩
    refine⟨⟨show 0<1+c%10^Int.toNat 40*48271%999999999 by omega,Sz.of (10^10) (by show (1+c%10^Int.toNat 40*48271%999999999).natAbs≤_; omega)⟩,λt b h1 h2 h3 h4 h5=>?_⟩
    exact h t b ⟨h1,by omega⟩ h2 (by omega)
   ·have r2:=za7 (a:=c%10^Int.toNat 40*48271%2147483647) (b:=6) (by decide)
    refine⟨mo,show (0:Int)<2147483647 by decide,?_⟩
    refine⟨⟨show 0<1+c%10^Int.toNat 40*48271%2147483647%6 by omega,Sz.of (10^10) (by show (1+c%10^Int.toNat 40*48271%2147483647%6).natAbs≤_; omega)⟩,λt b h1 h2 h3 h4 h5=>?_⟩
    exact h t b ⟨h1,by omega⟩ h2 (by omega)
  ·exact h.elim⟩)
def zrU  (zlN:Df K mg "_law_node" zkl zfN)(zni:Fk P w K mg base 3 "_law_number" zha zg1):Fk P w K mg base 4 "_law_node" zfN zfG:=
 zlN.mk' (zk8 (zaw (k:=3) zlN.F zd3 (zk1 (zvp)) λcdv A outer s H E hr=>⟨_,(zad (zap (i:=3) zd3.nd rfl (Or.inl rfl) (zaf za9 (dv 0) (zaf zb5 zab zab))) (zad (zap (i:=4) zd3.nd rfl (Or.inl rfl) (zaf za8 (dv 3) zab)) (zad (zap (i:=3) zd3.nd rfl (Or.inl rfl) (zaf zbZ (dv 3) zab)) (zad (zay (zau (zaM hr) (dv 4) zab (zar _)) (zaj (zan (zao zni hr (zaa (dv 3) zac)))) zaz) (zad (zay (PDW.pt (zdX (zau (zaM hr) (dv 4) zab (zar _)) (zdY (zau (zaM hr) (dv 1) zab (zar _))))) (zaj (zan (zaA (zaa zaL (zaa (zaf za9 (dv 3) (dv 2)) zac))))) zaz) (zad (zap (i:=5) zd3.nd rfl (Or.inl rfl) (zaf za9 (dv 3) (dv 1))) (zad (zay (zau (zaM hr) (zaf za8 (dv 3) zab) zab (zar _)) (zaj (zap (i:=5) zd3.nd rfl (Or.inl rfl) (zaf zbB (dv 1) zab))) zaz) (zad (zay (zau (zaM hr) (dv 4) zab (zar _)) (zaj (zan (zaA (zaa zaL (zaa (dv 5) (zaa (zaf za5 zab (zaf za8 (zaf za9 (zaf zaI (dv 3) zab) zab) zab)) zac)))))) zaz) (zaj (zan (zaA (zaa (zaO (zbq (zaa zaL (zaa zaL (zaa zaL zac)))) (zaf za8 (dv 4) zab) (λ_ _=>rfl)) (zaa (dv 5) (zaa (zaf za9 (zaf za9 (zaf zaI (dv 3) zab) zab) (dv 1)) zac)))))))))))))),λds S Q ex h=>by
  obtain⟨Q0,ex0,rfl,rfl,h⟩:=h
  unfold zfG at h
  split at h
  ·rename_i c m q
   obtain⟨⟨m0,m1,q0,q1⟩,h⟩:=h
   have h':∀v:Nd,v.ok m q→Gc S Q0 v.d S:=λv z=>⟨Pre.refl,zit v,h v z⟩
   have r0:=za7 (a:=c) (b:=10^Int.toNat 40) (by decide)
   have s0:Sz 140 (c%10^Int.toNat 40):=Sz.of (10^40) (by have e:(10:Int)^Int.toNat 40=10000000000000000000000000000000000000000:=rfl; omega)
   have s1:=s0.div (j:=8) (by decide)
   refine⟨show (0:Int)<10^Int.toNat 40 by decide,?_⟩
   refine ifD (λe=>?_) (λe=>?_)
   ·exact λt b h1 h2 h3=>h' (.number t b) ⟨h1,h2,h3⟩
   have pq:0<q:=by omega
   have rq:=za7 (a:=c%10^Int.toNat 40/8) pq
   have un:=h' (.unknown (c%10^Int.toNat 40/8%q)) rq
   refine ifD (λe=>⟨pq,un⟩) (λe=>?_)
   refine ifD (λe=>⟨pq,un⟩) (λe=>?_)
   have pm:0<m:=by omega
   have rm:=za7 (a:=c%10^Int.toNat 40/8) pm
   have r5:=za7 (a:=c%10^Int.toNat 40/8*69621%2147483629) (b:=5) (by decide)
   have rj:=za7 (a:=c%10^Int.toNat 40/8*48271%2147483647) pm
   have k1:Sz 17 48271:=by unfold Sz; decide
   have k2:Sz 17 69621:=by unfold Sz; decide
   refine⟨pm,?_⟩
   have last:∀(i:Int),inR m i→∀(x:Str),(x="plus"∨x="minus"∨x="times")→Gc S Q0 (.tup [.str x,.int i,.int (c%10^Int.toNat 40/8*48271%2147483647%m)]) (S++[.lst [.str "plus",.str "minus",.str "times"]]):=λi hi x hx=>by
    rcases hx with rfl | rfl | rfl
    ·exact⟨Pre.refl.push,zit (.plus i _),h (.plus i _) ⟨hi,rj⟩⟩
    ·exact⟨Pre.refl.push,zit (.minus i _),h (.minus i _) ⟨hi,rj⟩⟩
    ·exact⟨Pre.refl.push,zit (.times i _),h (.times i _) ⟨hi,rj⟩⟩
   have three:∀i:Int,inR 3 i→∃x:Str,(x="plus"∨x="minus"∨x="times")∧atI [D.str "plus",D.str "minus",D.str "times"] i=some (.str x):=λi hi=>by
    obtain⟨h0,h3⟩:=hi
    have z:i=0∨i=1∨i=2:=by omega
    rcases z with rfl | rfl | rfl
    ·exact⟨_,.inl rfl,rfl⟩
    ·exact⟨_,.inr (.inl rfl),rfl⟩
    ·exact⟨_,.inr (.inr rfl),rfl⟩
   obtain⟨x,hx,ex'⟩:=three (c%10^Int.toNat 40%8%3) (za7 (by decide))
   refine ifD (λe=>?_) (λe=>?_)
   ·refine ifD (λe=>?_) (λe=>?_)
    ·exact⟨zaE (m:=140) (n:=17) s1 k2,show (0:Int)<2147483629 by decide,h' (.power (m-1) _) ⟨⟨by omega,by omega⟩,by omega,by omega⟩⟩
    ·refine zaD (o:=.lst [.str "plus",.str "minus",.str "times"]) (zaP _ _) ex' ?_
     exact⟨zaE (m:=140) (n:=17) s1 k1,show (0:Int)<2147483647 by decide,pm,last _ ⟨by omega,by omega⟩ x hx⟩
   ·refine ifD (λe=>?_) (λe=>?_)
    ·exact⟨zaE (m:=140) (n:=17) s1 k2,show (0:Int)<2147483629 by decide,h' (.power (c%10^Int.toNat 40/8%m) _) ⟨rm,by omega,by omega⟩⟩
    ·refine zaD (o:=.lst [.str "plus",.str "minus",.str "times"]) (zaP _ _) ex' ?_
     exact⟨zaE (m:=140) (n:=17) s1 k1,show (0:Int)<2147483647 by decide,pm,last _ rm x hx⟩
  ·exact h.elim⟩))
def zqo  (zid:Df K mg "_law_weight" ziN zg0):Fk P w K mg base 1 "_law_weight" zg0 zg4:=
 zid.mk' (zaw (k:=0) zid.F zvy (ztr) λcdv A outer s H E hr=>⟨_,(zad (zay (PDW.pt (zdX (zau (zaM hr) (zae (dv 0) zab (λ_ _=>rfl)) zaL (zar _)) (zdY (zau (zaM hr) (zae (dv 0) zab (λ_ _=>rfl)) zaL (zar _))))) (zaj (zan zab)) zaz) (zad (zay (zau (zaM hr) (zae (dv 0) zab (λ_ _=>rfl)) zaL (zar _)) (zaj (zan (zaf zaI (zae (dv 0) zab (λ_ _=>rfl)) (zaO (dv 1) (zae (dv 0) zab (λ_ _=>rfl)) (λ_ _=>rfl))))) zaz) (zaj (zan (zaf za5 (zaO (dv 1) (zae (dv 0) zab (λ_ _=>rfl)) (λ_ _=>rfl)) (zaO (dv 1) (zae (dv 0) zab (λ_ _=>rfl)) (λ_ _=>rfl))))))),λds S Q ex h=>by
  unfold zg4 at h
  split at h
  ·rename_i d r
   obtain⟨v,ws,q,rfl,hl,ok,sm,h⟩:=h
   cases v with
   | number t b=>exact h
   | unknown k=>exact h
   | power i n=>
    obtain⟨hi,n2,n6⟩:=ok
    have b:=sm i hi
    refine zaD (o:=.lst (ws.map wtD)) hl (zdx hi) ?_
    refine⟨zaE (m:=400) (n:=400) (Sz.of (10^20) (by omega)) (Sz.of (10^20) (by omega)),?_⟩
    have e:n*((ws.getD i.toNat 0:Nat):Int)=((Nd.wt ws (.power i n):Nat):Int):=by
     simp only[Nd.wt]
     rw[Int.natCast_mul]
     rw[Int.toNat_of_nonneg (by omega)]
    show Q (.int (n*((ws.getD i.toNat 0:Nat):Int))) S
    rw[e]
    exact h
   | plus i j=>
    refine zaD (o:=.lst (ws.map wtD)) hl (zdx ok.1) ?_
    exact zaD (o:=.lst (ws.map wtD)) hl (zdx ok.2) h
   | minus i j=>
    refine zaD (o:=.lst (ws.map wtD)) hl (zdx ok.1) ?_
    exact zaD (o:=.lst (ws.map wtD)) hl (zdx ok.2) h
   | times i j=>
    refine zaD (o:=.lst (ws.map wtD)) hl (zdx ok.1) ?_
    exact zaD (o:=.lst (ws.map wtD)) hl (zdx ok.2) h
  ·exact h.elim⟩)
def zqJ  (zks:Df K mg "_law_net" zep zgy)(zmB:Fk P w K mg base 1 "_law_weight" zg0 zg4)(zne:Fk P w K mg base 4 "_law_node" zfN zfG)(za1:mg "len"=none)(zbb:mg "range"=none):Fk P w K mg base 5 "_law_net" zgy zg6:=
 zks.mk' (zaw (k:=4) zks.F zdT (zul) λcdv A outer s H E hr=>⟨_,(zad (zap (i:=5) zdT.nd rfl (Or.inl rfl) (zbq zac)) (zad (zay (zck (dv 2)) (zaj (zq1 (x:="_law_k") (N:=[]) (caps:=[]) (ar:=zaq zep) rfl rfl csc rfl (by decide) (i:=5) zdT.nd rfl rfl rfl zbb (zaa (dv 1) zac) (λ_ _ _ _ _ _=>zhk) (λ_ _ _ _ _ _=>(zaA (zaa zaL (zaa (dv 0) zac)))))) zaz) (zad (znF (x:="_law_node_here") (N:=[]) (caps:=[]) (ar:=zaq zep) rfl rfl csc rfl (by decide) (i:=6) zdT.nd rfl rfl (dv 5) (λ_ _ _ _ _ _=>zhk) (λ_ _ _ _ _ _=>zab)) (zad (zdC (i:=7) PassesOwn.never rfl zdT.nd rfl (Or.inl rfl) (dv 0) (zad (zap (i:=8) zdT.nd rfl (Or.inl rfl) (zao zne hr (zaa (dv 7) (zaa (za0 (zbI zcK) rfl za1 Boot.«len» (zaa (dv 5) zac)) (zaa (dv 1) zac))))) (zad (zap (i:=9) zdT.nd rfl (Or.inl rfl) (zao zmB hr (zaa (dv 8) (zaa (dv 6) zac)))) (zaj (zay (PDW.pt (zdV (zau zeI (dv 9) (dv 3) (zar _)) (zdV (zau zbw (za0 (zbI zcK) rfl za1 Boot.«len» (zaa (dv 5) zac)) (dv 4) (zar _)) (zgO (zau (zpg hr) (dv 8) (dv 5) rfl))))) (zad (zcR (zcN (dv 5) (dv 8))) (zaj (zcR (zcN (dv 6) (dv 9))))) zaz))))) (zad (zay (zau (zaM hr) (za0 (zbI zcK) rfl za1 Boot.«len» (zaa (dv 5) zac)) zab (zar _)) (zaj (zcR (zcN (dv 5) (zaA (zaa zaL (zaa zab zac)))))) zaz) (zaj (zan (dv 5)))))))),λds S Q ex h=>by
  unfold zg6 at h
  split at h
  ·rename_i c q b h16 most
   obtain⟨cs,qn,hv,hc,hint,rfl,hq,rfl,⟨hv1,hv2⟩,hm,h⟩:=h
   refine zm0 (λdl2 S2=>∃(ns:List Nd) (m:Nat),zaC qn ns (ns.map λ_=>1)∧ns.length≤4∧Pre S S2∧S.length≤m∧S2[m]?=some (.lst (ns.map Nd.d))∧dl2=[some (.ref c),some (.int (qn:Nat)),some (.bl b),some (.int (hv:Int)),some (.int most),some (.ref m),none,none,none,none]) (λnx hn=>?_) ?_
   ·cases b with
    | false=>exact hn _ _ ⟨[],S.length,zaC.nil _,by decide,Pre.refl.push,Vaa _,zaP _ _,rfl⟩
    | true=>
     refine zsz (j:=(qn:Nat)) (S1:=S++[.lst []]) (λk=>.tup [.str "unknown",.int (k:Int)]) (λK hK=>by exact hK) ⟨by omega,by omega⟩ (λk hk S2 K pr hK=>by exact hK) ?_
     have z:=zq6 qn
     have e:((List.range ((qn:Nat):Int).toNat).map λ(k:Nat)=>D.tup [.str "unknown",.int (k:Int)])=((List.range qn).map λ(k:Nat)=>Nd.unknown (k:Int)).map Nd.d:=by
      rw[List.map_map,Vag]
      rfl
     rw[e]
     refine hn _ _ ⟨(List.range qn).map λ(k:Nat)=>Nd.unknown (k:Int),(S++[Ob.lst []]).length,?_,by simp; omega,Pre.refl.push.push,by simp,zaP _ _,rfl⟩
     rw[List.map_map]
     exact z
   rintro dl2 S2 ⟨ns,m,net,l4,pr,hm2,hS,rfl⟩
   refine zjI (n:=m) (o:=.lst (ns.map Nd.d)) (λ_=>.int 1) (λK hK=>by exact hK) hS (by show (ns.map Nd.d).length≤1000; rw[Vac]; omega) (λx hx S3 K _ hK=>by exact hK) ?_
   have ew:(zas (.lst (ns.map Nd.d))).map (λ_=>D.int 1)=(ns.map λ_=>(1:Nat)).map wtD:=by
    show (ns.map Nd.d).map (λ_=>D.int 1)=_
    rw[List.map_map]
    rw[List.map_map]
    rfl
   rw[ew]
   dsimp only
   refine zh2 (λdl2 S3=>∃(ns:List Nd) (ws:List Nat),zaC qn ns ws∧Hv hv ws∧ns.length≤60∧Pre S S3∧S3[m]?=some (.lst (ns.map Nd.d))∧∃u6 u7 u8 u9:Option D,dl2=[some (.ref c),some (.int (qn:Nat)),some (.bl b),some (.int (hv:Int)),some (.int most),some (.ref m),u6,u7,u8,u9]) (λnx hn=>?_) ?_
   ·have lm:=zbP hS
    refine zdO (n:=c) (o:=.lst cs) (λk dl' S'=>∃(ns:List Nd) (ws:List Nat),zaC qn ns ws∧Hv hv ws∧ns.length≤60∧Pre S S'∧S'[m]?=some (.lst (ns.map Nd.d))∧S'[S2.length]?=some (.lst (ws.map wtD))∧∃u7 u8 u9:Option D,dl'=[some (.ref c),some (.int (qn:Nat)),some (.bl b),some (.int (hv:Int)),some (.int most),some (.ref m),some (.ref S2.length),u7,u8,u9]) ⟨ns,_,net,zvd hv1 ns,by omega,pr.push,zaN hS,zaP _ _,_,_,_,rfl⟩ (λk dl' S' ⟨_,_,_,_,_,p,_⟩=>p _ _ hc) ?_ (λdl' S' ⟨ns,ws,a1,a0,a2,a3,a4,_,u7,u8,u9,e⟩=>hn _ _ ⟨ns,ws,a1,a0,a2,a3,a4,_,_,_,_,e⟩)
    rintro k x dl' S' nx ct ex' ⟨ns,ws,net,hvw,l60,pr',hS',hW',u7,u8,u9,rfl⟩ hn
    obtain⟨i,rfl⟩:=hint _ (Vaz ex')
    refine zdM hS' ?_
    rw[Vac]
    refine⟨⟨by omega,by omega,by omega,by omega⟩,λv ok=>?_⟩
    have okw:v.ok ws.length (qn:Nat):=by rw[net.len]; exact ok
    refine⟨v,ws,_,rfl,hW',okw,λi hi=>(net.w1 (by rw[← net.len]; exact hi)).2,?_⟩
    have on:=hn _ _ ⟨ns,ws,net,hvw,l60,pr',hS',hW',some (.int i),some v.d,some (.int (v.wt ws:Nat)),rfl⟩
    refine ifD (λe1=>?_) (λe1=>on)
    refine zdM hS' ?_
    rw[Vac]
    refine ifD (λe2=>?_) (λe2=>on)
    refine zsG hS' λb=>?_
    cases b with
    | false=>exact on
    | true=>
     refine zdF (n:=m) (S1:=S') (xs:=ns.map Nd.d) (y:=v.d) (λK hK=>by exact hK) hS' (λK hK=>by exact hK) (by rw[Vac]; omega) ?_
     have nmm:m≠S2.length:=by omega
     refine zdF (n:=S2.length) (S1:=S'.set m (.lst (ns.map Nd.d++[v.d]))) (xs:=ws.map wtD) (y:=wtD (v.wt ws)) (λK hK=>by exact hK) (zb0 hW' nmm) (λK hK=>by exact hK) (by rw[Vac,net.len]; omega) ?_
     have l2:S.length≤S2.length:=by omega
     refine hn _ _ ⟨ns++[v],ws++[v.wt ws],net.snoc ok (by omega),znQ hvw (by omega),by simp; omega,zci (zci pr' hm2) l2,?_,?_,_,_,_,rfl⟩
     ·rw[VaN]
      exact zb0 (zbT hS') (Ne.symm nmm)
     ·rw[VaN]
      exact zbT (zb0 hW' nmm)
   rintro dl2 S3 ⟨ns,ws,net,hvw,l60,pr',hS',u6,u7,u8,u9,rfl⟩
   refine zdM hS' ?_
   rw[Vac]
   refine ifD (λe=>?_) (λe=>?_)
   ·refine zdF (n:=m) (S1:=S3) (xs:=ns.map Nd.d) (y:=Nd.d (.unknown 0)) (λK hK=>by exact hK) hS' (λK hK=>by exact hK) (by rw[Vac]; omega) ?_
    have e0:ns=[]:=List.eq_nil_of_length_eq_zero (by omega)
    subst e0
    have w0:ws=[]:=List.eq_nil_of_length_eq_zero net.len
    subst w0
    exact h [.unknown 0] [1] _ _ (zaC.snoc (zaC.nil _) (v:=.unknown 0) ⟨by decide,by omega⟩ (show 1≤16 by decide)) (znQ (zvl hv) hv1) (by decide) (by decide) (zci pr' hm2) hm2 (zbT hS')
   ·exact h ns ws _ _ net hvw (by omega) l60 pr' hm2 hS'
  ·exact h.elim⟩)
def zqR  (zhI:Df K mg "_law_put" zjQ zgf):Fk P w K mg base 1 "_law_put" zgf zf7:=
 zhI.mk' (zaw (k:=0) zhI.F zvj (zte) λcdv A outer s H E hr=>⟨_,(zad (zay (zau (zpg hr) (dv 1) (dv 0) rfl) (zaj (zcR (zcN (dv 0) (dv 1)))) zaz) (zaj (zan (zuN (k:=1) hr (by decide) (dv 0) (zaa (dv 1) zac))))),λds S Q ex h=>by
  unfold zf7 at h
  split at h
  ·rename_i a d
   obtain⟨q,v,ns,ws,rfl,ha,l9,net,ok,h16,h⟩:=h
   have fin:∀(T:Sto) (j:Nat) (ns':List Nd) (ws':List Nat),Gr q a 1 S ns ws T ns' ws'→ns'[j]?=some v→Q (.int (j:Int)) T:=λT j ns' ws' gr hj=>by
    refine h T j ns' ws' gr (Vab.mp hj).1 hj ?_ (ztf gr ok hj)
    rw[(gr.net.ok j v hj).2.1]
    exact zuM gr net ok
   obtain⟨o,e1,e2,e3⟩:=znx v ns
   refine zvU (o:=o) ha e2 ?_
   cases o with
   | some j=>
    refine zbC ?_
    refine zpN (n:=a) (v:=v) (ns:=ns) (λK hK=>by exact hK) (λK hK=>by exact hK) ha e1 ?_
    exact fin S j ns ws ((Gr.refl net ha).mono (by decide)) (e3 j rfl)
   | none=>
    refine zcg ?_
    refine zdF (n:=a) (S1:=S) (xs:=ns.map Nd.d) (y:=v.d) (λK hK=>by exact hK) ha (λK hK=>by exact hK) (by rw[Vac]; omega) ?_
    have hm:(S.set a (.lst (ns.map Nd.d++[v.d])))[a]?=some (.lst ((ns++[v]).map Nd.d)):=by
     rw[VaN]
     exact zbT ha
    obtain⟨o2,f1,f2,f3⟩:=znx v (ns++[v])
    cases o2 with
    | none=>
     obtain⟨k,hk⟩:∃k,(ns++[v])[k]?=some v:=⟨ns.length,by simp⟩
     exact absurd f2 (any_some hk)
    | some j=>
     refine zpN (n:=a) (v:=v) (ns:=ns++[v]) (λK hK=>by exact hK) (λK hK=>by exact hK) hm f1 ?_
     exact fin _ j (ns++[v]) (ws++[v.wt ws]) ⟨net.snoc ok h16,⟨[v],rfl,by simp⟩,⟨_,rfl⟩,hm,by simp,λx o hx e=>zb0 e (Ne.symm hx)⟩ (f3 j rfl)
  ·exact h.elim⟩)
def zur  (zlt:Df K mg "_law_power" zkB zhv)(zbb:mg "range"=none):Fk P w K mg base 1 "_law_power" zhv zgC:=
 zlt.mk' (zaw (k:=0) zlt.F zli (zwu) λcdv A outer s H E hr=>⟨_,(zad (zap (i:=2) zli.nd rfl (Or.inl rfl) zab) (zad (zmR (i:=3) PassesOwn.never rfl zli.nd rfl (Or.inl rfl) rfl zbb (zaa (dv 1) zac) (zaj (zap (i:=2) zli.nd rfl (Or.inl rfl) (zaf zaI (dv 2) (dv 0))))) (zaj (zan (dv 2))))),λds S Q ex h=>by
  unfold zgC at h
  split at h
  ·rename_i x n
   obtain⟨⟨h0,h6,sx⟩,h⟩:=h
   refine⟨⟨by omega,by omega⟩,λk dl' S'=>S'=S∧k≤n.toNat∧∃(z:Int) (o:Option D),z=x^k∧dl'=[some (.int x),some (.int n),some (.int z),o],⟨rfl,VaC _,1,none,(VaP x).symm,rfl⟩,?_⟩
   rintro k dl' S' ⟨rfl,hk,z,o,rfl,rfl⟩
   refine zfD (λc=>?_) (λc=>?_)
   ·exact⟨zaE (m:=12001) (n:=2000) ((sx.pow k).mono (by omega)) sx,rfl,by omega,_,_,(Vad x k).symm,rfl⟩
   ·have e:k=n.toNat:=by omega
    subst e
    exact h
  ·exact h.elim⟩)
def zty  (zj3:Df K mg "_law_exact" zl8 zgX)(zk7:Fk P w K mg base 1 "_law_power" zhv zgC):Fk P w K mg base 2 "_law_exact" zgX zfr:=
 zj3.mk' (zaw (k:=1) zj3.F znw (zqm) λcdv A outer s H E hr=>⟨_,(zad (zay (zau (zaM hr) (zae (dv 0) zab (λ_ _=>rfl)) zaL (zar _)) (zaj (zan (zaA (zaa (zae (dv 0) zab (λ_ _=>rfl)) (zaa (zae (dv 0) zab (λ_ _=>rfl)) zac))))) zaz) (zad (zay (zau (zaM hr) (zae (dv 0) zab (λ_ _=>rfl)) zaL (zar _)) (zaj (zan (zaO (dv 2) (zae (dv 0) zab (λ_ _=>rfl)) (λ_ _=>rfl)))) zaz) (zad (zap (i:=3) znw.nd rfl (Or.inl rfl) (zaO (dv 1) (zae (dv 0) zab (λ_ _=>rfl)) (λ_ _=>rfl))) (zad (zay (zau (zaM hr) (zae (dv 0) zab (λ_ _=>rfl)) zaL (zar _)) (zaj (zan (zaA (zaa (zao zk7 hr (zaa (zae (dv 3) zab (λ_ _=>rfl)) (zaa (zae (dv 0) zab (λ_ _=>rfl)) zac))) (zaa (zao zk7 hr (zaa (zae (dv 3) zab (λ_ _=>rfl)) (zaa (zae (dv 0) zab (λ_ _=>rfl)) zac))) zac))))) zaz) (zad (zap (i:=4) znw.nd rfl (Or.inl rfl) (zaO (dv 1) (zae (dv 0) zab (λ_ _=>rfl)) (λ_ _=>rfl))) (zad (zay (zau (zaM hr) (zae (dv 0) zab (λ_ _=>rfl)) zaL (zar _)) (zaj (zan (zaA (zaa (zaf zaI (zae (dv 3) zab (λ_ _=>rfl)) (zae (dv 4) zab (λ_ _=>rfl))) (zaa (zaf zaI (zae (dv 3) zab (λ_ _=>rfl)) (zae (dv 4) zab (λ_ _=>rfl))) zac))))) zaz) (zad (zay (zau (zaM hr) (zae (dv 0) zab (λ_ _=>rfl)) zaL (zar _)) (zaj (zan (zaA (zaa (zaf za5 (zaf zaI (zae (dv 3) zab (λ_ _=>rfl)) (zae (dv 4) zab (λ_ _=>rfl))) (zaf zaI (zae (dv 4) zab (λ_ _=>rfl)) (zae (dv 3) zab (λ_ _=>rfl)))) (zaa (zaf zaI (zae (dv 3) zab (λ_ _=>rfl)) (zae (dv 4) zab (λ_ _=>rfl))) zac))))) zaz) (zaj (zan (zaA (zaa (zaf zbB (zaf zaI (zae (dv 3) zab (λ_ _=>rfl)) (zae (dv 4) zab (λ_ _=>rfl))) (zaf zaI (zae (dv 4) zab (λ_ _=>rfl)) (zae (dv 3) zab (λ_ _=>rfl)))) (zaa (zaf zaI (zae (dv 3) zab (λ_ _=>rfl)) (zae (dv 4) zab (λ_ _=>rfl))) zac)))))))))))),λds S Q ex h=>by
  unfold zfr at h
  split at h
  ·rename_i d w p
   obtain⟨v,vs,ps,rfl,hw,hp,ok,g1,g2,h⟩:=h
   cases v with
   | number t b=>exact h
   | unknown k=>exact zaD (o:=.lst (ps.map frD)) hp (zaS ok) h
   | power i n=>
    have g:=g1.at ok.1
    refine zaD (o:=.lst (vs.map frD)) hw (zaS ok.1) ?_
    exact⟨⟨by have:=ok.2.1; omega,ok.2.2,g.2.1.mono (by decide)⟩,⟨by have:=ok.2.1; omega,ok.2.2,g.2.2.mono (by decide)⟩,h⟩
   | times i j=>
    have g:=g1.at ok.1
    have g':=g1.at ok.2
    refine zaD (o:=.lst (vs.map frD)) hw (zaS ok.1) ?_
    refine zaD (o:=.lst (vs.map frD)) hw (zaS ok.2) ?_
    exact⟨zaE g.2.1 g'.2.1,zaE g.2.2 g'.2.2,h⟩
   | plus i j=>
    have g:=g1.at ok.1
    have g':=g1.at ok.2
    refine zaD (o:=.lst (vs.map frD)) hw (zaS ok.1) ?_
    refine zaD (o:=.lst (vs.map frD)) hw (zaS ok.2) ?_
    exact⟨zaE g.2.1 g'.2.2,zaE g'.2.1 g.2.2,zaE g.2.2 g'.2.2,h⟩
   | minus i j=>
    have g:=g1.at ok.1
    have g':=g1.at ok.2
    refine zaD (o:=.lst (vs.map frD)) hw (zaS ok.1) ?_
    refine zaD (o:=.lst (vs.map frD)) hw (zaS ok.2) ?_
    exact⟨zaE g.2.1 g'.2.2,zaE g'.2.1 g.2.2,zaE g.2.2 g'.2.2,h⟩
  ·exact h.elim⟩)
def zrj  (zij:Df K mg "_law_exacts" zjt zec)(zmy:Fk P w K mg base 2 "_law_exact" zgX zfr):Fk P w K mg base 3 "_law_exacts" zec ze7:=
 zij.mk' (zaw (k:=2) zij.F zmU (zsE) λcdv A outer s H E hr=>⟨_,(zad (zap (i:=2) zmU.nd rfl (Or.inl rfl) (zbq zac)) (zad (zdC (i:=3) PassesOwn.never rfl zmU.nd rfl (Or.inl rfl) (dv 0) (zaj (zcR (zcN (dv 2) (zao zmy hr (zaa (dv 3) (zaa (dv 2) (zaa (dv 1) zac)))))))) (zaj (zan (dv 2))))),λds S Q ex h=>by
  unfold ze7 at h
  split at h
  ·rename_i a b
   obtain⟨ns,ws,ps,ha,hb,net,gp,hl,h⟩:=h
   have pp:Pz 110 ps:=λp hp=>⟨(gp p hp).1,(gp p hp).2.2.1,(gp p hp).2.2.2⟩
   refine zdO (n:=a) (o:=.lst (ns.map Nd.d)) (λk dl' S'=>k≤ns.length∧Pre S S'∧S'[S.length]?=some (.lst ((zaB ps (ns.take k)).map frD))∧∃u:Option D,dl'=[some (.ref a),some (.ref b),some (.ref S.length),u]) ⟨VaC _,Pre.refl.push,zaP _ _,_,rfl⟩ (λk dl' S' w=>w.2.1 _ _ ha) ?_ ?_
   ·rintro k x dl' S' nx ct ex' ⟨hk,pr,hf,u,rfl⟩ hn
    have ex2:(ns.map Nd.d)[k]?=some x:=ex'
    rw[Vap] at ex2
    obtain⟨v,hv,rfl⟩:=Vay.mp ex2
    have hk':=(Vab.mp hv).1
    have ln:(zaB ps (ns.take k)).length=k:=by rw[zc6,Vaj]; omega
    have okv:v.ok (zaB ps (ns.take k)).length ps.length:=by rw[ln]; exact(net.ok k v hv).1
    have pz:Pz 1990 (zaB ps (ns.take k)):=λp hp=>by
     have z:=Pz.of_w (zh8 net rfl pp k hk) (λj hj=>(net.w1 (i:=j) ⟨by omega,by omega⟩).2) p hp
     exact⟨z.1,z.2.1.mono (by decide),z.2.2.mono (by decide)⟩
    refine zdF (n:=S.length) (S1:=S') (xs:=(zaB ps (ns.take k)).map frD) (y:=frD (v.due (zaB ps (ns.take k)) ps)) (λK hK=>by exact hK) hf (λK hK=>?_) (by rw[Vac,ln]; omega) ?_
    ·exact⟨v,_,ps,rfl,hf,pr _ _ hb,okv,pz,λp hp=>⟨(pp p hp).1,(pp p hp).2.1.mono (by decide),(pp p hp).2.2.mono (by decide)⟩,hK⟩
    ·refine hn _ _ ⟨by omega,zci pr (Vaa _),?_,_,rfl⟩
     rw[zb1 hv,zdw,VaN]
     exact zbT hf
   ·rintro dl' S' ⟨hk,pr,hf,u,rfl⟩
    refine h _ _ pr (Vaa _) ?_
    have e:ns.take (zas (.lst (ns.map Nd.d))).length=ns:=by
     show ns.take (ns.map Nd.d).length=ns
     rw[Vac,Va2]
    rw[e] at hf
    exact hf
  ·exact h.elim⟩)
def zs3  (zjw:Df K mg "_law_met_row" zjU zg2)(zcs:Fk P w K mg base 1 "_law_put" zgf zf7)(zcu:Fk P w K mg base 2 "_law_fraction" zdy zdt)(zeQ:Fk P w K mg base 3 "_law_exacts" zec ze7)(zcb:mg "abs"=none)(za1:mg "len"=none):Fk P w K mg base 4 "_law_met_row" zg2 zf5:=
 zjw.mk' (zaw (k:=3) zjw.F zcU (zqk) λcdv A outer s H E hr=>⟨_,(zad (zap (i:=4) zcU.nd rfl (Or.inl rfl) (zaf za9 (dv 3) (zaf zb5 zab zab))) (zad (zap (i:=5) zcU.nd rfl (Or.inl rfl) (zaf za9 (zaf zbZ (dv 4) zab) (za0 (zbI zcK) rfl za1 Boot.«len» (zaa (dv 1) zac)))) (zad (zap (i:=6) zcU.nd rfl (Or.inl rfl) (zaO (dv 1) (dv 5) (λ_ _=>rfl))) (zad (zay (PDW.pt (zdV (zau (zaM hr) (zaf za8 (dv 4) zab) zab (zar _)) (zdV (zau zbw (za0 zml rfl zcb Boot.«abs» (zaa (zae (dv 6) zab (λ_ _=>rfl)) zac)) (zaf zb5 zab zab) (zar _)) (zgO (zau zbw (zae (dv 6) zab (λ_ _=>rfl)) (zaf zb5 zab zab) (zar _)))))) (zad (zap (i:=7) zcU.nd rfl (Or.inl rfl) (zao zcs hr (zaa (dv 0) (zaa (zaA (zaa zaL (zaa (dv 5) zac))) zac)))) (zad (zap (i:=8) zcU.nd rfl (Or.inl rfl) (zao zcs hr (zaa (dv 0) (zaa (zaA (zaa zaL (zaa (dv 7) (zaa (zao zcs hr (zaa (dv 0) (zaa (zaA (zaa zaL (zaa (zae (dv 6) zab (λ_ _=>rfl)) (zaa (zae (dv 6) zab (λ_ _=>rfl)) zac)))) zac))) zac)))) zac)))) (zaj (zan (zaA (zaa zaL (zaa (zao zcs hr (zaa (dv 0) (zaa (zaA (zaa zaL (zaa (dv 2) (zaa (dv 8) zac)))) zac))) zac))))))) zaz) (zad (zap (i:=6) zcU.nd rfl (Or.inl rfl) (zaO (zao zeQ hr (zaa (zf1 (dv 0) zmA (zdW (zaf za5 (dv 2) zab))) (zaa (dv 1) zac))) (dv 2) (λ_ _=>rfl))) (zad (zap (i:=6) zcU.nd rfl (Or.inl rfl) (zao zcu hr (zaa (zae (dv 6) zab (λ_ _=>rfl)) (zaa (zae (dv 6) zab (λ_ _=>rfl)) zac)))) (zad (zay (PDW.pt (zdV (zau zbw (za0 zml rfl zcb Boot.«abs» (zaa (zae (dv 6) zab (λ_ _=>rfl)) zac)) (zaf zb5 zab zab) (zar _)) (zgO (zau zbw (zae (dv 6) zab (λ_ _=>rfl)) (zaf zb5 zab zab) (zar _))))) (zad (zap (i:=9) zcU.nd rfl (Or.inl rfl) (zao zcs hr (zaa (dv 0) (zaa (zaA (zaa zaL (zaa (zae (dv 6) zab (λ_ _=>rfl)) (zaa (zae (dv 6) zab (λ_ _=>rfl)) zac)))) zac)))) (zaj (zan (zaA (zaa (zaO (zbq (zaa zaL (zaa zaL (zaa zaL (zaa zaL zac))))) (zaf za8 (dv 4) zab) (λ_ _=>rfl)) (zaa (zao zcs hr (zaa (dv 0) (zaa (zaA (zaa zaL (zaa (dv 2) (zaa (dv 9) zac)))) zac))) zac)))))) zaz) (zad (zay (zau zok (zae (dv 6) zab (λ_ _=>rfl)) zab (zar _)) (zaj (zan (zaA (zaa zaL (zaa (dv 2) zac))))) zaz) (zaj (zan (zaA (zaa zaL (zaa (zao zcs hr (zaa (dv 0) (zaa (zaA (zaa zaL (zaa (zao zcs hr (zaa (dv 0) (zaa (zaA (zaa zaL (zaa zab (zaa zab zac)))) zac))) (zaa (dv 2) zac)))) zac))) zac))))))))))))),λds S Q ex h=>by
  unfold zf5 at h
  split at h
  ·rename_i a b at' c
   obtain⟨ns,ws,ps,ha,hb,ab,net,hv,gp,lp,⟨t0,t1⟩,l60,h⟩:=h
   obtain⟨tn,rfl⟩:∃tn:Nat,at'=(tn:Int):=⟨at'.toNat,by omega⟩
   refine⟨show (0:Int)<10^Int.toNat 20 by decide,?_⟩
   refine zdM hb ?_
   rw[Vac]
   have pl:(0:Int)<((ps.length:Nat):Int):=by omega
   refine⟨pl,?_⟩
   have rk:inR ((ps.length:Nat):Int) (c%10^Int.toNat 20/4%((ps.length:Nat):Int)):=za7 pl
   have gk:=gp.at rk
   refine zaD (o:=.lst (ps.map frD)) hb (zaS rk) ?_
   dsimp only
   refine zh2 (λdl2 S2=>S=S2∧dl2=[some (.ref a),some (.ref b),some (.int (tn:Int)),some (.int c),some (.int (c%10^Int.toNat 20)),some (.int (c%10^Int.toNat 20/4%((ps.length:Nat):Int))),some (frD (gt ps (c%10^Int.toNat 20/4%((ps.length:Nat):Int)))),none,none,none]) (λnx hn=>?_) ?_
   ·have on:=hn _ _ ⟨rfl,rfl⟩
    refine ifD (λe1=>?_) (λe1=>on)
    refine ifD (λe2=>?_) (λe2=>on)
    refine ifD (λe3=>?_) (λe3=>on)
    have e9:(10:Int)^Int.toNat 9=1000000000:=rfl
    have e2':=nine e2
    have e3':=zpw e3
    refine⟨ps.length,.unknown _,ns,ws,rfl,ha,by omega,net,rk,show 1≤16 by decide,λT1 j1 ns1 ws1 g1 lj1 hj1 wj1 dj1=>?_⟩
    have n1:=g1.ln
    refine⟨ps.length,.number _ _,ns1,ws1,rfl,g1.nd,by omega,g1.net,⟨⟨gk.1,e3'⟩,gk.2.1,e2'⟩,show 1≤16 by decide,λT2 j2 ns2 ws2 g2 lj2 hj2 wj2 dj2=>?_⟩
    have n2:=g2.ln
    have w1:=g2.wt g1.net lj1
    have e11:ws1.getD j1 0=1:=wj1
    have e22:ws2.getD j2 0=1:=wj2
    refine⟨ps.length,.minus (j1:Int) (j2:Int),ns2,ws2,rfl,g2.nd,by omega,g2.net,⟨⟨by omega,by omega⟩,⟨by omega,by omega⟩⟩,?_,λT3 j3 ns3 ws3 g3 lj3 hj3 wj3 dj3=>?_⟩
    ·show ws2.getD ((j1:Nat):Int).toNat 0+ws2.getD ((j2:Nat):Int).toNat 0≤16
     rw[Vag,Vag]
     omega
    have n3:=g3.ln
    have e33:ws3.getD j3 0=ws2.getD ((j1:Nat):Int).toNat 0+ws2.getD ((j2:Nat):Int).toNat 0:=wj3
    rw[Vag,Vag] at e33
    have wt:=((g1.trans g2).trans g3).wt net (show tn<ns.length by omega)
    have ht:=hv tn
    refine⟨ps.length,.times (tn:Int) (j3:Int),ns3,ws3,rfl,g3.nd,by omega,g3.net,⟨⟨by omega,by omega⟩,⟨by omega,by omega⟩⟩,?_,λT4 j4 ns4 ws4 g4 lj4 hj4 wj4 dj4=>?_⟩
    ·show ws3.getD ((tn:Nat):Int).toNat 0+ws3.getD ((j3:Nat):Int).toNat 0≤16
     rw[Vag,Vag]
     omega
    exact h T4 "zero" true j4 ns4 ws4 (.inl ⟨rfl,rfl⟩) ((((g1.trans g2).trans g3).trans g4).mono (by decide)) lj4
   rintro dl2 S2 ⟨rfl,rfl⟩
   refine zgE (n:=a) (o:=.lst (ns.map Nd.d)) (lo:=none) (hi:=some ((tn:Int)+1)) (S3:=S) (λK hK=>by exact hK) (λK hK=>by exact hK) (λK hK=>by exact hK) ha ?_
   have ec:zbd (ns.map Nd.d) none (some ((tn:Int)+1))=(ns.take (tn+1)).map Nd.d:=by
    rw[zmw (by omega) (by rw[Vac]; omega),List.map_take]
    rfl
   rw[show zas (Ob.lst (ns.map Nd.d))=ns.map Nd.d from rfl,ec]
   refine⟨ns.take (tn+1),ws.take (tn+1),ps,zaP _ _,zaN hb,net.take _,gp,by rw[Vaj]; omega,λT m pr lm hf=>?_⟩
   have prS:Pre S T:=λn o e=>pr n o (zaN e)
   have lT:S.length≤T.length:=by
    have z:(S++[Ob.lst ((ns.take (tn+1)).map Nd.d)]).length≤m:=lm
    rw[Vax] at z
    have:=zbP hf
    omega
   have g0:=Gr.pre net ha prS lT
   have pp:Pz 110 ps:=λp hp=>⟨(gp p hp).1,(gp p hp).2.2.1,(gp p hp).2.2.2⟩
   have ld:(zaB ps (ns.take (tn+1))).length=tn+1:=by rw[zc6,Vaj]; omega
   have ik:inR (((zaB ps (ns.take (tn+1))).length:Nat):Int) (tn:Int):=⟨by omega,by omega⟩
   have pz:Pz 1800 (zaB ps (ns.take (tn+1))):=Pz.of_w (zh8 net rfl pp (tn+1) (by omega)) λj hj=>(net.w1 (i:=j) ⟨by omega,by omega⟩).2
   have pk:=pz.at ik
   refine zaD (o:=.lst ((zaB ps (ns.take (tn+1))).map frD)) hf (zaS ik) ?_
   refine⟨⟨by omega,pk.2.2.mono (by decide)⟩,λt u h1 h2 h3 h4 h5=>?_⟩
   have ht:=hv tn
   have e9:(10:Int)^Int.toNat 9=1000000000:=rfl
   dsimp only
   refine zh2 (λdl2 S2=>T=S2∧∃u7 u8 u9:Option D,dl2=[some (.ref a),some (.ref b),some (.int (tn:Int)),some (.int c),some (.int (c%10^Int.toNat 20)),some (.int (c%10^Int.toNat 20/4%((ps.length:Nat):Int))),some (.tup [.int t,.int u]),u7,u8,u9]) (λnx hn=>?_) ?_
   ·have on:=hn _ _ ⟨rfl,none,none,none,rfl⟩
    refine ifD (λe2=>?_) (λe2=>on)
    refine ifD (λe3=>?_) (λe3=>on)
    have e2':=nine e2
    have e3':=zpw e3
    refine⟨ps.length,.number t u,ns,ws,rfl,g0.nd,by omega,net,⟨⟨h1,e3'⟩,h2,e2'⟩,show 1≤16 by decide,λT1 j1 ns1 ws1 g1 lj1 hj1 wj1 dj1=>?_⟩
    have n1:=g1.ln
    have e11:ws1.getD j1 0=1:=wj1
    have four:∀i:Int,inR 4 i→∃(x:Str) (zero:Bool),rwW zero x∧atI [D.str "zero",D.str "zero",D.str "zero",D.str "least"] i=some (.str x):=λi hi=>by
     obtain⟨h0,h3⟩:=hi
     have z:i=0∨i=1∨i=2∨i=3:=by omega
     rcases z with rfl | rfl | rfl | rfl
     ·exact⟨_,true,.inl ⟨rfl,rfl⟩,rfl⟩
     ·exact⟨_,true,.inl ⟨rfl,rfl⟩,rfl⟩
     ·exact⟨_,true,.inl ⟨rfl,rfl⟩,rfl⟩
     ·exact⟨_,false,.inr ⟨rfl,rfl⟩,rfl⟩
    obtain⟨x,zero,hx,ex'⟩:=four (c%10^Int.toNat 20%4) (za7 (by decide))
    refine zaD (o:=.lst [.str "zero",.str "zero",.str "zero",.str "least"]) (zaP _ _) ex' ?_
    have g2:=Gr.push g1.net g1.nd [.lst [.str "zero",.str "zero",.str "zero",.str "least"]]
    have wt:=g1.wt net (show tn<ns.length by omega)
    refine⟨ps.length,.minus (tn:Int) (j1:Int),ns1,ws1,rfl,g2.nd,by omega,g1.net,⟨⟨by omega,by omega⟩,⟨by omega,by omega⟩⟩,?_,λT3 j3 ns3 ws3 g3 lj3 hj3 wj3 dj3=>?_⟩
    ·show ws1.getD ((tn:Nat):Int).toNat 0+ws1.getD ((j1:Nat):Int).toNat 0≤16
     rw[Vag,Vag]
     omega
    exact h T3 x zero j3 ns3 ws3 hx ((((g0.trans g1).trans g2).trans g3).mono (by decide)) lj3
   rintro dl2 S2 ⟨rfl,u7,u8,u9,rfl⟩
   refine ifD (λe2=>?_) (λe2=>?_)
   ·exact h _ "least" false tn ns ws (.inr ⟨rfl,rfl⟩) (g0.mono (by decide)) (by omega)
   ·refine⟨ps.length,.number 0 1,ns,ws,rfl,g0.nd,by omega,net,⟨⟨by decide,by decide⟩,by decide,by decide⟩,show 1≤16 by decide,λT1 j1 ns1 ws1 g1 lj1 hj1 wj1 dj1=>?_⟩
    have n1:=g1.ln
    have e11:ws1.getD j1 0=1:=wj1
    have wt:=g1.wt net (show tn<ns.length by omega)
    refine⟨ps.length,.minus (j1:Int) (tn:Int),ns1,ws1,rfl,g1.nd,by omega,g1.net,⟨⟨by omega,by omega⟩,⟨by omega,by omega⟩⟩,?_,λT3 j3 ns3 ws3 g3 lj3 hj3 wj3 dj3=>?_⟩
    ·show ws1.getD ((j1:Nat):Int).toNat 0+ws1.getD ((tn:Nat):Int).toNat 0≤16
     rw[Vag,Vag]
     omega
    exact h T3 "least" false j3 ns3 ws3 (.inr ⟨rfl,rfl⟩) (((g0.trans g1).trans g3).mono (by decide)) lj3
  ·exact h.elim⟩)
def zrh  (zlc:Df K mg "_law_row_by" zhR zf2)(znz:Fk P w K mg base 4 "_law_met_row" zg2 zf5)(zaT:mg "max"=none)(za1:mg "len"=none):Fk P w K mg base 5 "_law_row_by" zf2 zhr:=
 zlc.mk' (zaw (k:=4) zlc.F zpb (zua) λcdv A outer s H E hr=>⟨_,(zad (zap (i:=4) zpb.nd rfl (Or.inl rfl) (za0 (zcq rfl) rfl zaT Boot.«max» (zaa zab (zaa (zaf zbB (zaf zbB (za0 (zbI zcK) rfl za1 Boot.«len» (zaa (dv 0) zac)) zab) (zaf za8 (dv 2) zab)) zac)))) (zad (zay (zau (zaM hr) (zaf za8 (zaf zbZ (dv 2) zab) zab) zab (zar _)) (zaj (zan (zaA (zaa (zaO (zbq (zaa zaL (zaa zaL zac))) (zaf za8 (zaf zbZ (dv 2) zab) zab) (λ_ _=>rfl)) (zaa (dv 4) zac))))) zaz) (zaj (zan (zao znz hr (zaa (dv 0) (zaa (dv 1) (zaa (dv 4) (zaa (dv 3) zac))))))))),λds S Q ex h=>by
  unfold zhr at h
  split at h
  ·rename_i a b f c
   obtain⟨ns,ws,ps,ha,hb,ab,net,hv,gp,lp,l1,l60,h⟩:=h
   refine zdM ha ?_
   rw[Vac]
   have two:∀i:Int,inR 2 i→∃(x:Str) (zero:Bool),rwW zero x∧atI [D.str "zero",D.str "least"] i=some (.str x):=λi hi=>by
    obtain⟨h0,h3⟩:=hi
    have z:i=0∨i=1:=by omega
    rcases z with rfl | rfl
    ·exact⟨_,true,.inl ⟨rfl,rfl⟩,rfl⟩
    ·exact⟨_,false,.inr ⟨rfl,rfl⟩,rfl⟩
   obtain⟨x,zero,hx,ex'⟩:=two (f/12%2) (za7 (by decide))
   have fin:∀k:Int,inR ((ns.length:Nat):Int) k→Q (.tup [.str x,.int k]) (S++[.lst [.str "zero",.str "least"]]):=λk hk=>by
    obtain⟨kn,rfl⟩:∃kn:Nat,k=(kn:Int):=⟨k.toNat,by have:=hk.1; omega⟩
    exact h _ x zero kn ns ws hx ((Gr.push net ha _).mono (by decide)) (by have:=hk.2; omega)
   have atR:inR ((ns.length:Nat):Int) (if ((ns.length:Nat):Int)-1-f%3 > 0 then ((ns.length:Nat):Int)-1-f%3 else 0):=by
    have:=za7 (a:=f) (b:=3) (by decide)
    unfold inR
    split <;> omega
   refine ifD (λe=>?_) (λe=>?_)
   ·refine zaD (o:=.lst [.str "zero",.str "least"]) (zaP _ _) ex' ?_
    exact fin _ atR
   ·exact⟨ns,ws,ps,ha,hb,ab,net,hv,gp,lp,atR,l60,h⟩
  ·exact h.elim⟩)
def zuv  (zma:Df K mg "less" zlJ zgr):Fk P w K mg base 1 "less" zgr zhf:=
 zma.mk' (zaw (k:=0) zma.F zuC (zv9) λcdv A outer s H E hr=>⟨_,(zaj (zan (zd5 zbw (zaf zaI (zae (dv 0) zab (λ_ _=>rfl)) (zae (dv 1) zab (λ_ _=>rfl))) (zaf zaI (zae (dv 1) zab (λ_ _=>rfl)) (zae (dv 0) zab (λ_ _=>rfl))) (zar _)))),λds S Q ex h=>by
  unfold zhf at h
  split at h
  ·obtain⟨⟨h1,h2⟩,h⟩:=h
   exact⟨h1,h2,h⟩
  ·exact h.elim⟩)
def zvH  (zjx:Df K mg "rounded_up" zje zdj):Fk P w K mg base 1 "rounded_up" zdj zdn:=
 zjx.mk' (zaw (k:=0) zjx.F zuF (zrQ) λcdv A outer s H E hr=>⟨_,(zaj (zan (zcr zcw (zaf zcc (zcr zcw (dv 0)) (dv 1))))),λds S Q ex h=>by
  unfold zdn at h
  split at h
  ·exact h
  ·exact h.elim⟩)
def zwC  (ziv:Df K mg "span_of" zlf zgj)(zb8:Fk P w K mg base 1 "rounded_up" zdj zdn)(zmS:Fk P w K mg base 1 "less" zgr zhf):Fk P w K mg base 2 "span_of" zgj zg8:=
 ziv.mk' (zaw (k:=1) ziv.F zqD (zwz) λcdv A outer s H E hr=>⟨_,(zad (zay (zck (zao zmS hr (zaa (dv 1) (zaa (dv 0) zac)))) (zaj ztw) zaz) (zaj (zan (zaA (zaa (zaf zcc (zaf zaI (zae (dv 0) zab (λ_ _=>rfl)) (dv 2)) (zae (dv 0) zab (λ_ _=>rfl))) (zaa (zao zb8 hr (zaa (zaf zaI (zae (dv 1) zab (λ_ _=>rfl)) (dv 2)) (zaa (zae (dv 1) zab (λ_ _=>rfl)) zac))) zac)))))),λds S Q ex h=>by
  unfold zg8 at h
  split at h
  ·obtain⟨⟨⟨m1,m2⟩,nl,m3,m4,f1,f2⟩,h⟩:=h
   refine⟨⟨m1,m2⟩,ifF (decide_eq_false nl) ?_⟩
   exact⟨m3,f1,m4,f2,h⟩
  ·exact h.elim⟩)
def zud  (zal:zbn K mg)(zam:zbm K mg)(zah:zbf K mg)(zai:zbj K mg)(zag:zbk K mg)(zak:zbo K mg)(zih:Dm K zal.C "forth" "Number.forth" ziR zgD)(zmJ:Fk P w K mg base 2 "span_of" zgj zg8):Fm P w K mg base 3 zal.C "forth" zgD (zeW zal.C zam.C zah.C zai.C zag.C zak.C):=
 zih.mk' (zaw (k:=2) zih.F zpW (zwO zal.C zam.C zah.C zai.C zag.C zak.C) λcdv A outer s H E hr=>⟨_,(zad (zap (i:=4) zpW.nd rfl (Or.inl rfl) (zaA (zaa (zaQ zal.cl zal.n_top (dv 0)) (zaa (zaQ zal.cl zal.n_bottom (dv 0)) zac)))) (zaj (zan (zao zmJ hr (zaa (dv 4) (zaa (dv 4) (zaa (dv 3) zac))))))),λds S Q ex h=>by
  unfold zeW at h
  split at h
  ·rename_i n w p g
   obtain⟨x,y,vs,bs,hn,hw,hp,ok,s1,hg,h⟩:=h
   have sg:Sz 21 g:=Sz.of 1000000 (by omega)
   have sx:Sz 31 x:=Sz.of (10^9) ok.2.2
   have sy:Sz 31 y:=Sz.of (10^9) (by have:=ok.1; omega)
   refine zaK (n:=n) (λK hK=>by exact hK) hn rfl ?_
   refine zaK (n:=n) (λK hK=>by exact hK) hn rfl ?_
   exact⟨⟨⟨zaE sx sy,zaE sx sy⟩,by omega,zaE sx sg,zaE sx sg,sy.fd (by have:=ok.1; omega),sy.fd (by have:=ok.1; omega)⟩,h⟩
  ·exact h.elim⟩)
def zsd  (zam:zbm K mg)(zal:zbn K mg)(zah:zbf K mg)(zai:zbj K mg)(zag:zbk K mg)(zak:zbo K mg)(zjS:Dm K zam.C "forth" "Unknown.forth" ziI zgL):Fm P w K mg base 1 zam.C "forth" zgL (zeD zal.C zam.C zah.C zai.C zag.C zak.C):=
 zjS.mk' (zaw (k:=0) zjS.F zuI (zvG zal.C zam.C zah.C zai.C zag.C zak.C) λcdv A outer s H E hr=>⟨_,(zaj (zan (zaO (dv 2) (zaQ zam.cl zam.n_place (dv 0)) (λ_ _=>rfl)))),λds S Q ex h=>by
  unfold zeD at h
  split at h
  ·rename_i n w p g
   obtain⟨k,vs,bs,hn,hw,hp,ok,s1,hg,h⟩:=h
   refine zaK (n:=n) (λK hK=>by exact hK) hn rfl ?_
   exact zaD (o:=.lst (bs.map frD)) hp (zaS ok) h
  ·exact h.elim⟩)
def zs0  (zkn:Df K mg "add_spans" zj5 zet):Fk P w K mg base 1 "add_spans" zet zeM:=
 zkn.mk' (zaw (k:=0) zkn.F zry (zu0) λcdv A outer s H E hr=>⟨_,(zaj (zan (zaA (zaa (zaf za5 (zae (dv 0) zab (λ_ _=>rfl)) (zae (dv 1) zab (λ_ _=>rfl))) (zaa (zaf za5 (zae (dv 0) zab (λ_ _=>rfl)) (zae (dv 1) zab (λ_ _=>rfl))) zac))))),λds S Q ex h=>by
  unfold zeM at h
  split at h
  ·exact h
  ·exact h.elim⟩)
def zsK  (zah:zbf K mg)(zal:zbn K mg)(zam:zbm K mg)(zai:zbj K mg)(zag:zbk K mg)(zak:zbo K mg)(zk4:Dm K zah.C "forth" "Plus.forth" ziX zfk)(zeT:Fk P w K mg base 1 "add_spans" zet zeM):Fm P w K mg base 2 zah.C "forth" zfk (ze1 zal.C zam.C zah.C zai.C zag.C zak.C):=
 zk4.mk' (zaw (k:=1) zk4.F zuK (zuL zal.C zam.C zah.C zai.C zag.C zak.C) λcdv A outer s H E hr=>⟨_,(zaj (zan (zao zeT hr (zaa (zaO (dv 1) (zaQ zah.cl zah.n_one (dv 0)) (λ_ _=>rfl)) (zaa (zaO (dv 1) (zaQ zah.cl zah.n_other (dv 0)) (λ_ _=>rfl)) zac))))),λds S Q ex h=>by
  unfold ze1 at h
  split at h
  ·rename_i n w p g
   obtain⟨i,j,vs,bs,hn,hw,hp,ok,s1,hg,h⟩:=h
   refine zaK (n:=n) (λK hK=>by exact hK) hn rfl ?_
   refine zaD (o:=.lst (vs.map frD)) hw (zaS ok.1) ?_
   refine zaK (n:=n) (λK hK=>by exact hK) hn rfl ?_
   refine zaD (o:=.lst (vs.map frD)) hw (zaS ok.2) ?_
   exact h
  ·exact h.elim⟩)
def ztQ  (zh1:Df K mg "take_spans" zi1 zc7):Fk P w K mg base 1 "take_spans" zc7 zds:=
 zh1.mk' (zaw (k:=0) zh1.F zt3 (zq3) λcdv A outer s H E hr=>⟨_,(zaj (zan (zaA (zaa (zaf zbB (zae (dv 0) zab (λ_ _=>rfl)) (zae (dv 1) zab (λ_ _=>rfl))) (zaa (zaf zbB (zae (dv 0) zab (λ_ _=>rfl)) (zae (dv 1) zab (λ_ _=>rfl))) zac))))),λds S Q ex h=>by
  unfold zds at h
  split at h
  ·exact h
  ·exact h.elim⟩)
def zqn  (zai:zbj K mg)(zal:zbn K mg)(zam:zbm K mg)(zah:zbf K mg)(zag:zbk K mg)(zak:zbo K mg)(zlX:Dm K zai.C "forth" "Minus.forth" zl2 zgt)(zca:Fk P w K mg base 1 "take_spans" zc7 zds):Fm P w K mg base 2 zai.C "forth" zgt (zem zal.C zam.C zah.C zai.C zag.C zak.C):=
 zlX.mk' (zaw (k:=1) zlX.F zu8 (zuS zal.C zam.C zah.C zai.C zag.C zak.C) λcdv A outer s H E hr=>⟨_,(zaj (zan (zao zca hr (zaa (zaO (dv 1) (zaQ zai.cl zai.n_one (dv 0)) (λ_ _=>rfl)) (zaa (zaO (dv 1) (zaQ zai.cl zai.n_other (dv 0)) (λ_ _=>rfl)) zac))))),λds S Q ex h=>by
  unfold zem at h
  split at h
  ·rename_i n w p g
   obtain⟨i,j,vs,bs,hn,hw,hp,ok,s1,hg,h⟩:=h
   refine zaK (n:=n) (λK hK=>by exact hK) hn rfl ?_
   refine zaD (o:=.lst (vs.map frD)) hw (zaS ok.1) ?_
   refine zaK (n:=n) (λK hK=>by exact hK) hn rfl ?_
   refine zaD (o:=.lst (vs.map frD)) hw (zaS ok.2) ?_
   exact h
  ·exact h.elim⟩)
def zvc  (zju:Df K mg "mul_spans" zk2 zfV)(zb8:Fk P w K mg base 1 "rounded_up" zdj zdn)(zaT:mg "max"=none)(zbc:mg "min"=none):Fk P w K mg base 2 "mul_spans" zfV zgB:=
 zju.mk' (zk8 (zaw (k:=1) zju.F zoA (zk1 (zvb)) λcdv A outer s H E hr=>⟨_,(zad (zap (i:=3) zoA.nd rfl (Or.inl rfl) (zbq (zaa (zaf zaI (zae (dv 0) zab (λ_ _=>rfl)) (zae (dv 1) zab (λ_ _=>rfl))) (zaa (zaf zaI (zae (dv 0) zab (λ_ _=>rfl)) (zae (dv 1) zab (λ_ _=>rfl))) (zaa (zaf zaI (zae (dv 0) zab (λ_ _=>rfl)) (zae (dv 1) zab (λ_ _=>rfl))) (zaa (zaf zaI (zae (dv 0) zab (λ_ _=>rfl)) (zae (dv 1) zab (λ_ _=>rfl))) zac)))))) (zaj (zan (zaA (zaa (zaf zcc (za0 (zbI (zeE rfl)) rfl zbc Boot.«min» (zaa (dv 3) zac)) (dv 2)) (zaa (zao zb8 hr (zaa (za0 (zbI (zcq rfl)) rfl zaT Boot.«max» (zaa (dv 3) zac)) (zaa (dv 2) zac))) zac)))))),λds S Q ex h=>by
  obtain⟨Q0,ex0,rfl,rfl,h⟩:=h
  unfold zgB at h
  split at h
  ·rename_i a b c d g
   obtain⟨⟨⟨m1,m2,m3,m4⟩,hg⟩,h⟩:=h
   refine⟨m1,m2,m3,m4,?_⟩
   apply zdg
   ·exact zaP _ _
   ·rfl
   ·simp
   intro mn n1 n2
   refine⟨hg,?_⟩
   apply zdg
   ·exact zaP _ _
   ·rfl
   ·simp
   intro mx x1 x2
   refine⟨hg,?_⟩
   exact⟨Pre.refl.push,zi8,h mn mx (ze0.of n1 n2 x1 x2)⟩
  ·exact h.elim⟩))
def zqw  (zag:zbk K mg)(zal:zbn K mg)(zam:zbm K mg)(zah:zbf K mg)(zai:zbj K mg)(zak:zbo K mg)(zkT:Dm K zag.C "forth" "Times.forth" zkS zfI)(zmi:Fk P w K mg base 2 "mul_spans" zfV zgB):Fm P w K mg base 3 zag.C "forth" zfI (zeq zal.C zam.C zah.C zai.C zag.C zak.C):=
 zkT.mk' (zaw (k:=2) zkT.F zt0 (zsR zal.C zam.C zah.C zai.C zag.C zak.C) λcdv A outer s H E hr=>⟨_,(zaj (zan (zao zmi hr (zaa (zaO (dv 1) (zaQ zag.cl zag.n_one (dv 0)) (λ_ _=>rfl)) (zaa (zaO (dv 1) (zaQ zag.cl zag.n_other (dv 0)) (λ_ _=>rfl)) (zaa (dv 3) zac)))))),λds S Q ex h=>by
  unfold zeq at h
  split at h
  ·rename_i n w p g
   obtain⟨i,j,vs,bs,hn,hw,hp,ok,s1,hg,h⟩:=h
   refine zaK (n:=n) (λK hK=>by exact hK) hn rfl ?_
   refine zaD (o:=.lst (vs.map frD)) hw (zaS ok.1) ?_
   refine zaK (n:=n) (λK hK=>by exact hK) hn rfl ?_
   refine zaD (o:=.lst (vs.map frD)) hw (zaS ok.2) ?_
   have a:=s1.at ok.1
   have b:=s1.at ok.2
   have sg:Sz 21 g:=Sz.of 1000000 (by omega)
   refine⟨⟨⟨zaE a.2.1 b.2.1,zaE a.2.1 b.2.2,zaE a.2.2 b.2.1,zaE a.2.2 b.2.2⟩,sg.fd (by omega)⟩,λmn mx hc=>?_⟩
   obtain⟨rfl,rfl⟩:=hc.eq
   exact h
  ·exact h.elim⟩)
def zrV  (zkx:Df K mg "raised" zl7 zcL)(zbb:mg "range"=none):Fk P w K mg base 1 "raised" zcL zcQ:=
 zkx.mk' (zaw (k:=0) zkx.F ziZ (zuo) λcdv A outer s H E hr=>⟨_,(zad (zap (i:=2) ziZ.nd rfl (Or.inl rfl) zab) (zad (zmR (i:=3) PassesOwn.never rfl ziZ.nd rfl (Or.inl rfl) rfl zbb (zaa (dv 1) zac) (zaj (zap (i:=2) ziZ.nd rfl (Or.inl rfl) (zaf zaI (dv 2) (dv 0))))) (zaj (zan (dv 2))))),λds S Q ex h=>by
  unfold zcQ at h
  split at h
  ·rename_i x n
   obtain⟨⟨h0,h6,sx⟩,h⟩:=h
   refine⟨⟨by omega,by omega⟩,λk dl' S'=>S'=S∧k≤n.toNat∧∃(z:Int) (o:Option D),z=x^k∧dl'=[some (.int x),some (.int n),some (.int z),o],⟨rfl,VaC _,1,none,(VaP x).symm,rfl⟩,?_⟩
   rintro k dl' S' ⟨rfl,hk,z,o,rfl,rfl⟩
   refine zfD (λc=>?_) (λc=>?_)
   ·exact⟨zaE (m:=12001) (n:=2000) ((sx.pow k).mono (by omega)) sx,rfl,by omega,_,_,(Vad x k).symm,rfl⟩
   ·have e:k=n.toNat:=by omega
    subst e
    exact h
  ·exact h.elim⟩)
def zve  (zkH:Df K mg "raise_span" zhm zfL)(zb8:Fk P w K mg base 1 "rounded_up" zdj zdn)(zbr:Fk P w K mg base 1 "raised" zcL zcQ)(zaT:mg "max"=none)(zbc:mg "min"=none):Fk P w K mg base 2 "raise_span" zfL zgz:=
 zkH.mk' (zk8 (zaw (k:=1) zkH.F zh5 (zk1 (zrw)) λcdv A outer s H E hr=>⟨_,(zad (zap (i:=3) zh5.nd rfl (Or.inl rfl) (zbq (zaa (zae (dv 0) zab (λ_ _=>rfl)) (zaa (zae (dv 0) zab (λ_ _=>rfl)) zac)))) (zad (zay (zsC zbw zbw (zae (dv 0) zab (λ_ _=>rfl)) zab (zae (dv 0) zab (λ_ _=>rfl))) (zaj (zcR (zcN (dv 3) zab))) zaz) (zad (znF (x:="place") (N:=["grid","many"]) (caps:=[2,1]) (ar:=zaq zhm) rfl rfl csc rfl (by decide) (i:=4) zh5.nd rfl rfl (dv 3) (λ_ _ _ _ _ _=>zhk) (λ_ _ _ _ _ _=>(zaf zaI (zao zbr hr (zaa (dv 0) (zaa (dv 2) zac))) (dv 1)))) (zad (zap (i:=5) zh5.nd rfl (Or.inl rfl) (zao zbr hr (zaa (dv 2) (zaa (dv 1) zac)))) (zaj (zan (zaA (zaa (zaf zcc (za0 (zbI (zeE rfl)) rfl zbc Boot.«min» (zaa (dv 4) zac)) (dv 5)) (zaa (zao zb8 hr (zaa (za0 (zbI (zcq rfl)) rfl zaT Boot.«max» (zaa (dv 4) zac)) (zaa (dv 5) zac))) zac))))))))),λds S Q ex h=>by
  obtain⟨Q0,ex0,rfl,rfl,h⟩:=h
  unfold zgz at h
  split at h
  ·rename_i a b n g
   obtain⟨⟨n2,n6,za,zb,hg,zg⟩,h⟩:=h
   refine ifD (λc1=>?_) (λc1=>?_)
   ·refine ifD (λc2=>?_) (λc2=>?_)
    ·refine zdF (n:=S.length) (λK hK=>hK) (zaP _ _) (λK hK=>hK) (by simp) ?_
     refine zjI (n:=S.length) (o:=.lst [.int a,.int b,.int 0]) (λd=>match d with | .int v=>.int (v^n.toNat*g) | _=>.non) (λK hK=>hK) (by simp) (by simp[zas]) (λx hx S2 K _ hK=>?_) ?_
     ·have hx':x=.int a∨x=.int b∨x=.int 0:=by simpa [zas] using hx
      rcases hx' with rfl | rfl | rfl
      all_goals exact⟨⟨by omega,n6,by first | exact za.mono (by decide) | exact zb.mono (by decide) | exact Sz.of (n:=2000) 0 (by decide)⟩,zaE (m:=12001) (n:=1400) (((Sz.mono (n:=2000) (by first | exact za | exact zb | exact Sz.of (n:=1400) 0 (by decide)) (by decide)).pow _).mono (by omega)) zg,hK⟩
     refine⟨⟨by omega,n6,zg.mono (by decide)⟩,?_⟩
     have gp:(0:Int)<g^n.toNat:=Vak (by omega)
     have zgp:Sz 8401 (g^n.toNat):=(zg.pow _).mono (by omega)
     apply zdg
     ·exact zaP _ _
     ·rfl
     ·simp
     intro mn q1 q2
     refine⟨zgp.fd gp,?_⟩
     apply zdg
     ·exact zaP _ _
     ·rfl
     ·simp
     intro mx x1 x2
     refine⟨zgp.fd gp,?_⟩
     obtain⟨m,M,hP,rfl,rfl⟩:=zcy.of (n:=n.toNat) hg (.inr ⟨rfl,c1,c2⟩) (by omega) q1 q2 x1 x2
     have r:=h m M hP
     rw[← zd6 hg (by omega),← zd6 hg (by omega),Vae] at r
     exact⟨(λi o e=>zpU (by rw[List.set_append_right _ _ (Vaa _),Vao (Vab.mp e).1]; exact e)),zi8,r⟩
    ·skip
     refine zjI (n:=S.length) (o:=.lst [.int a,.int b]) (λd=>match d with | .int v=>.int (v^n.toNat*g) | _=>.non) (λK hK=>hK) (zaP _ _) (by simp[zas]) (λx hx S2 K _ hK=>?_) ?_
     ·have hx':x=.int a∨x=.int b:=by simpa [zas] using hx
      rcases hx' with rfl | rfl
      all_goals exact⟨⟨by omega,n6,by first | exact za.mono (by decide) | exact zb.mono (by decide) | exact Sz.of (n:=2000) 0 (by decide)⟩,zaE (m:=12001) (n:=1400) (((Sz.mono (n:=2000) (by first | exact za | exact zb | exact Sz.of (n:=1400) 0 (by decide)) (by decide)).pow _).mono (by omega)) zg,hK⟩
     refine⟨⟨by omega,n6,zg.mono (by decide)⟩,?_⟩
     have gp:(0:Int)<g^n.toNat:=Vak (by omega)
     have zgp:Sz 8401 (g^n.toNat):=(zg.pow _).mono (by omega)
     apply zdg
     ·exact zaP _ _
     ·rfl
     ·simp
     intro mn q1 q2
     refine⟨zgp.fd gp,?_⟩
     apply zdg
     ·exact zaP _ _
     ·rfl
     ·simp
     intro mx x1 x2
     refine⟨zgp.fd gp,?_⟩
     obtain⟨m,M,hP,rfl,rfl⟩:=zcy.of (n:=n.toNat) hg (.inl ⟨rfl,λc=>c2 c.2⟩) (by omega) q1 q2 x1 x2
     have r:=h m M hP
     rw[← zd6 hg (by omega),← zd6 hg (by omega),Vae] at r
     exact⟨Pre.refl.push.push,zi8,r⟩
   ·skip
    refine zjI (n:=S.length) (o:=.lst [.int a,.int b]) (λd=>match d with | .int v=>.int (v^n.toNat*g) | _=>.non) (λK hK=>hK) (zaP _ _) (by simp[zas]) (λx hx S2 K _ hK=>?_) ?_
    ·have hx':x=.int a∨x=.int b:=by simpa [zas] using hx
     rcases hx' with rfl | rfl
     all_goals exact⟨⟨by omega,n6,by first | exact za.mono (by decide) | exact zb.mono (by decide) | exact Sz.of (n:=2000) 0 (by decide)⟩,zaE (m:=12001) (n:=1400) (((Sz.mono (n:=2000) (by first | exact za | exact zb | exact Sz.of (n:=1400) 0 (by decide)) (by decide)).pow _).mono (by omega)) zg,hK⟩
    refine⟨⟨by omega,n6,zg.mono (by decide)⟩,?_⟩
    have gp:(0:Int)<g^n.toNat:=Vak (by omega)
    have zgp:Sz 8401 (g^n.toNat):=(zg.pow _).mono (by omega)
    apply zdg
    ·exact zaP _ _
    ·rfl
    ·simp
    intro mn q1 q2
    refine⟨zgp.fd gp,?_⟩
    apply zdg
    ·exact zaP _ _
    ·rfl
    ·simp
    intro mx x1 x2
    refine⟨zgp.fd gp,?_⟩
    obtain⟨m,M,hP,rfl,rfl⟩:=zcy.of (n:=n.toNat) hg (.inl ⟨rfl,λc=>c1 c.1⟩) (by omega) q1 q2 x1 x2
    have r:=h m M hP
    rw[← zd6 hg (by omega),← zd6 hg (by omega),Vae] at r
    exact⟨Pre.refl.push.push,zi8,r⟩
  ·exact h.elim⟩))
def zqZ  (zak:zbo K mg)(zal:zbn K mg)(zam:zbm K mg)(zah:zbf K mg)(zai:zbj K mg)(zag:zbk K mg)(zkF:Dm K zak.C "forth" "Power.forth" zjT zf9)(zme:Fk P w K mg base 2 "raise_span" zfL zgz):Fm P w K mg base 3 zak.C "forth" zf9 (zeY zal.C zam.C zah.C zai.C zag.C zak.C):=
 zkF.mk' (zaw (k:=2) zkF.F zsv (zqe zal.C zam.C zah.C zai.C zag.C zak.C) λcdv A outer s H E hr=>⟨_,(zaj (zan (zao zme hr (zaa (zaO (dv 1) (zaQ zak.cl zak.n_one (dv 0)) (λ_ _=>rfl)) (zaa (zaQ zak.cl zak.n_many (dv 0)) (zaa (dv 3) zac)))))),λds S Q ex h=>by
  unfold zeY at h
  split at h
  ·rename_i n w p g
   obtain⟨i,m,vs,bs,hn,hw,hp,ok,s1,hg,h⟩:=h
   refine zaK (n:=n) (λK hK=>by exact hK) hn rfl ?_
   refine zaD (o:=.lst (vs.map frD)) hw (zaS ok.1) ?_
   refine zaK (n:=n) (λK hK=>by exact hK) hn rfl ?_
   have a:=s1.at ok.1
   have sg:Sz 21 g:=Sz.of 1000000 (by omega)
   refine⟨⟨ok.2.1,ok.2.2,a.2.1,a.2.2,hg.1,sg.mono (by decide)⟩,λm' M' hP=>?_⟩
   obtain⟨rfl,rfl⟩:=hP.eq (by have:=ok.2.1; omega)
   exact h
  ·exact h.elim⟩)
def zuk  (zak:zbo K mg)(zlP:Dm K zak.C "__init__" "Power.__init__" zlK zfK):Fm P w K mg base 1 zak.C "__init__" zfK (zgY zak.C):=
 zlP.mk' (zaw (k:=0) zlP.F zqp (zuP zak.C) λcdv A outer s H E hr=>⟨_,(zad (zch zak.cl zak.n_one (dv 0) (dv 1)) (zaj (zch zak.cl zak.n_many (dv 0) (dv 2)))),λds S Q ex h=>by
  unfold zgY at h
  split at h
  ·rename_i n x y
   obtain⟨T,rfl,rfl,h⟩:=h
   refine zcj (v:=x) (S1:=T++[Ob.ins zak.C []]) (S2:=T++[Ob.ins zak.C []]) (n:=T.length) (fs:=[]) (λK hK=>by exact hK) (λK hK=>by exact hK) (zcl ..) (by simp) ?_
   rw[zcn]
   refine zcj (v:=y) (S1:=T++[Ob.ins zak.C [("one",x)]]) (S2:=T++[Ob.ins zak.C [("one",x)]]) (n:=T.length) (fs:=[("one",x)]) (λK hK=>by exact hK) (λK hK=>by exact hK) (zcl ..) (by simp) ?_
   rw[zcn]
   exact h
  ·exact h.elim⟩)
def zuD  (zal:zbn K mg)(zif:Dm K zal.C "__init__" "Number.__init__" zi5 zfe):Fm P w K mg base 1 zal.C "__init__" zfe (zfg zal.C):=
 zif.mk' (zaw (k:=0) zif.F ztU (zwD zal.C) λcdv A outer s H E hr=>⟨_,(zad (zch zal.cl zal.n_top (dv 0) (dv 1)) (zaj (zch zal.cl zal.n_bottom (dv 0) (dv 2)))),λds S Q ex h=>by
  unfold zfg at h
  split at h
  ·rename_i n x y
   obtain⟨T,rfl,rfl,h⟩:=h
   refine zcj (v:=x) (S1:=T++[Ob.ins zal.C []]) (S2:=T++[Ob.ins zal.C []]) (n:=T.length) (fs:=[]) (λK hK=>by exact hK) (λK hK=>by exact hK) (zcl ..) (by simp) ?_
   rw[zcn]
   refine zcj (v:=y) (S1:=T++[Ob.ins zal.C [("top",x)]]) (S2:=T++[Ob.ins zal.C [("top",x)]]) (n:=T.length) (fs:=[("top",x)]) (λK hK=>by exact hK) (λK hK=>by exact hK) (zcl ..) (by simp) ?_
   rw[zcn]
   exact h
  ·exact h.elim⟩)
def zs1  (zam:zbm K mg)(ziD:Dm K zam.C "__init__" "Unknown.__init__" zly zfh):Fm P w K mg base 1 zam.C "__init__" zfh (zhg zam.C):=
 ziD.mk' (zaw (k:=0) ziD.F zwh (zrk zam.C) λcdv A outer s H E hr=>⟨_,(zaj (zch zam.cl zam.n_place (dv 0) (dv 1))),λds S Q ex h=>by
  unfold zhg at h
  split at h
  ·rename_i n x
   obtain⟨T,rfl,rfl,h⟩:=h
   refine zcj (v:=x) (S1:=T++[Ob.ins zam.C []]) (S2:=T++[Ob.ins zam.C []]) (n:=T.length) (fs:=[]) (λK hK=>by exact hK) (λK hK=>by exact hK) (zcl ..) (by simp) ?_
   rw[zcn]
   exact h
  ·exact h.elim⟩)
def zvO  (zah:zbf K mg)(zhV:Dm K zah.C "__init__" "Pair.__init__" zjJ zfW):Fm P w K mg base 1 zah.C "__init__" zfW (zf8 zah.C):=
 zhV.mk' (zaw (k:=0) zhV.F zrW (zwg zah.C) λcdv A outer s H E hr=>⟨_,(zad (zch zah.cl zah.n_one (dv 0) (dv 1)) (zaj (zch zah.cl zah.n_other (dv 0) (dv 2)))),λds S Q ex h=>by
  unfold zf8 at h
  split at h
  ·rename_i n x y
   obtain⟨T,rfl,rfl,h⟩:=h
   refine zcj (v:=x) (S1:=T++[Ob.ins zah.C []]) (S2:=T++[Ob.ins zah.C []]) (n:=T.length) (fs:=[]) (λK hK=>by exact hK) (λK hK=>by exact hK) (zcl ..) (by simp) ?_
   rw[zcn]
   refine zcj (v:=y) (S1:=T++[Ob.ins zah.C [("one",x)]]) (S2:=T++[Ob.ins zah.C [("one",x)]]) (n:=T.length) (fs:=[("one",x)]) (λK hK=>by exact hK) (λK hK=>by exact hK) (zcl ..) (by simp) ?_
   rw[zcn]
   exact h
  ·exact h.elim⟩)
def zqb  (zai:zbj K mg)(zle:Dm K zai.C "__init__" "Pair.__init__" zl4 zgG):Fm P w K mg base 1 zai.C "__init__" zgG (zhi zai.C):=
 zle.mk' (zaw (k:=0) zle.F zwK (zwe zai.C) λcdv A outer s H E hr=>⟨_,(zad (zch zai.cl zai.n_one (dv 0) (dv 1)) (zaj (zch zai.cl zai.n_other (dv 0) (dv 2)))),λds S Q ex h=>by
  unfold zhi at h
  split at h
  ·rename_i n x y
   obtain⟨T,rfl,rfl,h⟩:=h
   refine zcj (v:=x) (S1:=T++[Ob.ins zai.C []]) (S2:=T++[Ob.ins zai.C []]) (n:=T.length) (fs:=[]) (λK hK=>by exact hK) (λK hK=>by exact hK) (zcl ..) (by simp) ?_
   rw[zcn]
   refine zcj (v:=y) (S1:=T++[Ob.ins zai.C [("one",x)]]) (S2:=T++[Ob.ins zai.C [("one",x)]]) (n:=T.length) (fs:=[("one",x)]) (λK hK=>by exact hK) (λK hK=>by exact hK) (zcl ..) (by simp) ?_
   rw[zcn]
   exact h
  ·exact h.elim⟩)
def ztt  (zag:zbk K mg)(ziT:Dm K zag.C "__init__" "Pair.__init__" zkO zgl):Fm P w K mg base 1 zag.C "__init__" zgl (zgx zag.C):=
 ziT.mk' (zaw (k:=0) ziT.F zwr (zs4 zag.C) λcdv A outer s H E hr=>⟨_,(zad (zch zag.cl zag.n_one (dv 0) (dv 1)) (zaj (zch zag.cl zag.n_other (dv 0) (dv 2)))),λds S Q ex h=>by
  unfold zgx at h
  split at h
  ·rename_i n x y
   obtain⟨T,rfl,rfl,h⟩:=h
   refine zcj (v:=x) (S1:=T++[Ob.ins zag.C []]) (S2:=T++[Ob.ins zag.C []]) (n:=T.length) (fs:=[]) (λK hK=>by exact hK) (λK hK=>by exact hK) (zcl ..) (by simp) ?_
   rw[zcn]
   refine zcj (v:=y) (S1:=T++[Ob.ins zag.C [("one",x)]]) (S2:=T++[Ob.ins zag.C [("one",x)]]) (n:=T.length) (fs:=[("one",x)]) (λK hK=>by exact hK) (λK hK=>by exact hK) (zcl ..) (by simp) ?_
   rw[zcn]
   exact h
  ·exact h.elim⟩)
def ztg  (zak:zbo K mg)(zag:zbk K mg)(zai:zbj K mg)(zah:zbf K mg)(zam:zbm K mg)(zal:zbn K mg)(zil:Df K mg "kind_of" zj1 zek)(zee:Fm P w K mg base 1 zak.C "__init__" zfK (zgY zak.C))(zeX:Fm P w K mg base 1 zag.C "__init__" zgl (zgx zag.C))(zeg:Fm P w K mg base 1 zai.C "__init__" zgG (zhi zai.C))(zfb:Fm P w K mg base 1 zah.C "__init__" zfW (zf8 zah.C))(zeb:Fm P w K mg base 1 zam.C "__init__" zfh (zhg zam.C))(zes:Fm P w K mg base 1 zal.C "__init__" zfe (zfg zal.C)):Fk P w K mg base 3 "kind_of" zek (zeZ zal.C zam.C zah.C zai.C zag.C zak.C):=
 zil.mk' (zaw (k:=2) zil.F zp9 (zqz zal.C zam.C zah.C zai.C zag.C zak.C) λcdv A outer s H E hr=>⟨_,(zad (zay (zau (zaM hr) (zae (dv 0) zab (λ_ _=>rfl)) zaL (zar _)) (zaj (zan (ze4 ⟨zal.makes,zes.m.at_,zes.m.fn,zal.kp⟩ zes.ok (hr.mono (by decide)) rfl zal.m zes.b zd2 (zaa (zae (dv 0) zab (λ_ _=>rfl)) (zaa (zae (dv 0) zab (λ_ _=>rfl)) zac))))) zaz) (zad (zay (zau (zaM hr) (zae (dv 0) zab (λ_ _=>rfl)) zaL (zar _)) (zaj (zan (ze4 ⟨zam.makes,zeb.m.at_,zeb.m.fn,zam.kp⟩ zeb.ok (hr.mono (by decide)) rfl zam.m zeb.b zd2 (zaa (zae (dv 0) zab (λ_ _=>rfl)) zac)))) zaz) (zad (zay (zau (zaM hr) (zae (dv 0) zab (λ_ _=>rfl)) zaL (zar _)) (zaj (zan (ze4 ⟨zah.makes,zfb.m.at_,zfb.m.fn,zah.kp⟩ zfb.ok (hr.mono (by decide)) rfl zah.m zfb.b zd2 (zaa (zae (dv 0) zab (λ_ _=>rfl)) (zaa (zae (dv 0) zab (λ_ _=>rfl)) zac))))) zaz) (zad (zay (zau (zaM hr) (zae (dv 0) zab (λ_ _=>rfl)) zaL (zar _)) (zaj (zan (ze4 ⟨zai.makes,zeg.m.at_,zeg.m.fn,zai.kp⟩ zeg.ok (hr.mono (by decide)) rfl zai.m zeg.b zd2 (zaa (zae (dv 0) zab (λ_ _=>rfl)) (zaa (zae (dv 0) zab (λ_ _=>rfl)) zac))))) zaz) (zad (zay (zau (zaM hr) (zae (dv 0) zab (λ_ _=>rfl)) zaL (zar _)) (zaj (zan (ze4 ⟨zag.makes,zeX.m.at_,zeX.m.fn,zag.kp⟩ zeX.ok (hr.mono (by decide)) rfl zag.m zeX.b zd2 (zaa (zae (dv 0) zab (λ_ _=>rfl)) (zaa (zae (dv 0) zab (λ_ _=>rfl)) zac))))) zaz) (zaj (zan (ze4 ⟨zak.makes,zee.m.at_,zee.m.fn,zak.kp⟩ zee.ok (hr.mono (by decide)) rfl zak.m zee.b zd2 (zaa (zae (dv 0) zab (λ_ _=>rfl)) (zaa (zae (dv 0) zab (λ_ _=>rfl)) zac)))))))))),λds S Q ex h=>by
  unfold zeZ at h
  split at h
  ·obtain⟨v,rfl,h⟩:=h
   cases v <;> exact⟨S,rfl,rfl,rfl,h⟩
  ·exact h.elim⟩)
def zsa  (zak:zbo K mg)(zag:zbk K mg)(zai:zbj K mg)(zah:zbf K mg)(zam:zbm K mg)(zal:zbn K mg)(zio:Df K mg "worths" zls zgF)(znk:Fm P w K mg base 3 zak.C "forth" zf9 (zeY zal.C zam.C zah.C zai.C zag.C zak.C))(zm4:Fm P w K mg base 3 zag.C "forth" zfI (zeq zal.C zam.C zah.C zai.C zag.C zak.C))(zmc:Fm P w K mg base 2 zai.C "forth" zgt (zem zal.C zam.C zah.C zai.C zag.C zak.C))(zns:Fm P w K mg base 2 zah.C "forth" zfk (ze1 zal.C zam.C zah.C zai.C zag.C zak.C))(znt:Fm P w K mg base 1 zam.C "forth" zgL (zeD zal.C zam.C zah.C zai.C zag.C zak.C))(znN:Fm P w K mg base 3 zal.C "forth" zgD (zeW zal.C zam.C zah.C zai.C zag.C zak.C))(zed:Fk P w K mg base 3 "kind_of" zek (zeZ zal.C zam.C zah.C zai.C zag.C zak.C)):Fk P w K mg base 4 "worths" zgF zg5:=
 zio.mk' (zaw (k:=3) zio.F zmP (ztR) λcdv A outer s H E hr=>⟨_,(zad (zap (i:=3) zmP.nd rfl (Or.inl rfl) (zbq zac)) (zad (zdC (i:=4) PassesOwn.never rfl zmP.nd rfl (Or.inl rfl) (dv 0) (zaj (zcR (zcN (dv 3) (zoy (zao zed hr (zaa (dv 4) zac)) (zb2 zal.cl znN (hr.mono (by decide)) (zb2 zam.cl znt (hr.mono (by decide)) (zb2 zah.cl zns (hr.mono (by decide)) (zb2 zai.cl zmc (hr.mono (by decide)) (zb2 zag.cl zm4 (hr.mono (by decide)) (zb2 zak.cl znk (hr.mono (by decide)) zog)))))) zcf (zaa (dv 3) (zaa (dv 1) (zaa (dv 2) zac)))))))) (zaj (zan (dv 3))))),λds S Q ex h=>by
  unfold zg5 at h
  split at h
  ·rename_i a b g
   obtain⟨ns,ws,bs,ha,hb,net,sb,hg,hl,h⟩:=h
   have disp:∀v:Nd,∃C fs sd,v.ob zal.C zam.C zah.C zai.C zag.C zak.C=.ins C fs∧(C,sd)∈[(zal.C,zeW zal.C zam.C zah.C zai.C zag.C zak.C),(zam.C,zeD zal.C zam.C zah.C zai.C zag.C zak.C),(zah.C,ze1 zal.C zam.C zah.C zai.C zag.C zak.C),(zai.C,zem zal.C zam.C zah.C zai.C zag.C zak.C),(zag.C,zeq zal.C zam.C zah.C zai.C zag.C zak.C),(zak.C,zeY zal.C zam.C zah.C zai.C zag.C zak.C)]∧fs.lookup ("forth":Str)=none∧∀(n w p:Nat) (g:Int) (S:Sto) (Q:DK) (ex:Addr→Sto→Prop) (vs bs:List (Int×Int)),S[n]?=some (v.ob zal.C zam.C zah.C zai.C zag.C zak.C)→S[w]?=some (.lst (vs.map frD))→S[p]?=some (.lst (bs.map frD))→v.ok vs.length bs.length→Spn 1400 vs→(1≤g∧g≤1000000)→Q (frD (v.fw vs bs g)) S→sd [.ref n,.ref w,.ref p,.int g] S Q ex:=by
    intro v
    cases v with
    | number x y=>exact⟨_,_,_,rfl,(.head _),rfl,λn w p g S Q ex vs bs a1 a2 a3 a4 a5 a6 q=>⟨x,y,vs,bs,a1,a2,a3,a4,a5,a6,q⟩⟩
    | unknown k=>exact⟨_,_,_,rfl,(.tail _ (.head _)),rfl,λn w p g S Q ex vs bs a1 a2 a3 a4 a5 a6 q=>⟨k,vs,bs,a1,a2,a3,a4,a5,a6,q⟩⟩
    | plus i j=>exact⟨_,_,_,rfl,(.tail _ (.tail _ (.head _))),rfl,λn w p g S Q ex vs bs a1 a2 a3 a4 a5 a6 q=>⟨i,j,vs,bs,a1,a2,a3,a4,a5,a6,q⟩⟩
    | minus i j=>exact⟨_,_,_,rfl,(.tail _ (.tail _ (.tail _ (.head _)))),rfl,λn w p g S Q ex vs bs a1 a2 a3 a4 a5 a6 q=>⟨i,j,vs,bs,a1,a2,a3,a4,a5,a6,q⟩⟩
    | times i j=>exact⟨_,_,_,rfl,(.tail _ (.tail _ (.tail _ (.tail _ (.head _))))),rfl,λn w p g S Q ex vs bs a1 a2 a3 a4 a5 a6 q=>⟨i,j,vs,bs,a1,a2,a3,a4,a5,a6,q⟩⟩
    | power i m=>exact⟨_,_,_,rfl,(.tail _ (.tail _ (.tail _ (.tail _ (.tail _ (.head _)))))),rfl,λn w p g S Q ex vs bs a1 a2 a3 a4 a5 a6 q=>⟨i,m,vs,bs,a1,a2,a3,a4,a5,a6,q⟩⟩
   have la:=zbP ha
   have lb:=zbP hb
   refine zdO (n:=a) (o:=.lst (ns.map Nd.d)) (λk dl' S'=>k≤ns.length∧Pre S S'∧S'[S.length]?=some (.lst ((zaH bs g (ns.take k)).map frD))∧∃u:Option D,dl'=[some (.ref a),some (.ref b),some (.int g),some (.ref S.length),u]) ⟨VaC _,Pre.refl.push,zaP _ _,_,rfl⟩ (λk dl' S' w=>w.2.1 _ _ ha) ?_ ?_
   ·rintro k x dl' S' nx ct ex' ⟨hk,pr,hf,u,rfl⟩ hn
    have ex2:(ns.map Nd.d)[k]?=some x:=ex'
    rw[Vap] at ex2
    obtain⟨v,hv,rfl⟩:=Vay.mp ex2
    have hk':=(Vab.mp hv).1
    have ln:(zaH bs g (ns.take k)).length=k:=by rw[zcX,Vaj]; omega
    have okv:v.ok (zaH bs g (ns.take k)).length bs.length:=by rw[ln]; exact(net.ok k v hv).1
    obtain⟨C,fs,sd,eo,hm,hf2,go⟩:=disp v
    have N1:=zaP S' (v.ob zal.C zam.C zah.C zai.C zag.C zak.C)
    refine zql (n:=S.length) (S1:=S') (S2:=S'++[v.ob zal.C zam.C zah.C zai.C zag.C zak.C]) (xs:=(zaH bs g (ns.take k)).map frD) (y:=frD (v.fw (zaH bs g (ns.take k)) bs g)) (λK hK=>by exact hK) hf (λK hK=>?_) (zaN hf) (by rw[Vac,ln]; omega) ?_
    ·refine zn5 (n:=S'.length) (C:=C) (sd:=sd) (fs:=fs) (S1:=S'++[v.ob zal.C zam.C zah.C zai.C zag.C zak.C]) (λK hK=>⟨v,rfl,by exact hK⟩) (by rw[← eo]; exact N1) hm hf2 ?_
     exact go _ _ _ _ _ _ _ (zaH bs g (ns.take k)) bs N1 (zaN hf) (zaN (pr _ _ hb)) okv ((zfm net rfl sb hg k hk).mono (by decide)) hg hK
    ·refine hn _ _ ⟨by omega,zci (zfY pr _) (Vaa _),?_,_,rfl⟩
     rw[zb1 hv,zjr,VaN]
     exact zbT (zaN hf)
   ·rintro dl' S' ⟨hk,pr,hf,u,rfl⟩
    refine h _ _ pr (Vaa _) ?_
    have e:ns.take (zas (.lst (ns.map Nd.d))).length=ns:=by
     show ns.take (ns.map Nd.d).length=ns
     rw[Vac,Va2]
    rw[e] at hf
    exact hf
  ·exact h.elim⟩)
def ztl  (zhE:Df K mg "common" zlb zcF)(zbc:mg "min"=none)(zaT:mg "max"=none):Fk P w K mg base 1 "common" zcF zcT:=
 zhE.mk' (zaw (k:=0) zhE.F zmt (zv7) λcdv A outer s H E hr=>⟨_,(zad (zap (i:=2) zmt.nd rfl (Or.inl rfl) (za0 (zcq rfl) rfl zaT Boot.«max» (zaa (zae (dv 0) zab (λ_ _=>rfl)) (zaa (zae (dv 1) zab (λ_ _=>rfl)) zac)))) (zad (zap (i:=3) zmt.nd rfl (Or.inl rfl) (za0 (zeE rfl) rfl zbc Boot.«min» (zaa (zae (dv 0) zab (λ_ _=>rfl)) (zaa (zae (dv 1) zab (λ_ _=>rfl)) zac)))) (zad (zay (zau zgw (dv 2) (dv 3) (zar _)) (zaj (zan zaY)) zaz) (zaj (zan (zaA (zaa (dv 2) (zaa (dv 3) zac)))))))),λds S Q ex h=>by
  unfold zcT at h
  split at h
  ·rename_i a b c d
   obtain⟨h1,h2⟩:=h
   unfold zaU at h1 h2
   refine ifD (λe=>?_) (λe=>?_)
   ·exact h1 (if_pos e)
   ·exact h2 _ (if_neg e)
  ·exact h.elim⟩)
def zsm  (zkL:Df K mg "asked_of" zkW zgc)(zbt:Fk P w K mg base 1 "common" zcF zcT)(zaT:mg "max"=none):Fk P w K mg base 2 "asked_of" zgc zg3:=
 zkL.mk' (zaw (k:=1) zkL.F zrT (ztz) λcdv A outer s H E hr=>⟨_,(zad (zay (zau (zaM hr) (dv 0) zaL (zar _)) (zaj (zan (zao zbt hr (zaa (dv 1) (zaa (zaA (zaa zab (zaa zab zac))) zac))))) zaz) (zaj (zan (zao zbt hr (zaa (dv 1) (zaa (zaA (zaa zab (zaa (za0 (zcq rfl) rfl zaT Boot.«max» (zaa (zae (dv 1) zab (λ_ _=>rfl)) (zaa zab zac))) zac))) zac)))))),λds S Q ex h=>by
  unfold zg3 at h
  split at h
  ·rename_i w a b
   obtain⟨zero,hw,h⟩:=h
   rcases hw with ⟨rfl,rfl⟩ | ⟨rfl,rfl⟩
   ·exact h
   ·exact h
  ·exact h.elim⟩)
def zv5  (zal:zbn K mg)(zam:zbm K mg)(zah:zbf K mg)(zai:zbj K mg)(zag:zbk K mg)(zak:zbo K mg)(zlS:Dm K zal.C "back" "Number.back" zl3 zfE):Fm P w K mg base 1 zal.C "back" zfE (ze3 zal.C zam.C zah.C zai.C zag.C zak.C):=
 zlS.mk' (zaw (k:=0) zlS.F zvC (ztS zal.C zam.C zah.C zai.C zag.C zak.C) λcdv A outer s H E hr=>⟨_,(zaj (zan (zbq zac))),λds S Q ex h=>by
  unfold ze3 at h
  split at h
  ·rename_i n w z0 z1 g
   obtain⟨x,y,vs,q,hn,hw,ok,hs,⟨hz,sz0,sz1⟩,hg,h1,h2⟩:=h
   exact h2 [] rfl
  ·exact h.elim⟩)
def zqL  (zal:zbn K mg)(zam:zbm K mg)(zah:zbf K mg)(zai:zbj K mg)(zag:zbk K mg)(zak:zbo K mg)(zi7:Dm K zam.C "back" "Unknown.back" zjm zhb):Fm P w K mg base 1 zam.C "back" zhb (ze8 zal.C zam.C zah.C zai.C zag.C zak.C):=
 zi7.mk' (zaw (k:=0) zi7.F zuZ (zrg zal.C zam.C zah.C zai.C zag.C zak.C) λcdv A outer s H E hr=>⟨_,(zaj (zan (zbq zac))),λds S Q ex h=>by
  unfold ze8 at h
  split at h
  ·rename_i n w z0 z1 g
   obtain⟨k,vs,q,hn,hw,ok,hs,⟨hz,sz0,sz1⟩,hg,h1,h2⟩:=h
   exact h2 [] rfl
  ·exact h.elim⟩)
def zv8  (zah:zbf K mg)(ziG:Dm K zah.C "first_left" "Plus.first_left" zj0 zfp)(zbt:Fk P w K mg base 1 "common" zcF zcT)(zca:Fk P w K mg base 1 "take_spans" zc7 zds):Fm P w K mg base 2 zah.C "first_left" zfp zgg:=
 ziG.mk' (zaw (k:=1) ziG.F zss (ztT) λcdv A outer s H E hr=>⟨_,(zaj (zan (zao zbt hr (zaa (dv 2) (zaa (zao zca hr (zaa (dv 1) (zaa (dv 3) zac))) zac))))),λds S Q ex h=>by
  unfold zgg at h
  split at h
  ·exact h
  ·exact h.elim⟩)
def ztJ  (zah:zbf K mg)(zjD:Dm K zah.C "second_left" "Plus.second_left" zkt zgT)(zbt:Fk P w K mg base 1 "common" zcF zcT)(zca:Fk P w K mg base 1 "take_spans" zc7 zds):Fm P w K mg base 2 zah.C "second_left" zgT zft:=
 zjD.mk' (zaw (k:=1) zjD.F zqI (zsx) λcdv A outer s H E hr=>⟨_,(zaj (zan (zao zbt hr (zaa (dv 3) (zaa (zao zca hr (zaa (dv 1) (zaa (dv 2) zac))) zac))))),λds S Q ex h=>by
  unfold zft at h
  split at h
  ·exact h
  ·exact h.elim⟩)
def zqC  (zah:zbf K mg)(zal:zbn K mg)(zam:zbm K mg)(zai:zbj K mg)(zag:zbk K mg)(zak:zbo K mg)(zlW:Dm K zah.C "back" "Pair.back" zj2 zfC)(zfA:Fm P w K mg base 2 zah.C "second_left" zgT zft)(zhj:Fm P w K mg base 2 zah.C "first_left" zfp zgg):Fm P w K mg base 3 zah.C "back" zfC (zd9 zal.C zam.C zah.C zai.C zag.C zak.C):=
 zlW.mk' (zaw (k:=2) zlW.F zhH (zvg zal.C zam.C zah.C zai.C zag.C zak.C) λcdv A outer s H E hr=>⟨_,(zad (zap (i:=4) zhH.nd rfl (Or.inl rfl) (zej (C:=zah.C) (dv 0) zah.cl zhj.m zhj.ok (hr.mono (by decide)) zhj.b zcf (zaa (dv 2) (zaa (zaO (dv 1) (zaQ zah.cl zah.n_one (dv 0)) (λ_ _=>rfl)) (zaa (zaO (dv 1) (zaQ zah.cl zah.n_other (dv 0)) (λ_ _=>rfl)) (zaa (dv 3) zac)))))) (zad (zay (zau zbW (dv 4) zaY (zar _)) (zaj (zan zaY)) zaz) (zad (zap (i:=5) zhH.nd rfl (Or.inl rfl) (zdu (zau (zaM hr) (zaQ zah.cl zah.n_one (dv 0)) (zaQ zah.cl zah.n_other (dv 0)) (zar _)) (dv 4) (zaO (dv 1) (zaQ zah.cl zah.n_other (dv 0)) (λ_ _=>rfl)))) (zad (zap (i:=5) zhH.nd rfl (Or.inl rfl) (zej (C:=zah.C) (dv 0) zah.cl zfA.m zfA.ok (hr.mono (by decide)) zfA.b zcf (zaa (dv 2) (zaa (dv 4) (zaa (dv 5) (zaa (dv 3) zac)))))) (zad (zay (zau zbW (dv 5) zaY (zar _)) (zaj (zan zaY)) zaz) (zaj (zan (zbq (zaa (zaA (zaa (zaQ zah.cl zah.n_one (dv 0)) (zaa (dv 4) zac))) (zaa (zaA (zaa (zaQ zah.cl zah.n_other (dv 0)) (zaa (dv 5) zac))) zac)))))))))),λds S Q ex h=>by
  unfold zd9 at h
  split at h
  ·rename_i n w z0 z1 g
   obtain⟨i,j,vs,q,hn,hw,ok,hs,⟨hz,sz0,sz1⟩,hg,h1,h2⟩:=h
   refine zcE (n:=n) (fs:=[("one",.int i),("other",.int j)]) (λK hK=>by exact hK) hn rfl ?_
   refine zaK (n:=n) (λK hK=>by exact hK) hn rfl ?_
   refine zaD (o:=.lst (vs.map frD)) hw (zaS ok.1) ?_
   refine zaK (n:=n) (λK hK=>by exact hK) hn rfl ?_
   refine zaD (o:=.lst (vs.map frD)) hw (zaS ok.2) ?_
   refine⟨λe=>?_,λx' e=>?_⟩
   ·have e':zaU (gt vs i) (z0-(gt vs j).2,z1-(gt vs j).1)=none:=e
    refine h1 ?_
    unfold Nd.bk bk2
    dsimp only
    rw[e']
   ·have e':zaU (gt vs i) (z0-(gt vs j).2,z1-(gt vs j).1)=some x':=e
    refine zaK (n:=n) (λK hK=>by exact hK) hn rfl ?_
    refine zaK (n:=n) (λK hK=>by exact hK) hn rfl ?_
    refine ifD (λc=>?_) (λc=>?_)
    ·skip
     refine zcE (n:=n) (fs:=[("one",.int i),("other",.int j)]) (λK hK=>by exact hK) hn rfl ?_
     refine⟨λe2=>?_,λy' e2=>?_⟩
     ·refine h1 ?_
      unfold Nd.bk bk2
      dsimp only
      rw[e']
      dsimp only
      rw[if_pos c,show zaU x' (z0-x'.2,z1-x'.1)=none from e2]
     ·refine zaK (n:=n) (λK hK=>by exact hK) hn rfl ?_
      refine zaK (n:=n) (λK hK=>by exact hK) hn rfl ?_
      refine h2 [(i,x'),(j,y')] ?_
      unfold Nd.bk bk2
      dsimp only
      rw[e']
      dsimp only
      rw[if_pos c,show zaU x' (z0-x'.2,z1-x'.1)=some y' from e2]
    ·refine zaK (n:=n) (λK hK=>by exact hK) hn rfl ?_
     refine zaD (o:=.lst (vs.map frD)) hw (zaS ok.2) ?_
     refine zcE (n:=n) (fs:=[("one",.int i),("other",.int j)]) (λK hK=>by exact hK) hn rfl ?_
     refine⟨λe2=>?_,λy' e2=>?_⟩
     ·refine h1 ?_
      unfold Nd.bk bk2
      dsimp only
      rw[e']
      dsimp only
      rw[if_neg c,show zaU (gt vs j) (z0-x'.2,z1-x'.1)=none from e2]
     ·refine zaK (n:=n) (λK hK=>by exact hK) hn rfl ?_
      refine zaK (n:=n) (λK hK=>by exact hK) hn rfl ?_
      refine h2 [(i,x'),(j,y')] ?_
      unfold Nd.bk bk2
      dsimp only
      rw[e']
      dsimp only
      rw[if_neg c,show zaU (gt vs j) (z0-x'.2,z1-x'.1)=some y' from e2]
  ·exact h.elim⟩)
def zqX  (zai:zbj K mg)(zj7:Dm K zai.C "first_left" "Minus.first_left" ziC zgv)(zbt:Fk P w K mg base 1 "common" zcF zcT)(zeT:Fk P w K mg base 1 "add_spans" zet zeM):Fm P w K mg base 2 zai.C "first_left" zgv zf0:=
 zj7.mk' (zaw (k:=1) zj7.F zsU (zqY) λcdv A outer s H E hr=>⟨_,(zaj (zan (zao zbt hr (zaa (dv 2) (zaa (zao zeT hr (zaa (dv 1) (zaa (dv 3) zac))) zac))))),λds S Q ex h=>by
  unfold zf0 at h
  split at h
  ·exact h
  ·exact h.elim⟩)
def zwm  (zai:zbj K mg)(zjP:Dm K zai.C "second_left" "Minus.second_left" zkK zht)(zbt:Fk P w K mg base 1 "common" zcF zcT)(zca:Fk P w K mg base 1 "take_spans" zc7 zds):Fm P w K mg base 2 zai.C "second_left" zht zfM:=
 zjP.mk' (zaw (k:=1) zjP.F zrd (zqF) λcdv A outer s H E hr=>⟨_,(zaj (zan (zao zbt hr (zaa (dv 3) (zaa (zao zca hr (zaa (dv 2) (zaa (dv 1) zac))) zac))))),λds S Q ex h=>by
  unfold zfM at h
  split at h
  ·exact h
  ·exact h.elim⟩)
def zuw  (zai:zbj K mg)(zal:zbn K mg)(zam:zbm K mg)(zah:zbf K mg)(zag:zbk K mg)(zak:zbo K mg)(zjL:Dm K zai.C "back" "Pair.back" zlD zfB)(zg7:Fm P w K mg base 2 zai.C "second_left" zht zfM)(zhw:Fm P w K mg base 2 zai.C "first_left" zgv zf0):Fm P w K mg base 3 zai.C "back" zfB (zeP zal.C zam.C zah.C zai.C zag.C zak.C):=
 zjL.mk' (zaw (k:=2) zjL.F zlU (zrr zal.C zam.C zah.C zai.C zag.C zak.C) λcdv A outer s H E hr=>⟨_,(zad (zap (i:=4) zlU.nd rfl (Or.inl rfl) (zej (C:=zai.C) (dv 0) zai.cl zhw.m zhw.ok (hr.mono (by decide)) zhw.b zcf (zaa (dv 2) (zaa (zaO (dv 1) (zaQ zai.cl zai.n_one (dv 0)) (λ_ _=>rfl)) (zaa (zaO (dv 1) (zaQ zai.cl zai.n_other (dv 0)) (λ_ _=>rfl)) (zaa (dv 3) zac)))))) (zad (zay (zau zbW (dv 4) zaY (zar _)) (zaj (zan zaY)) zaz) (zad (zap (i:=5) zlU.nd rfl (Or.inl rfl) (zdu (zau (zaM hr) (zaQ zai.cl zai.n_one (dv 0)) (zaQ zai.cl zai.n_other (dv 0)) (zar _)) (dv 4) (zaO (dv 1) (zaQ zai.cl zai.n_other (dv 0)) (λ_ _=>rfl)))) (zad (zap (i:=5) zlU.nd rfl (Or.inl rfl) (zej (C:=zai.C) (dv 0) zai.cl zg7.m zg7.ok (hr.mono (by decide)) zg7.b zcf (zaa (dv 2) (zaa (dv 4) (zaa (dv 5) (zaa (dv 3) zac)))))) (zad (zay (zau zbW (dv 5) zaY (zar _)) (zaj (zan zaY)) zaz) (zaj (zan (zbq (zaa (zaA (zaa (zaQ zai.cl zai.n_one (dv 0)) (zaa (dv 4) zac))) (zaa (zaA (zaa (zaQ zai.cl zai.n_other (dv 0)) (zaa (dv 5) zac))) zac)))))))))),λds S Q ex h=>by
  unfold zeP at h
  split at h
  ·rename_i n w z0 z1 g
   obtain⟨i,j,vs,q,hn,hw,ok,hs,⟨hz,sz0,sz1⟩,hg,h1,h2⟩:=h
   refine zcE (n:=n) (fs:=[("one",.int i),("other",.int j)]) (λK hK=>by exact hK) hn rfl ?_
   refine zaK (n:=n) (λK hK=>by exact hK) hn rfl ?_
   refine zaD (o:=.lst (vs.map frD)) hw (zaS ok.1) ?_
   refine zaK (n:=n) (λK hK=>by exact hK) hn rfl ?_
   refine zaD (o:=.lst (vs.map frD)) hw (zaS ok.2) ?_
   refine⟨λe=>?_,λx' e=>?_⟩
   ·have e':zaU (gt vs i) (z0+(gt vs j).1,z1+(gt vs j).2)=none:=e
    refine h1 ?_
    unfold Nd.bk bk2
    dsimp only
    rw[e']
   ·have e':zaU (gt vs i) (z0+(gt vs j).1,z1+(gt vs j).2)=some x':=e
    refine zaK (n:=n) (λK hK=>by exact hK) hn rfl ?_
    refine zaK (n:=n) (λK hK=>by exact hK) hn rfl ?_
    refine ifD (λc=>?_) (λc=>?_)
    ·skip
     refine zcE (n:=n) (fs:=[("one",.int i),("other",.int j)]) (λK hK=>by exact hK) hn rfl ?_
     refine⟨λe2=>?_,λy' e2=>?_⟩
     ·refine h1 ?_
      unfold Nd.bk bk2
      dsimp only
      rw[e']
      dsimp only
      rw[if_pos c,show zaU x' (x'.1-z1,x'.2-z0)=none from e2]
     ·refine zaK (n:=n) (λK hK=>by exact hK) hn rfl ?_
      refine zaK (n:=n) (λK hK=>by exact hK) hn rfl ?_
      refine h2 [(i,x'),(j,y')] ?_
      unfold Nd.bk bk2
      dsimp only
      rw[e']
      dsimp only
      rw[if_pos c,show zaU x' (x'.1-z1,x'.2-z0)=some y' from e2]
    ·refine zaK (n:=n) (λK hK=>by exact hK) hn rfl ?_
     refine zaD (o:=.lst (vs.map frD)) hw (zaS ok.2) ?_
     refine zcE (n:=n) (fs:=[("one",.int i),("other",.int j)]) (λK hK=>by exact hK) hn rfl ?_
     refine⟨λe2=>?_,λy' e2=>?_⟩
     ·refine h1 ?_
      unfold Nd.bk bk2
      dsimp only
      rw[e']
      dsimp only
      rw[if_neg c,show zaU (gt vs j) (x'.1-z1,x'.2-z0)=none from e2]
     ·refine zaK (n:=n) (λK hK=>by exact hK) hn rfl ?_
      refine zaK (n:=n) (λK hK=>by exact hK) hn rfl ?_
      refine h2 [(i,x'),(j,y')] ?_
      unfold Nd.bk bk2
      dsimp only
      rw[e']
      dsimp only
      rw[if_neg c,show zaU (gt vs j) (x'.1-z1,x'.2-z0)=some y' from e2]
  ·exact h.elim⟩)
def zqc  (zhL:Df K mg "holds_nought" zig zhh):Fk P w K mg base 1 "holds_nought" zhh zfl:=
 zhL.mk' (zaw (k:=0) zhL.F zro (zwk) λcdv A outer s H E hr=>⟨_,(zaj (zan (zoJ zeI zeI (zae (dv 0) zab (λ_ _=>rfl)) zab (zae (dv 0) zab (λ_ _=>rfl))))),λds S Q ex h=>by
  unfold zfl at h
  split at h
  ·exact and2 h
  ·exact h.elim⟩)
def zr6  (zhB:Df K mg "part_between" zky zef)(zbc:mg "min"=none)(zaT:mg "max"=none):Fk P w K mg base 1 "part_between" zef zeK:=
 zhB.mk' (zaw (k:=0) zhB.F zrE (zwy) λcdv A outer s H E hr=>⟨_,(zad (zay (PDW.pt (zdX (zau zgw (zae (dv 1) zab (λ_ _=>rfl)) (zae (dv 0) zab (λ_ _=>rfl)) (zar _)) (zdY (zau zbw (zae (dv 2) zab (λ_ _=>rfl)) (zae (dv 0) zab (λ_ _=>rfl)) (zar _))))) (zaj (zan zaY)) zaz) (zaj (zan (zaA (zaa (za0 (zcq rfl) rfl zaT Boot.«max» (zaa (zae (dv 1) zab (λ_ _=>rfl)) (zaa (zae (dv 0) zab (λ_ _=>rfl)) zac))) (zaa (za0 (zeE rfl) rfl zbc Boot.«min» (zaa (zae (dv 2) zab (λ_ _=>rfl)) (zaa (zae (dv 0) zab (λ_ _=>rfl)) zac))) zac)))))),λds S Q ex h=>by
  unfold zeK at h
  split at h
  ·rename_i x0 x1 l0 l1 k0 k1
   obtain⟨h1,h2⟩:=h
   unfold ptB at h1 h2
   refine ifD (λc=>h1 (if_pos c)) (λc1=>ifD (λc=>h1 (by rw[if_neg c1,if_pos c])) (λc2=>?_))
   have z:=h2 (if x0 > l0 then x0 else l0,if x1<k1 then x1 else k1) (by rw[if_neg c1,if_neg c2])
   exact z
  ·exact h.elim⟩)
def zr4  (zmb:Df K mg "quotient" zj9 zfX)(zb8:Fk P w K mg base 1 "rounded_up" zdj zdn):Fk P w K mg base 2 "quotient" zfX zfJ:=
 zmb.mk' (zaw (k:=1) zmb.F ztM (zrJ) λcdv A outer s H E hr=>⟨_,(zaj (zan (zaA (zaa (zaf zcc (dv 0) (dv 1)) (zaa (zao zb8 hr (zaa (dv 0) (zaa (dv 1) zac))) zac))))),λds S Q ex h=>by
  unfold zfJ at h
  split at h
  ·obtain⟨hb,h⟩:=h
   exact⟨hb,hb,h⟩
  ·exact h.elim⟩)
def zvI  (zlr:Df K mg "back_by_side" zk0 zfZ)(zcW:Fk P w K mg base 1 "part_between" zef zeK)(zjF:Fk P w K mg base 2 "quotient" zfX zfJ):Fk P w K mg base 3 "back_by_side" zfZ zhx:=
 zlr.mk' (zaw (k:=2) zlr.F zg9 (ztE) λcdv A outer s H E hr=>⟨_,(zad (zap (i:=3) zg9.nd rfl (Or.inl rfl) (zdu (zau zgw (zae (dv 0) zab (λ_ _=>rfl)) zab (zar _)) (zae (dv 2) zab (λ_ _=>rfl)) (zae (dv 2) zab (λ_ _=>rfl)))) (zad (zap (i:=4) zg9.nd rfl (Or.inl rfl) (zdu (zau zbw (zae (dv 0) zab (λ_ _=>rfl)) zab (zar _)) (zae (dv 2) zab (λ_ _=>rfl)) (zae (dv 2) zab (λ_ _=>rfl)))) (zad (zap (i:=5) zg9.nd rfl (Or.inl rfl) (zdu (zau (zaM hr) (dv 3) zab (zar _)) (zaA (zaa (zae (dv 1) zab (λ_ _=>rfl)) (zaa (zae (dv 1) zab (λ_ _=>rfl)) zac))) (zao zjF hr (zaa (zae (dv 0) zab (λ_ _=>rfl)) (zaa (dv 3) zac))))) (zad (zap (i:=6) zg9.nd rfl (Or.inl rfl) (zdu (zau (zaM hr) (dv 4) zab (zar _)) (zaA (zaa (zae (dv 1) zab (λ_ _=>rfl)) (zaa (zae (dv 1) zab (λ_ _=>rfl)) zac))) (zao zjF hr (zaa (zae (dv 0) zab (λ_ _=>rfl)) (zaa (dv 4) zac))))) (zaj (zan (zao zcW hr (zaa (dv 1) (zaa (dv 5) (zaa (dv 6) zac)))))))))),λds S Q ex h=>by
  unfold zhx at h
  split at h
  ·rename_i lo hi x0 x1 c d
   obtain⟨⟨h0,hd,zc,zd⟩,h⟩:=h
   unfold sdS loE hiE zaX zaR at h
   refine ifD (λe1=>?_) (λe1=>?_)
   all_goals first | rw[if_pos e1] at h | rw[if_neg e1] at h
   all_goals refine ifD (λe2=>?_) (λe2=>?_)
   all_goals first | rw[if_pos e2] at h | rw[if_neg e2] at h
   all_goals refine ifD (λe3=>?_) (λe3=>?_)
   all_goals try refine⟨⟨by omega,by first | exact zd.log (by omega) | exact zc.log (by omega)⟩,?_⟩
   all_goals refine ifD (λe4=>?_) (λe4=>?_)
   all_goals try refine⟨⟨by omega,by first | exact zd.log (by omega) | exact zc.log (by omega)⟩,?_⟩
   all_goals
    first | rw[if_pos e3] at h | rw[if_neg e3] at h
    try first | rw[if_pos e4] at h | rw[if_neg e4] at h
    exact h
  ·exact h.elim⟩)
def zu7  (zh0:Df K mg "hull" zkD zgP)(zaT:mg "max"=none)(zbc:mg "min"=none):Fk P w K mg base 1 "hull" zgP zgU:=
 zh0.mk' (zaw (k:=0) zh0.F zu1 (zv4) λcdv A outer s H E hr=>⟨_,(zaj (zan (zaA (zaa (za0 (zeE rfl) rfl zbc Boot.«min» (zaa (zae (dv 0) zab (λ_ _=>rfl)) (zaa (zae (dv 1) zab (λ_ _=>rfl)) zac))) (zaa (za0 (zcq rfl) rfl zaT Boot.«max» (zaa (zae (dv 0) zab (λ_ _=>rfl)) (zaa (zae (dv 1) zab (λ_ _=>rfl)) zac))) zac))))),λds S Q ex h=>by
  unfold zgU at h
  split at h
  ·exact h
  ·exact h.elim⟩)
def zrC  (zix:Df K mg "joined" zkR zeG)(znH:Fk P w K mg base 1 "hull" zgP zgU):Fk P w K mg base 2 "joined" zeG zfa:=
 zix.mk' (zaw (k:=1) zix.F zst (zrt) λcdv A outer s H E hr=>⟨_,(zad (zay (zau zbW (dv 0) zaY (zar _)) (zaj (zan (dv 1))) zaz) (zad (zay (zau zbW (dv 1) zaY (zar _)) (zaj (zan (dv 0))) zaz) (zaj (zan (zao znH hr (zaa (dv 0) (zaa (dv 1) zac))))))),λds S Q ex h=>by
  unfold zfa at h
  split at h
  ·exact h
  ·exact h
  ·exact h
  ·exact h.elim⟩)
def zvo  (zhX:Df K mg "opposite" zir zdq):Fk P w K mg base 1 "opposite" zdq zcY:=
 zhX.mk' (zaw (k:=0) zhX.F zuJ (zr7) λcdv A outer s H E hr=>⟨_,(zaj (zan (zaA (zaa (zcr zcw (zae (dv 0) zab (λ_ _=>rfl))) (zaa (zcr zcw (zae (dv 0) zab (λ_ _=>rfl))) zac))))),λds S Q ex h=>by
  unfold zcY at h
  split at h
  ·exact h
  ·exact h.elim⟩)
def zrA  (ziF:Df K mg "back_times" ziV zeJ)(ze9:Fk P w K mg base 2 "joined" zeG zfa)(ziJ:Fk P w K mg base 3 "back_by_side" zfZ zhx)(zbQ:Fk P w K mg base 1 "opposite" zdq zcY)(zkf:Fk P w K mg base 1 "holds_nought" zhh zfl)(zaT:mg "max"=none):Fk P w K mg base 4 "back_times" zeJ zeO:=
 ziF.mk' (zaw (k:=3) ziF.F zei (zp8) λcdv A outer s H E hr=>⟨_,(zad (zay (PDW.pt (zdV (zck (zao zkf hr (zaa (dv 2) zac))) (zgO (zck (zao zkf hr (zaa (dv 0) zac)))))) (zaj (zan (dv 1))) zaz) (zad (zap (i:=4) zei.nd rfl (Or.inl rfl) (zaA (zaa (zaf zaI (zae (dv 0) zab (λ_ _=>rfl)) (dv 3)) (zaa (zaf zaI (zae (dv 0) zab (λ_ _=>rfl)) (dv 3)) zac)))) (zad (zap (i:=5) zei.nd rfl (Or.inl rfl) zaY) (zad (zay (zau zgw (zae (dv 2) zab (λ_ _=>rfl)) zab (zar _)) (zaj (zap (i:=5) zei.nd rfl (Or.inl rfl) (zao ziJ hr (zaa (dv 4) (zaa (dv 1) (zaa (zaA (zaa (za0 (zcq rfl) rfl zaT Boot.«max» (zaa (zae (dv 2) zab (λ_ _=>rfl)) (zaa zab zac))) (zaa (zae (dv 2) zab (λ_ _=>rfl)) zac))) zac)))))) zaz) (zad (zay (zau zbw (zae (dv 2) zab (λ_ _=>rfl)) zab (zar _)) (zad (zap (i:=6) zei.nd rfl (Or.inl rfl) (zao ziJ hr (zaa (zao zbQ hr (zaa (dv 4) zac)) (zaa (dv 1) (zaa (zaA (zaa (za0 (zcq rfl) rfl zaT Boot.«max» (zaa (zcr zcw (zae (dv 2) zab (λ_ _=>rfl))) (zaa zab zac))) (zaa (zcr zcw (zae (dv 2) zab (λ_ _=>rfl))) zac))) zac))))) (zaj (zap (i:=5) zei.nd rfl (Or.inl rfl) (zao ze9 hr (zaa (dv 5) (zaa (dv 6) zac)))))) zaz) (zaj (zan (dv 5)))))))),λds S Q ex h=>by
  unfold zeO at h
  split at h
  ·rename_i z0 z1 x0 x1 y0 y1 g
   obtain⟨⟨hy,sz0,sz1,sy0,sy1,sg⟩,hn,ht⟩:=h
   have eq:¬ ((y0≤0∧0≤y1)∧z0≤0∧0≤z1)→btS (z0,z1) (x0,x1) (y0,y1) g=joS (if y1 > 0 then sdS (z0*g) (z1*g) (x0,x1) (mx0 y0) y1 else none) (if y0<0 then sdS (-(z1*g)) (-(z0*g)) (x0,x1) (mx0 (-y1)) (-y0) else none):=λn=>if_neg n
   refine if2 (λa1 a2=>?_) (λn=>?_)
   ·refine if2 (λb1 b2=>?_) (λn=>?_)
    ·exact ht (x0,x1) (if_pos ⟨⟨a1,a2⟩,b1,b2⟩)
    ·have eb:=eq λz=>n z.2
     refine⟨zaE sz0 sg,zaE sz1 sg,?_⟩
     refine ifD (λc1=>?_) (λc1=>?_)
     ·refine⟨⟨zbJ _,c1,zc9 (sy0.mono (by decide)),sy1.mono (by decide)⟩,λn1=>?_,λL t1=>?_⟩
      ·refine ifD (λc2=>?_) (λc2=>?_)
       ·refine⟨⟨zbJ _,by omega,zc9 (sy1.neg.mono (by decide)),sy0.neg.mono (by decide)⟩,λn2=>?_,λL' t2=>?_⟩
        ·exact hn (by rw[eb,if_pos c1,if_pos c2,n1,n2]; rfl)
        ·exact ht _ (by rw[eb,if_pos c1,if_pos c2,n1,t2]; rfl)
       ·exact hn (by rw[eb,if_pos c1,if_neg c2,n1]; rfl)
      ·refine ifD (λc2=>?_) (λc2=>?_)
       ·refine⟨⟨zbJ _,by omega,zc9 (sy1.neg.mono (by decide)),sy0.neg.mono (by decide)⟩,λn2=>?_,λL' t2=>?_⟩
        ·exact ht _ (by rw[eb,if_pos c1,if_pos c2,t1,n2]; rfl)
        ·have z:=ht (if L'.1<L.1 then L'.1 else L.1,if L'.2 > L.2 then L'.2 else L.2) (by rw[eb,if_pos c1,if_pos c2,t1,t2]; rfl)
         exact z
       ·exact ht _ (by rw[eb,if_pos c1,if_neg c2,t1]; rfl)
     ·refine ifD (λc2=>?_) (λc2=>?_)
      ·refine⟨⟨zbJ _,by omega,zc9 (sy1.neg.mono (by decide)),sy0.neg.mono (by decide)⟩,λn2=>?_,λL' t2=>?_⟩
       ·exact hn (by rw[eb,if_neg c1,if_pos c2,n2]; rfl)
       ·exact ht _ (by rw[eb,if_neg c1,if_pos c2,t2]; rfl)
      ·exact hn (by rw[eb,if_neg c1,if_neg c2]; rfl)
   ·have eb:=eq λz=>n z.1
    refine⟨zaE sz0 sg,zaE sz1 sg,?_⟩
    refine ifD (λc1=>?_) (λc1=>?_)
    ·refine⟨⟨zbJ _,c1,zc9 (sy0.mono (by decide)),sy1.mono (by decide)⟩,λn1=>?_,λL t1=>?_⟩
     ·refine ifD (λc2=>?_) (λc2=>?_)
      ·refine⟨⟨zbJ _,by omega,zc9 (sy1.neg.mono (by decide)),sy0.neg.mono (by decide)⟩,λn2=>?_,λL' t2=>?_⟩
       ·exact hn (by rw[eb,if_pos c1,if_pos c2,n1,n2]; rfl)
       ·exact ht _ (by rw[eb,if_pos c1,if_pos c2,n1,t2]; rfl)
      ·exact hn (by rw[eb,if_pos c1,if_neg c2,n1]; rfl)
     ·refine ifD (λc2=>?_) (λc2=>?_)
      ·refine⟨⟨zbJ _,by omega,zc9 (sy1.neg.mono (by decide)),sy0.neg.mono (by decide)⟩,λn2=>?_,λL' t2=>?_⟩
       ·exact ht _ (by rw[eb,if_pos c1,if_pos c2,t1,n2]; rfl)
       ·have z:=ht (if L'.1<L.1 then L'.1 else L.1,if L'.2 > L.2 then L'.2 else L.2) (by rw[eb,if_pos c1,if_pos c2,t1,t2]; rfl)
        exact z
      ·exact ht _ (by rw[eb,if_pos c1,if_neg c2,t1]; rfl)
    ·refine ifD (λc2=>?_) (λc2=>?_)
     ·refine⟨⟨zbJ _,by omega,zc9 (sy1.neg.mono (by decide)),sy0.neg.mono (by decide)⟩,λn2=>?_,λL' t2=>?_⟩
      ·exact hn (by rw[eb,if_neg c1,if_pos c2,n2]; rfl)
      ·exact ht _ (by rw[eb,if_neg c1,if_pos c2,t2]; rfl)
     ·exact hn (by rw[eb,if_neg c1,if_neg c2]; rfl)
  ·exact h.elim⟩)
def zvR  (zag:zbk K mg)(zkY:Dm K zag.C "first_left" "Times.first_left" zkm zhu)(zeV:Fk P w K mg base 4 "back_times" zeJ zeO):Fm P w K mg base 5 zag.C "first_left" zhu zfn:=
 zkY.mk' (zaw (k:=4) zkY.F zq9 (zsH) λcdv A outer s H E hr=>⟨_,(zaj (zan (zao zeV hr (zaa (dv 1) (zaa (dv 2) (zaa (dv 3) (zaa (dv 4) zac))))))),λds S Q ex h=>by
  unfold zfn at h
  split at h
  ·exact h
  ·exact h.elim⟩)
def zvh  (zag:zbk K mg)(zjY:Dm K zag.C "second_left" "Times.second_left" zhN zfq)(zeV:Fk P w K mg base 4 "back_times" zeJ zeO):Fm P w K mg base 5 zag.C "second_left" zfq zgW:=
 zjY.mk' (zaw (k:=4) zjY.F zu2 (zrl) λcdv A outer s H E hr=>⟨_,(zaj (zan (zao zeV hr (zaa (dv 1) (zaa (dv 3) (zaa (dv 2) (zaa (dv 4) zac))))))),λds S Q ex h=>by
  unfold zgW at h
  split at h
  ·exact h
  ·exact h.elim⟩)
def ztV  (zag:zbk K mg)(zal:zbn K mg)(zam:zbm K mg)(zah:zbf K mg)(zai:zbj K mg)(zak:zbo K mg)(zlG:Dm K zag.C "back" "Pair.back" ziS zhs)(zfs:Fm P w K mg base 5 zag.C "second_left" zfq zgW)(zgH:Fm P w K mg base 5 zag.C "first_left" zhu zfn):Fm P w K mg base 6 zag.C "back" zhs (zd4 zal.C zam.C zah.C zai.C zag.C zak.C):=
 zlG.mk' (zaw (k:=5) zlG.F zhA (zvx zal.C zam.C zah.C zai.C zag.C zak.C) λcdv A outer s H E hr=>⟨_,(zad (zap (i:=4) zhA.nd rfl (Or.inl rfl) (zej (C:=zag.C) (dv 0) zag.cl zgH.m zgH.ok (hr.mono (by decide)) zgH.b zcf (zaa (dv 2) (zaa (zaO (dv 1) (zaQ zag.cl zag.n_one (dv 0)) (λ_ _=>rfl)) (zaa (zaO (dv 1) (zaQ zag.cl zag.n_other (dv 0)) (λ_ _=>rfl)) (zaa (dv 3) zac)))))) (zad (zay (zau zbW (dv 4) zaY (zar _)) (zaj (zan zaY)) zaz) (zad (zap (i:=5) zhA.nd rfl (Or.inl rfl) (zdu (zau (zaM hr) (zaQ zag.cl zag.n_one (dv 0)) (zaQ zag.cl zag.n_other (dv 0)) (zar _)) (dv 4) (zaO (dv 1) (zaQ zag.cl zag.n_other (dv 0)) (λ_ _=>rfl)))) (zad (zap (i:=5) zhA.nd rfl (Or.inl rfl) (zej (C:=zag.C) (dv 0) zag.cl zfs.m zfs.ok (hr.mono (by decide)) zfs.b zcf (zaa (dv 2) (zaa (dv 4) (zaa (dv 5) (zaa (dv 3) zac)))))) (zad (zay (zau zbW (dv 5) zaY (zar _)) (zaj (zan zaY)) zaz) (zaj (zan (zbq (zaa (zaA (zaa (zaQ zag.cl zag.n_one (dv 0)) (zaa (dv 4) zac))) (zaa (zaA (zaa (zaQ zag.cl zag.n_other (dv 0)) (zaa (dv 5) zac))) zac)))))))))),λds S Q ex h=>by
  unfold zd4 at h
  split at h
  ·rename_i n w z0 z1 g
   obtain⟨i,j,vs,q,hn,hw,ok,hs,⟨hz,sz0,sz1⟩,hg,h1,h2⟩:=h
   have a:=hs.at ok.1
   have b:=hs.at ok.2
   have sg:Sz 30 g:=Sz.of 1000000 (by omega)
   refine zcE (n:=n) (fs:=[("one",.int i),("other",.int j)]) (λK hK=>by exact hK) hn rfl ?_
   refine zaK (n:=n) (λK hK=>by exact hK) hn rfl ?_
   refine zaD (o:=.lst (vs.map frD)) hw (zaS ok.1) ?_
   refine zaK (n:=n) (λK hK=>by exact hK) hn rfl ?_
   refine zaD (o:=.lst (vs.map frD)) hw (zaS ok.2) ?_
   refine⟨⟨b.1,sz0.mono (by decide),sz1.mono (by decide),b.2.1.mono (by decide),b.2.2.mono (by decide),sg⟩,λe=>?_,λx' e=>?_⟩
   ·have e':btS (z0,z1) (gt vs i) (gt vs j) g=none:=e
    refine h1 ?_
    unfold Nd.bk bk2
    dsimp only
    rw[e']
   ·have e':btS (z0,z1) (gt vs i) (gt vs j) g=some x':=e
    have zx:=Sz.in2 a.2.1 a.2.2 (zjN (z:=(z0,z1)) hz a.1 b.1 hg.1 x' e')
    refine zaK (n:=n) (λK hK=>by exact hK) hn rfl ?_
    refine zaK (n:=n) (λK hK=>by exact hK) hn rfl ?_
    refine ifD (λc=>?_) (λc=>?_)
    ·skip
     refine zcE (n:=n) (fs:=[("one",.int i),("other",.int j)]) (λK hK=>by exact hK) hn rfl ?_
     refine⟨⟨zx.1,sz0.mono (by decide),sz1.mono (by decide),zx.2.1.mono (by decide),zx.2.2.mono (by decide),sg⟩,λe2=>?_,λy' e2=>?_⟩
     ·refine h1 ?_
      unfold Nd.bk bk2
      dsimp only
      rw[e']
      dsimp only
      rw[if_pos c,show btS (z0,z1) x' x' g=none from e2]
     ·refine zaK (n:=n) (λK hK=>by exact hK) hn rfl ?_
      refine zaK (n:=n) (λK hK=>by exact hK) hn rfl ?_
      refine h2 [(i,x'),(j,y')] ?_
      unfold Nd.bk bk2
      dsimp only
      rw[e']
      dsimp only
      rw[if_pos c,show btS (z0,z1) x' x' g=some y' from e2]
    ·refine zaK (n:=n) (λK hK=>by exact hK) hn rfl ?_
     refine zaD (o:=.lst (vs.map frD)) hw (zaS ok.2) ?_
     refine zcE (n:=n) (fs:=[("one",.int i),("other",.int j)]) (λK hK=>by exact hK) hn rfl ?_
     refine⟨⟨zx.1,sz0.mono (by decide),sz1.mono (by decide),zx.2.1.mono (by decide),zx.2.2.mono (by decide),sg⟩,λe2=>?_,λy' e2=>?_⟩
     ·refine h1 ?_
      unfold Nd.bk bk2
      dsimp only
      rw[e']
      dsimp only
      rw[if_neg c,show btS (z0,z1) (gt vs j) x' g=none from e2]
     ·refine zaK (n:=n) (λK hK=>by exact hK) hn rfl ?_
      refine zaK (n:=n) (λK hK=>by exact hK) hn rfl ?_
      refine h2 [(i,x'),(j,y')] ?_
      unfold Nd.bk bk2
      dsimp only
      rw[e']
      dsimp only
      rw[if_neg c,show btS (z0,z1) (gt vs j) x' g=some y' from e2]
  ·exact h.elim⟩)
def zqH  (zjW:Df K mg "next_guess" ziQ zfu)(zbr:Fk P w K mg base 1 "raised" zcL zcQ):Fk P w K mg base 2 "next_guess" zfu zgq:=
 zjW.mk' (zaw (k:=1) zjW.F zvk (zrH) λcdv A outer s H E hr=>⟨_,(zaj (zan (zaf zcc (zaf za5 (zaf zaI (zaf zbB (dv 2) zab) (dv 0)) (zaf zcc (dv 1) (zao zbr hr (zaa (dv 0) (zaa (zaf zbB (dv 2) zab) zac))))) (dv 2)))),λds S Q ex h=>by
  unfold zgq at h
  split at h
  ·rename_i g N n
   obtain⟨⟨n2,n6,hg,sg⟩,h⟩:=h
   have zn:Sz 800 (n-1):=Sz.of 6 (by omega)
   have gp:(0:Int)<g^(n-1).toNat:=Vak hg
   exact⟨zaE zn sg,⟨by omega,by omega,sg.mono (by decide)⟩,((sg.pow (n-1).toNat).mono (show _≤4001 by omega)).fd gp,(Sz.of (n:=800) 6 (by omega):Sz 800 n).fd (by omega),h⟩
  ·exact h.elim⟩)
def zwB  (zkI:Df K mg "root_below" zhP zd7)(zhG:Fk P w K mg base 2 "next_guess" zfu zgq):Fk P w K mg base 3 "root_below" zd7 zeA:=
 zkI.mk' (zaw (k:=2) zkI.F zfO (zsA) λcdv A outer s H E hr=>⟨_,(zad (zay (zau (zaM hr) (dv 0) zab (zar _)) (zaj (zan zab)) zaz) (zad (zap (i:=2) zfO.nd rfl (Or.inl rfl) (zaf zvN zab (zaf za5 (zaf zcc (ztH (dv 0)) (dv 1)) zab))) (zad (zap (i:=3) zfO.nd rfl (Or.inl rfl) (zao zhG hr (zaa (dv 2) (zaa (dv 0) (zaa (dv 1) zac))))) (zad (znW PassesOwn.never (zau zbw (dv 3) (dv 2) (zar _)) (zad (zap (i:=2) zfO.nd rfl (Or.inl rfl) (dv 3)) (zaj (zap (i:=3) zfO.nd rfl (Or.inl rfl) (zao zhG hr (zaa (dv 2) (zaa (dv 0) (zaa (dv 1) zac)))))))) (zaj (zan (dv 2))))))),λds S Q ex h=>by
  unfold zeA at h
  split at h
  ·rename_i N n
   obtain⟨⟨n2,n6,h0,sN⟩,h⟩:=h
   have hn:1≤n.toNat:=by omega
   refine ifD (λc=>?_) (λc=>?_)
   ·subst c
    exact h 0 (by omega) (Sz.of 0 (by decide)) (by rw[zm5 hn]; omega) (by
     have:(0:Int)<(0+1)^n.toNat:=Vak (by omega)
     exact this)
   ·obtain⟨r,r0,r1,r2⟩:=zoa hn h0
    have rp:1≤r:=by
     by_cases z:r=0
     ·subst z
      have e:((0:Int)+1)^n.toNat=1:=by rw[Int.zero_add]; exact Int.one_pow
      omega
     ·omega
    refine⟨(Sz.of (n:=800) 6 (by omega):Sz 800 n).fd (by omega),?_⟩
    have d3:=Int.ediv_nonneg (show (0:Int)≤(Builtin.Int.intBits N:Int) by omega) (show 0≤n by omega)
    have d4:(Builtin.Int.intBits N:Int)/n≤(Builtin.Int.intBits N:Int):=Int.ediv_le_self _ (by omega)
    have d5:=sN.bits
    refine⟨⟨by omega,by omega,by decide⟩,?_⟩
    have s0:=(zum n2 sN).mono (show 652≤800 by decide)
    have g0:(0:Int)<1*2^((Builtin.Int.intBits N:Int)/n+1).toNat:=by rw[Int.one_mul]; exact Vak (by decide)
    have rg:r≤1*2^((Builtin.Int.intBits N:Int)/n+1).toNat:=by
     have:=plt (n:=n.toNat) (Vaq g0) (Int.lt_of_le_of_lt r1 (zvs h0 (by omega)))
     omega
    refine⟨⟨n2,n6,g0,s0⟩,?_⟩
    refine⟨λm dl' S'=>S'=S∧∃x:Int,dl'=[some (.int N),some (.int n),some (.int x),some (.int (((n-1)*x+N/x^(n-1).toNat)/n))]∧0<x∧r≤x∧Sz 800 x∧m=x.toNat,⟨_,rfl,_,rfl,g0,rg,s0,rfl⟩,?_⟩
    rintro m dl' S' ⟨rfl,x,rfl,x0,rx,sx,rfl⟩
    have e:=zvZ (n:=n) (g:=x) (N:=N) (by omega)
    have ge:=zso hn r0 x0 r1
    rw[← e] at ge
    refine ifD (λc=>?_) (λc=>?_)
    ·have s1:Sz 800 (((n-1)*x+N/x^(n-1).toNat)/n):=Sz.mid (a:=0) (Sz.of 0 (by decide)) sx (by omega) (by omega)
     exact⟨⟨n2,n6,by omega,s1⟩,_,by omega,rfl,_,rfl,by omega,by omega,s1,rfl⟩
    ·have xr:x=r:=by
      by_cases z:N<x^n.toNat
      ·have lt:=zu4 hn x0 z
       rw[← e] at lt
       omega
      ·have:=plt (n:=n.toNat) (show 0≤r+1 by omega) (show x^n.toNat<(r+1)^n.toNat by omega)
       omega
     subst xr
     exact h x r0 sx r1 r2
  ·exact h.elim⟩)
def zvA (zcC:Df K mg "root" zhn zcB)(zbr:Fk P w K mg base 1 "raised" zcL zcQ)(zex:Fk P w K mg base 3 "root_below" zd7 zeA)(zbQ:Fk P w K mg base 1 "opposite" zdq zcY)(znG:Fk P w K mg base 0 "root" zcB zoF):Fk P w K mg base 4 "root" zcB zho:=
 zcC.mk' (zaw (k:=3) zcC.F zjk zq0 λcdv A outer s H E hr=>⟨_,(zad (zay (zau zbw (dv 0) zab (zar _)) (zaj (zan (zao zbQ hr (zaa (znD znG (hr.mono (by decide)) zcf rfl (zaa (zcr zcw (dv 0)) (zaa (dv 1) zac))) zac)))) zaz) (zad (zap (i:=2) zjk.nd rfl (Or.inl rfl) (zao zex hr (zaa (dv 0) (zaa (dv 1) zac)))) (zad (zay (zau (zaM hr) (zao zbr hr (zaa (dv 2) (zaa (dv 1) zac))) (dv 0) (zar _)) (zaj (zan (zaA (zaa (dv 2) (zaa (dv 2) zac))))) zaz) (zaj (zan (zaA (zaa (dv 2) (zaa (zaf za5 (dv 2) zab) zac)))))))),λds S Q ex h=>by
  unfold zho at h
  split at h
  ·rename_i N n
   obtain⟨⟨n2,n6,h0,sN⟩,h⟩:=h
   refine ifD (λc=>absurd c (by omega)) (λc=>?_)
   refine⟨⟨n2,n6,h0,sN⟩,λr r0 sr r1 r2=>?_⟩
   have e:=zmN r0 r1 r2
   unfold rt0 at h
   rw[← e] at h
   refine⟨⟨by omega,n6,sr.mono (by decide)⟩,?_⟩
   refine ifD (λe2=>?_) (λe2=>?_)
   ·rw[if_pos e2] at h
    exact h
   ·rw[if_neg e2] at h
    exact h
  ·exact h.elim⟩)
def zwc (zcC:Df K mg "root" zhn zcB)(zbr:Fk P w K mg base 1 "raised" zcL zcQ)(zex:Fk P w K mg base 3 "root_below" zd7 zeA)(zbQ:Fk P w K mg base 1 "opposite" zdq zcY)(znG:Fk P w K mg base 4 "root" zcB zho):Fk P w K mg base 5 "root" zcB zgu:=
 zcC.mk' (zaw (k:=4) zcC.F zjk zuj λcdv A outer s H E hr=>⟨_,(zad (zay (zau zbw (dv 0) zab (zar _)) (zaj (zan (zao zbQ hr (zaa (znD znG (hr.mono (by decide)) zcf rfl (zaa (zcr zcw (dv 0)) (zaa (dv 1) zac))) zac)))) zaz) (zad (zap (i:=2) zjk.nd rfl (Or.inl rfl) (zao zex hr (zaa (dv 0) (zaa (dv 1) zac)))) (zad (zay (zau (zaM hr) (zao zbr hr (zaa (dv 2) (zaa (dv 1) zac))) (dv 0) (zar _)) (zaj (zan (zaA (zaa (dv 2) (zaa (dv 2) zac))))) zaz) (zaj (zan (zaA (zaa (dv 2) (zaa (zaf za5 (dv 2) zab) zac)))))))),λds S Q ex h=>by
  unfold zgu at h
  split at h
  ·rename_i N n
   obtain⟨⟨n2,n6,ok,sN⟩,h⟩:=h
   unfold rtS at h
   refine ifD (λc=>?_) (λc=>?_)
   ·rw[if_pos c] at h
    exact⟨⟨n2,n6,by omega,sN.neg⟩,h⟩
   ·have h0:0≤N:=by omega
    rw[if_neg c] at h
    refine⟨⟨n2,n6,h0,sN⟩,λr r0 sr r1 r2=>?_⟩
    have e:=zmN r0 r1 r2
    unfold rt0 at h
    rw[← e] at h
    refine⟨⟨by omega,n6,sr.mono (by decide)⟩,?_⟩
    refine ifD (λe2=>?_) (λe2=>?_)
    ·rw[if_pos e2] at h
     exact h
    ·rw[if_neg e2] at h
     exact h
  ·exact h.elim⟩)
def zsF  (zj4:Df K mg "back_power" zlM zfz)(ze9:Fk P w K mg base 2 "joined" zeG zfa)(zcW:Fk P w K mg base 1 "part_between" zef zeK)(zbQ:Fk P w K mg base 1 "opposite" zdq zcY)(zdZ:Fk P w K mg base 5 "root" zcB zgu)(zbr:Fk P w K mg base 1 "raised" zcL zcQ)(zaT:mg "max"=none):Fk P w K mg base 6 "back_power" zfz zfH:=
 zj4.mk' (zaw (k:=5) zj4.F zf3 (zr2) λcdv A outer s H E hr=>⟨_,(zad (zap (i:=4) zf3.nd rfl (Or.inl rfl) (zao zbr hr (zaa (dv 3) (zaa (zaf zbB (dv 2) zab) zac)))) (zad (zap (i:=5) zf3.nd rfl (Or.inl rfl) (zaA (zaa (zaf zaI (zae (dv 0) zab (λ_ _=>rfl)) (dv 4)) (zaa (zaf zaI (zae (dv 0) zab (λ_ _=>rfl)) (dv 4)) zac)))) (zad (zay (zau (zaM hr) (zaf za8 (dv 2) zab) zab (zar _)) (zaj (zan (zao zcW hr (zaa (dv 1) (zaa (zao zdZ hr (zaa (zae (dv 5) zab (λ_ _=>rfl)) (zaa (dv 2) zac))) (zaa (zao zdZ hr (zaa (zae (dv 5) zab (λ_ _=>rfl)) (zaa (dv 2) zac))) zac)))))) zaz) (zad (zay (zau zbw (zae (dv 5) zab (λ_ _=>rfl)) zab (zar _)) (zaj (zan zaY)) zaz) (zad (zap (i:=6) zf3.nd rfl (Or.inl rfl) (zao zdZ hr (zaa (za0 (zcq rfl) rfl zaT Boot.«max» (zaa (zae (dv 5) zab (λ_ _=>rfl)) (zaa zab zac))) (zaa (dv 2) zac)))) (zad (zap (i:=7) zf3.nd rfl (Or.inl rfl) (zao zdZ hr (zaa (zae (dv 5) zab (λ_ _=>rfl)) (zaa (dv 2) zac)))) (zaj (zan (zao ze9 hr (zaa (zao zcW hr (zaa (dv 1) (zaa (dv 6) (zaa (dv 7) zac)))) (zaa (zao zcW hr (zaa (dv 1) (zaa (zao zbQ hr (zaa (dv 7) zac)) (zaa (zao zbQ hr (zaa (dv 6) zac)) zac)))) zac))))))))))),λds S Q ex h=>by
  unfold zfH at h
  split at h
  ·rename_i z0 z1 x0 x1 n g
   obtain⟨⟨n2,n6,g1,sg,sz0,sz1⟩,hn,ht⟩:=h
   refine⟨⟨by omega,by omega,sg.mono (by decide)⟩,?_⟩
   have sgp:Sz 181 (g^(n-1).toNat):=(sg.pow _).mono (by omega)
   refine⟨zaE sz0 sgp,zaE sz1 sgp,?_⟩
   have slo:Sz 1300 (z0*g^(n-1).toNat):=(sz0.mul sgp).mono (by decide)
   have shi:Sz 1300 (z1*g^(n-1).toNat):=(sz1.mul sgp).mono (by decide)
   unfold bpS at hn ht
   dsimp only at hn ht
   generalize g^(n-1).toNat=G at *
   refine ifD (λe=>?_) (λe=>?_)
   ·rw[if_pos e] at hn ht
    exact⟨⟨n2,n6,.inl e,slo⟩,⟨n2,n6,.inl e,shi⟩,hn,ht⟩
   ·rw[if_neg e] at hn ht
    refine ifD (λe2=>?_) (λe2=>?_)
    ·exact hn (if_pos e2)
    ·rw[if_neg e2] at hn ht
     refine⟨⟨n2,n6,.inr (zbJ _),(by show Sz 1300 (mx0 (z0*G)); unfold mx0; split; exact Sz.of 0 (by decide) (Nat.pow_pos (by decide)); exact slo)⟩,?_⟩
     refine⟨⟨n2,n6,.inr (by omega),shi⟩,?_⟩
     refine⟨λq1=>?_,λp1 q1=>?_⟩
     ·refine⟨λq2=>hn ?_,λp2 q2=>ht _ ?_⟩
      ·rw[q1,q2]; rfl
      ·rw[q1,q2]; rfl
     ·refine⟨λq2=>ht _ ?_,λp2 q2=>?_⟩
      ·rw[q1,q2]; rfl
      ·have z:=ht (if p2.1<p1.1 then p2.1 else p1.1,if p2.2 > p1.2 then p2.2 else p1.2) (by rw[q1,q2]; rfl)
       exact z
  ·exact h.elim⟩)
def zrP  (zak:zbo K mg)(zal:zbn K mg)(zam:zbm K mg)(zah:zbf K mg)(zai:zbj K mg)(zag:zbk K mg)(zjf:Dm K zak.C "back" "Power.back" zi0 zfP)(zmF:Fk P w K mg base 6 "back_power" zfz zfH):Fm P w K mg base 7 zak.C "back" zfP (zeF zal.C zam.C zah.C zai.C zag.C zak.C):=
 zjf.mk' (zaw (k:=6) zjf.F zoj (zu3 zal.C zam.C zah.C zai.C zag.C zak.C) λcdv A outer s H E hr=>⟨_,(zad (zap (i:=4) zoj.nd rfl (Or.inl rfl) (zao zmF hr (zaa (dv 2) (zaa (zaO (dv 1) (zaQ zak.cl zak.n_one (dv 0)) (λ_ _=>rfl)) (zaa (zaQ zak.cl zak.n_many (dv 0)) (zaa (dv 3) zac)))))) (zad (zay (zau zbW (dv 4) zaY (zar _)) (zaj (zan zaY)) zaz) (zaj (zan (zbq (zaa (zaA (zaa (zaQ zak.cl zak.n_one (dv 0)) (zaa (dv 4) zac))) zac)))))),λds S Q ex h=>by
  unfold zeF at h
  split at h
  ·rename_i n w z0 z1 g
   obtain⟨i,m,vs,q,hn,hw,ok,hs,⟨hz,sz0,sz1⟩,hg,h1,h2⟩:=h
   refine zaK (n:=n) (λK hK=>by exact hK) hn rfl ?_
   refine zaD (o:=.lst (vs.map frD)) hw (zaS ok.1) ?_
   refine zaK (n:=n) (λK hK=>by exact hK) hn rfl ?_
   have sg:Sz 30 g:=Sz.of 1000000 (by omega)
   refine⟨⟨ok.2.1,ok.2.2,hg.1,sg,sz0.mono (by decide),sz1.mono (by decide)⟩,λe=>?_,λx' e=>?_⟩
   ·refine h1 ?_
    show (match bpS (z0,z1) (gt vs i) m g with | none=>none | some x=>some [(i,x)])=none
    rw[show bpS (z0,z1) (gt vs i) m g=none from e]
   ·refine zaK (n:=n) (λK hK=>by exact hK) hn rfl ?_
    refine h2 [(i,x')] ?_
    show (match bpS (z0,z1) (gt vs i) m g with | none=>none | some x=>some [(i,x)])=_
    rw[show bpS (z0,z1) (gt vs i) m g=some x' from e]
  ·exact h.elim⟩)
def zts  (zak:zbo K mg)(zag:zbk K mg)(zai:zbj K mg)(zah:zbf K mg)(zam:zbm K mg)(zal:zbn K mg)(zjV:Df K mg "spans_back" zjp zhe)(zmC:Fm P w K mg base 7 zak.C "back" zfP (zeF zal.C zam.C zah.C zai.C zag.C zak.C))(znC:Fm P w K mg base 6 zag.C "back" zhs (zd4 zal.C zam.C zah.C zai.C zag.C zak.C))(zmu:Fm P w K mg base 3 zai.C "back" zfB (zeP zal.C zam.C zah.C zai.C zag.C zak.C))(zmI:Fm P w K mg base 3 zah.C "back" zfC (zd9 zal.C zam.C zah.C zai.C zag.C zak.C))(znE:Fm P w K mg base 1 zam.C "back" zhb (ze8 zal.C zam.C zah.C zai.C zag.C zak.C))(zmd:Fm P w K mg base 1 zal.C "back" zfE (ze3 zal.C zam.C zah.C zai.C zag.C zak.C))(zed:Fk P w K mg base 3 "kind_of" zek (zeZ zal.C zam.C zah.C zai.C zag.C zak.C))(zmO:Fk P w K mg base 2 "asked_of" zgc zg3)(zmm:Fk P w K mg base 4 "worths" zgF zg5)(zbb:mg "range"=none):Fk P w K mg base 8 "spans_back" zhe zhy:=
 zjV.mk' (zaw (k:=7) zjV.F zdL (zwx) λcdv A outer s H E hr=>⟨_,(zad (zap (i:=4) zdL.nd rfl (Or.inl rfl) (zae (dv 1) zab (λ_ _=>rfl))) (zad (zap (i:=5) zdL.nd rfl (Or.inl rfl) (zao zmm hr (zaa (zf1 (dv 0) zmA (zdW (zaf za5 (dv 4) zab))) (zaa (dv 2) (zaa (dv 3) zac))))) (zad (zap (i:=6) zdL.nd rfl (Or.inl rfl) (zao zmO hr (zaa (zae (dv 1) zab (λ_ _=>rfl)) (zaa (zaO (dv 5) (dv 4) (λ_ _=>rfl)) zac)))) (zad (zay (zau zbW (dv 6) zaY (zar _)) (zaj (zan zaY)) zaz) (zad (zjH (dv 5) (dv 4) (dv 6)) (zad (zvV (i:=7) PassesOwn.never rfl zdL.nd rfl (Or.inl rfl) rfl zbb (zaa (dv 4) (zaa (zcr zcw zab) (zaa (zcr zcw zab) zac))) (zad (zap (i:=8) zdL.nd rfl (Or.inl rfl) (zoy (zao zed hr (zaa (zaO (dv 0) (dv 7) (λ_ _=>rfl)) zac)) (zb2 zal.cl zmd (hr.mono (by decide)) (zb2 zam.cl znE (hr.mono (by decide)) (zb2 zah.cl zmI (hr.mono (by decide)) (zb2 zai.cl zmu (hr.mono (by decide)) (zb2 zag.cl znC (hr.mono (by decide)) (zb2 zak.cl zmC (hr.mono (by decide)) zog)))))) zcf (zaa (dv 5) (zaa (zaO (dv 5) (dv 7) (λ_ _=>rfl)) (zaa (dv 3) zac))))) (zad (zay (zau zbW (dv 8) zaY (zar _)) (zaj (zan zaY)) zaz) (zaj (zdC (i:=9) PassesOwn.never rfl zdL.nd rfl (Or.inl rfl) (dv 8) (zaj (zjH (dv 5) (zae (dv 9) zab (λ_ _=>rfl)) (zae (dv 9) zab (λ_ _=>rfl))))))))) (zaj (zan (dv 5))))))))),λds S Q ex h=>by
  unfold zhy at h
  split at h
  ·rename_i a w k b g
   obtain⟨ns,ws,bs,zero,ha,hb,hw,⟨k0,k1⟩,net,sb,hg,hl,h1,h2⟩:=h
   have disp:∀v:Nd,∃C fs sd,v.ob zal.C zam.C zah.C zai.C zag.C zak.C=.ins C fs∧(C,sd)∈[(zal.C,ze3 zal.C zam.C zah.C zai.C zag.C zak.C),(zam.C,ze8 zal.C zam.C zah.C zai.C zag.C zak.C),(zah.C,zd9 zal.C zam.C zah.C zai.C zag.C zak.C),(zai.C,zeP zal.C zam.C zah.C zai.C zag.C zak.C),(zag.C,zd4 zal.C zam.C zah.C zai.C zag.C zak.C),(zak.C,zeF zal.C zam.C zah.C zai.C zag.C zak.C)]∧fs.lookup ("back":Str)=none∧∀(n w:Nat) (z:Int×Int) (g q:Int) (S:Sto) (Q:DK) (ex:Addr→Sto→Prop) (vs:List (Int×Int)),S[n]?=some (v.ob zal.C zam.C zah.C zai.C zag.C zak.C)→S[w]?=some (.lst (vs.map frD))→v.ok vs.length q→Spn 1000 vs→(z.1≤z.2∧Sz 1000 z.1∧Sz 1000 z.2)→(1≤g∧g≤1000000)→(v.bk vs z g=none→Q .non S)→(∀l,v.bk vs z g=some l→Q (.ref S.length) (S++[.lst (l.map ptD)]))→sd [.ref n,.ref w,frD z,.int g] S Q ex:=by
    intro v
    cases v with
    | number x y=>exact⟨_,_,_,rfl,(.head _),rfl,λn w z g q S Q ex vs a1 a2 a3 a4 a5 a6 q1 q2=>⟨x,y,vs,q,a1,a2,a3,a4,a5,a6,q1,q2⟩⟩
    | unknown k=>exact⟨_,_,_,rfl,(.tail _ (.head _)),rfl,λn w z g q S Q ex vs a1 a2 a3 a4 a5 a6 q1 q2=>⟨k,vs,q,a1,a2,a3,a4,a5,a6,q1,q2⟩⟩
    | plus i j=>exact⟨_,_,_,rfl,(.tail _ (.tail _ (.head _))),rfl,λn w z g q S Q ex vs a1 a2 a3 a4 a5 a6 q1 q2=>⟨i,j,vs,q,a1,a2,a3,a4,a5,a6,q1,q2⟩⟩
    | minus i j=>exact⟨_,_,_,rfl,(.tail _ (.tail _ (.tail _ (.head _)))),rfl,λn w z g q S Q ex vs a1 a2 a3 a4 a5 a6 q1 q2=>⟨i,j,vs,q,a1,a2,a3,a4,a5,a6,q1,q2⟩⟩
    | times i j=>exact⟨_,_,_,rfl,(.tail _ (.tail _ (.tail _ (.tail _ (.head _))))),rfl,λn w z g q S Q ex vs a1 a2 a3 a4 a5 a6 q1 q2=>⟨i,j,vs,q,a1,a2,a3,a4,a5,a6,q1,q2⟩⟩
    | power i m=>exact⟨_,_,_,rfl,(.tail _ (.tail _ (.tail _ (.tail _ (.tail _ (.head _)))))),rfl,λn w z g q S Q ex vs a1 a2 a3 a4 a5 a6 q1 q2=>⟨i,m,vs,q,a1,a2,a3,a4,a5,a6,q1,q2⟩⟩
   obtain⟨kn,rfl⟩:∃kn:Nat,k=(kn:Int):=⟨k.toNat,by omega⟩
   rw[Vag] at h1 h2
   have hk:kn<ns.length:=by omega
   refine zgE (n:=a) (o:=.lst (ns.map Nd.d)) (lo:=none) (hi:=some ((kn:Int)+1)) (S3:=S) (λK hK=>by exact hK) (λK hK=>by exact hK) (λK hK=>by exact hK) ha ?_
   have ec:zbd (ns.map Nd.d) none (some ((kn:Int)+1))=(ns.take (kn+1)).map Nd.d:=by
    rw[zmw (by omega) (by rw[Vac]; omega),List.map_take]
    rfl
   rw[show zas (Ob.lst (ns.map Nd.d))=ns.map Nd.d from rfl,ec]
   refine⟨ns.take (kn+1),ws.take (kn+1),bs,zaP _ _,zaN hb,net.take _,sb,hg,by rw[Vaj]; omega,λT m pr lm hf=>?_⟩
   have prS:Pre S T:=λn o e=>pr n o (zaN e)
   have lm':S.length≤m:=by
    have z:(S++[Ob.lst ((ns.take (kn+1)).map Nd.d)]).length≤m:=lm
    rw[Vax] at z
    omega
   have s1:Spn 1000 (zaH bs g (ns.take (kn+1))):=zfm net rfl sb hg (kn+1) (by omega)
   have l1:(zaH bs g (ns.take (kn+1))).length=kn+1:=by rw[zcX,Vaj]; omega
   have ik:inR (((zaH bs g (ns.take (kn+1))).length:Nat):Int) (kn:Int):=⟨by omega,by omega⟩
   have a1:=s1.at ik
   refine zaD (o:=.lst ((zaH bs g (ns.take (kn+1))).map frD)) hf (zaS ik) ?_
   refine⟨zero,hw,λe=>?_,λwd e=>?_⟩
   ·refine h1 ?_ T prS
    unfold sbS
    rw[show zdm zero (gt (zaH bs g (ns.take (kn+1))) (kn:Int))=none from e]
   have es:sbS ns zero kn bs g=zb6 g ns (kn+1) ((zaH bs g (ns.take (kn+1))).set kn wd):=by
    unfold sbS
    rw[show zdm zero (gt (zaH bs g (ns.take (kn+1))) (kn:Int))=some wd from e]
   have zw:=Sz.in2 a1.2.1 a1.2.2 (ziu wd e)
   refine zjg (n:=m) (k:=(kn:Int)) (j:=kn) (xs:=(zaH bs g (ns.take (kn+1))).map frD) (v:=frD wd) (λK hK=>by exact hK) (λK hK=>by exact hK) (λK hK=>by exact hK) hf (by rw[Vac,zjX ik]; rfl) ?_
   rw[znB]
   refine⟨rfl,⟨by omega,by omega,by omega,by omega⟩,λt dl' S'=>t≤kn+1∧Pre S S'∧∃us:List (Int×Int),S'[m]?=some (.lst (us.map frD))∧us.length=kn+1∧Spn 1000 us∧zb6 g ns (kn+1-t) us=sbS ns zero kn bs g∧∃u7 u8 u9:Option D,dl'=[some (.ref a),some (.tup [.str w,.int (kn:Int)]),some (.ref b),some (.int g),some (.int (kn:Int)),some (.ref m),some (frD wd),u7,u8,u9],⟨by omega,zci prS lm',_,zbT hf,by rw[VaF]; exact l1,s1.set2 zw,es.symm,_,_,_,rfl⟩,?_⟩
   rintro t dl' S' ⟨ht,prt,us,hu,lu,su,eb,u7,u8,u9,rfl⟩
   refine zfD (λtc=>?_) (λtc=>?_)
   ·have tc':t<kn+1:=by
     have z:t<((kn:Int) - -1).toNat:=tc
     omega
    obtain⟨j,ej⟩:∃j:Nat,kn=j+t:=⟨kn-t,by omega⟩
    have en:(kn:Int)-(t:Int)=(j:Int):=by omega
    have ek:kn+1-t=j+1:=by omega
    have hv:ns[j]?=some ns[j]:=Van (by omega)
    generalize ns[j]=v at hv
    have ok:v.ok us.length bs.length:=znf (by omega) (net.ok j v hv).1
    have ij:inR ((us.length:Nat):Int) (j:Int):=⟨by omega,by omega⟩
    obtain⟨C,fs,sd,eo,hm,hf2,go⟩:=disp v
    have N1:=zaP S' (v.ob zal.C zam.C zah.C zai.C zag.C zak.C)
    rw[en]
    rw[ek] at eb
    refine zn5 (n:=S'.length) (C:=C) (sd:=sd) (fs:=fs) (S1:=S'++[v.ob zal.C zam.C zah.C zai.C zag.C zak.C]) (λK hK=>?_) (by rw[← eo]; exact N1) hm hf2 ?_
    ·refine zaD (o:=.lst (ns.map Nd.d)) (prt _ _ ha) (zpR hv) ?_
     exact⟨v,rfl,by exact hK⟩
    refine zaD (o:=.lst (us.map frD)) (zaN hu) (zaS ij) ?_
    refine go _ _ (gt us (j:Int)) _ bs.length _ _ _ us N1 (zaN hu) ok su (su.at ij) hg (λe=>?_) (λl e=>?_)
    ·refine h1 ?_ _ (zfY prt _)
     rw[← eb,zoe hv e]
    have P:=v.bk_pts su (su.at ij).1 hg.1 l ok e
    rw[zmZ hv e] at eb
    have lS:m<S'.length:=zbP hu
    refine zdO (n:=(S'++[v.ob zal.C zam.C zah.C zai.C zag.C zak.C]).length) (o:=.lst (l.map ptD)) (λi dl2 S2=>i≤l.length∧Pre S S2∧S2[m]?=some (.lst ((zbL us (l.take i)).map frD))∧S2[(S'++[v.ob zal.C zam.C zah.C zai.C zag.C zak.C]).length]?=some (.lst (l.map ptD))∧∃u9:Option D,dl2=[some (.ref a),some (.tup [.str w,.int (kn:Int)]),some (.ref b),some (.int g),some (.int (kn:Int)),some (.ref m),some (frD wd),some (.int (j:Int)),some (.ref (S'++[v.ob zal.C zam.C zah.C zai.C zag.C zak.C]).length),u9]) ⟨VaC _,zfY (zfY prt _) _,zaN (zaN hu),zaP _ _,_,rfl⟩ (λi dl2 S2 z=>z.2.2.2.1) ?_ ?_
    ·rintro i x dl2 S2 nx ct ex' ⟨hi,pr2,hu2,hl2,u9,rfl⟩ hn
     have ex2:(l.map ptD)[i]?=some x:=ex'
     rw[Vap] at ex2
     obtain⟨p,hp,rfl⟩:=Vay.mp ex2
     have hi':=(Vab.mp hp).1
     have Pp:=P.2 p (Vaz hp)
     have ipp:inR (((zbL us (l.take i)).length:Nat):Int) p.1:=by rw[zew]; exact Pp.1
     refine zjg (n:=m) (k:=p.1) (j:=p.1.toNat) (xs:=(zbL us (l.take i)).map frD) (v:=frD p.2) (λK hK=>by exact hK) (λK hK=>by exact hK) (λK hK=>by exact hK) hu2 (by rw[Vac]; exact zjX ipp) ?_
     rw[znB,← zrs,← zb1 hp]
     refine hn _ _ ⟨by omega,zci pr2 lm',zbT hu2,zb0 hl2 (by rw[Vax]; omega),_,rfl⟩
    ·rintro dl2 S2 ⟨hi,pr2,hu2,hl2,u9,rfl⟩
     have e9:l.take (zas (Ob.lst (l.map ptD))).length=l:=by
      show l.take (l.map ptD).length=l
      rw[Vac,Va2]
     rw[e9] at hu2
     refine⟨by omega,pr2,_,hu2,by rw[zew]; exact lu,zln l us su λp hp=>(P.2 p hp).2,?_,_,_,_,rfl⟩
     rw[show kn+1-(t+1)=j by omega]
     exact eb
   ·have tc':¬ t<kn+1:=λz=>tc (show t<((kn:Int) - -1).toNat by omega)
    rw[show kn+1-t=0 by omega] at eb
    exact h2 us S' m eb.symm prt lm' hu
  ·exact h.elim⟩)
def zq8  (zjy:Df K mg "narrowed" zlp zfS)(znb:Fk P w K mg base 8 "spans_back" zhe zhy)(zdi:mg "enumerate"=none)(zbs:mg "list"=none):Fk P w K mg base 9 "narrowed" zfS zfv:=
 zjy.mk' (zaw (k:=8) zjy.F zgs (ztn) λcdv A outer s H E hr=>⟨_,(zad (zap (i:=4) zgs.nd rfl (Or.inl rfl) (zao znb hr (zaa (dv 0) (zaa (dv 1) (zaa (dv 2) (zaa (dv 3) zac)))))) (zad (zay (zau zbW (dv 4) zaY (zar _)) (zaj (zan zaY)) zaz) (zad (zap (i:=5) zgs.nd rfl (Or.inl rfl) (ziy (zbI zhF) rfl zbs Boot.«list» (zaa (dv 2) zac))) (zad (ztd (is:=[6,7]) PassesOwn.never rfl zgs.nd (Nms.cons (i:=6) rfl (Or.inl rfl) (by first | exact .inl rfl | exact .inr rfl) (Nms.cons (i:=7) rfl (Or.inl rfl) (by first | exact .inl rfl | exact .inr rfl) Nms.nil)) rfl rfl zdi Boot.«enumerate» (zaa (dv 4) zac) (zad (zap (i:=8) zgs.nd rfl (Or.inl rfl) (zaO (dv 0) (dv 6) (λ_ _=>rfl))) (zaj (zay (zau (zaM hr) (zae (dv 8) zab (λ_ _=>rfl)) zaL (zar _)) (zaj (zjH (dv 5) (zae (dv 8) zab (λ_ _=>rfl)) (dv 7))) zaz)))) (zaj (zan (dv 5))))))),λds S Q ex h=>by
  unfold zfv at h
  split at h
  ·rename_i a w k b g
   obtain⟨ns,ws,bs,zero,ha,hb,hw,⟨k0,k1⟩,net,sb,hg,hl,h1,h2⟩:=h
   obtain⟨kn,rfl⟩:∃kn:Nat,k=(kn:Int):=⟨k.toNat,by omega⟩
   rw[Vag] at h1 h2
   refine⟨ns,ws,bs,zero,ha,hb,hw,⟨k0,k1⟩,net,sb,hg,hl,?_,?_⟩
   ·rw[Vag]
    intro e T pr
    exact h1 (by unfold nwS; rw[e]; rfl) T pr
   ·rw[Vag]
    intro us T m e pr lm hu
    have lu:=zuG net sb hg (show kn<ns.length by omega) e
    have lz:(ns.zip us).length=kn+1:=by rw[List.length_zip]; omega
    have en:nwS ns zero kn bs g=some (zby bs (ns.zip us)):=by unfold nwS; rw[e]; rfl
    have lS:m<T.length:=zbP hu
    refine zii (za4 (pr _ _ hb) rfl) ?_
    refine zqd (n:=m) (xs:=us.map frD) (S1:=T++[.lst (bs.map frD)]) (λi dl' S'=>i≤us.length∧Pre S S'∧S'[m]?=some (.lst (us.map frD))∧S'[T.length]?=some (.lst ((zby bs ((ns.zip us).take i)).map frD))∧∃u6 u7 u8:Option D,dl'=[some (.ref a),some (.tup [.str w,.int (kn:Int)]),some (.ref b),some (.int g),some (.ref m),some (.ref T.length),u6,u7,u8]) (λK hK=>by exact hK) (λi dl' S' z=>z.2.2.1) ⟨VaC _,zfY pr _,zaN hu,zaP _ _,_,_,_,rfl⟩ ?_ ?_
    ·rintro i x dl' S' nx ct ex' ⟨hi,pr',hu',hl',u6,u7,u8,rfl⟩ hn
     rw[Vap] at ex'
     obtain⟨p,hp,rfl⟩:=Vay.mp ex'
     have hi':=(Vab.mp hp).1
     have hv:ns[i]?=some ns[i]:=Van (by omega)
     generalize ns[i]=v at hv
     have hz:=zqg hv hp
     have lp:=(znK net rfl (us:=us) (bs:=bs) (λ_ _=>True) (λ_ _=>trivial) (λ_ _ _ _=>trivial) i (by omega)).1
     have es:zby bs ((ns.zip us).take (i+1))=match v with
      | .unknown u=>(zby bs ((ns.zip us).take i)).set u.toNat p
      | _=>zby bs ((ns.zip us).take i):=by
      rw[zb1 hz,zn8]
      cases v <;> rfl
     have okv:=(net.ok i v hv).1
     refine zaD (o:=.lst (ns.map Nd.d)) (pr' _ _ ha) (zpR hv) ?_
     cases v with
     | unknown u=>
      have oku:inR (((zby bs ((ns.zip us).take i)).length:Nat):Int) u:=by rw[lp]; exact okv
      refine zjg (n:=T.length) (k:=u) (j:=u.toNat) (xs:=(zby bs ((ns.zip us).take i)).map frD) (v:=frD p) (λK hK=>by exact hK) (λK hK=>by exact hK) (λK hK=>by exact hK) hl' (by rw[Vac]; exact zjX oku) ?_
      rw[znB]
      refine hn _ _ ⟨by omega,zci pr' (by omega),zb0 hu' (by omega),?_,_,_,_,rfl⟩
      rw[es]
      exact zbT hl'
     | number _ _=>exact hn _ _ ⟨by omega,pr',hu',by rw[es]; exact hl',_,_,_,rfl⟩
     | plus _ _=>exact hn _ _ ⟨by omega,pr',hu',by rw[es]; exact hl',_,_,_,rfl⟩
     | minus _ _=>exact hn _ _ ⟨by omega,pr',hu',by rw[es]; exact hl',_,_,_,rfl⟩
     | times _ _=>exact hn _ _ ⟨by omega,pr',hu',by rw[es]; exact hl',_,_,_,rfl⟩
     | power _ _=>exact hn _ _ ⟨by omega,pr',hu',by rw[es]; exact hl',_,_,_,rfl⟩
    ·rintro dl' S' ⟨hi,pr',hu',hl',u6,u7,u8,rfl⟩
     rw[Vac,List.take_of_length_le (by omega)] at hl'
     exact h2 _ S' T.length en pr' (by omega) hl'
  ·exact h.elim⟩)
def zqE  (zjv:Df K mg "_law_cell" zjM zgI)(za1:mg "len"=none):Fk P w K mg base 1 "_law_cell" zgI zgi:=
 zjv.mk' (zaw (k:=0) zjv.F zqr (zqU) λcdv A outer s H E hr=>⟨_,(zad (zay (zau zbw (dv 1) (za0 zcK rfl za1 Boot.«len» (zaa (dv 0) zac)) (zar _)) (zaj (zan (zae (dv 0) (dv 1) (λ_ _=>rfl)))) zaz) (zaj (zan zab))),λds S Q ex h=>by
  unfold zgi at h
  split at h
  ·rename_i n k
   obtain⟨ns,h1,h2,h3⟩:=h
   simp only[znV,zd1,zph,dRet,dRetN,dIf,zlF,zjn,dC,dOp,dUn,wI,wI0,wIf,zlA,dNot,dAnd,dOr,zoh,dOrV,zoc,dIfE,zjz,dNil,zpY,dTup,dLst,wIx,zkZ,zkv,zoX,wAbs,zdR,zgM,wEq,wNe,wIsN,zoQ,wNeg,zd8,Vau,List.map_nil,VaE,Va0,List.cons_append,List.nil_append,Nat.reduceAdd,Nat.reduceSub,List.replicate,List.getElem?_cons_zero,List.getElem?_cons_succ,List.set_cons_zero,List.set_cons_succ,ite_true,ite_false,if_true,if_false,Nat.reduceLeDiff,eq_self,p40,p41,p20,zfx,powB,Int.reduceLT,Int.reduceLE,Int.reduceNeg,decide_true,Bool.and_self,Bool.and_true,Bool.true_and,L3.eq1,L3.eq2,L3.eqT,L3.eqF,L3.eqL]
   have hA:lAt S n=some (.frz (ns.map D.int)):=za4 h1 rfl
   simp only[hA,zas,Vac]
   refine zfD (λc=>?_) (λc=>?_)
   ·have c':k<(ns.length:Int):=of_decide_eq_true c
    have hk:k.toNat<ns.length:=(by omega)
    have e:atI (ns.map D.int) k=some (.int ns[k.toNat]):=by
     have z:=ziL (xs:=ns.map D.int) (j:=k.toNat) (v:=.int ns[k.toNat]) (by simp[hk])
     rw[show ((k.toNat:Nat):Int)=k by omega] at z
     exact z
    simp only[e]
    rw[Vaw,Van hk] at h3
    exact h3
   ·have c':¬ k<(ns.length:Int):=λz=>c (decide_eq_true z)
    rw[Vaw,List.getElem?_eq_none (by omega)] at h3
    exact h3
  ·exact h.elim⟩)
def zvE  (zlj:Df K mg "_law_span" zjj zfy)(zbc:mg "min"=none):Fk P w K mg base 1 "_law_span" zfy zf6:=
 zlj.mk' (zaw (k:=0) zlj.F zc1 (zvL) λcdv A outer s H E hr=>⟨_,(zad (zap (i:=1) zc1.nd rfl (Or.inl rfl) (zaf za9 (dv 0) (zaf zb5 zab zab))) (zad (zap (i:=2) zc1.nd rfl (Or.inl rfl) (zaf za8 (dv 1) zab)) (zad (zap (i:=1) zc1.nd rfl (Or.inl rfl) (zaf zbZ (dv 1) zab)) (zad (zay (zau (zaM hr) (dv 2) zab (zar _)) (zad (zap (i:=3) zc1.nd rfl (Or.inl rfl) (zaf zbB (zaf za9 (dv 1) zab) zab)) (zaj (zan (zaA (zaa (dv 3) (zaa (za0 (zeE rfl) rfl zbc Boot.«min» (zaa zab (zaa (zaf za5 (dv 3) (zaf za9 (zaf zaI (dv 1) zab) (zaf zb5 zab zab))) zac))) zac)))))) zaz) (zad (zap (i:=3) zc1.nd rfl (Or.inl rfl) (zaf zbB (zaf za8 (dv 1) zab) zab)) (zad (zap (i:=4) zc1.nd rfl (Or.inl rfl) (zaf za8 (zaf za9 (zaf zaI (dv 1) zab) zab) zab)) (zad (zay (zau (zaM hr) (dv 2) zab (zar _)) (zaj (zap (i:=4) zc1.nd rfl (Or.inl rfl) (zaf za8 (dv 4) zab))) zaz) (zad (zay (zau (zaM hr) (dv 2) zab (zar _)) (zaj (zan (zaA (zaa (zaf zaI (dv 3) zab) (zaa (zaf za5 (zaf zaI (dv 3) zab) (zaf zaI (dv 4) zab)) zac))))) zaz) (zaj (zan (zaA (zaa (dv 3) (zaa (zaf za5 (dv 3) (dv 4)) zac))))))))))))),λds S Q ex h=>by
  unfold zf6 at h
  split at h
  ·rename_i c
   have r0:=za7 (a:=c) (b:=10^Int.toNat 40) (by decide)
   have e16:(10:Int)^Int.toNat 16=10000000000000000:=rfl
   have s0:Sz 140 (c%10^Int.toNat 40):=Sz.of (10^40) (by have e:(10:Int)^Int.toNat 40=10000000000000000000000000000000000000000:=rfl; omega)
   have mo:=zaE (m:=140) (n:=17) (s0.div (j:=5) (by decide)) (j:=48271) (by unfold Sz; decide)
   have r1:=za7 (a:=c%10^Int.toNat 40/5*48271%2147483647) (b:=120) (by decide)
   refine⟨show (0:Int)<10^Int.toNat 40 by decide,?_⟩
   refine ifD (λe=>?_) (λe=>?_)
   ·have r2:=za7 (a:=c%10^Int.toNat 40/5*48271) (b:=10^Int.toNat 16) (by decide)
    refine⟨show (0:Int)<1999999999999999 by decide,mo,show (0:Int)<10^Int.toNat 16 by decide,?_⟩
    refine h _ _ ?_ (by omega) ?_
    ·dsimp only
     split <;> omega
    ·dsimp only
     split <;> omega
   ·refine⟨mo,show (0:Int)<2147483647 by decide,?_⟩
    refine ifD (λe=>?_) (λe=>?_)
    ·refine ifD (λe2=>absurd (e.symm.trans e2) (by decide)) (λe2=>?_)
     exact h _ _ (by omega) (by omega) (by omega)
    ·refine ifD (λe2=>?_) (λe2=>?_)
     ·have k1:=zaE (m:=20) (n:=20) (i:=c%10^Int.toNat 40/5%201-100) (j:=37) (Sz.of 100000 (by omega)) (by unfold Sz; decide)
      have k2:=zaE (m:=20) (n:=20) (i:=c%10^Int.toNat 40/5*48271%2147483647%120) (j:=41) (Sz.of 100000 (by omega)) (by unfold Sz; decide)
      exact⟨k1,k1,k2,h _ _ (by omega) (by omega) (by omega)⟩
     ·exact h _ _ (by omega) (by omega) (by omega)
  ·exact h.elim⟩)
def zwN  (zic:Df K mg "_law_meets" zia zgd)(zeQ:Fk P w K mg base 3 "_law_exacts" zec ze7):Fk P w K mg base 4 "_law_meets" zgd zgb:=
 zic.mk' (zaw (k:=3) zic.F zpP (zr3) λcdv A outer s H E hr=>⟨_,(zad (zap (i:=3) zpP.nd rfl (Or.inl rfl) (zaO (zao zeQ hr (zaa (zf1 (dv 0) zmA (zdW (zaf za5 (zae (dv 1) zab (λ_ _=>rfl)) zab))) (zaa (dv 2) zac))) (zae (dv 1) zab (λ_ _=>rfl)) (λ_ _=>rfl))) (zad (zay (zau (zaM hr) (zae (dv 1) zab (λ_ _=>rfl)) zaL (zar _)) (zaj (zan (zd5 (zaM hr) (zae (dv 3) zab (λ_ _=>rfl)) zab (zar _)))) zaz) (zaj (zan (zd5 zok (zae (dv 3) zab (λ_ _=>rfl)) zab (zar _)))))),λds S Q ex h=>by
  unfold zgb at h
  split at h
  ·rename_i a w k b
   obtain⟨ns,ws,ps,zero,ha,hb,hw,⟨k0,k1⟩,net,gp,hl,h⟩:=h
   obtain⟨kn,rfl⟩:∃kn:Nat,k=(kn:Int):=⟨k.toNat,by omega⟩
   rw[Vag] at h
   refine zgE (n:=a) (o:=.lst (ns.map Nd.d)) (lo:=none) (hi:=some ((kn:Int)+1)) (S3:=S) (λK hK=>by exact hK) (λK hK=>by exact hK) (λK hK=>by exact hK) ha ?_
   have ec:zbd (ns.map Nd.d) none (some ((kn:Int)+1))=(ns.take (kn+1)).map Nd.d:=by
    rw[zmw (by omega) (by rw[Vac]; omega),List.map_take]
    rfl
   rw[show zas (Ob.lst (ns.map Nd.d))=ns.map Nd.d from rfl,ec]
   refine⟨ns.take (kn+1),ws.take (kn+1),ps,zaP _ _,zaN hb,net.take _,gp,by rw[Vaj]; omega,λT m pr lm hf=>?_⟩
   have prS:Pre S T:=λn o e=>pr n o (zaN e)
   have ld:(zaB ps (ns.take (kn+1))).length=kn+1:=by rw[zc6,Vaj]; omega
   have ik:inR (((zaB ps (ns.take (kn+1))).length:Nat):Int) (kn:Int):=⟨by omega,by omega⟩
   refine zaD (o:=.lst ((zaB ps (ns.take (kn+1))).map frD)) hf (zaS ik) ?_
   rcases hw with ⟨rfl,rfl⟩ | ⟨rfl,rfl⟩
   ·exact h T (decide ((gt (zaB ps (ns.take (kn+1))) (kn:Int)).1=0)) prS (λe=>of_decide_eq_true e)
   ·exact h T (decide ((gt (zaB ps (ns.take (kn+1))) (kn:Int)).1≥0)) prS (λe=>of_decide_eq_true e)
  ·exact h.elim⟩)
def zsP  (zkd:Df K mg "_law_whole" zko zhp)(zbz:mg "isinstance"=none)(zdh:mg "bool"=none)(zda:mg "int"=none)(zeR:Kit K "bool")(zeu:Kit K "int"):Fk P w K mg base 1 "_law_whole" zhp zhd:=
 zkd.mk' (zaw (k:=0) zkd.F zsM (zqt) λcdv A outer s H E hr=>⟨_,(zaj (zan (znv (znA zeu rfl zbz rfl zda Boot.«int» (dv 0)) (zpl (ztu (znA zeR rfl zbz rfl zdh Boot.«bool» (dv 0))))))),λds S Q ex h=>by
  unfold zhd at h
  split at h
  ·exact h
  ·exact h.elim⟩)
def zrK  (zjA:Df K mg "_law_span_is" zl1 zfU)(zkX:Fk P w K mg base 1 "_law_whole" zhp zhd)(za1:mg "len"=none)(zbz:mg "isinstance"=none)(zdc:mg "tuple"=none)(ze6:Kit K "tuple"):Fk P w K mg base 2 "_law_span_is" zfU zfw:=
 zjA.mk' (zaw (k:=1) zjA.F zqa (zub) λcdv A outer s H E hr=>⟨_,(zad (zay (PDW.pt (zdX (zd0 (zck (znA ze6 rfl zbz rfl zdc Boot.«tuple» (dv 0)))) (zdY (zau (zpJ hr) (za0 zcK rfl za1 Boot.«len» (zaa (dv 0) zac)) zab (zar _))))) (zaj (zan zcD)) zaz) (zaj (zan (znv (zao zkX hr (zaa (zae (dv 0) zab (λ_ _=>rfl)) zac)) (znv (zao zkX hr (zaa (zae (dv 0) zab (λ_ _=>rfl)) zac)) (zpl (zd5 zeI (zae (dv 0) zab (λ_ _=>rfl)) (zae (dv 0) zab (λ_ _=>rfl)) (zar _)))))))),λds S Q ex h=>by
  unfold zfw at h
  split at h
  ·obtain⟨hab,h⟩:=h
   exact qt (Q:=Q) (decide_eq_true hab) h
  ·exact h.elim⟩)
def zsS  (zl6:Df K mg "_law_spans_are" zjb zfi)(zng:Fk P w K mg base 2 "_law_span_is" zfU zfw)(za1:mg "len"=none)(zbz:mg "isinstance"=none)(zbs:mg "list"=none):Fk P w K mg base 3 "_law_spans_are" zfi zgm:=
 zl6.mk' (zaw (k:=2) zl6.F zp3 (zt9) λcdv A outer s H E hr=>⟨_,(zad (zay (PDW.pt (zdX (zd0 (zck (zuB (zvw _) rfl zbz rfl zbs Boot.«list» (dv 0)))) (zdY (zau (zpJ hr) (za0 (zbI zcK) rfl za1 Boot.«len» (zaa (dv 0) zac)) (dv 1) (zar _))))) (zaj (zan zcD)) zaz) (zad (zdC (i:=2) PassesOwn.never rfl zp3.nd rfl (Or.inl rfl) (dv 0) (zaj (zay (zd0 (zck (zao zng hr (zaa (dv 2) zac)))) (zaj (zan zcD)) zaz))) (zaj (zan zcD)))),λds S Q ex h=>by
  unfold zgm at h
  split at h
  ·rename_i a m
   obtain⟨vs,h1,rfl,hp,h⟩:=h
   refine zp7 (n:=a) (λK hK=>by exact hK) h1 ?_
   refine zbC ?_
   refine zdM h1 ?_
   rw[Vac]
   refine ifN (λc=>absurd rfl c) (λ_=>?_)
   refine zdO (n:=a) (o:=.lst (vs.map frD)) (λk dl' S'=>S'=S∧∃u:Option D,dl'=[some (.ref a),some (.int (vs.length:Nat)),u]) ⟨rfl,_,rfl⟩ (λk dl' S' w=>by rw[w.1]; exact h1) ?_ (λdl' S' w=>by rw[w.1]; exact h)
   rintro k x dl' S' nx ct ex' ⟨rfl,u,rfl⟩ hn
   obtain⟨p,hpm,rfl⟩:=List.mem_map.mp (Vaz ex')
   refine⟨hp p hpm,?_⟩
   exact hn _ _ ⟨rfl,_,rfl⟩
  ·exact h.elim⟩)
def zwl  (zkg:Df K mg "_law_in" zl5 zff):Fk P w K mg base 1 "_law_in" zff zf4:=
 zkg.mk' (zaw (k:=0) zkg.F zvP (zt7) λcdv A outer s H E hr=>⟨_,(zaj (zan (zoJ zeI zeI (zaf zaI (zae (dv 1) zab (λ_ _=>rfl)) (zae (dv 0) zab (λ_ _=>rfl))) (zaf zaI (zae (dv 0) zab (λ_ _=>rfl)) (dv 2)) (zaf zaI (zae (dv 1) zab (λ_ _=>rfl)) (zae (dv 0) zab (λ_ _=>rfl)))))),λds S Q ex h=>by
  unfold zf4 at h
  split at h
  ·rename_i t u x y g
   obtain⟨⟨s1,s2,s3,s4,s5⟩,h1,h2,h⟩:=h
   refine⟨zaE s3 s2,zaE s1 s5,?_⟩
   refine ifT (decide_eq_true h1) ?_
   refine⟨zaE s4 s2,?_⟩
   exact qt (Q:=Q) (decide_eq_true h2) h
  ·exact h.elim⟩)
def zrS  (zjc:Df K mg "_law_within" zlC zhq)(znu:Fk P w K mg base 1 "_law_in" zff zf4)(zbb:mg "range"=none)(za1:mg "len"=none):Fk P w K mg base 2 "_law_within" zhq zgN:=
 zjc.mk' (zaw (k:=1) zjc.F zn2 (zrq) λcdv A outer s H E hr=>⟨_,(zad (zmR (i:=3) PassesOwn.never rfl zn2.nd rfl (Or.inl rfl) rfl zbb (zaa (za0 (zbI zcK) rfl za1 Boot.«len» (zaa (dv 1) zac)) zac) (zaj (zay (zd0 (zck (zao znu hr (zaa (zaO (dv 0) (dv 3) (λ_ _=>rfl)) (zaa (zaO (dv 1) (dv 3) (λ_ _=>rfl)) (zaa (dv 2) zac)))))) (zaj (zan zcD)) zaz))) (zaj (zan zcD))),λds S Q ex h=>by
  unfold zgN at h
  split at h
  ·rename_i p b g
   obtain⟨ps,bs,hp,hb,ln,l4,gp,sb,hg,iw,h⟩:=h
   have sg:Sz 20 g:=Sz.of 1000000 (by omega)
   refine zdM hb ?_
   rw[Vac]
   refine⟨⟨by omega,by omega⟩,λk dl' S'=>S'=S∧∃u:Option D,dl'=[some (.ref p),some (.ref b),some (.int g),u],⟨rfl,_,rfl⟩,?_⟩
   rintro k dl' S' ⟨rfl,u,rfl⟩
   refine zfD (λkc=>?_) (λ_=>h)
   have kc':k<bs.length:=by
    have z:k<((bs.length:Nat):Int).toNat:=kc
    omega
   have i1:inR ((ps.length:Nat):Int) (k:Int):=⟨by omega,by omega⟩
   have i2:inR ((bs.length:Nat):Int) (k:Int):=⟨by omega,by omega⟩
   have a:=gp.at i1
   have c:=sb.at i2
   have z:=iw k i1
   refine zaD (o:=.lst (ps.map frD)) hp (zaS i1) ?_
   refine zaD (o:=.lst (bs.map frD)) hb (zaS i2) ?_
   refine⟨⟨a.2.2.1.mono (by decide),a.2.2.2.mono (by decide),c.2.1.mono (by decide),c.2.2.mono (by decide),sg⟩,z.1,z.2,?_⟩
   exact⟨rfl,_,rfl⟩
  ·exact h.elim⟩)
def zqv  (zhK:Df K mg "law" zcI zi9)(zhY:Fk P w K mg base 9 "narrowed" zfS zfv)(zmg:Fk P w K mg base 4 "_law_meets" zgd zgb)(zmx:Fk P w K mg base 2 "_law_within" zhq zgN)(zmj:Fk P w K mg base 3 "_law_spans_are" zfi zgm)(znq:Fk P w K mg base 5 "_law_row_by" zf2 zhr)(zdN:Fk P w K mg base 1 "_law_cell" zgI zgi)(zmT:Fk P w K mg base 5 "_law_net" zgy zg6)(zke:Fk P w K mg base 3 "_law_point" zgo zhc)(zm3:Fk P w K mg base 1 "_law_span" zfy zf6)(zmH:Fk P w K mg base 1 "_law_grid" zfF zhl)(zbs:mg "list"=none)(zbb:mg "range"=none):Fk P w K mg base 10 "law" zi9 zez:=
 zhK.mk' (zaw (k:=9) zhK.F zbx zsW λcdv A outer s H E hr=>⟨_,(zad (zap (i:=1) zbx.nd rfl (Or.inr rfl) (zao zmH hr (zaa (zao zdN hr (zaa (dv 0) (zaa zab zac))) zac))) (zad (zap (i:=2) zbx.nd rfl (Or.inl rfl) (zaf za9 (zao zdN hr (zaa (dv 0) (zaa zab zac))) (zaf zb5 zab zab))) (zad (zap (i:=3) zbx.nd rfl (Or.inl rfl) (zaf za5 zab (zaf za8 (dv 2) zab))) (zad (zap (i:=4) zbx.nd rfl (Or.inr rfl) (zsN (x:="_law_k") (N:=["_law_script"]) (caps:=[0]) (ar:=zaq zcI) rfl rfl csc rfl (by decide) rfl zbb (zaa (dv 3) zac) (λ_ _ _ _ _ _=>zhk) (λ_ _ _ _ _ _=>(zao zm3 hr (zaa (zao zdN hr (zaa (dv 1) (zaa (zaf za5 zab (dv 0)) zac))) zac))))) (zad (znF (x:="_law_cell_here") (N:=["_law_box","_law_grid_here"]) (caps:=[4,1]) (ar:=zaq zcI) rfl rfl csc rfl (by decide) (i:=5) zbx.nd rfl rfl (zf1 (dv 0) (zdW zab) (zdW zab)) (λ_ _ _ _ _ _=>zhk) (λ_ _ _ _ _ _=>(zao zke hr (zaa (dv 1) (zaa (dv 2) (zaa (dv 0) zac)))))) (zad (zap (i:=6) zbx.nd rfl (Or.inl rfl) (zao zke hr (zaa (dv 4) (zaa (dv 1) (zaa (zao zdN hr (zaa (dv 0) (zaa zab zac))) zac))))) (zad (zap (i:=7) zbx.nd rfl (Or.inl rfl) (zao zmT hr (zaa (zf1 (dv 0) (zdW zab) (zdW zab)) (zaa (dv 3) (zaa (zd5 (zaM hr) (zaf za8 (zaf zbZ (dv 2) zab) zab) zab (zar _)) (zaa zab (zaa zab zac))))))) (zad (zap (i:=8) zbx.nd rfl (Or.inl rfl) (zao znq hr (zaa (dv 7) (zaa (dv 6) (zaa (zaf zbZ (dv 2) zab) (zaa (zao zdN hr (zaa (dv 0) (zaa zab zac))) zac)))))) (zad (zap (i:=9) zbx.nd rfl (Or.inl rfl) (ziy (zbI zhF) rfl zbs Boot.«list» (zaa (dv 7) zac))) (zad (zap (i:=10) zbx.nd rfl (Or.inl rfl) (ziy (zbI zhF) rfl zbs Boot.«list» (zaa (dv 4) zac))) (zad (zap (i:=11) zbx.nd rfl (Or.inl rfl) (zao zhY hr (zaa (dv 9) (zaa (dv 8) (zaa (dv 10) (zaa (dv 1) zac)))))) (zad (zay (PDW.pt (zdV (zau zoi (dv 11) zaY (zar _)) (zgO (zd0 (zck (zao zmj hr (zaa (dv 11) (zaa (dv 3) zac)))))))) (zaj (zan zcD)) zaz) (zad (zdC (i:=12) PassesOwn.never rfl zbx.nd rfl (Or.inl rfl) (zaf zto (zbq (zaa (dv 6) zac)) (dv 5)) (zaj (zay (zck (zao zmg hr (zaa (dv 7) (zaa (dv 8) (zaa (dv 12) zac))))) (zaj (zay (PDW.pt (zdX (zau zbW (dv 11) zaY (zar _)) (zdY (zd0 (zck (zao zmx hr (zaa (dv 12) (zaa (dv 11) (zaa (dv 1) zac))))))))) (zaj (zan zcD)) zaz)) zaz))) (zad (zap (i:=13) zbx.nd rfl (Or.inl rfl) zaY) (zad (zay (zau zoi (dv 11) zaY (zar _)) (zad (zap (i:=13) zbx.nd rfl (Or.inl rfl) (ziy (zbI zhF) rfl zbs Boot.«list» (zaa (dv 11) zac))) (zad (zjH (dv 11) zab (zaA (zaa (zaf zbB (zae (zaO (dv 4) zab (λ_ _=>rfl)) zab (λ_ _=>rfl)) zab) (zaa (zaf za5 (zae (zaO (dv 4) zab (λ_ _=>rfl)) zab (λ_ _=>rfl)) zab) zac)))) (zaj (zcR (zcN (dv 11) (zaA (zaa zab (zaa zab zac)))))))) zaz) (zad (zay (PDW.pt (zdX (zau (zox hr) (dv 9) (dv 7) (zar _)) (zdY (zau (zox hr) (dv 10) (dv 4) (zar _))))) (zaj (zan zcD)) zaz) (zaj (zan (zd5 (zvJ hr) (zao zhY hr (zaa (dv 9) (zaa (dv 8) (zaa (dv 10) (zaa (dv 1) zac))))) (dv 13) (zar _)))))))))))))))))))),λds S Q ex h=>by
  obtain⟨ns,rfl,rfl,hl,h⟩:=h
  refine⟨ns,rfl,by decide,?_⟩
  intro g hg g2
  refine⟨ns,rfl,by decide,?_⟩
  refine⟨show (0:Int)<10^Int.toNat 6 by decide,?_⟩
  have dr:∀a b:Int,a≤b→a.natAbs≤10^15→b.natAbs≤10^15→∃p:Int×Int,(D.tup [.int a,.int b])=frD p∧(p.1≤p.2∧Sz 51 p.1∧Sz 51 p.2):=λa b h1 h2 h3=>⟨(a,b),rfl,h1,(Sz.of (n:=51) (10^15) h2),(Sz.of (n:=51) (10^15) h3)⟩
  refine zwa (j:=(1+ns.getD (1:Int).toNat 0%10^Int.toNat 6%4)) (S1:=[.frz (ns.map D.int)]) (λ_ d=>∃p,d=frD p∧(p.1≤p.2∧Sz 51 p.1∧Sz 51 p.2)) (λK hK=>by exact hK) ⟨by omega,by omega⟩ (λk hk S2 K pr hK=>?_) (λxs lx hx=>?_)
  ·refine⟨ns,zvS pr rfl,show (0:Int)≤2+(k:Int) by omega,?_⟩
   exact λt b h1 h2 h3=>hK _ (dr t b h1 h2 h3)
  obtain⟨ps,rfl,gp⟩:=zpE xs hx
  rw[Vac] at lx
  have epl:(1+ns.getD (1:Int).toNat 0%10^Int.toNat 6%4)=((ps.length:Nat):Int):=by omega
  have lc:(zbd (ns.map D.int) (some 6) (some 27)).length≤63:=by
   have z:=zqy (α:=Nat) (xs:=ns.map D.int) (lo:=some 6) (hi:=some 27)
   rw[Vac] at z
   omega
  refine zq7 (n:=2) (o:=.lst (zbd (ns.map D.int) (some 6) (some 27))) (S1:=[.frz (ns.map D.int),.lst (ps.map frD),.lst (zbd (ns.map D.int) (some 6) (some 27))]) (λk ys S2=>Pre [.frz (ns.map D.int),.lst (ps.map frD),.lst (zbd (ns.map D.int) (some 6) (some 27))] S2∧S2[3]?=some (.lst ys)∧ys.length=k∧zcZ g ps 3 S2 ys) (λK hK=>?_) rfl (λk ys S2 w=>⟨w.1 2 _ rfl,w.2.1,w.2.2.1⟩) (VaB lc (by decide)) ⟨Pre.refl.push,rfl,rfl,λy hy=>nomatch hy⟩ (λk x ys S2 K hx w hK=>?_) (λys S2 w=>?_)
  ·exact zgE (n:=0) (o:=.frz (ns.map D.int)) (lo:=some 6) (hi:=some 27) (S3:=[.frz (ns.map D.int),.lst (ps.map frD)]) (λK hK=>by exact hK) (λK hK=>by exact hK) (λK hK=>by exact hK) rfl hK
  ·obtain⟨c,rfl⟩:=zoN hx
   obtain⟨w1,w2,w3,w4⟩:=w
   refine⟨ps,w1 1 _ rfl,gp,⟨hg,g2⟩,by omega,λT m qs pr lm hT l1 l2 l3=>?_⟩
   have l3':=zbP w2
   refine hK _ _ (pr _ _ w2) ⟨zci (λn o e=>pr _ _ (w1 _ _ e)) (Vaa _),zbT (pr _ _ w2),by simp[w3],(w4.up pr).snoc (by omega) hT ⟨l1,l2,l3⟩⟩
  obtain⟨w1,w2,w3,w4⟩:=w
  refine⟨ns,w1 0 _ rfl,by decide,?_⟩
  refine⟨ps,w1 1 _ rfl,gp,⟨hg,g2⟩,by omega,λT1 m1 qs p1 lm1 hq lq gq iq=>?_⟩
  have l3:=zbP w2
  refine zgE (n:=0) (o:=.frz (ns.map D.int)) (lo:=some 8) (hi:=some 63) (S3:=T1) (λK hK=>by exact hK) (λK hK=>by exact hK) (λK hK=>by exact hK) (p1 _ _ (w1 0 _ rfl)) ?_
  refine⟨zbd (ns.map D.int) (some 8) (some 63),ps.length,14,zaP _ _,λx hx=>?_,epl,⟨by omega,by omega⟩,rfl,⟨by decide,by decide⟩,⟨by decide,by decide⟩,λvs ws T m net hv l1 l60 pr lm hT=>?_⟩
  ·obtain⟨k,hk⟩:=List.mem_iff_getElem?.mp hx
   exact zoN hk
  have prT:Pre S2 T:=λn o e=>pr _ _ (zaN (p1 _ _ e))
  have J:T[m1]?=some (.lst (qs.map frD)):=pr _ _ (zaN hq)
  have lm':T1.length<m:=by
   have z:(T1++[Ob.lst (zbd (ns.map D.int) (some 8) (some 63))]).length≤m:=lm
   rw[Vax] at z
   have e:([Ob.lst (zbd (ns.map D.int) (some 8) (some 63))]:Sto).length=1:=rfl
   omega
  have lj:=zbP hq
  refine⟨ns,prT _ _ (w1 0 _ rfl),by decide,?_⟩
  have net1:zaC ((qs.length:Nat):Int) vs ws:=by rw[lq]; exact net
  refine⟨vs,ws,qs,hT,J,by omega,net1,hv,gq,⟨by omega,by omega⟩,l1,l60,λT2 w zero k ns' ws' hw gr lk=>?_⟩
  have net2:zaC ((ps.length:Nat):Int) ns' ws':=by rw[← lq]; exact gr.net
  have gl:=gr.ln
  have kp:∀ {n:Nat} {o:Ob},n<T1.length→T[n]?=some o→T2[n]?=some o:=λ{n o} l e=>gr.kp n o (by omega) e
  have B2:T2[1]?=some (.lst (ps.map frD)):=kp (by omega) (prT _ _ (w1 1 _ rfl))
  have J2:T2[m1]?=some (.lst (qs.map frD)):=kp lj J
  have Y2:T2[3]?=some (.lst ys):=kp (Var l3 (by have:=zbP (p1 _ _ w2); omega)) (prT _ _ w2)
  refine zii (za4 gr.nd rfl) ?_
  refine zii (za4 (zaN B2) rfl) ?_
  have H1:=zaN (T:=[.lst (ps.map frD)]) (zaP T2 (.lst (ns'.map Nd.d)))
  have O1:=zaP (T2++[.lst (ns'.map Nd.d)]) (.lst (ps.map frD))
  have lf:∀ {n:Nat} {o:Ob},T2[n]?=some o→(T2++[Ob.lst (ns'.map Nd.d)]++[Ob.lst (ps.map frD)])[n]?=some o:=λe=>zaN (zaN e)
  have N1:=lf gr.nd
  have B1:=lf B2
  have J1:=lf J2
  have Y1:=lf Y2
  have lU:(T2++[Ob.lst (ns'.map Nd.d)]++[Ob.lst (ps.map frD)]).length=T2.length+2:=by simp
  have lmT:m<T2.length:=zbP gr.nd
  have l70:ns'.length≤70:=by omega
  dsimp only
  refine zm0 (λdl2 S3=>Pre (T2++[Ob.lst (ns'.map Nd.d)]++[Ob.lst (ps.map frD)]) S3∧∃fd:D,FdAt (nwS ns' zero k ps g) (T2++[Ob.lst (ns'.map Nd.d)]++[Ob.lst (ps.map frD)]).length S3 fd∧dl2=[some (.ref 0),some (.int g),some (.int (ns.getD (1:Int).toNat 0%10^Int.toNat 6)),some (.int (1+ns.getD (1:Int).toNat 0%10^Int.toNat 6%4)),some (.ref 1),some (.ref 3),some (.ref m1),some (.ref m),some (.tup [.str w,.int (k:Int)]),some (.ref T2.length),some (.ref (T2++[Ob.lst (ns'.map Nd.d)]).length),some fd,none,none]) (λnx hn=>?_) ?_
  ·refine⟨ns',ws',ps,zero,H1,O1,hw,⟨by omega,by omega⟩,net2,gp,⟨hg,g2⟩,l70,?_,?_⟩
   ·rw[Vag]
    intro e T3 pr3
    exact hn _ _ ⟨pr3,.non,.inl ⟨rfl,e⟩,rfl⟩
   ·rw[Vag]
    intro r T3 mf e pr3 lm3 hr
    obtain⟨lr,sr⟩:=zmo net2 gp ⟨hg,g2⟩ lk e
    refine⟨r,hr,by rw[lr]; exact epl,λp hp=>(sr p hp).1,?_⟩
    exact hn _ _ ⟨pr3,.ref mf,.inr ⟨r,mf,rfl,e,hr,lm3⟩,rfl⟩
  rintro dl2 S3 ⟨prU,fd,hfd,rfl⟩
  have P4:zcZ g ps 3 (S3++[Ob.lst [.ref m1]]++[Ob.lst ([.ref m1]++ys)]) ([.ref m1]++ys):=λy hy=>by
   rcases VaX.mp hy with z | z
   ·exact⟨m1,qs,VaO.mp z,by omega,zaN (zaN (prU _ _ J1)),lq,gq,iq⟩
   ·obtain⟨mp,qp,e,n3,hm,p⟩:=w4 y z
    have lmp:=zbP (p1 _ _ hm)
    exact⟨mp,qp,e,n3,zaN (zaN (prU _ _ (lf (kp lmp (prT _ _ hm))))),p⟩
  have pr4:Pre (T2++[Ob.lst (ns'.map Nd.d)]++[Ob.lst (ps.map frD)]) (S3++[Ob.lst [.ref m1]]++[Ob.lst ([.ref m1]++ys)]):=λn o e=>zaN (zaN (prU _ _ e))
  have fd4:FdAt (nwS ns' zero k ps g) (T2++[Ob.lst (ns'.map Nd.d)]++[Ob.lst (ps.map frD)]).length (S3++[Ob.lst [.ref m1]]++[Ob.lst ([.ref m1]++ys)]) fd:=by
   rcases hfd with z | ⟨r,mf,e1,e2,e3,e4⟩
   ·exact .inl z
   ·exact .inr ⟨r,mf,e1,e2,zaN (zaN e3),e4⟩
  refine zh2 (λdl2 S5=>Pre (S3++[Ob.lst [.ref m1]]++[Ob.lst ([.ref m1]++ys)]) S5∧∃u:Option D,dl2=[some (.ref 0),some (.int g),some (.int (ns.getD (1:Int).toNat 0%10^Int.toNat 6)),some (.int (1+ns.getD (1:Int).toNat 0%10^Int.toNat 6%4)),some (.ref 1),some (.ref 3),some (.ref m1),some (.ref m),some (.tup [.str w,.int (k:Int)]),some (.ref T2.length),some (.ref (T2++[Ob.lst (ns'.map Nd.d)]).length),some fd,u,none]) (λnx hn=>?_) ?_
  ·refine zue (n:=S3.length) (m:=3) (xs:=[.ref m1]) (ys:=ys) (zaP _ _) (zaN (prU _ _ Y1)) (by rw[w3]; show 1+(zbd (ns.map D.int) (some 6) (some 27)).length≤1000; omega) ?_
   refine zdO (n:=(S3++[Ob.lst [.ref m1]]).length) (o:=.lst ([.ref m1]++ys)) (λi dl' S'=>Pre (S3++[Ob.lst [.ref m1]]++[Ob.lst ([.ref m1]++ys)]) S'∧∃u:Option D,dl'=[some (.ref 0),some (.int g),some (.int (ns.getD (1:Int).toNat 0%10^Int.toNat 6)),some (.int (1+ns.getD (1:Int).toNat 0%10^Int.toNat 6%4)),some (.ref 1),some (.ref 3),some (.ref m1),some (.ref m),some (.tup [.str w,.int (k:Int)]),some (.ref T2.length),some (.ref (T2++[Ob.lst (ns'.map Nd.d)]).length),some fd,u,none]) ⟨Pre.refl,_,rfl⟩ (λi dl' S' z=>z.1 _ _ (zaP _ _)) ?_ (λdl' S' z=>hn _ _ z)
   rintro i x dl' S' nx ct ex' ⟨pr',u,rfl⟩ hn
   obtain⟨mp,qp,rfl,_,hmp,lqp,gqp,iqp⟩:=P4 x (Vaz ex')
   refine⟨ns',ws',qp,zero,pr' _ _ (pr4 _ _ N1),pr' _ _ hmp,hw,⟨by omega,by omega⟩,by rw[lqp]; exact net2,gqp,l70,λT5 b pr5 hb=>?_⟩
   cases b with
   | false=>exact hn _ _ ⟨pr'.trans pr5,_,rfl⟩
   | true=>
    have row:=hb rfl
    rw[Vag] at row
    obtain⟨r,er,ir⟩:=zsr net2 gp ⟨hg,g2⟩ lk lqp (λp hp=>⟨(gqp p hp).1,(gqp p hp).2.2.1,(gqp p hp).2.2.2⟩) iqp row
    rcases fd4 with ⟨rfl,en⟩ | ⟨r',mf,rfl,en,hmf,lmf⟩
    ·exact absurd (en.symm.trans er) (by simp)
    ·cases (en.symm.trans er)
     obtain⟨lr,sr⟩:=zmo net2 gp ⟨hg,g2⟩ lk er
     refine⟨qp,_,pr5 _ _ (pr' _ _ hmp),pr5 _ _ (pr' _ _ hmf),by omega,by omega,gqp,sr,⟨hg,g2⟩,ir,?_⟩
     exact hn _ _ ⟨pr'.trans pr5,_,rfl⟩
  rintro dl2 S5 ⟨pr5,u,rfl⟩
  have kU:∀ {n:Nat} {o:Ob},(T2++[Ob.lst (ns'.map Nd.d)]++[Ob.lst (ps.map frD)])[n]?=some o→S5[n]?=some o:=λe=>pr5 _ _ (pr4 _ _ e)
  refine zm0 (λdl2 S6=>(∀ {n:Nat} {o:Ob},(T2++[Ob.lst (ns'.map Nd.d)]++[Ob.lst (ps.map frD)])[n]?=some o→S6[n]?=some o)∧∃(kd:D) (fd2 u:Option D),FdAt (nwS ns' zero k ps g) 0 S6 kd∧dl2=[some (.ref 0),some (.int g),some (.int (ns.getD (1:Int).toNat 0%10^Int.toNat 6)),some (.int (1+ns.getD (1:Int).toNat 0%10^Int.toNat 6%4)),some (.ref 1),some (.ref 3),some (.ref m1),some (.ref m),some (.tup [.str w,.int (k:Int)]),some (.ref T2.length),some (.ref (T2++[Ob.lst (ns'.map Nd.d)]).length),fd2,u,some kd]) (λnx hn=>?_) ?_
  ·rcases fd4 with ⟨rfl,en⟩ | ⟨r,mf,rfl,en,hmf,lmf⟩
   ·exact hn _ _ ⟨kU,.non,_,_,.inl ⟨rfl,en⟩,rfl⟩
   ·obtain⟨lr,sr⟩:=zmo net2 gp ⟨hg,g2⟩ lk en
    have hm5:=pr5 _ _ hmf
    have lm5:=zbP hm5
    refine zii (za4 hm5 rfl) ?_
    have ib:inR ((ps.length:Nat):Int) 0:=⟨by decide,by omega⟩
    have ir:inR ((r.length:Nat):Int) 0:=⟨by decide,by omega⟩
    refine zjg (n:=mf) (k:=0) (j:=0) (xs:=r.map frD) (v:=frD ((gt ps 0).1-7,(gt ps 0).2+7)) (λK hK=>?_) (λK hK=>by exact hK) (λK hK=>by exact hK) (zaN hm5) (by rw[Vac]; exact zjX ir) ?_
    ·refine zaD (o:=.lst (ps.map frD)) (zaN (kU B1)) (zaS ib) ?_
     refine zaD (o:=.lst (ps.map frD)) (zaN (kU B1)) (zaS ib) ?_
     exact hK
    refine zdF (n:=mf) (S1:=(S5++[Ob.lst (r.map frD)]).set mf (Ob.lst ((r.map frD).set 0 (frD ((gt ps 0).1-7,(gt ps 0).2+7))))) (xs:=(r.map frD).set 0 (frD ((gt ps 0).1-7,(gt ps 0).2+7))) (y:=frD (0,0)) (λK hK=>by exact hK) (zbT (zaN hm5)) (λK hK=>by exact hK) (by rw[VaF,Vac]; omega) ?_
    refine hn _ _ ⟨λ{n o} e=>?_,.ref S5.length,_,_,.inr ⟨r,S5.length,rfl,en,zb0 (zb0 (zaP _ _) (by omega)) (by omega),VaC _⟩,rfl⟩
    have ln:=zbP e
    exact zb0 (zb0 (zaN (kU e)) (by omega)) (by omega)
  rintro dl2 S6 ⟨k6,kd,fd2,u2,hkd,rfl⟩
  refine zou (k:=1) (b:=true) (za4 (k6 H1) rfl) (za4 (k6 N1) rfl) (zor _) ?_
  refine zbC ?_
  refine zou (k:=1) (b:=true) (za4 (k6 O1) rfl) (za4 (k6 B1) rfl) (zmr _) ?_
  refine zbC ?_
  refine⟨ns',ws',ps,zero,k6 H1,k6 O1,hw,⟨by omega,by omega⟩,net2,gp,⟨hg,g2⟩,l70,?_,?_⟩
  ·rw[Vag]
   intro e T7 pr7
   rcases hkd with ⟨rfl,en⟩ | ⟨r,mk,rfl,en,hmk,_⟩
   ·refine zth ?_
    exact h _
   ·exact absurd (e.symm.trans en) (by simp)
  ·rw[Vag]
   intro r T7 m7 e pr7 lm7 hr7
   rcases hkd with ⟨rfl,en⟩ | ⟨r',mk,rfl,en,hmk,_⟩
   ·exact absurd (en.symm.trans e) (by simp)
   ·cases (en.symm.trans e)
    refine zsb (b:=true) hr7 (pr7 _ _ hmk) (zmr _) ?_
    exact h _⟩)
end
theorem zvB {l:PySem.W.OpenLaw}{w:World}{K:PySem.W.Frag}{h:Heap}{mg:Str→Option Value}{fa:Addr}(X:K.In h)(G:h.Ns mainGlobals mg)(hfa:mg "law"=some (.ref fa))
  {zbU:Addr}(zlu:PySem.W.nsIn K mainGlobals "Number"=some (some (.ref zbU)))(zlm:PySem.W.plainGet K zbU Str.empty=true)(zl9:PySem.W.hasDictIn K zbU=true)(ziU:PySem.W.plainOver K zbU=true)(zjE:PySem.W.findIn K (.ref zbU) "__setattr__"=some (some (.builtin "object.__setattr__")))(zjR:PySem.W.makesIn K zbU=true)(zhM:PySem.W.keepIn K (.ref zbU)=true)
  (ziO:PySem.W.findIn K (.ref zbU) "bottom"=some none)
  (zh9:PySem.W.findIn K (.ref zbU) "top"=some none)
  {zb9:Addr}(zjl:PySem.W.nsIn K mainGlobals "Unknown"=some (some (.ref zb9)))(zlq:PySem.W.plainGet K zb9 Str.empty=true)(zhW:PySem.W.hasDictIn K zb9=true)(zkQ:PySem.W.plainOver K zb9=true)(ziP:PySem.W.findIn K (.ref zb9) "__setattr__"=some (some (.builtin "object.__setattr__")))(zhO:PySem.W.makesIn K zb9=true)(ziz:PySem.W.keepIn K (.ref zb9)=true)
  (zhU:PySem.W.findIn K (.ref zb9) "place"=some none)
  {zbH:Addr}(zh3:PySem.W.nsIn K mainGlobals "Plus"=some (some (.ref zbH)))(zlw:PySem.W.plainGet K zbH Str.empty=true)(ziw:PySem.W.hasDictIn K zbH=true)(zjs:PySem.W.plainOver K zbH=true)(zk3:PySem.W.findIn K (.ref zbH) "__setattr__"=some (some (.builtin "object.__setattr__")))(zki:PySem.W.makesIn K zbH=true)(ziq:PySem.W.keepIn K (.ref zbH)=true)
  (zlH:PySem.W.findIn K (.ref zbH) "other"=some none)
  (zhS:PySem.W.findIn K (.ref zbH) "one"=some none)
  {zbA:Addr}(ziK:PySem.W.nsIn K mainGlobals "Minus"=some (some (.ref zbA)))(zja:PySem.W.plainGet K zbA Str.empty=true)(zkp:PySem.W.hasDictIn K zbA=true)(zis:PySem.W.plainOver K zbA=true)(zjB:PySem.W.findIn K (.ref zbA) "__setattr__"=some (some (.builtin "object.__setattr__")))(zkM:PySem.W.makesIn K zbA=true)(zin:PySem.W.keepIn K (.ref zbA)=true)
  (zkU:PySem.W.findIn K (.ref zbA) "other"=some none)
  (zik:PySem.W.findIn K (.ref zbA) "one"=some none)
  {zbF:Addr}(zlh:PySem.W.nsIn K mainGlobals "Times"=some (some (.ref zbF)))(zhJ:PySem.W.plainGet K zbF Str.empty=true)(zhz:PySem.W.hasDictIn K zbF=true)(zkE:PySem.W.plainOver K zbF=true)(zkr:PySem.W.findIn K (.ref zbF) "__setattr__"=some (some (.builtin "object.__setattr__")))(zjK:PySem.W.makesIn K zbF=true)(zld:PySem.W.keepIn K (.ref zbF)=true)
  (zjC:PySem.W.findIn K (.ref zbF) "other"=some none)
  (zj6:PySem.W.findIn K (.ref zbF) "one"=some none)
  {zbV:Addr}(zjh:PySem.W.nsIn K mainGlobals "Power"=some (some (.ref zbV)))(zi4:PySem.W.plainGet K zbV Str.empty=true)(zka:PySem.W.hasDictIn K zbV=true)(zi2:PySem.W.plainOver K zbV=true)(zkq:PySem.W.findIn K (.ref zbV) "__setattr__"=some (some (.builtin "object.__setattr__")))(zkc:PySem.W.makesIn K zbV=true)(zh4:PySem.W.keepIn K (.ref zbV)=true)
  (zjG:PySem.W.findIn K (.ref zbV) "many"=some none)
  (zj8:PySem.W.findIn K (.ref zbV) "one"=some none)
  {f0 h0:Addr}{m0:Value}(a0:nsA K "_law_grid" f0)(l0:lkA K f0 "_law_grid" "_law_grid" zlV m0 h0)(c0:cdA K h0 "_law_grid")
  {f1 h1:Addr}{m1:Value}(a1:nsA K "_law_divisor" f1)(l1:lkA K f1 "_law_divisor" "_law_divisor" zkA m1 h1)(c1:cdA K h1 "_law_divisor")
  {f2 h2:Addr}{m2:Value}(a2:nsA K "_law_fraction" f2)(l2:lkA K f2 "_law_fraction" "_law_fraction" zlg m2 h2)(c2:cdA K h2 "_law_fraction")
  {f3 h3:Addr}{m3:Value}(a3:nsA K "_law_point" f3)(l3:lkA K f3 "_law_point" "_law_point" zlv m3 h3)(c3:cdA K h3 "_law_point")
  {f4 h4:Addr}{m4:Value}(a4:nsA K "_law_number" f4)(l4:lkA K f4 "_law_number" "_law_number" zkP m4 h4)(c4:cdA K h4 "_law_number")
  {f5 h5:Addr}{m5:Value}(a5:nsA K "_law_node" f5)(l5:lkA K f5 "_law_node" "_law_node" zkl m5 h5)(c5:cdA K h5 "_law_node")
  {f6 h6:Addr}{m6:Value}(a6:nsA K "_law_weight" f6)(l6:lkA K f6 "_law_weight" "_law_weight" ziN m6 h6)(c6:cdA K h6 "_law_weight")
  {f7 h7:Addr}{m7:Value}(a7:nsA K "_law_net" f7)(l7:lkA K f7 "_law_net" "_law_net" zep m7 h7)(c7:cdA K h7 "_law_net")
  {f8 h8:Addr}{m8:Value}(a8:nsA K "_law_put" f8)(l8:lkA K f8 "_law_put" "_law_put" zjQ m8 h8)(c8:cdA K h8 "_law_put")
  {f9 h9:Addr}{m9:Value}(a9:nsA K "_law_power" f9)(l9:lkA K f9 "_law_power" "_law_power" zkB m9 h9)(c9:cdA K h9 "_law_power")
  {f10 h10:Addr}{m10:Value}(a10:nsA K "_law_exact" f10)(l10:lkA K f10 "_law_exact" "_law_exact" zl8 m10 h10)(c10:cdA K h10 "_law_exact")
  {f11 h11:Addr}{m11:Value}(a11:nsA K "_law_exacts" f11)(l11:lkA K f11 "_law_exacts" "_law_exacts" zjt m11 h11)(c11:cdA K h11 "_law_exacts")
  {f12 h12:Addr}{m12:Value}(a12:nsA K "_law_met_row" f12)(l12:lkA K f12 "_law_met_row" "_law_met_row" zjU m12 h12)(c12:cdA K h12 "_law_met_row")
  {f13 h13:Addr}{m13:Value}(a13:nsA K "_law_row_by" f13)(l13:lkA K f13 "_law_row_by" "_law_row_by" zhR m13 h13)(c13:cdA K h13 "_law_row_by")
  {f14 h14:Addr}{m14:Value}(a14:nsA K "less" f14)(l14:lkA K f14 "less" "less" zlJ m14 h14)(c14:cdA K h14 "less")
  {f15 h15:Addr}{m15:Value}(a15:nsA K "rounded_up" f15)(l15:lkA K f15 "rounded_up" "rounded_up" zje m15 h15)(c15:cdA K h15 "rounded_up")
  {f16 h16:Addr}{m16:Value}(a16:nsA K "span_of" f16)(l16:lkA K f16 "span_of" "span_of" zlf m16 h16)(c16:cdA K h16 "span_of")
  {f17 h17:Addr}{m17:Value}(a17:fdA K zbU "forth" f17)(l17:lkA K f17 "forth" "Number.forth" ziR m17 h17)(c17:cdA K h17 "Number.forth")
  {f18 h18:Addr}{m18:Value}(a18:fdA K zb9 "forth" f18)(l18:lkA K f18 "forth" "Unknown.forth" ziI m18 h18)(c18:cdA K h18 "Unknown.forth")
  {f19 h19:Addr}{m19:Value}(a19:nsA K "add_spans" f19)(l19:lkA K f19 "add_spans" "add_spans" zj5 m19 h19)(c19:cdA K h19 "add_spans")
  {f20 h20:Addr}{m20:Value}(a20:fdA K zbH "forth" f20)(l20:lkA K f20 "forth" "Plus.forth" ziX m20 h20)(c20:cdA K h20 "Plus.forth")
  {f21 h21:Addr}{m21:Value}(a21:nsA K "take_spans" f21)(l21:lkA K f21 "take_spans" "take_spans" zi1 m21 h21)(c21:cdA K h21 "take_spans")
  {f22 h22:Addr}{m22:Value}(a22:fdA K zbA "forth" f22)(l22:lkA K f22 "forth" "Minus.forth" zl2 m22 h22)(c22:cdA K h22 "Minus.forth")
  {f23 h23:Addr}{m23:Value}(a23:nsA K "mul_spans" f23)(l23:lkA K f23 "mul_spans" "mul_spans" zk2 m23 h23)(c23:cdA K h23 "mul_spans")
  {f24 h24:Addr}{m24:Value}(a24:fdA K zbF "forth" f24)(l24:lkA K f24 "forth" "Times.forth" zkS m24 h24)(c24:cdA K h24 "Times.forth")
  {f25 h25:Addr}{m25:Value}(a25:nsA K "raised" f25)(l25:lkA K f25 "raised" "raised" zl7 m25 h25)(c25:cdA K h25 "raised")
  {f26 h26:Addr}{m26:Value}(a26:nsA K "raise_span" f26)(l26:lkA K f26 "raise_span" "raise_span" zhm m26 h26)(c26:cdA K h26 "raise_span")
  {f27 h27:Addr}{m27:Value}(a27:fdA K zbV "forth" f27)(l27:lkA K f27 "forth" "Power.forth" zjT m27 h27)(c27:cdA K h27 "Power.forth")
  {f28 h28:Addr}{m28:Value}(a28:fdA K zbV "__init__" f28)(l28:lkA K f28 "__init__" "Power.__init__" zlK m28 h28)(c28:cdA K h28 "Power.__init__")
  {f29 h29:Addr}{m29:Value}(a29:fdA K zbU "__init__" f29)(l29:lkA K f29 "__init__" "Number.__init__" zi5 m29 h29)(c29:cdA K h29 "Number.__init__")
  {f30 h30:Addr}{m30:Value}(a30:fdA K zb9 "__init__" f30)(l30:lkA K f30 "__init__" "Unknown.__init__" zly m30 h30)(c30:cdA K h30 "Unknown.__init__")
  {f31 h31:Addr}{m31:Value}(a31:fdA K zbH "__init__" f31)(l31:lkA K f31 "__init__" "Pair.__init__" zjJ m31 h31)(c31:cdA K h31 "Pair.__init__")
  {f32 h32:Addr}{m32:Value}(a32:fdA K zbA "__init__" f32)(l32:lkA K f32 "__init__" "Pair.__init__" zl4 m32 h32)(c32:cdA K h32 "Pair.__init__")
  {f33 h33:Addr}{m33:Value}(a33:fdA K zbF "__init__" f33)(l33:lkA K f33 "__init__" "Pair.__init__" zkO m33 h33)(c33:cdA K h33 "Pair.__init__")
  {f34 h34:Addr}{m34:Value}(a34:nsA K "kind_of" f34)(l34:lkA K f34 "kind_of" "kind_of" zj1 m34 h34)(c34:cdA K h34 "kind_of")
  {f35 h35:Addr}{m35:Value}(a35:nsA K "worths" f35)(l35:lkA K f35 "worths" "worths" zls m35 h35)(c35:cdA K h35 "worths")
  {f36 h36:Addr}{m36:Value}(a36:nsA K "common" f36)(l36:lkA K f36 "common" "common" zlb m36 h36)(c36:cdA K h36 "common")
  {f37 h37:Addr}{m37:Value}(a37:nsA K "asked_of" f37)(l37:lkA K f37 "asked_of" "asked_of" zkW m37 h37)(c37:cdA K h37 "asked_of")
  {f38 h38:Addr}{m38:Value}(a38:fdA K zbU "back" f38)(l38:lkA K f38 "back" "Number.back" zl3 m38 h38)(c38:cdA K h38 "Number.back")
  {f39 h39:Addr}{m39:Value}(a39:fdA K zb9 "back" f39)(l39:lkA K f39 "back" "Unknown.back" zjm m39 h39)(c39:cdA K h39 "Unknown.back")
  {f40 h40:Addr}{m40:Value}(a40:fdA K zbH "first_left" f40)(l40:lkA K f40 "first_left" "Plus.first_left" zj0 m40 h40)(c40:cdA K h40 "Plus.first_left")
  {f41 h41:Addr}{m41:Value}(a41:fdA K zbH "second_left" f41)(l41:lkA K f41 "second_left" "Plus.second_left" zkt m41 h41)(c41:cdA K h41 "Plus.second_left")
  {f42 h42:Addr}{m42:Value}(a42:fdA K zbH "back" f42)(l42:lkA K f42 "back" "Pair.back" zj2 m42 h42)(c42:cdA K h42 "Pair.back")
  {f43 h43:Addr}{m43:Value}(a43:fdA K zbA "first_left" f43)(l43:lkA K f43 "first_left" "Minus.first_left" ziC m43 h43)(c43:cdA K h43 "Minus.first_left")
  {f44 h44:Addr}{m44:Value}(a44:fdA K zbA "second_left" f44)(l44:lkA K f44 "second_left" "Minus.second_left" zkK m44 h44)(c44:cdA K h44 "Minus.second_left")
  {f45 h45:Addr}{m45:Value}(a45:fdA K zbA "back" f45)(l45:lkA K f45 "back" "Pair.back" zlD m45 h45)(c45:cdA K h45 "Pair.back")
  {f46 h46:Addr}{m46:Value}(a46:nsA K "holds_nought" f46)(l46:lkA K f46 "holds_nought" "holds_nought" zig m46 h46)(c46:cdA K h46 "holds_nought")
  {f47 h47:Addr}{m47:Value}(a47:nsA K "part_between" f47)(l47:lkA K f47 "part_between" "part_between" zky m47 h47)(c47:cdA K h47 "part_between")
  {f48 h48:Addr}{m48:Value}(a48:nsA K "quotient" f48)(l48:lkA K f48 "quotient" "quotient" zj9 m48 h48)(c48:cdA K h48 "quotient")
  {f49 h49:Addr}{m49:Value}(a49:nsA K "back_by_side" f49)(l49:lkA K f49 "back_by_side" "back_by_side" zk0 m49 h49)(c49:cdA K h49 "back_by_side")
  {f50 h50:Addr}{m50:Value}(a50:nsA K "hull" f50)(l50:lkA K f50 "hull" "hull" zkD m50 h50)(c50:cdA K h50 "hull")
  {f51 h51:Addr}{m51:Value}(a51:nsA K "joined" f51)(l51:lkA K f51 "joined" "joined" zkR m51 h51)(c51:cdA K h51 "joined")
  {f52 h52:Addr}{m52:Value}(a52:nsA K "opposite" f52)(l52:lkA K f52 "opposite" "opposite" zir m52 h52)(c52:cdA K h52 "opposite")
  {f53 h53:Addr}{m53:Value}(a53:nsA K "back_times" f53)(l53:lkA K f53 "back_times" "back_times" ziV m53 h53)(c53:cdA K h53 "back_times")
  {f54 h54:Addr}{m54:Value}(a54:fdA K zbF "first_left" f54)(l54:lkA K f54 "first_left" "Times.first_left" zkm m54 h54)(c54:cdA K h54 "Times.first_left")
  {f55 h55:Addr}{m55:Value}(a55:fdA K zbF "second_left" f55)(l55:lkA K f55 "second_left" "Times.second_left" zhN m55 h55)(c55:cdA K h55 "Times.second_left")
  {f56 h56:Addr}{m56:Value}(a56:fdA K zbF "back" f56)(l56:lkA K f56 "back" "Pair.back" ziS m56 h56)(c56:cdA K h56 "Pair.back")
  {f57 h57:Addr}{m57:Value}(a57:nsA K "next_guess" f57)(l57:lkA K f57 "next_guess" "next_guess" ziQ m57 h57)(c57:cdA K h57 "next_guess")
  {f58 h58:Addr}{m58:Value}(a58:nsA K "root_below" f58)(l58:lkA K f58 "root_below" "root_below" zhP m58 h58)(c58:cdA K h58 "root_below")
  {f59 h59:Addr}{m59:Value}(a59:nsA K "root" f59)(l59:lkA K f59 "root" "root" zhn m59 h59)(c59:cdA K h59 "root")
  {f60 h60:Addr}{m60:Value}(a60:nsA K "back_power" f60)(l60:lkA K f60 "back_power" "back_power" zlM m60 h60)(c60:cdA K h60 "back_power")
  {f61 h61:Addr}{m61:Value}(a61:fdA K zbV "back" f61)(l61:lkA K f61 "back" "Power.back" zi0 m61 h61)(c61:cdA K h61 "Power.back")
  {f62 h62:Addr}{m62:Value}(a62:nsA K "spans_back" f62)(l62:lkA K f62 "spans_back" "spans_back" zjp m62 h62)(c62:cdA K h62 "spans_back")
  {f63 h63:Addr}{m63:Value}(a63:nsA K "narrowed" f63)(l63:lkA K f63 "narrowed" "narrowed" zlp m63 h63)(c63:cdA K h63 "narrowed")
  {f64 h64:Addr}{m64:Value}(a64:nsA K "_law_cell" f64)(l64:lkA K f64 "_law_cell" "_law_cell" zjM m64 h64)(c64:cdA K h64 "_law_cell")
  {f65 h65:Addr}{m65:Value}(a65:nsA K "_law_span" f65)(l65:lkA K f65 "_law_span" "_law_span" zjj m65 h65)(c65:cdA K h65 "_law_span")
  {f66 h66:Addr}{m66:Value}(a66:nsA K "_law_meets" f66)(l66:lkA K f66 "_law_meets" "_law_meets" zia m66 h66)(c66:cdA K h66 "_law_meets")
  {f67 h67:Addr}{m67:Value}(a67:nsA K "_law_whole" f67)(l67:lkA K f67 "_law_whole" "_law_whole" zko m67 h67)(c67:cdA K h67 "_law_whole")
  {f68 h68:Addr}{m68:Value}(a68:nsA K "_law_span_is" f68)(l68:lkA K f68 "_law_span_is" "_law_span_is" zl1 m68 h68)(c68:cdA K h68 "_law_span_is")
  {f69 h69:Addr}{m69:Value}(a69:nsA K "_law_spans_are" f69)(l69:lkA K f69 "_law_spans_are" "_law_spans_are" zjb m69 h69)(c69:cdA K h69 "_law_spans_are")
  {f70 h70:Addr}{m70:Value}(a70:nsA K "_law_in" f70)(l70:lkA K f70 "_law_in" "_law_in" zl5 m70 h70)(c70:cdA K h70 "_law_in")
  {f71 h71:Addr}{m71:Value}(a71:nsA K "_law_within" f71)(l71:lkA K f71 "_law_within" "_law_within" zlC m71 h71)(c71:cdA K h71 "_law_within")
  {f72 h72:Addr}{m72:Value}(a72:nsA K "law" f72)(l72:lkA K f72 "law" "law" zcI m72 h72)(c72:cdA K h72 "law")
  (zcb:PySem.W.nsIn K mainGlobals "abs"=some none)
  (za1:PySem.W.nsIn K mainGlobals "len"=some none)
  (zbb:PySem.W.nsIn K mainGlobals "range"=some none)
  (zaT:PySem.W.nsIn K mainGlobals "max"=some none)
  (zbc:PySem.W.nsIn K mainGlobals "min"=some none)
  (zdi:PySem.W.nsIn K mainGlobals "enumerate"=some none)
  (zbs:PySem.W.nsIn K mainGlobals "list"=some none)
  (zbz:PySem.W.nsIn K mainGlobals "isinstance"=some none)
  (zdh:PySem.W.nsIn K mainGlobals "bool"=some none)
  (zda:PySem.W.nsIn K mainGlobals "int"=some none)
  (zdc:PySem.W.nsIn K mainGlobals "tuple"=some none)
  (zeR:Kit K "bool")
  (zeu:Kit K "int")
  (ze6:Kit K "tuple")
  :∃fd:FuncData,(∀(s:Shared) (v:Value),BindsTo s fd ⟨[v],[]⟩ [("_law_script",v)])∧∀base:Heap,K.In base→base.Ns mainGlobals mg→zaZ l.prog w K mg base (CXE l.prog w) 10 fa fd ["_law_script"] (upF K zez):=by
 have e:=hfa.symm.trans (PySem.W.mg_of X G a72)
 cases e
 let zal:zbn K mg:=⟨zbU,PySem.W.mg_of X G zlu,⟨zlm,zl9,ziU,zjE⟩,ziO,zh9,zjR,zhM⟩
 let zam:zbm K mg:=⟨zb9,PySem.W.mg_of X G zjl,⟨zlq,zhW,zkQ,ziP⟩,zhU,zhO,ziz⟩
 let zah:zbf K mg:=⟨zbH,PySem.W.mg_of X G zh3,⟨zlw,ziw,zjs,zk3⟩,zlH,zhS,zki,ziq⟩
 let zai:zbj K mg:=⟨zbA,PySem.W.mg_of X G ziK,⟨zja,zkp,zis,zjB⟩,zkU,zik,zkM,zin⟩
 let zag:zbk K mg:=⟨zbF,PySem.W.mg_of X G zlh,⟨zhJ,zhz,zkE,zkr⟩,zjC,zj6,zjK,zld⟩
 let zak:zbo K mg:=⟨zbV,PySem.W.mg_of X G zjh,⟨zi4,zka,zi2,zkq⟩,zjG,zj8,zkc,zh4⟩
 let zkk:Df K mg "_law_grid" zlV zfF:=dfo X G a0 l0 c0 λ_ _ _ _ _ _=>ln1 λ_=>rfl
 let zlT:Df K mg "_law_divisor" zkA zgZ:=dfo X G a1 l1 c1 λ_ _ _ _ _ _=>ln2 λ_ _=>rfl
 let zjo:Df K mg "_law_fraction" zlg zdy:=dfo X G a2 l2 c2 λ_ _ _ _ _ _=>ln2 λ_ _=>rfl
 let zlQ:Df K mg "_law_point" zlv zgo:=dfo X G a3 l3 c3 λ_ _ _ _ _ _=>ln3 λ_ _ _=>rfl
 let zkj:Df K mg "_law_number" zkP zha:=dfo X G a4 l4 c4 λ_ _ _ _ _ _=>ln1 λ_=>rfl
 let zlN:Df K mg "_law_node" zkl zfN:=dfo X G a5 l5 c5 λ_ _ _ _ _ _=>ln3 λ_ _ _=>rfl
 let zid:Df K mg "_law_weight" ziN zg0:=dfo X G a6 l6 c6 λ_ _ _ _ _ _=>ln2 λ_ _=>rfl
 let zks:Df K mg "_law_net" zep zgy:=dfo X G a7 l7 c7 λ_ _ _ _ _ _=>ln5 λ_ _ _ _ _=>rfl
 let zhI:Df K mg "_law_put" zjQ zgf:=dfo X G a8 l8 c8 λ_ _ _ _ _ _=>ln2 λ_ _=>rfl
 let zlt:Df K mg "_law_power" zkB zhv:=dfo X G a9 l9 c9 λ_ _ _ _ _ _=>ln2 λ_ _=>rfl
 let zj3:Df K mg "_law_exact" zl8 zgX:=dfo X G a10 l10 c10 λ_ _ _ _ _ _=>ln3 λ_ _ _=>rfl
 let zij:Df K mg "_law_exacts" zjt zec:=dfo X G a11 l11 c11 λ_ _ _ _ _ _=>ln2 λ_ _=>rfl
 let zjw:Df K mg "_law_met_row" zjU zg2:=dfo X G a12 l12 c12 λ_ _ _ _ _ _=>ln4 λ_ _ _ _=>rfl
 let zlc:Df K mg "_law_row_by" zhR zf2:=dfo X G a13 l13 c13 λ_ _ _ _ _ _=>ln4 λ_ _ _ _=>rfl
 let zma:Df K mg "less" zlJ zgr:=dfo X G a14 l14 c14 λ_ _ _ _ _ _=>ln2 λ_ _=>rfl
 let zjx:Df K mg "rounded_up" zje zdj:=dfo X G a15 l15 c15 λ_ _ _ _ _ _=>ln2 λ_ _=>rfl
 let ziv:Df K mg "span_of" zlf zgj:=dfo X G a16 l16 c16 λ_ _ _ _ _ _=>ln3 λ_ _ _=>rfl
 let zih:Dm K zal.C "forth" "Number.forth" ziR zgD:=dmo a17 l17 c17 λ_ _ _ _ _ _=>ln4 λ_ _ _ _=>rfl
 let zjS:Dm K zam.C "forth" "Unknown.forth" ziI zgL:=dmo a18 l18 c18 λ_ _ _ _ _ _=>ln4 λ_ _ _ _=>rfl
 let zkn:Df K mg "add_spans" zj5 zet:=dfo X G a19 l19 c19 λ_ _ _ _ _ _=>ln2 λ_ _=>rfl
 let zk4:Dm K zah.C "forth" "Plus.forth" ziX zfk:=dmo a20 l20 c20 λ_ _ _ _ _ _=>ln4 λ_ _ _ _=>rfl
 let zh1:Df K mg "take_spans" zi1 zc7:=dfo X G a21 l21 c21 λ_ _ _ _ _ _=>ln2 λ_ _=>rfl
 let zlX:Dm K zai.C "forth" "Minus.forth" zl2 zgt:=dmo a22 l22 c22 λ_ _ _ _ _ _=>ln4 λ_ _ _ _=>rfl
 let zju:Df K mg "mul_spans" zk2 zfV:=dfo X G a23 l23 c23 λ_ _ _ _ _ _=>ln3 λ_ _ _=>rfl
 let zkT:Dm K zag.C "forth" "Times.forth" zkS zfI:=dmo a24 l24 c24 λ_ _ _ _ _ _=>ln4 λ_ _ _ _=>rfl
 let zkx:Df K mg "raised" zl7 zcL:=dfo X G a25 l25 c25 λ_ _ _ _ _ _=>ln2 λ_ _=>rfl
 let zkH:Df K mg "raise_span" zhm zfL:=dfo X G a26 l26 c26 λ_ _ _ _ _ _=>ln3 λ_ _ _=>rfl
 let zkF:Dm K zak.C "forth" "Power.forth" zjT zf9:=dmo a27 l27 c27 λ_ _ _ _ _ _=>ln4 λ_ _ _ _=>rfl
 let zlP:Dm K zak.C "__init__" "Power.__init__" zlK zfK:=dmo a28 l28 c28 λ_ _ _ _ _ _=>ln3 λ_ _ _=>rfl
 let zif:Dm K zal.C "__init__" "Number.__init__" zi5 zfe:=dmo a29 l29 c29 λ_ _ _ _ _ _=>ln3 λ_ _ _=>rfl
 let ziD:Dm K zam.C "__init__" "Unknown.__init__" zly zfh:=dmo a30 l30 c30 λ_ _ _ _ _ _=>ln2 λ_ _=>rfl
 let zhV:Dm K zah.C "__init__" "Pair.__init__" zjJ zfW:=dmo a31 l31 c31 λ_ _ _ _ _ _=>ln3 λ_ _ _=>rfl
 let zle:Dm K zai.C "__init__" "Pair.__init__" zl4 zgG:=dmo a32 l32 c32 λ_ _ _ _ _ _=>ln3 λ_ _ _=>rfl
 let ziT:Dm K zag.C "__init__" "Pair.__init__" zkO zgl:=dmo a33 l33 c33 λ_ _ _ _ _ _=>ln3 λ_ _ _=>rfl
 let zil:Df K mg "kind_of" zj1 zek:=dfo X G a34 l34 c34 λ_ _ _ _ _ _=>ln1 λ_=>rfl
 let zio:Df K mg "worths" zls zgF:=dfo X G a35 l35 c35 λ_ _ _ _ _ _=>ln3 λ_ _ _=>rfl
 let zhE:Df K mg "common" zlb zcF:=dfo X G a36 l36 c36 λ_ _ _ _ _ _=>ln2 λ_ _=>rfl
 let zkL:Df K mg "asked_of" zkW zgc:=dfo X G a37 l37 c37 λ_ _ _ _ _ _=>ln2 λ_ _=>rfl
 let zlS:Dm K zal.C "back" "Number.back" zl3 zfE:=dmo a38 l38 c38 λ_ _ _ _ _ _=>ln4 λ_ _ _ _=>rfl
 let zi7:Dm K zam.C "back" "Unknown.back" zjm zhb:=dmo a39 l39 c39 λ_ _ _ _ _ _=>ln4 λ_ _ _ _=>rfl
 let ziG:Dm K zah.C "first_left" "Plus.first_left" zj0 zfp:=dmo a40 l40 c40 λ_ _ _ _ _ _=>ln5 λ_ _ _ _ _=>rfl
 let zjD:Dm K zah.C "second_left" "Plus.second_left" zkt zgT:=dmo a41 l41 c41 λ_ _ _ _ _ _=>ln5 λ_ _ _ _ _=>rfl
 let zlW:Dm K zah.C "back" "Pair.back" zj2 zfC:=dmo a42 l42 c42 λ_ _ _ _ _ _=>ln4 λ_ _ _ _=>rfl
 let zj7:Dm K zai.C "first_left" "Minus.first_left" ziC zgv:=dmo a43 l43 c43 λ_ _ _ _ _ _=>ln5 λ_ _ _ _ _=>rfl
 let zjP:Dm K zai.C "second_left" "Minus.second_left" zkK zht:=dmo a44 l44 c44 λ_ _ _ _ _ _=>ln5 λ_ _ _ _ _=>rfl
 let zjL:Dm K zai.C "back" "Pair.back" zlD zfB:=dmo a45 l45 c45 λ_ _ _ _ _ _=>ln4 λ_ _ _ _=>rfl
 let zhL:Df K mg "holds_nought" zig zhh:=dfo X G a46 l46 c46 λ_ _ _ _ _ _=>ln1 λ_=>rfl
 let zhB:Df K mg "part_between" zky zef:=dfo X G a47 l47 c47 λ_ _ _ _ _ _=>ln3 λ_ _ _=>rfl
 let zmb:Df K mg "quotient" zj9 zfX:=dfo X G a48 l48 c48 λ_ _ _ _ _ _=>ln2 λ_ _=>rfl
 let zlr:Df K mg "back_by_side" zk0 zfZ:=dfo X G a49 l49 c49 λ_ _ _ _ _ _=>ln3 λ_ _ _=>rfl
 let zh0:Df K mg "hull" zkD zgP:=dfo X G a50 l50 c50 λ_ _ _ _ _ _=>ln2 λ_ _=>rfl
 let zix:Df K mg "joined" zkR zeG:=dfo X G a51 l51 c51 λ_ _ _ _ _ _=>ln2 λ_ _=>rfl
 let zhX:Df K mg "opposite" zir zdq:=dfo X G a52 l52 c52 λ_ _ _ _ _ _=>ln1 λ_=>rfl
 let ziF:Df K mg "back_times" ziV zeJ:=dfo X G a53 l53 c53 λ_ _ _ _ _ _=>ln4 λ_ _ _ _=>rfl
 let zkY:Dm K zag.C "first_left" "Times.first_left" zkm zhu:=dmo a54 l54 c54 λ_ _ _ _ _ _=>ln5 λ_ _ _ _ _=>rfl
 let zjY:Dm K zag.C "second_left" "Times.second_left" zhN zfq:=dmo a55 l55 c55 λ_ _ _ _ _ _=>ln5 λ_ _ _ _ _=>rfl
 let zlG:Dm K zag.C "back" "Pair.back" ziS zhs:=dmo a56 l56 c56 λ_ _ _ _ _ _=>ln4 λ_ _ _ _=>rfl
 let zjW:Df K mg "next_guess" ziQ zfu:=dfo X G a57 l57 c57 λ_ _ _ _ _ _=>ln3 λ_ _ _=>rfl
 let zkI:Df K mg "root_below" zhP zd7:=dfo X G a58 l58 c58 λ_ _ _ _ _ _=>ln2 λ_ _=>rfl
 let zcC:Df K mg "root" zhn zcB:=dfo X G a59 l59 c59 λ_ _ _ _ _ _=>ln2 λ_ _=>rfl
 let zj4:Df K mg "back_power" zlM zfz:=dfo X G a60 l60 c60 λ_ _ _ _ _ _=>ln4 λ_ _ _ _=>rfl
 let zjf:Dm K zak.C "back" "Power.back" zi0 zfP:=dmo a61 l61 c61 λ_ _ _ _ _ _=>ln4 λ_ _ _ _=>rfl
 let zjV:Df K mg "spans_back" zjp zhe:=dfo X G a62 l62 c62 λ_ _ _ _ _ _=>ln4 λ_ _ _ _=>rfl
 let zjy:Df K mg "narrowed" zlp zfS:=dfo X G a63 l63 c63 λ_ _ _ _ _ _=>ln4 λ_ _ _ _=>rfl
 let zjv:Df K mg "_law_cell" zjM zgI:=dfo X G a64 l64 c64 λ_ _ _ _ _ _=>ln2 λ_ _=>rfl
 let zlj:Df K mg "_law_span" zjj zfy:=dfo X G a65 l65 c65 λ_ _ _ _ _ _=>ln1 λ_=>rfl
 let zic:Df K mg "_law_meets" zia zgd:=dfo X G a66 l66 c66 λ_ _ _ _ _ _=>ln3 λ_ _ _=>rfl
 let zkd:Df K mg "_law_whole" zko zhp:=dfo X G a67 l67 c67 λ_ _ _ _ _ _=>ln1 λ_=>rfl
 let zjA:Df K mg "_law_span_is" zl1 zfU:=dfo X G a68 l68 c68 λ_ _ _ _ _ _=>ln1 λ_=>rfl
 let zl6:Df K mg "_law_spans_are" zjb zfi:=dfo X G a69 l69 c69 λ_ _ _ _ _ _=>ln2 λ_ _=>rfl
 let zkg:Df K mg "_law_in" zl5 zff:=dfo X G a70 l70 c70 λ_ _ _ _ _ _=>ln3 λ_ _ _=>rfl
 let zjc:Df K mg "_law_within" zlC zhq:=dfo X G a71 l71 c71 λ_ _ _ _ _ _=>ln3 λ_ _ _=>rfl
 let zhK:Df K mg "law" zcI zi9:=dfo X G a72 l72 c72 λ_ _ _ _ _ _=>ln1 λ_=>rfl
 have zcb:=PySem.W.mg_none_of X G zcb
 have za1:=PySem.W.mg_none_of X G za1
 have zbb:=PySem.W.mg_none_of X G zbb
 have zaT:=PySem.W.mg_none_of X G zaT
 have zbc:=PySem.W.mg_none_of X G zbc
 have zdi:=PySem.W.mg_none_of X G zdi
 have zbs:=PySem.W.mg_none_of X G zbs
 have zbz:=PySem.W.mg_none_of X G zbz
 have zdh:=PySem.W.mg_none_of X G zdh
 have zda:=PySem.W.mg_none_of X G zda
 have zdc:=PySem.W.mg_none_of X G zdc
 refine⟨PySem.W.fnOf "law" "law" (zdE zcI) (zcO zcI) (zaq zcI) .none .none .none m72 none (.ref h72) .none,λs v=>.of_eq rfl,λbase _ _=>?_⟩
 let zmH:=zwM (P:=l.prog) (w:=w) (base:=base) zkk
 let zmQ:=ztY (P:=l.prog) (w:=w) (base:=base) zlT
 let zcu:=zre (P:=l.prog) (w:=w) (base:=base) zjo zmQ zcb
 let zke:=zwE (P:=l.prog) (w:=w) (base:=base) zlQ zcu
 let zni:=zrR (P:=l.prog) (w:=w) (base:=base) zkj zcu
 let zne:=zrU (P:=l.prog) (w:=w) (base:=base) zlN zni
 let zmB:=zqo (P:=l.prog) (w:=w) (base:=base) zid
 let zmT:=zqJ (P:=l.prog) (w:=w) (base:=base) zks zmB zne za1 zbb
 let zcs:=zqR (P:=l.prog) (w:=w) (base:=base) zhI
 let zk7:=zur (P:=l.prog) (w:=w) (base:=base) zlt zbb
 let zmy:=zty (P:=l.prog) (w:=w) (base:=base) zj3 zk7
 let zeQ:=zrj (P:=l.prog) (w:=w) (base:=base) zij zmy
 let znz:=zs3 (P:=l.prog) (w:=w) (base:=base) zjw zcs zcu zeQ zcb za1
 let znq:=zrh (P:=l.prog) (w:=w) (base:=base) zlc znz zaT za1
 let zmS:=zuv (P:=l.prog) (w:=w) (base:=base) zma
 let zb8:=zvH (P:=l.prog) (w:=w) (base:=base) zjx
 let zmJ:=zwC (P:=l.prog) (w:=w) (base:=base) ziv zb8 zmS
 let znN:=zud (P:=l.prog) (w:=w) (base:=base) zal zam zah zai zag zak zih zmJ
 let znt:=zsd (P:=l.prog) (w:=w) (base:=base) zam zal zah zai zag zak zjS
 let zeT:=zs0 (P:=l.prog) (w:=w) (base:=base) zkn
 let zns:=zsK (P:=l.prog) (w:=w) (base:=base) zah zal zam zai zag zak zk4 zeT
 let zca:=ztQ (P:=l.prog) (w:=w) (base:=base) zh1
 let zmc:=zqn (P:=l.prog) (w:=w) (base:=base) zai zal zam zah zag zak zlX zca
 let zmi:=zvc (P:=l.prog) (w:=w) (base:=base) zju zb8 zaT zbc
 let zm4:=zqw (P:=l.prog) (w:=w) (base:=base) zag zal zam zah zai zak zkT zmi
 let zbr:=zrV (P:=l.prog) (w:=w) (base:=base) zkx zbb
 let zme:=zve (P:=l.prog) (w:=w) (base:=base) zkH zb8 zbr zaT zbc
 let znk:=zqZ (P:=l.prog) (w:=w) (base:=base) zak zal zam zah zai zag zkF zme
 let zee:=zuk (P:=l.prog) (w:=w) (base:=base) zak zlP
 let zes:=zuD (P:=l.prog) (w:=w) (base:=base) zal zif
 let zeb:=zs1 (P:=l.prog) (w:=w) (base:=base) zam ziD
 let zfb:=zvO (P:=l.prog) (w:=w) (base:=base) zah zhV
 let zeg:=zqb (P:=l.prog) (w:=w) (base:=base) zai zle
 let zeX:=ztt (P:=l.prog) (w:=w) (base:=base) zag ziT
 let zed:=ztg (P:=l.prog) (w:=w) (base:=base) zak zag zai zah zam zal zil zee zeX zeg zfb zeb zes
 let zmm:=zsa (P:=l.prog) (w:=w) (base:=base) zak zag zai zah zam zal zio znk zm4 zmc zns znt znN zed
 let zbt:=ztl (P:=l.prog) (w:=w) (base:=base) zhE zbc zaT
 let zmO:=zsm (P:=l.prog) (w:=w) (base:=base) zkL zbt zaT
 let zmd:=zv5 (P:=l.prog) (w:=w) (base:=base) zal zam zah zai zag zak zlS
 let znE:=zqL (P:=l.prog) (w:=w) (base:=base) zal zam zah zai zag zak zi7
 let zhj:=zv8 (P:=l.prog) (w:=w) (base:=base) zah ziG zbt zca
 let zfA:=ztJ (P:=l.prog) (w:=w) (base:=base) zah zjD zbt zca
 let zmI:=zqC (P:=l.prog) (w:=w) (base:=base) zah zal zam zai zag zak zlW zfA zhj
 let zhw:=zqX (P:=l.prog) (w:=w) (base:=base) zai zj7 zbt zeT
 let zg7:=zwm (P:=l.prog) (w:=w) (base:=base) zai zjP zbt zca
 let zmu:=zuw (P:=l.prog) (w:=w) (base:=base) zai zal zam zah zag zak zjL zg7 zhw
 let zkf:=zqc (P:=l.prog) (w:=w) (base:=base) zhL
 let zcW:=zr6 (P:=l.prog) (w:=w) (base:=base) zhB zbc zaT
 let zjF:=zr4 (P:=l.prog) (w:=w) (base:=base) zmb zb8
 let ziJ:=zvI (P:=l.prog) (w:=w) (base:=base) zlr zcW zjF
 let znH:=zu7 (P:=l.prog) (w:=w) (base:=base) zh0 zaT zbc
 let ze9:=zrC (P:=l.prog) (w:=w) (base:=base) zix znH
 let zbQ:=zvo (P:=l.prog) (w:=w) (base:=base) zhX
 let zeV:=zrA (P:=l.prog) (w:=w) (base:=base) ziF ze9 ziJ zbQ zkf zaT
 let zgH:=zvR (P:=l.prog) (w:=w) (base:=base) zag zkY zeV
 let zfs:=zvh (P:=l.prog) (w:=w) (base:=base) zag zjY zeV
 let znC:=ztV (P:=l.prog) (w:=w) (base:=base) zag zal zam zah zai zak zlG zfs zgH
 let zhG:=zqH (P:=l.prog) (w:=w) (base:=base) zjW zbr
 let zex:=zwB (P:=l.prog) (w:=w) (base:=base) zkI zhG
 let N_root:=Df.never (P:=l.prog) (w:=w) (base:=base) 0 zcC
 let zsj:=zvA (P:=l.prog) (w:=w) (base:=base) zcC zbr zex zbQ N_root
 let zdZ:=zwc (P:=l.prog) (w:=w) (base:=base) zcC zbr zex zbQ zsj
 let zmF:=zsF (P:=l.prog) (w:=w) (base:=base) zj4 ze9 zcW zbQ zdZ zbr zaT
 let zmC:=zrP (P:=l.prog) (w:=w) (base:=base) zak zal zam zah zai zag zjf zmF
 let znb:=zts (P:=l.prog) (w:=w) (base:=base) zak zag zai zah zam zal zjV zmC znC zmu zmI znE zmd zed zmO zmm zbb
 let zhY:=zq8 (P:=l.prog) (w:=w) (base:=base) zjy znb zdi zbs
 let zdN:=zqE (P:=l.prog) (w:=w) (base:=base) zjv za1
 let zm3:=zvE (P:=l.prog) (w:=w) (base:=base) zlj zbc
 let zmg:=zwN (P:=l.prog) (w:=w) (base:=base) zic zeQ
 let zkX:=zsP (P:=l.prog) (w:=w) (base:=base) zkd zbz zdh zda zeR zeu
 let zng:=zrK (P:=l.prog) (w:=w) (base:=base) zjA zkX za1 zbz zdc ze6
 let zmj:=zsS (P:=l.prog) (w:=w) (base:=base) zl6 zng za1 zbz zbs
 let znu:=zwl (P:=l.prog) (w:=w) (base:=base) zkg
 let zmx:=zrS (P:=l.prog) (w:=w) (base:=base) zjc znu zbb za1
 let G_law:=zqv (P:=l.prog) (w:=w) (base:=base) zhK zhY zmg zmx zmj znq zdN zmT zke zm3 zmH zbs zbb
 exact G_law.ok
end Mine
open PySem PySem.W PyProof.Rows
set_option maxRecDepth 100003 in
set_option maxHeartbeats 0 in
theorem PySem.Challenge.cw_boxnarrow_k33_narrowed_keeps_answers_holds : PySem.Challenge.rw_boxnarrow_k33_narrowed_keeps_answers.Holds := by
 w_on; refine PySem.W.holds_law Mine.ws_eq λsaid=>?_
 refine PySem.W.holds_open (q:=Mine.vw) (loose:=[]) (Xt:=Mine.xt) (XP:=XL Mine.vw []) (Yf:=Hook.obs (kHook Mine.kp Mine.ks Mine.zeH)) (Ya:=Hook.val (kHook Mine.kp Mine.ks Mine.zeH))
  (YP:=Hook.says (kHook Mine.kp Mine.ks Mine.zeH)) (N:=9912) Mine.left (Hook.of (kHook Mine.kp Mine.ks Mine.zeH)) (Hook.keeps (kHook Mine.kp Mine.ks Mine.zeH)) (λs e=>xl_of s (Bool.and_eq_true_iff.mp e).1) XL.keeps
  (by rfl) (by rfl) (by rfl) (λs e=>recFacts_of (Bool.and_eq_true_iff.mp e).2) (by rfl) (by first | assumption | decide +kernel)
  (by decide +kernel) ⟨rfl,rfl,rfl,rfl,rfl,by decide +kernel⟩ ?hw ?hc
 (case hw=>w_witness2)
 k_fill
 refine L3.zuz (l:=PySem.Challenge.rw_boxnarrow_k33_narrowed_keeps_answers) (x:="_law_script") 10 rfl rfl ⟨rfl,by decide,by decide⟩ (λw h Y=>PySem.W.kIn_of Y) ?F
 case F=>
  intro w mg fa h KX G hmg
  refine' Mine.zvB KX G hmg (zlu:=?zlu) (zlm:=?zlm) (zl9:=?zl9) (ziU:=?ziU) (zjE:=?zjE) (zjR:=?zjR) (zhM:=?zhM) (ziO:=?ziO) (zh9:=?zh9) (zjl:=?zjl) (zlq:=?zlq) (zhW:=?zhW) (zkQ:=?zkQ) (ziP:=?ziP) (zhO:=?zhO) (ziz:=?ziz) (zhU:=?zhU) (zh3:=?zh3) (zlw:=?zlw) (ziw:=?ziw) (zjs:=?zjs) (zk3:=?zk3) (zki:=?zki) (ziq:=?ziq) (zlH:=?zlH) (zhS:=?zhS) (ziK:=?ziK) (zja:=?zja) (zkp:=?zkp) (zis:=?zis) (zjB:=?zjB) (zkM:=?zkM) (zin:=?zin) (zkU:=?zkU) (zik:=?zik) (zlh:=?zlh) (zhJ:=?zhJ) (zhz:=?zhz) (zkE:=?zkE) (zkr:=?zkr) (zjK:=?zjK) (zld:=?zld) (zjC:=?zjC) (zj6:=?zj6) (zjh:=?zjh) (zi4:=?zi4) (zka:=?zka) (zi2:=?zi2) (zkq:=?zkq) (zkc:=?zkc) (zh4:=?zh4) (zjG:=?zjG) (zj8:=?zj8) (a0:=?a0) (l0:=?l0) (c0:=?c0) (a1:=?a1) (l1:=?l1) (c1:=?c1) (a2:=?a2) (l2:=?l2) (c2:=?c2) (a3:=?a3) (l3:=?l3) (c3:=?c3) (a4:=?a4) (l4:=?l4) (c4:=?c4) (a5:=?a5) (l5:=?l5) (c5:=?c5) (a6:=?a6) (l6:=?l6) (c6:=?c6) (a7:=?a7) (l7:=?l7) (c7:=?c7) (a8:=?a8) (l8:=?l8) (c8:=?c8) (a9:=?a9) (l9:=?l9) (c9:=?c9) (a10:=?a10) (l10:=?l10) (c10:=?c10) (a11:=?a11) (l11:=?l11) (c11:=?c11) (a12:=?a12) (l12:=?l12) (c12:=?c12) (a13:=?a13) (l13:=?l13) (c13:=?c13) (a14:=?a14) (l14:=?l14) (c14:=?c14) (a15:=?a15) (l15:=?l15) (c15:=?c15) (a16:=?a16) (l16:=?l16) (c16:=?c16) (a17:=?a17) (l17:=?l17) (c17:=?c17) (a18:=?a18) (l18:=?l18) (c18:=?c18) (a19:=?a19) (l19:=?l19) (c19:=?c19) (a20:=?a20) (l20:=?l20) (c20:=?c20) (a21:=?a21) (l21:=?l21) (c21:=?c21) (a22:=?a22) (l22:=?l22) (c22:=?c22) (a23:=?a23) (l23:=?l23) (c23:=?c23) (a24:=?a24) (l24:=?l24) (c24:=?c24) (a25:=?a25) (l25:=?l25) (c25:=?c25) (a26:=?a26) (l26:=?l26) (c26:=?c26) (a27:=?a27) (l27:=?l27) (c27:=?c27) (a28:=?a28) (l28:=?l28) (c28:=?c28) (a29:=?a29) (l29:=?l29) (c29:=?c29) (a30:=?a30) (l30:=?l30) (c30:=?c30) (a31:=?a31) (l31:=?l31) (c31:=?c31) (a32:=?a32) (l32:=?l32) (c32:=?c32) (a33:=?a33) (l33:=?l33) (c33:=?c33) (a34:=?a34) (l34:=?l34) (c34:=?c34) (a35:=?a35) (l35:=?l35) (c35:=?c35) (a36:=?a36) (l36:=?l36) (c36:=?c36) (a37:=?a37) (l37:=?l37) (c37:=?c37) (a38:=?a38) (l38:=?l38) (c38:=?c38) (a39:=?a39) (l39:=?l39) (c39:=?c39) (a40:=?a40) (l40:=?l40) (c40:=?c40) (a41:=?a41) (l41:=?l41) (c41:=?c41) (a42:=?a42) (l42:=?l42) (c42:=?c42) (a43:=?a43) (l43:=?l43) (c43:=?c43) (a44:=?a44) (l44:=?l44) (c44:=?c44) (a45:=?a45) (l45:=?l45) (c45:=?c45) (a46:=?a46) (l46:=?l46) (c46:=?c46) (a47:=?a47) (l47:=?l47) (c47:=?c47) (a48:=?a48) (l48:=?l48) (c48:=?c48) (a49:=?a49) (l49:=?l49) (c49:=?c49) (a50:=?a50) (l50:=?l50) (c50:=?c50) (a51:=?a51) (l51:=?l51) (c51:=?c51) (a52:=?a52) (l52:=?l52) (c52:=?c52) (a53:=?a53) (l53:=?l53) (c53:=?c53) (a54:=?a54) (l54:=?l54) (c54:=?c54) (a55:=?a55) (l55:=?l55) (c55:=?c55) (a56:=?a56) (l56:=?l56) (c56:=?c56) (a57:=?a57) (l57:=?l57) (c57:=?c57) (a58:=?a58) (l58:=?l58) (c58:=?c58) (a59:=?a59) (l59:=?l59) (c59:=?c59) (a60:=?a60) (l60:=?l60) (c60:=?c60) (a61:=?a61) (l61:=?l61) (c61:=?c61) (a62:=?a62) (l62:=?l62) (c62:=?c62) (a63:=?a63) (l63:=?l63) (c63:=?c63) (a64:=?a64) (l64:=?l64) (c64:=?c64) (a65:=?a65) (l65:=?l65) (c65:=?c65) (a66:=?a66) (l66:=?l66) (c66:=?c66) (a67:=?a67) (l67:=?l67) (c67:=?c67) (a68:=?a68) (l68:=?l68) (c68:=?c68) (a69:=?a69) (l69:=?l69) (c69:=?c69) (a70:=?a70) (l70:=?l70) (c70:=?c70) (a71:=?a71) (l71:=?l71) (c71:=?c71) (a72:=?a72) (l72:=?l72) (c72:=?c72) (zcb:=?zcb) (za1:=?za1) (zbb:=?zbb) (zaT:=?zaT) (zbc:=?zbc) (zdi:=?zdi) (zbs:=?zbs) (zbz:=?zbz) (zdh:=?zdh) (zda:=?zda) (zdc:=?zdc) (zeR:=?zeR) (zeu:=?zeu) (ze6:=?ze6)
  (case zlu | zlm | zl9 | ziU | zjE | zjR | zhM | ziO | zh9 | zjl | zlq | zhW | zkQ | ziP | zhO | ziz | zhU | zh3 | zlw | ziw | zjs | zk3 | zki | ziq | zlH | zhS | ziK | zja | zkp | zis | zjB | zkM | zin | zkU | zik | zlh | zhJ | zhz | zkE | zkr | zjK | zld | zjC | zj6 | zjh | zi4 | zka | zi2 | zkq | zkc | zh4 | zjG | zj8 | zcb | za1 | zbb | zaT | zbc | zdi | zbs | zbz | zdh | zda | zdc=>k_is)
  (case a0 | a1 | a2 | a3 | a4 | a5 | a6 | a7 | a8 | a9 | a10 | a11 | a12 | a13 | a14 | a15 | a16 | a19 | a21 | a23 | a25 | a26 | a34 | a35 | a36 | a37 | a46 | a47 | a48 | a49 | a50 | a51 | a52 | a53 | a57 | a58 | a59 | a60 | a62 | a63 | a64 | a65 | a66 | a67 | a68 | a69 | a70 | a71 | a72=>delta Mine.nsA; k_is)
  (case a17 | a18 | a20 | a22 | a24 | a27 | a28 | a29 | a30 | a31 | a32 | a33 | a38 | a39 | a40 | a41 | a42 | a43 | a44 | a45 | a54 | a55 | a56 | a61=>delta Mine.fdA; k_is)
  (case l0 | l1 | l2 | l3 | l4 | l5 | l6 | l7 | l8 | l9 | l10 | l11 | l12 | l13 | l14 | l15 | l16 | l17 | l18 | l19 | l20 | l21 | l22 | l23 | l24 | l25 | l26 | l27 | l28 | l29 | l30 | l31 | l32 | l33 | l34 | l35 | l36 | l37 | l38 | l39 | l40 | l41 | l42 | l43 | l44 | l45 | l46 | l47 | l48 | l49 | l50 | l51 | l52 | l53 | l54 | l55 | l56 | l57 | l58 | l59 | l60 | l61 | l62 | l63 | l64 | l65 | l66 | l67 | l68 | l69 | l70 | l71 | l72=>delta Mine.lkA; k_is)
  (case c0 | c1 | c2 | c3 | c4 | c5 | c6 | c7 | c8 | c9 | c10 | c11 | c12 | c13 | c14 | c15 | c16 | c17 | c18 | c19 | c20 | c21 | c22 | c23 | c24 | c25 | c26 | c27 | c28 | c29 | c30 | c31 | c32 | c33 | c34 | c35 | c36 | c37 | c38 | c39 | c40 | c41 | c42 | c43 | c44 | c45 | c46 | c47 | c48 | c49 | c50 | c51 | c52 | c53 | c54 | c55 | c56 | c57 | c58 | c59 | c60 | c61 | c62 | c63 | c64 | c65 | c66 | c67 | c68 | c69 | c70 | c71 | c72=>delta Mine.cdA; k_is)
  (case zeR=>exact L3.znm _ _ (by simp))
  (case zeu=>exact L3.znm _ _ (by simp))
  (case ze6=>exact L3.znm _ _ (by simp))
