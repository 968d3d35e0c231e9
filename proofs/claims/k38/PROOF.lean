import PyProof.Rows.All
import Wide.All
import OpenK.AllK
import Wide.FinOn
import Lean
import PyProof.EqAt
import PyProof.EqKinds
import PyProof.TupleCall
import PySem.Challenge.RW_boxnarrow_k38_whole_shaves_by_narrowing
theorem Vaa:type_of% @List.length_map:=@List.length_map
theorem Vab:type_of% @Nat.le_refl:=@Nat.le_refl
theorem Vac:type_of% @List.getElem?_eq_some_iff:=@List.getElem?_eq_some_iff
theorem Vad:type_of% @Int.toNat_natCast:=@Int.toNat_natCast
theorem Vae:type_of% @Int.pow_succ:=@Int.pow_succ
theorem Vaf:type_of% @List.mem_cons:=@List.mem_cons
theorem Vag:type_of% @List.getElem?_eq_getElem:=@List.getElem?_eq_getElem
theorem Vah:type_of% @List.length_take:=@List.length_take
theorem Vai:type_of% @List.getElem?_map:=@List.getElem?_map
theorem Vaj:type_of% @List.size_toArray:=@List.size_toArray
theorem Vak:type_of% @List.getElem?_append_left:=@List.getElem?_append_left
theorem Val:type_of% @Int.neg_mul:=@Int.neg_mul
theorem Vam:type_of% @Bool.false_ne_true:=@Bool.false_ne_true
theorem Van:type_of% @List.length_append:=@List.length_append
theorem Vao:type_of% @Nat.zero_le:=@Nat.zero_le
theorem Vap:type_of% @List.getD_eq_getElem?_getD:=@List.getD_eq_getElem?_getD
theorem Vaq:type_of% @Option.map_eq_some_iff:=@Option.map_eq_some_iff
theorem Var:type_of% @Nat.ne_of_lt:=@Nat.ne_of_lt
theorem Vas:type_of% @List.map_cons:=@List.map_cons
theorem Vat:type_of% @List.mem_of_getElem?:=@List.mem_of_getElem?
theorem Vau:type_of% @Int.mul_nonneg:=@Int.mul_nonneg
theorem Vav:type_of% @List.lookup_cons:=@List.lookup_cons
theorem Vaw:type_of% @List.map_append:=@List.map_append
theorem Vax:type_of% @Nat.lt_of_lt_of_le:=@Nat.lt_of_lt_of_le
theorem Vay:type_of% @List.not_mem_nil:=@List.not_mem_nil
theorem Vaz:type_of% @Int.pow_pos:=@Int.pow_pos
theorem VaA:type_of% @List.length_set:=@List.length_set
theorem VaB:type_of% @Int.le_of_lt:=@Int.le_of_lt
theorem VaC:type_of% @List.length_cons:=@List.length_cons
theorem VaD:type_of% @Int.le_refl:=@Int.le_refl
theorem VaE:type_of% @Nat.le_trans:=@Nat.le_trans
theorem VaF:type_of% @List.mem_cons_of_mem:=@List.mem_cons_of_mem
theorem VaG:type_of% @Int.pow_nonneg:=@Int.pow_nonneg
theorem VaH:type_of% @Int.mul_le_mul_of_nonneg_right:=@Int.mul_le_mul_of_nonneg_right
theorem VaI:type_of% @List.mem_append_right:=@List.mem_append_right
theorem VaJ:type_of% @List.mem_iff_getElem:=@List.mem_iff_getElem
theorem VaK:type_of% @List.take_length:=@List.take_length
theorem VaL:type_of% @List.getElem?_eq_none_iff:=@List.getElem?_eq_none_iff
theorem VaM:type_of% @Nat.lt_irrefl:=@Nat.lt_irrefl
theorem VaN:type_of% @List.getElem?_set_ne:=@List.getElem?_set_ne
theorem VaO:type_of% @List.getElem?_append_right:=@List.getElem?_append_right
theorem VaP:type_of% @List.mem_singleton:=@List.mem_singleton
theorem VaQ:type_of% @Int.pow_zero:=@Int.pow_zero
theorem VaR:type_of% @List.mem_append:=@List.mem_append
theorem VaS:type_of% @List.find?_cons:=@List.find?_cons
theorem VaT:type_of% @List.length_nil:=@List.length_nil
theorem VaU:type_of% @Int.mul_zero:=@Int.mul_zero
theorem VaV:type_of% @Int.mul_pos:=@Int.mul_pos
theorem VaW:type_of% @Nat.le_of_lt:=@Nat.le_of_lt
theorem VaX:type_of% @List.mem_cons_self:=@List.mem_cons_self
theorem VaY:type_of% @List.getElem?_set_self:=@List.getElem?_set_self
theorem VaZ:type_of% @Nat.lt_of_le_of_lt:=@Nat.lt_of_le_of_lt
theorem Va0:type_of% @Int.mul_comm:=@Int.mul_comm
theorem Va1:type_of% @List.append_nil:=@List.append_nil
theorem Va2:type_of% @Int.le_trans:=@Int.le_trans
theorem Va3:type_of% @Nat.mod_two_eq_zero_or_one:=@Nat.mod_two_eq_zero_or_one
set_option Elab.async false
set_option linter.all false
set_option maxRecDepth 100000
set_option genSizeOf false
set_option maxHeartbeats 40000000
namespace L2
open PySem PySem.Spec PyProof.Rows
def zaO (s:Stmt)(j:Nat):Stmt:=match s with
 | .ClassDef _ _ _ body _ _ _ _ _ _ _=>body.getD j (.Pass ⟨0,0,0,0⟩)
 | _=>.Pass ⟨0,0,0,0⟩
def zd3 (s:Stmt):Arguments:=match s with
 | .FunctionDef _ a _ _ _ _ _ _ _ _=>a
 | _=>{ posonlyargs:=[],args:=[],vararg:=none,kwonlyargs:=[],kw_defaults:=[],kwarg:=none,defaults:=[] }
def zde (s:Stmt):List Stmt:=match s with
 | .FunctionDef _ _ b _ _ _ _ _ _ _=>b
 | _=>[]
def zar (s:Stmt):Scope:=match s with
 | .FunctionDef _ _ _ _ _ _ sc _ _ _=>sc
 | _=>{ kind:=.function,names:=[],isGenerator:=false,isCoroutine:=false }
end L2
namespace L3
open PySem PySem.W PyProof.Rows PySem.Calls
theorem zor {α β γ δ:Type}{f:α→Option β}{A:β→γ}{B:β→δ}{a:γ}{b:δ}(h1:(λx=>(f x).map A)=λ_=>some a)(h2:(λx=>(f x).map B)=λ_=>some b):(λx=>(f x).map λs=>(A s,B s))=λ_=>some (a,b):=by
 funext x
 have e1:=congrFun h1 x
 have e2:=congrFun h2 x
 cases h:f x with
 | none=>rw[h] at e1; cases e1
 | some s=>
  rw[h] at e1 e2
  exact congrArg some (Prod.ext (Option.some.inj e1) (Option.some.inj e2))
def goT (tb:String→Option Builtin)(p:Program)(w:World)(n₀:Nat)(ann:Option Value):Nat→SharedT→Thread→Option SharedT
 | 0,_,_=>none
 | k+1,s,t=>bif through t then some s else bif stepOk n₀ ann t then (stepT (denote tb) p w s t).bind (λr=>goT tb p w n₀ ann k r.1 r.2) else none
theorem zpz {tb:String→Option Builtin}{p:Program}{w:World}{n₀:Nat}{ann:Option Value}:∀ {n:Nat} {s s':SharedT} {t:Thread},goT tb p w n₀ ann n s t=some s'→topRun tb p w n₀ ann n s.abs t=some s'.abs
 | 0,_,_,_,q=>nomatch q
 | n+1,s,s',t,q=>by
  unfold goT at q
  unfold topRun
  cases c1:through t
  ·rw[c1] at q
   cases c2:stepOk n₀ ann t
   ·rw[c2] at q
    exact nomatch q
   ·rw[c2] at q
    obtain⟨⟨s2,t2⟩,c3,q⟩:=Option.bind_eq_some_iff.mp q
    rw[stepT_spec c3]
    exact zpz q
  ·rw[c1] at q
   cases q
   rfl
def zo5 (os:Array Obj):Nat→Nat→Nat→BT
 | 0,_,_=>.nil
 | f+1,a,b=>match os[b]? with
  | some o=>.node o (zo5 os f (2*a) (a+b)) (zo5 os f (2*a) (2*a+b))
  | none=>.nil
noncomputable def bootT (P:Params):BT:=zo5 (boot_heap P).objs 6 1 0
noncomputable abbrev zcr (w:World)(os:OsState):SharedT:=⟨bootT w.params,11,(boot_heap w.params).life,Array.mk [],boot_drawn,boot_toks,os⟩
def zmb (s:SharedT)(a:Addr):Option Obj:=if a<s.n then (match s.tree.get a with | some o=>alive o | none=>s.abs.heap.get? a) else none
theorem zyw (s:SharedT)(a:Addr):s.abs.heap.get? a=zmb s a:=by
 unfold zmb
 split
 ·rename_i h
  cases e:s.tree.get a with
  | none=>rfl
  | some o=>exact abs_get h e
 ·rename_i h
  exact abs_get_none h
theorem zuq (l:List Addr)(s:SharedT):l.map s.abs.heap.get?=l.map (zmb s):=List.map_congr_left λa _=>zyw s a
noncomputable abbrev seenT (p q:Program)(loose:List Str)(Xt:Shared→Bool){α:Type}(YT:SharedT→α)(g0:Bool)(w:World)(s:SharedT):=
 ((staticsOk (importedModules p.main.body) (boot_heap w.params) s.abs.heap&&namesBound p s.abs.heap&&gensDone s.abs&&laidKept (boot_heap w.params) s.abs.heap),openSeen q loose (importedModules p.main.body) Xt g0 s.abs,YT s)
theorem ztg {p q:Program}{loose:List Str}{Xt:Shared→Bool}{α:Type}{Yf:Shared→α}{YT:SharedT→α}{Ya:World→α}{N:Nat}{g0:Bool}{ann:Option Value}(hY:∀s:SharedT,Yf s.abs=YT s)(e:opening p=plainProg p.main.scope.names)(hN:Nat.ble 600 N=true)(f:∀s,fenceModules? p s=some s)
  (size:∀w:World,((boot_heap w.params).isNs mainGlobals&&(Array.mk []:Array GenState).size==0,(boot_heap w.params).objs.size,(boot_heap w.params).nsMap mainGlobals "__annotations__")=(true,11,ann))
  (run:∀w:World,(λos=>(goT treeTable p w 11 ann N (zcr w os) (topStub p)).map λs=>seenT p q loose Xt YT g0 w s)=λ_=>some (true,openGood q loose,Ya w)):LeftO p q loose Xt Yf Ya N g0:=λw=>by
 obtain⟨⟨h,gs,d,k,os⟩,e1,e'⟩:=Vaq.mp (boot_open e hN f w)
 obtain⟨rfl,rfl,rfl,rfl⟩:h=boot_heap w.params∧gs=Array.mk []∧d=boot_drawn∧k=boot_toks:=by simpa using e'
 obtain⟨y1,y2,y3⟩:_∧_∧_:=by simpa only [Prod.mk.injEq] using size w
 obtain⟨s',r1,r2⟩:=Vaq.mp (congrFun (run w) os)
 obtain⟨l1,l2,l3⟩:_∧_∧_:=by simpa only [Prod.mk.injEq] using r2
 have r:topRun treeTable p w 11 ann N ⟨boot_heap w.params,Array.mk [],boot_drawn,boot_toks,os⟩ (topStub p)=some s'.abs:=by
  have z:=zpz r1
  exact z
 have t:topFrom treeTable p w N ⟨boot_heap w.params,Array.mk [],boot_drawn,boot_toks,os⟩=some s'.abs:=by
  unfold topFrom
  dsimp only
  rw[y1,y2,y3,r]
  show (match staticsOk (importedModules p.main.body) (boot_heap w.params) s'.abs.heap&&namesBound p s'.abs.heap&&gensDone s'.abs&&laidKept (boot_heap w.params) s'.abs.heap with | true=>_ | false=>_)=_
  rw[l1]
 unfold openEnds
 rw[e1]
 show Option.map _ (topFrom treeTable p w N _)=_
 rw[t]
 exact congrArg some (Prod.ext l2 ((hY s').trans l3))
noncomputable abbrev znF (p:Program)(w:World)(s:SharedT):Bool:=staticsOk (importedModules p.main.body) (boot_heap w.params) s.abs.heap&&namesBound p s.abs.heap&&gensDone s.abs&&laidKept (boot_heap w.params) s.abs.heap
theorem zvJ {p q:Program}{loose:List Str}{Xt:Shared→Bool}{α:Type}{Yf:Shared→α}{YT:SharedT→α}{Ya:World→α}{N:Nat}{g0:Bool}{ann:Option Value}(hY:∀s:SharedT,Yf s.abs=YT s)(e:opening p=plainProg p.main.scope.names)(hN:Nat.ble 600 N=true)(f:∀s,fenceModules? p s=some s)
  (size:∀w:World,((boot_heap w.params).isNs mainGlobals&&(Array.mk []:Array GenState).size==0,(boot_heap w.params).objs.size,(boot_heap w.params).nsMap mainGlobals "__annotations__")=(true,11,ann))
  (ra:∀w:World,(λos=>(goT treeTable p w 11 ann N (zcr w os) (topStub p)).map λs=>(znF p w s,(openSeen q loose (importedModules p.main.body) Xt g0 s.abs).1))=λ_=>some (true,(openGood q loose).1))
  (rb:∀w:World,(λos=>(goT treeTable p w 11 ann N (zcr w os) (topStub p)).map λs=>((openSeen q loose (importedModules p.main.body) Xt g0 s.abs).2.1,(openSeen q loose (importedModules p.main.body) Xt g0 s.abs).2.2.1))=λ_=>some ((openGood q loose).2.1,(openGood q loose).2.2.1))
  (rc:∀w:World,(λos=>(goT treeTable p w 11 ann N (zcr w os) (topStub p)).map λs=>(openSeen q loose (importedModules p.main.body) Xt g0 s.abs).2.2.2)=λ_=>some (openGood q loose).2.2.2)
  (objs:∀w:World,(λos=>(goT treeTable p w 11 ann N (zcr w os) (topStub p)).map YT)=λ_=>some (Ya w)):LeftO p q loose Xt Yf Ya N g0:=by
 refine ztg hY e hN f size λw=>funext λos=>?_
 obtain⟨s1,a1,b1⟩:=Vaq.mp (congrFun (ra w) os)
 obtain⟨s2,a2,b2⟩:=Vaq.mp (congrFun (rb w) os)
 obtain⟨s3,a3,b3⟩:=Vaq.mp (congrFun (rc w) os)
 obtain⟨s4,a4,b4⟩:=Vaq.mp (congrFun (objs w) os)
 rw[a1] at a2 a3 a4
 cases a2
 cases a3
 cases a4
 obtain⟨l1,l2⟩:=Prod.mk.inj b1
 obtain⟨l3,l4⟩:=Prod.mk.inj b2
 have l5:openSeen q loose (importedModules p.main.body) Xt g0 s1.abs=openGood q loose:=Prod.ext l2 (Prod.ext l3 (Prod.ext l4 b3))
 rw[a1]
 show some (znF p w s1,openSeen q loose (importedModules p.main.body) Xt g0 s1.abs,YT s1)=some (true,openGood q loose,Ya w)
 rw[l1,l5,b4]
end L3
namespace Mine
open PySem PySem.Spec PyProof.Rows L2 L3
def top (i:Nat):Stmt:=PySem.Challenge.pw_boxnarrow_k38_whole_shaves_by_narrowing.main.body.getD i (.Pass ⟨0,0,0,0⟩)
theorem ws_eq:PySem.W.OpenLaw.wellSaid PySem.Challenge.rw_boxnarrow_k38_whole_shaves_by_narrowing=true:=by decide +kernel
def vw:Program:={ PySem.Challenge.pw_boxnarrow_k38_whole_shaves_by_narrowing with main:={ PySem.Challenge.pw_boxnarrow_k38_whole_shaves_by_narrowing.main with body:=[top 0,top 2,top 3,top 5,top 6,top 8,top 9,top 10,top 11,top 12,top 13,top 14,top 15,top 17,top 18,top 19,top 20,top 21,top 22,top 23,top 24,top 25,top 26,top 27,top 29,top 30,top 31,top 32,top 33,top 34,top 35,top 36,top 37,top 39,top 40,top 42,top 43,top 44,top 46,top 47,top 48,top 49,top 50,top 51,top 53,top 54,top 55,top 56,top 57,top 58,top 59,top 60,top 61,top 62,top 63,top 64,top 65,top 66,top 67,top 68,top 69,top 70,top 71,top 72,top 73,top 74,top 75,top 76,top 77,top 78,top 79,top 80,top 81,top 82] } }
noncomputable abbrev de (P:Params)(s:Str)(t:Tok)(v:Value):DictEntry:=⟨PySem.PyData.keyHash P s,.str s t,v⟩
abbrev co (n q:Str)(a b c d:Tok)(i k:Int)(r s:Addr)(y z:Value)(t:Addr)(j:Int):Obj:=⟨.type "code",none,.fields #[.str n a,.str q b,.str "/claim/cut.py" c,.int i 0,.int k 0,.int 0 0,.int 0 0,.int 3 0,.ref r,.bool Bool.true,.int 181 0,.ref s,.none,y,z,.ref t,.int j 0,.int i 0,.str "/claim/cut.py" d],#[]⟩
abbrev fo (n q:Str)(st:Stmt)(m:Value)(c:Addr):Obj:=⟨.type "function",none,.func (PySem.W.fnOf n q (zd3 st) (zde st) (zar st) .none .none .none m none (.ref c) .none),#[]⟩
noncomputable def kp:Params→PySem.W.Frag:=λP=>
 (nat_lit 3,(.mk (.type "dict") none (.dict #[(de P "__name__" 165 (.str "law_boxnarrow_k38_whole_shaves_by_narrowing" 1044)),(de P "__doc__" 166 .none),(de P "__package__" 167 .none),(de P "__loader__" 168 (.builtin "__main__.__loader__#opaque")),(de P "__spec__" 169 .none),(de P "__annotations__" 170 (.ref 6)),(de P "__builtins__" 171 (.ref 4)),(de P "__file__" 173 (.str "/claim/cut.py" 172)),(de P "__cached__" 174 .none),(de P "_wall" 193 (.ref 21)),(de P "BoxError" 213 (.ref 31)),(de P "NoSpan" 229 (.ref 44)),(de P "raised" 241 (.ref 53)),(de P "less" 249 (.ref 60)),(de P "rounded_up" 259 (.ref 67)),(de P "span_of" 268 (.ref 74)),(de P "add_spans" 276 (.ref 81)),(de P "take_spans" 284 (.ref 88)),(de P "mul_spans" 294 (.ref 95)),(de P "raise_span" 300 (.ref 100)),(de P "common" 310 (.ref 107)),(de P "hull" 318 (.ref 114)),(de P "holds_nought" 327 (.ref 121)),(de P "opposite" 334 (.ref 128)),(de P "joined" 342 (.ref 135)),(de P "part_between" 351 (.ref 142)),(de P "quotient" 359 (.ref 149)),(de P "back_by_side" 372 (.ref 156)),(de P "back_times" 385 (.ref 163)),(de P "root_below" 395 (.ref 170)),(de P "next_guess" 404 (.ref 177)),(de P "root" 413 (.ref 184)),(de P "back_power" 427 (.ref 191)),(de P "Node" 449 (.ref 201)),(de P "Number" 517 (.ref 250)),(de P "Unknown" 582 (.ref 297)),(de P "Pair" 632 (.ref 330)),(de P "Plus" 701 (.ref 377)),(de P "Minus" 770 (.ref 424)),(de P "Times" 839 (.ref 471)),(de P "Power" 907 (.ref 518)),(de P "kind_of" 914 (.ref 527)),(de P "worths" 927 (.ref 534)),(de P "bars" 935 (.ref 541)),(de P "asked_of" 945 (.ref 548)),(de P "spans_back" 961 (.ref 555)),(de P "narrowed" 976 (.ref 562)),(de P "with_span" 987 (.ref 569)),(de P "is_barred" 998 (.ref 576)),(de P "cut_off" 1006 (.ref 583)),(de P "cut_back" 1014 (.ref 590)),(de P "is_shave" 1027 (.ref 597)),(de P "shaves" 1043 (.ref 604)),(de P "_law_cell" 1053 (.ref 611)),(de P "_law_whole" 1060 (.ref 618)),(de P "_law_span_is" 1067 (.ref 625)),(de P "_law_spans_are" 1076 (.ref 632)),(de P "_law_divisor" 1085 (.ref 639)),(de P "_law_fraction" 1094 (.ref 646)),(de P "_law_grid" 1102 (.ref 653)),(de P "_law_span" 1113 (.ref 660)),(de P "_law_power" 1123 (.ref 667)),(de P "_law_number" 1132 (.ref 674)),(de P "_law_node" 1144 (.ref 681)),(de P "_law_weight" 1152 (.ref 688)),(de P "_law_net" 1158 (.ref 693)),(de P "_law_exact" 1169 (.ref 700)),(de P "_law_exacts" 1179 (.ref 707)),(de P "_law_point" 1193 (.ref 714)),(de P "_law_put" 1201 (.ref 721)),(de P "_law_met_row" 1217 (.ref 728)),(de P "_law_row_by" 1228 (.ref 735)),(de P "_law_forth" 1243 (.ref 742)),(de P "_law_worths" 1254 (.ref 749)),(de P "_law_barred" 1265 (.ref 756)),(de P "_law_with" 1275 (.ref 763)),(de P "_law_shaves" 1291 (.ref 770)),(de P "_law_cuts_are" 1300 (.ref 777)),(de P "_law_digit_span" 1308 (.ref 784)),(de P "_law_digit_node" 1319 (.ref 791)),(de P "_law_by_digits" 1325 (.ref 796)),(de P "_law_drawn" 1331 (.ref 801)),(de P "law" 1348 (.ref 808))] 83) #[]))::
 (nat_lit 30,(.mk (.type "dict") none (.dict #[(de P "__module__" 203 (.str "boxnarrow.errors" 194)),(de P "__firstlineno__" 207 (.int 5 206)),(de P "__static_attributes__" 208 (.ref 29)),(de P "__weakref__" 210 (.ref 32)),(de P "__doc__" 211 .none)] 3) #[]))::
 (nat_lit 31,(.mk (.type "type") none (.cls (PySem.ClassData.mk "BoxError" [(.type "ValueError")] [(.ref 31),(.type "ValueError"),(.type "Exception"),(.type "BaseException"),(.type "object")] 30 "BoxError" Bool.true [] [(.ref 44)] Bool.false none Bool.false)) #[(some (.ref 22)),none,(some (.str "BoxError" 196)),(some (.str "BoxError" 204)),(some (.builtin "ValueError.__new__")),(some (.bool Bool.true))]))::
 (nat_lit 43,(.mk (.type "dict") none (.dict #[(de P "__module__" 221 (.str "boxnarrow.errors" 194)),(de P "__firstlineno__" 225 (.int 7 224)),(de P "__static_attributes__" 226 (.ref 42)),(de P "__doc__" 227 .none)] 2) #[]))::
 (nat_lit 44,(.mk (.type "type") none (.cls (PySem.ClassData.mk "NoSpan" [(.ref 31)] [(.ref 44),(.ref 31),(.type "ValueError"),(.type "Exception"),(.type "BaseException"),(.type "object")] 43 "NoSpan" Bool.true [] [] Bool.false none Bool.false)) #[(some (.ref 35)),none,(some (.str "NoSpan" 214)),(some (.str "NoSpan" 222)),(some (.builtin "ValueError.__new__")),(some (.bool Bool.true))]))::
 (nat_lit 52,co "raised" "raised" 232 233 234 240 10 2 47 48 (.ref 49) (.ref 50) 51 239)::
 (nat_lit 53,fo "raised" "raised" (top 5) (.str "boxnarrow.fractions" 230) 52)::
 (nat_lit 59,co "less" "less" 242 243 244 248 15 2 54 55 (.ref 56) (.ref 57) 58 247)::
 (nat_lit 60,fo "less" "less" (top 6) (.str "boxnarrow.fractions" 230) 59)::
 (nat_lit 66,co "rounded_up" "rounded_up" 252 253 254 258 18 2 61 62 (.ref 63) (.ref 64) 65 257)::
 (nat_lit 67,fo "rounded_up" "rounded_up" (top 8) (.str "boxnarrow.spans" 250) 66)::
 (nat_lit 73,co "span_of" "span_of" 260 261 262 267 20 3 68 69 (.ref 70) (.ref 71) 72 266)::
 (nat_lit 74,fo "span_of" "span_of" (top 9) (.str "boxnarrow.spans" 250) 73)::
 (nat_lit 80,co "add_spans" "add_spans" 269 270 271 275 24 2 75 76 (.ref 77) (.ref 78) 79 274)::
 (nat_lit 81,fo "add_spans" "add_spans" (top 10) (.str "boxnarrow.spans" 250) 80)::
 (nat_lit 87,co "take_spans" "take_spans" 277 278 279 283 26 2 82 83 (.ref 84) (.ref 85) 86 282)::
 (nat_lit 88,fo "take_spans" "take_spans" (top 11) (.str "boxnarrow.spans" 250) 87)::
 (nat_lit 94,co "mul_spans" "mul_spans" 285 286 287 293 28 3 89 90 (.ref 91) (.ref 92) 93 292)::
 (nat_lit 95,fo "mul_spans" "mul_spans" (top 12) (.str "boxnarrow.spans" 250) 94)::
 (nat_lit 99,co "raise_span" "raise_span" 295 296 297 299 31 3 96 97 .none .none 98 298)::
 (nat_lit 100,fo "raise_span" "raise_span" (top 13) (.str "boxnarrow.spans" 250) 99)::
 (nat_lit 106,co "common" "common" 301 302 303 309 38 2 101 102 (.ref 103) (.ref 104) 105 308)::
 (nat_lit 107,fo "common" "common" (top 14) (.str "boxnarrow.spans" 250) 106)::
 (nat_lit 113,co "hull" "hull" 311 312 313 317 44 2 108 109 (.ref 110) (.ref 111) 112 316)::
 (nat_lit 114,fo "hull" "hull" (top 15) (.str "boxnarrow.spans" 250) 113)::
 (nat_lit 120,co "holds_nought" "holds_nought" 321 322 323 326 47 1 115 116 (.ref 117) (.ref 118) 119 325)::
 (nat_lit 121,fo "holds_nought" "holds_nought" (top 17) (.str "boxnarrow.backs" 319) 120)::
 (nat_lit 127,co "opposite" "opposite" 328 329 330 333 49 1 122 123 (.ref 124) (.ref 125) 126 332)::
 (nat_lit 128,fo "opposite" "opposite" (top 18) (.str "boxnarrow.backs" 319) 127)::
 (nat_lit 134,co "joined" "joined" 335 336 337 341 51 2 129 130 (.ref 131) (.ref 132) 133 340)::
 (nat_lit 135,fo "joined" "joined" (top 19) (.str "boxnarrow.backs" 319) 134)::
 (nat_lit 141,co "part_between" "part_between" 343 344 345 350 57 3 136 137 (.ref 138) (.ref 139) 140 349)::
 (nat_lit 142,fo "part_between" "part_between" (top 20) (.str "boxnarrow.backs" 319) 141)::
 (nat_lit 148,co "quotient" "quotient" 352 353 354 358 61 2 143 144 (.ref 145) (.ref 146) 147 357)::
 (nat_lit 149,fo "quotient" "quotient" (top 21) (.str "boxnarrow.backs" 319) 148)::
 (nat_lit 155,co "back_by_side" "back_by_side" 360 361 362 371 63 3 150 151 (.ref 152) (.ref 153) 154 370)::
 (nat_lit 156,fo "back_by_side" "back_by_side" (top 22) (.str "boxnarrow.backs" 319) 155)::
 (nat_lit 162,co "back_times" "back_times" 373 374 375 384 69 4 157 158 (.ref 159) (.ref 160) 161 383)::
 (nat_lit 163,fo "back_times" "back_times" (top 23) (.str "boxnarrow.backs" 319) 162)::
 (nat_lit 169,co "root_below" "root_below" 386 387 388 394 80 2 164 165 (.ref 166) (.ref 167) 168 393)::
 (nat_lit 170,fo "root_below" "root_below" (top 24) (.str "boxnarrow.backs" 319) 169)::
 (nat_lit 176,co "next_guess" "next_guess" 396 397 398 403 89 3 171 172 (.ref 173) (.ref 174) 175 402)::
 (nat_lit 177,fo "next_guess" "next_guess" (top 25) (.str "boxnarrow.backs" 319) 176)::
 (nat_lit 183,co "root" "root" 405 406 407 412 91 2 178 179 (.ref 180) (.ref 181) 182 411)::
 (nat_lit 184,fo "root" "root" (top 26) (.str "boxnarrow.backs" 319) 183)::
 (nat_lit 190,co "back_power" "back_power" 414 415 416 426 98 4 185 186 (.ref 187) (.ref 188) 189 425)::
 (nat_lit 191,fo "back_power" "back_power" (top 27) (.str "boxnarrow.backs" 319) 190)::
 (nat_lit 200,(.mk (.type "dict") none (.dict #[(de P "__module__" 437 (.str "boxnarrow.kinds" 428)),(de P "__firstlineno__" 441 (.int 109 440)),(de P "__static_attributes__" 442 (.ref 199)),(de P "__dict__" 444 (.ref 202)),(de P "__weakref__" 446 (.ref 203)),(de P "__doc__" 447 .none)] 4) #[]))::
 (nat_lit 201,(.mk (.type "type") none (.cls (PySem.ClassData.mk "Node" [(.type "object")] [(.ref 201),(.type "object")] 200 "Node" Bool.true [] [(.ref 250),(.ref 297),(.ref 330),(.ref 518)] Bool.false none Bool.false)) #[none,none,(some (.str "Node" 430)),(some (.str "Node" 438)),(some (.builtin "object.__new__")),(some (.bool Bool.true))]))::
 (nat_lit 218,co "__init__" "Number.__init__" 462 463 464 469 113 3 213 214 (.ref 215) (.ref 216) 217 468)::
 (nat_lit 219,fo "__init__" "Number.__init__" (zaO (top 30) 0) (.str "boxnarrow.kinds" 428) 218)::
 (nat_lit 232,co "forth" "Number.forth" 480 481 482 489 120 4 227 228 (.ref 229) (.ref 230) 231 488)::
 (nat_lit 233,fo "forth" "Number.forth" (zaO (top 30) 2) (.str "boxnarrow.kinds" 428) 232)::
 (nat_lit 239,co "back" "Number.back" 491 492 493 499 124 4 234 235 (.ref 236) (.ref 237) 238 498)::
 (nat_lit 240,fo "back" "Number.back" (zaO (top 30) 3) (.str "boxnarrow.kinds" 428) 239)::
 (nat_lit 249,(.mk (.type "dict") none (.dict #[(de P "__module__" 457 (.str "boxnarrow.kinds" 428)),(de P "__firstlineno__" 461 (.int 111 460)),(de P "__init__" 470 (.ref 219)),(de P "exact" 479 (.ref 226)),(de P "forth" 490 (.ref 233)),(de P "back" 500 (.ref 240)),(de P "slope" 511 (.ref 247)),(de P "__static_attributes__" 514 (.ref 248)),(de P "__doc__" 515 .none)] 2) #[]))::
 (nat_lit 250,(.mk (.type "type") none (.cls (PySem.ClassData.mk "Number" [(.ref 201)] [(.ref 250),(.ref 201),(.type "object")] 249 "Number" Bool.true [] [] Bool.false none Bool.false)) #[(some (.ref 206)),none,(some (.str "Number" 450)),(some (.str "Number" 458)),(some (.builtin "object.__new__")),(some (.bool Bool.true))]))::
 (nat_lit 265,co "__init__" "Unknown.__init__" 530 531 532 536 131 2 260 261 (.ref 262) (.ref 263) 264 535)::
 (nat_lit 266,fo "__init__" "Unknown.__init__" (zaO (top 31) 0) (.str "boxnarrow.kinds" 428) 265)::
 (nat_lit 279,co "forth" "Unknown.forth" 547 548 549 555 137 4 274 275 (.ref 276) (.ref 277) 278 554)::
 (nat_lit 280,fo "forth" "Unknown.forth" (zaO (top 31) 2) (.str "boxnarrow.kinds" 428) 279)::
 (nat_lit 286,co "back" "Unknown.back" 557 558 559 565 140 4 281 282 (.ref 283) (.ref 284) 285 564)::
 (nat_lit 287,fo "back" "Unknown.back" (zaO (top 31) 3) (.str "boxnarrow.kinds" 428) 286)::
 (nat_lit 296,(.mk (.type "dict") none (.dict #[(de P "__module__" 525 (.str "boxnarrow.kinds" 428)),(de P "__firstlineno__" 529 (.int 129 528)),(de P "__init__" 537 (.ref 266)),(de P "exact" 546 (.ref 273)),(de P "forth" 556 (.ref 280)),(de P "back" 566 (.ref 287)),(de P "slope" 577 (.ref 294)),(de P "__static_attributes__" 579 (.ref 295)),(de P "__doc__" 580 .none)] 2) #[]))::
 (nat_lit 297,(.mk (.type "type") none (.cls (PySem.ClassData.mk "Unknown" [(.ref 201)] [(.ref 297),(.ref 201),(.type "object")] 296 "Unknown" Bool.true [] [] Bool.false none Bool.false)) #[(some (.ref 253)),none,(some (.str "Unknown" 518)),(some (.str "Unknown" 526)),(some (.builtin "object.__new__")),(some (.bool Bool.true))]))::
 (nat_lit 312,co "__init__" "Pair.__init__" 595 596 597 602 147 3 307 308 (.ref 309) (.ref 310) 311 601)::
 (nat_lit 313,fo "__init__" "Pair.__init__" (zaO (top 32) 0) (.str "boxnarrow.kinds" 428) 312)::
 (nat_lit 319,co "back" "Pair.back" 604 605 606 614 151 4 314 315 (.ref 316) (.ref 317) 318 613)::
 (nat_lit 320,fo "back" "Pair.back" (zaO (top 32) 1) (.str "boxnarrow.kinds" 428) 319)::
 (nat_lit 329,(.mk (.type "dict") none (.dict #[(de P "__module__" 590 (.str "boxnarrow.kinds" 428)),(de P "__firstlineno__" 594 (.int 145 593)),(de P "__init__" 603 (.ref 313)),(de P "back" 615 (.ref 320)),(de P "slope" 626 (.ref 327)),(de P "__static_attributes__" 629 (.ref 328)),(de P "__doc__" 630 .none)] 2) #[]))::
 (nat_lit 330,(.mk (.type "type") none (.cls (PySem.ClassData.mk "Pair" [(.ref 201)] [(.ref 330),(.ref 201),(.type "object")] 329 "Pair" Bool.true [] [(.ref 377),(.ref 424),(.ref 471)] Bool.false none Bool.false)) #[(some (.ref 300)),none,(some (.str "Pair" 583)),(some (.str "Pair" 591)),(some (.builtin "object.__new__")),(some (.bool Bool.true))]))::
 (nat_lit 352,co "forth" "Plus.forth" 654 655 656 662 168 4 347 348 (.ref 349) (.ref 350) 351 661)::
 (nat_lit 353,fo "forth" "Plus.forth" (zaO (top 33) 1) (.str "boxnarrow.kinds" 428) 352)::
 (nat_lit 359,co "first_left" "Plus.first_left" 664 665 666 673 171 5 354 355 (.ref 356) (.ref 357) 358 672)::
 (nat_lit 360,fo "first_left" "Plus.first_left" (zaO (top 33) 2) (.str "boxnarrow.kinds" 428) 359)::
 (nat_lit 366,co "second_left" "Plus.second_left" 675 676 677 684 174 5 361 362 (.ref 363) (.ref 364) 365 683)::
 (nat_lit 367,fo "second_left" "Plus.second_left" (zaO (top 33) 3) (.str "boxnarrow.kinds" 428) 366)::
 (nat_lit 376,(.mk (.type "dict") none (.dict #[(de P "__module__" 640 (.str "boxnarrow.kinds" 428)),(de P "__firstlineno__" 644 (.int 163 643)),(de P "exact" 653 (.ref 346)),(de P "forth" 663 (.ref 353)),(de P "first_left" 674 (.ref 360)),(de P "second_left" 685 (.ref 367)),(de P "slope_of_both" 697 (.ref 374)),(de P "__static_attributes__" 698 (.ref 375)),(de P "__doc__" 699 .none)] 2) #[]))::
 (nat_lit 377,(.mk (.type "type") none (.cls (PySem.ClassData.mk "Plus" [(.ref 330)] [(.ref 377),(.ref 330),(.ref 201),(.type "object")] 376 "Plus" Bool.true [] [] Bool.false none Bool.false)) #[(some (.ref 333)),none,(some (.str "Plus" 633)),(some (.str "Plus" 641)),(some (.builtin "object.__new__")),(some (.bool Bool.true))]))::
 (nat_lit 399,co "forth" "Minus.forth" 723 724 725 731 184 4 394 395 (.ref 396) (.ref 397) 398 730)::
 (nat_lit 400,fo "forth" "Minus.forth" (zaO (top 34) 1) (.str "boxnarrow.kinds" 428) 399)::
 (nat_lit 406,co "first_left" "Minus.first_left" 733 734 735 742 187 5 401 402 (.ref 403) (.ref 404) 405 741)::
 (nat_lit 407,fo "first_left" "Minus.first_left" (zaO (top 34) 2) (.str "boxnarrow.kinds" 428) 406)::
 (nat_lit 413,co "second_left" "Minus.second_left" 744 745 746 753 190 5 408 409 (.ref 410) (.ref 411) 412 752)::
 (nat_lit 414,fo "second_left" "Minus.second_left" (zaO (top 34) 3) (.str "boxnarrow.kinds" 428) 413)::
 (nat_lit 423,(.mk (.type "dict") none (.dict #[(de P "__module__" 709 (.str "boxnarrow.kinds" 428)),(de P "__firstlineno__" 713 (.int 179 712)),(de P "exact" 722 (.ref 393)),(de P "forth" 732 (.ref 400)),(de P "first_left" 743 (.ref 407)),(de P "second_left" 754 (.ref 414)),(de P "slope_of_both" 766 (.ref 421)),(de P "__static_attributes__" 767 (.ref 422)),(de P "__doc__" 768 .none)] 2) #[]))::
 (nat_lit 424,(.mk (.type "type") none (.cls (PySem.ClassData.mk "Minus" [(.ref 330)] [(.ref 424),(.ref 330),(.ref 201),(.type "object")] 423 "Minus" Bool.true [] [] Bool.false none Bool.false)) #[(some (.ref 380)),none,(some (.str "Minus" 702)),(some (.str "Minus" 710)),(some (.builtin "object.__new__")),(some (.bool Bool.true))]))::
 (nat_lit 446,co "forth" "Times.forth" 792 793 794 800 200 4 441 442 (.ref 443) (.ref 444) 445 799)::
 (nat_lit 447,fo "forth" "Times.forth" (zaO (top 35) 1) (.str "boxnarrow.kinds" 428) 446)::
 (nat_lit 453,co "first_left" "Times.first_left" 802 803 804 811 203 5 448 449 (.ref 450) (.ref 451) 452 810)::
 (nat_lit 454,fo "first_left" "Times.first_left" (zaO (top 35) 2) (.str "boxnarrow.kinds" 428) 453)::
 (nat_lit 460,co "second_left" "Times.second_left" 813 814 815 822 206 5 455 456 (.ref 457) (.ref 458) 459 821)::
 (nat_lit 461,fo "second_left" "Times.second_left" (zaO (top 35) 3) (.str "boxnarrow.kinds" 428) 460)::
 (nat_lit 470,(.mk (.type "dict") none (.dict #[(de P "__module__" 778 (.str "boxnarrow.kinds" 428)),(de P "__firstlineno__" 782 (.int 195 781)),(de P "exact" 791 (.ref 440)),(de P "forth" 801 (.ref 447)),(de P "first_left" 812 (.ref 454)),(de P "second_left" 823 (.ref 461)),(de P "slope_of_both" 835 (.ref 468)),(de P "__static_attributes__" 836 (.ref 469)),(de P "__doc__" 837 .none)] 2) #[]))::
 (nat_lit 471,(.mk (.type "type") none (.cls (PySem.ClassData.mk "Times" [(.ref 330)] [(.ref 471),(.ref 330),(.ref 201),(.type "object")] 470 "Times" Bool.true [] [] Bool.false none Bool.false)) #[(some (.ref 427)),none,(some (.str "Times" 771)),(some (.str "Times" 779)),(some (.builtin "object.__new__")),(some (.bool Bool.true))]))::
 (nat_lit 486,co "__init__" "Power.__init__" 852 853 854 859 213 3 481 482 (.ref 483) (.ref 484) 485 858)::
 (nat_lit 487,fo "__init__" "Power.__init__" (zaO (top 36) 0) (.str "boxnarrow.kinds" 428) 486)::
 (nat_lit 500,co "forth" "Power.forth" 870 871 872 878 220 4 495 496 (.ref 497) (.ref 498) 499 877)::
 (nat_lit 501,fo "forth" "Power.forth" (zaO (top 36) 2) (.str "boxnarrow.kinds" 428) 500)::
 (nat_lit 507,co "back" "Power.back" 880 881 882 889 223 4 502 503 (.ref 504) (.ref 505) 506 888)::
 (nat_lit 508,fo "back" "Power.back" (zaO (top 36) 3) (.str "boxnarrow.kinds" 428) 507)::
 (nat_lit 517,(.mk (.type "dict") none (.dict #[(de P "__module__" 847 (.str "boxnarrow.kinds" 428)),(de P "__firstlineno__" 851 (.int 211 850)),(de P "__init__" 860 (.ref 487)),(de P "exact" 869 (.ref 494)),(de P "forth" 879 (.ref 501)),(de P "back" 890 (.ref 508)),(de P "slope" 901 (.ref 515)),(de P "__static_attributes__" 904 (.ref 516)),(de P "__doc__" 905 .none)] 2) #[]))::
 (nat_lit 518,(.mk (.type "type") none (.cls (PySem.ClassData.mk "Power" [(.ref 201)] [(.ref 518),(.ref 201),(.type "object")] 517 "Power" Bool.true [] [] Bool.false none Bool.false)) #[(some (.ref 474)),none,(some (.str "Power" 840)),(some (.str "Power" 848)),(some (.builtin "object.__new__")),(some (.bool Bool.true))]))::
 (nat_lit 526,co "kind_of" "kind_of" 908 909 910 913 231 1 521 522 (.ref 523) (.ref 524) 525 912)::
 (nat_lit 527,fo "kind_of" "kind_of" (top 37) (.str "boxnarrow.kinds" 428) 526)::
 (nat_lit 533,co "worths" "worths" 917 918 919 926 244 3 528 529 (.ref 530) (.ref 531) 532 925)::
 (nat_lit 534,fo "worths" "worths" (top 39) (.str "boxnarrow.worths" 915) 533)::
 (nat_lit 540,co "bars" "bars" 928 929 930 934 249 2 535 536 (.ref 537) (.ref 538) 539 933)::
 (nat_lit 541,fo "bars" "bars" (top 40) (.str "boxnarrow.worths" 915) 540)::
 (nat_lit 547,co "asked_of" "asked_of" 938 939 940 944 254 2 542 543 (.ref 544) (.ref 545) 546 943)::
 (nat_lit 548,fo "asked_of" "asked_of" (top 42) (.str "boxnarrow.narrow" 936) 547)::
 (nat_lit 554,co "spans_back" "spans_back" 946 947 948 960 258 4 549 550 (.ref 551) (.ref 552) 553 959)::
 (nat_lit 555,fo "spans_back" "spans_back" (top 43) (.str "boxnarrow.narrow" 936) 554)::
 (nat_lit 561,co "narrowed" "narrowed" 962 963 964 975 272 4 556 557 (.ref 558) (.ref 559) 560 974)::
 (nat_lit 562,fo "narrowed" "narrowed" (top 44) (.str "boxnarrow.narrow" 936) 561)::
 (nat_lit 568,co "with_span" "with_span" 979 980 981 986 283 3 563 564 (.ref 565) (.ref 566) 567 985)::
 (nat_lit 569,fo "with_span" "with_span" (top 46) (.str "boxnarrow.shaving" 977) 568)::
 (nat_lit 575,co "is_barred" "is_barred" 988 989 990 997 285 4 570 571 (.ref 572) (.ref 573) 574 996)::
 (nat_lit 576,fo "is_barred" "is_barred" (top 47) (.str "boxnarrow.shaving" 977) 575)::
 (nat_lit 582,co "cut_off" "cut_off" 999 1000 1001 1005 288 2 577 578 (.ref 579) (.ref 580) 581 1004)::
 (nat_lit 583,fo "cut_off" "cut_off" (top 48) (.str "boxnarrow.shaving" 977) 582)::
 (nat_lit 589,co "cut_back" "cut_back" 1007 1008 1009 1013 290 2 584 585 (.ref 586) (.ref 587) 588 1012)::
 (nat_lit 590,fo "cut_back" "cut_back" (top 49) (.str "boxnarrow.shaving" 977) 589)::
 (nat_lit 596,co "is_shave" "is_shave" 1015 1016 1017 1026 292 5 591 592 (.ref 593) (.ref 594) 595 1025)::
 (nat_lit 597,fo "is_shave" "is_shave" (top 50) (.str "boxnarrow.shaving" 977) 596)::
 (nat_lit 603,co "shaves" "shaves" 1028 1029 1030 1042 298 4 598 599 (.ref 600) (.ref 601) 602 1041)::
 (nat_lit 604,fo "shaves" "shaves" (top 51) (.str "boxnarrow.shaving" 977) 603)::
 (nat_lit 610,co "_law_cell" "_law_cell" 1046 1047 1048 1052 313 2 605 606 (.ref 607) (.ref 608) 609 1051)::
 (nat_lit 611,fo "_law_cell" "_law_cell" (top 53) (.str "law_boxnarrow_k38_whole_shaves_by_narrowing" 1044) 610)::
 (nat_lit 617,co "_law_whole" "_law_whole" 1054 1055 1056 1059 317 1 612 613 (.ref 614) (.ref 615) 616 1058)::
 (nat_lit 618,fo "_law_whole" "_law_whole" (top 54) (.str "law_boxnarrow_k38_whole_shaves_by_narrowing" 1044) 617)::
 (nat_lit 624,co "_law_span_is" "_law_span_is" 1061 1062 1063 1066 319 1 619 620 (.ref 621) (.ref 622) 623 1065)::
 (nat_lit 625,fo "_law_span_is" "_law_span_is" (top 55) (.str "law_boxnarrow_k38_whole_shaves_by_narrowing" 1044) 624)::
 (nat_lit 631,co "_law_spans_are" "_law_spans_are" 1068 1069 1070 1075 323 2 626 627 (.ref 628) (.ref 629) 630 1074)::
 (nat_lit 632,fo "_law_spans_are" "_law_spans_are" (top 56) (.str "law_boxnarrow_k38_whole_shaves_by_narrowing" 1044) 631)::
 (nat_lit 638,co "_law_divisor" "_law_divisor" 1077 1078 1079 1084 330 2 633 634 (.ref 635) (.ref 636) 637 1083)::
 (nat_lit 639,fo "_law_divisor" "_law_divisor" (top 57) (.str "law_boxnarrow_k38_whole_shaves_by_narrowing" 1044) 638)::
 (nat_lit 645,co "_law_fraction" "_law_fraction" 1086 1087 1088 1093 336 2 640 641 (.ref 642) (.ref 643) 644 1092)::
 (nat_lit 646,fo "_law_fraction" "_law_fraction" (top 58) (.str "law_boxnarrow_k38_whole_shaves_by_narrowing" 1044) 645)::
 (nat_lit 652,co "_law_grid" "_law_grid" 1095 1096 1097 1101 339 1 647 648 (.ref 649) (.ref 650) 651 1100)::
 (nat_lit 653,fo "_law_grid" "_law_grid" (top 59) (.str "law_boxnarrow_k38_whole_shaves_by_narrowing" 1044) 652)::
 (nat_lit 659,co "_law_span" "_law_span" 1103 1104 1105 1112 342 1 654 655 (.ref 656) (.ref 657) 658 1111)::
 (nat_lit 660,fo "_law_span" "_law_span" (top 60) (.str "law_boxnarrow_k38_whole_shaves_by_narrowing" 1044) 659)::
 (nat_lit 666,co "_law_power" "_law_power" 1114 1115 1116 1122 356 2 661 662 (.ref 663) (.ref 664) 665 1121)::
 (nat_lit 667,fo "_law_power" "_law_power" (top 61) (.str "law_boxnarrow_k38_whole_shaves_by_narrowing" 1044) 666)::
 (nat_lit 673,co "_law_number" "_law_number" 1124 1125 1126 1131 361 1 668 669 (.ref 670) (.ref 671) 672 1130)::
 (nat_lit 674,fo "_law_number" "_law_number" (top 62) (.str "law_boxnarrow_k38_whole_shaves_by_narrowing" 1044) 673)::
 (nat_lit 680,co "_law_node" "_law_node" 1133 1134 1135 1143 368 3 675 676 (.ref 677) (.ref 678) 679 1142)::
 (nat_lit 681,fo "_law_node" "_law_node" (top 63) (.str "law_boxnarrow_k38_whole_shaves_by_narrowing" 1044) 680)::
 (nat_lit 687,co "_law_weight" "_law_weight" 1145 1146 1147 1151 382 2 682 683 (.ref 684) (.ref 685) 686 1150)::
 (nat_lit 688,fo "_law_weight" "_law_weight" (top 64) (.str "law_boxnarrow_k38_whole_shaves_by_narrowing" 1044) 687)::
 (nat_lit 692,co "_law_net" "_law_net" 1153 1154 1155 1157 388 5 689 690 .none .none 691 1156)::
 (nat_lit 693,fo "_law_net" "_law_net" (top 65) (.str "law_boxnarrow_k38_whole_shaves_by_narrowing" 1044) 692)::
 (nat_lit 699,co "_law_exact" "_law_exact" 1159 1160 1161 1168 402 3 694 695 (.ref 696) (.ref 697) 698 1167)::
 (nat_lit 700,fo "_law_exact" "_law_exact" (top 66) (.str "law_boxnarrow_k38_whole_shaves_by_narrowing" 1044) 699)::
 (nat_lit 706,co "_law_exacts" "_law_exacts" 1170 1171 1172 1178 416 2 701 702 (.ref 703) (.ref 704) 705 1177)::
 (nat_lit 707,fo "_law_exacts" "_law_exacts" (top 67) (.str "law_boxnarrow_k38_whole_shaves_by_narrowing" 1044) 706)::
 (nat_lit 713,co "_law_point" "_law_point" 1180 1181 1182 1192 421 3 708 709 (.ref 710) (.ref 711) 712 1191)::
 (nat_lit 714,fo "_law_point" "_law_point" (top 68) (.str "law_boxnarrow_k38_whole_shaves_by_narrowing" 1044) 713)::
 (nat_lit 720,co "_law_put" "_law_put" 1194 1195 1196 1200 432 2 715 716 (.ref 717) (.ref 718) 719 1199)::
 (nat_lit 721,fo "_law_put" "_law_put" (top 69) (.str "law_boxnarrow_k38_whole_shaves_by_narrowing" 1044) 720)::
 (nat_lit 727,co "_law_met_row" "_law_met_row" 1202 1203 1204 1216 436 4 722 723 (.ref 724) (.ref 725) 726 1215)::
 (nat_lit 728,fo "_law_met_row" "_law_met_row" (top 70) (.str "law_boxnarrow_k38_whole_shaves_by_narrowing" 1044) 727)::
 (nat_lit 734,co "_law_row_by" "_law_row_by" 1218 1219 1220 1227 452 4 729 730 (.ref 731) (.ref 732) 733 1226)::
 (nat_lit 735,fo "_law_row_by" "_law_row_by" (top 71) (.str "law_boxnarrow_k38_whole_shaves_by_narrowing" 1044) 734)::
 (nat_lit 741,co "_law_forth" "_law_forth" 1229 1230 1231 1242 457 4 736 737 (.ref 738) (.ref 739) 740 1241)::
 (nat_lit 742,fo "_law_forth" "_law_forth" (top 72) (.str "law_boxnarrow_k38_whole_shaves_by_narrowing" 1044) 741)::
 (nat_lit 748,co "_law_worths" "_law_worths" 1244 1245 1246 1253 477 3 743 744 (.ref 745) (.ref 746) 747 1252)::
 (nat_lit 749,fo "_law_worths" "_law_worths" (top 73) (.str "law_boxnarrow_k38_whole_shaves_by_narrowing" 1044) 748)::
 (nat_lit 755,co "_law_barred" "_law_barred" 1255 1256 1257 1264 482 4 750 751 (.ref 752) (.ref 753) 754 1263)::
 (nat_lit 756,fo "_law_barred" "_law_barred" (top 74) (.str "law_boxnarrow_k38_whole_shaves_by_narrowing" 1044) 755)::
 (nat_lit 762,co "_law_with" "_law_with" 1266 1267 1268 1274 487 3 757 758 (.ref 759) (.ref 760) 761 1273)::
 (nat_lit 763,fo "_law_with" "_law_with" (top 75) (.str "law_boxnarrow_k38_whole_shaves_by_narrowing" 1044) 762)::
 (nat_lit 769,co "_law_shaves" "_law_shaves" 1276 1277 1278 1290 491 5 764 765 (.ref 766) (.ref 767) 768 1289)::
 (nat_lit 770,fo "_law_shaves" "_law_shaves" (top 76) (.str "law_boxnarrow_k38_whole_shaves_by_narrowing" 1044) 769)::
 (nat_lit 776,co "_law_cuts_are" "_law_cuts_are" 1292 1293 1294 1299 510 2 771 772 (.ref 773) (.ref 774) 775 1298)::
 (nat_lit 777,fo "_law_cuts_are" "_law_cuts_are" (top 77) (.str "law_boxnarrow_k38_whole_shaves_by_narrowing" 1044) 776)::
 (nat_lit 783,co "_law_digit_span" "_law_digit_span" 1301 1302 1303 1307 521 1 778 779 (.ref 780) (.ref 781) 782 1306)::
 (nat_lit 784,fo "_law_digit_span" "_law_digit_span" (top 78) (.str "law_boxnarrow_k38_whole_shaves_by_narrowing" 1044) 783)::
 (nat_lit 790,co "_law_digit_node" "_law_digit_node" 1309 1310 1311 1318 524 3 785 786 (.ref 787) (.ref 788) 789 1317)::
 (nat_lit 791,fo "_law_digit_node" "_law_digit_node" (top 79) (.str "law_boxnarrow_k38_whole_shaves_by_narrowing" 1044) 790)::
 (nat_lit 795,co "_law_by_digits" "_law_by_digits" 1320 1321 1322 1324 535 1 792 793 .none .none 794 1323)::
 (nat_lit 796,fo "_law_by_digits" "_law_by_digits" (top 80) (.str "law_boxnarrow_k38_whole_shaves_by_narrowing" 1044) 795)::
 (nat_lit 800,co "_law_drawn" "_law_drawn" 1326 1327 1328 1330 551 1 797 798 .none .none 799 1329)::
 (nat_lit 801,fo "_law_drawn" "_law_drawn" (top 81) (.str "law_boxnarrow_k38_whole_shaves_by_narrowing" 1044) 800)::
 (nat_lit 807,co "law" "law" 1332 1333 1334 1347 562 1 802 803 (.ref 804) (.ref 805) 806 1346)::
 (nat_lit 808,fo "law" "law" (top 82) (.str "law_boxnarrow_k38_whole_shaves_by_narrowing" 1044) 807)::[]
def ks:List Addr:=nat_lit 3::nat_lit 30::nat_lit 31::nat_lit 43::nat_lit 44::nat_lit 52::nat_lit 53::nat_lit 59::nat_lit 60::nat_lit 66::nat_lit 67::nat_lit 73::nat_lit 74::nat_lit 80::nat_lit 81::nat_lit 87::nat_lit 88::nat_lit 94::nat_lit 95::nat_lit 99::nat_lit 100::nat_lit 106::nat_lit 107::nat_lit 113::nat_lit 114::nat_lit 120::nat_lit 121::nat_lit 127::nat_lit 128::nat_lit 134::nat_lit 135::nat_lit 141::nat_lit 142::nat_lit 148::nat_lit 149::nat_lit 155::nat_lit 156::nat_lit 162::nat_lit 163::nat_lit 169::nat_lit 170::nat_lit 176::nat_lit 177::nat_lit 183::nat_lit 184::nat_lit 190::nat_lit 191::nat_lit 200::nat_lit 201::nat_lit 218::nat_lit 219::nat_lit 232::nat_lit 233::nat_lit 239::nat_lit 240::nat_lit 249::nat_lit 250::nat_lit 265::nat_lit 266::nat_lit 279::nat_lit 280::nat_lit 286::nat_lit 287::nat_lit 296::nat_lit 297::nat_lit 312::nat_lit 313::nat_lit 319::nat_lit 320::nat_lit 329::nat_lit 330::nat_lit 352::nat_lit 353::nat_lit 359::nat_lit 360::nat_lit 366::nat_lit 367::nat_lit 376::nat_lit 377::nat_lit 399::nat_lit 400::nat_lit 406::nat_lit 407::nat_lit 413::nat_lit 414::nat_lit 423::nat_lit 424::nat_lit 446::nat_lit 447::nat_lit 453::nat_lit 454::nat_lit 460::nat_lit 461::nat_lit 470::nat_lit 471::nat_lit 486::nat_lit 487::nat_lit 500::nat_lit 501::nat_lit 507::nat_lit 508::nat_lit 517::nat_lit 518::nat_lit 526::nat_lit 527::nat_lit 533::nat_lit 534::nat_lit 540::nat_lit 541::nat_lit 547::nat_lit 548::nat_lit 554::nat_lit 555::nat_lit 561::nat_lit 562::nat_lit 568::nat_lit 569::nat_lit 575::nat_lit 576::nat_lit 582::nat_lit 583::nat_lit 589::nat_lit 590::nat_lit 596::nat_lit 597::nat_lit 603::nat_lit 604::nat_lit 610::nat_lit 611::nat_lit 617::nat_lit 618::nat_lit 624::nat_lit 625::nat_lit 631::nat_lit 632::nat_lit 638::nat_lit 639::nat_lit 645::nat_lit 646::nat_lit 652::nat_lit 653::nat_lit 659::nat_lit 660::nat_lit 666::nat_lit 667::nat_lit 673::nat_lit 674::nat_lit 680::nat_lit 681::nat_lit 687::nat_lit 688::nat_lit 692::nat_lit 693::nat_lit 699::nat_lit 700::nat_lit 706::nat_lit 707::nat_lit 713::nat_lit 714::nat_lit 720::nat_lit 721::nat_lit 727::nat_lit 728::nat_lit 734::nat_lit 735::nat_lit 741::nat_lit 742::nat_lit 748::nat_lit 749::nat_lit 755::nat_lit 756::nat_lit 762::nat_lit 763::nat_lit 769::nat_lit 770::nat_lit 776::nat_lit 777::nat_lit 783::nat_lit 784::nat_lit 790::nat_lit 791::nat_lit 795::nat_lit 796::nat_lit 800::nat_lit 801::nat_lit 807::nat_lit 808::[]
theorem zeC (P:Params):ks=(kp P).map (·.1):=by kernel_rfl
noncomputable abbrev hk:PySem.W.Hook:=PySem.W.kHook kp ks zeC
abbrev xt (s:Shared):Bool:=PySem.W.xlAt vw [] s&&PySem.W.recOk (PySem.W.RowW.records (PySem.W.OpenRow.toRowW (PySem.W.OpenLaw.row PySem.Challenge.rw_boxnarrow_k38_whole_shaves_by_narrowing))) s
theorem zo9:PySem.W.opening PySem.Challenge.pw_boxnarrow_k38_whole_shaves_by_narrowing=PySem.W.plainProg PySem.Challenge.pw_boxnarrow_k38_whole_shaves_by_narrowing.main.scope.names:=by kernel_rfl
theorem fe_eq (s:Shared):PySem.fenceModules? PySem.Challenge.pw_boxnarrow_k38_whole_shaves_by_narrowing s=some s:=by kernel_rfl
theorem si_eq (w:World):((PySem.W.boot_heap w.params).isNs mainGlobals&&(Array.mk []:Array GenState).size==0,(PySem.W.boot_heap w.params).objs.size,(PySem.W.boot_heap w.params).nsMap mainGlobals "__annotations__")=(true,11,some (.ref 6)):=by kernel_rfl
open PySem.W PySem.Calls in
theorem zwF (w:World):(λos=>(L3.goT PySem.treeTable PySem.Challenge.pw_boxnarrow_k38_whole_shaves_by_narrowing w 11 (some (.ref 6)) 10858 (L3.zcr w os) (PySem.W.topStub PySem.Challenge.pw_boxnarrow_k38_whole_shaves_by_narrowing)).map λs=>(L3.znF PySem.Challenge.pw_boxnarrow_k38_whole_shaves_by_narrowing w s))=λ_=>some (true):=by kernel_rfl
open PySem.W PySem.Calls in
theorem zxj (w:World):(λos=>(L3.goT PySem.treeTable PySem.Challenge.pw_boxnarrow_k38_whole_shaves_by_narrowing w 11 (some (.ref 6)) 10858 (L3.zcr w os) (PySem.W.topStub PySem.Challenge.pw_boxnarrow_k38_whole_shaves_by_narrowing)).map λs=>(seen ((recsOf vw).map (·.name)) (ownsOf vw) [] { s.abs with gens:=#[] }))=λ_=>some (expectedOf vw):=by kernel_rfl
open PySem.W PySem.Calls in
theorem zu9 (w:World):(λos=>(L3.goT PySem.treeTable PySem.Challenge.pw_boxnarrow_k38_whole_shaves_by_narrowing w 11 (some (.ref 6)) 10858 (L3.zcr w os) (PySem.W.topStub PySem.Challenge.pw_boxnarrow_k38_whole_shaves_by_narrowing)).map λs=>(s.abs.heap.bltView))=λ_=>some (bltViewBooted):=by kernel_rfl
open PySem.W PySem.Calls in
theorem zwz (w:World):(λos=>(L3.goT PySem.treeTable PySem.Challenge.pw_boxnarrow_k38_whole_shaves_by_narrowing w 11 (some (.ref 6)) 10858 (L3.zcr w os) (PySem.W.topStub PySem.Challenge.pw_boxnarrow_k38_whole_shaves_by_narrowing)).map λs=>(s.abs.heap.keysOk (looseW vw []) ((recsOf vw).map (·.name)) ((litsOf vw).map (·.1)) ((clssOf vw (looseW vw [])).map (·.name))&&s.abs.heap.accountedOkI (importedModules PySem.Challenge.pw_boxnarrow_k38_whole_shaves_by_narrowing.main.body)&&s.abs.heap.isNs mainGlobals&&s.abs.heap.isNs builtinsNs&&tablesOk vw s.abs.heap&&xt s.abs&&(if true then s.abs.gens.size==0 else !leftWithCleanup s.abs.gens)))=λ_=>some (true):=by kernel_rfl
open PySem.W PySem.Calls in
theorem zuD (w:World):(λos=>(L3.goT PySem.treeTable PySem.Challenge.pw_boxnarrow_k38_whole_shaves_by_narrowing w 11 (some (.ref 6)) 10858 (L3.zcr w os) (PySem.W.topStub PySem.Challenge.pw_boxnarrow_k38_whole_shaves_by_narrowing)).map λs=>(tabsOk vw s.abs))=λ_=>some (true):=by kernel_rfl
open PySem.W PySem.Calls in
theorem zvz (w:World):(λos=>(L3.goT PySem.treeTable PySem.Challenge.pw_boxnarrow_k38_whole_shaves_by_narrowing w 11 (some (.ref 6)) 10858 (L3.zcr w os) (PySem.W.topStub PySem.Challenge.pw_boxnarrow_k38_whole_shaves_by_narrowing)).map λs=>(pinSeenD vw (drecsOf vw) s.abs,plainSeenE vw (looseW vw []) s.abs,plainSeenD vw [] s.abs,wideSeen vw s.abs,clsSeenW vw [] s.abs))=λ_=>some (pinGoodD (drecsOf vw),plainGoodE vw (looseW vw []),plainGoodD vw [],wideGood vw,clsGoodW vw []):=by kernel_rfl
theorem ob_eq (w:World):(λos=>(L3.goT PySem.treeTable PySem.Challenge.pw_boxnarrow_k38_whole_shaves_by_narrowing w 11 (some (.ref 6)) 10858 (L3.zcr w os) (PySem.W.topStub PySem.Challenge.pw_boxnarrow_k38_whole_shaves_by_narrowing)).map λs=>ks.map (L3.zmb s))=λ_=>some (hk.val w):=by kernel_rfl
theorem left:PySem.W.LeftO PySem.Challenge.pw_boxnarrow_k38_whole_shaves_by_narrowing vw [] xt hk.obs hk.val 10858:=L3.zvJ (L3.zuq ks) zo9 (by decide) fe_eq si_eq (λw=>L3.zor (zwF w) (zxj w)) (λw=>L3.zor (zu9 w) (zwz w)) (λw=>L3.zor (zuD w) (zvz w)) ob_eq
end Mine
set_option Elab.async false
set_option linter.all false
set_option maxRecDepth 100000
namespace L2
open PySem PySem.Spec PyProof.Rows
abbrev Key:=Sum Int Str
def zqV:Key→Value→Bool
 | .inl k,v=>Value.isInt k v
 | .inr x,v=>Value.isStrOf x v
def keyH (w:World):Key→Int
 | .inl k=>hashInt k
 | .inr x=>hashStr w x
theorem zcV:∀ {k:Key} {v:Value},zqV k v=true→(∃i t,k=Sum.inl i∧v=Value.int i t)∨(∃x t,k=Sum.inr x∧v=Value.str x t)
 | .inl i,v,h=>by
  obtain⟨t,e⟩:=Value.isInt_shape (k:=i) (v:=v) h
  exact .inl ⟨i,t,rfl,e⟩
 | .inr x,v,h=>by
  obtain⟨t,e⟩:=Value.isStrOf_shape (x:=x) (v:=v) h
  exact .inr ⟨x,t,rfl,e⟩
theorem zvP (a b:Int):decide ((Sum.inl a:Key)=Sum.inl b)=(a==b):=by
 by_cases e:a=b
 ·subst e; simp
 ·have h:¬ (Sum.inl a:Key)=Sum.inl b:=λq=>e (Sum.inl.inj q)
  rw[decide_eq_false h]
  exact(beq_eq_false_iff_ne.mpr e).symm
theorem zyj (a b:Str):decide ((Sum.inr a:Key)=Sum.inr b)=decide (a=b):=by
 by_cases e:a=b
 ·subst e; simp
 ·have h:¬ (Sum.inr a:Key)=Sum.inr b:=λq=>e (Sum.inr.inj q)
  rw[decide_eq_false h,decide_eq_false e]
theorem ztb (a:Int)(b:Str):decide ((Sum.inl a:Key)=Sum.inr b)=false:=decide_eq_false (λq=>nomatch q)
theorem zub (a:Str)(b:Int):decide ((Sum.inr a:Key)=Sum.inl b)=false:=decide_eq_false (λq=>nomatch q)
def zrn (prog:Program)(w:World):PySem.KeyKind prog w Key where
 is:=zqV
 hash:=keyH w
 inj:=λv a b ha hb=>by
  rcases zcV ha with ⟨i,t,rfl,rfl⟩ | ⟨x,t,rfl,rfl⟩
  ·rcases zcV hb with ⟨j,u,rfl,e⟩ | ⟨y,u,rfl,e⟩
   ·injection e with e1 _; rw[e1]
   ·exact nomatch e
  ·rcases zcV hb with ⟨j,u,rfl,e⟩ | ⟨y,u,rfl,e⟩
   ·exact nomatch e
   ·injection e with e1 _; rw[e1]
 byValue:=λk v h=>by
  rcases zcV h with ⟨i,t,rfl,rfl⟩ | ⟨x,t,rfl,rfl⟩ <;> rfl
 pyHash:=λhv h=>by
  rcases zcV hv with ⟨i,t,rfl,rfl⟩ | ⟨x,t,rfl,rfl⟩
  ·exact wpAny_pyHash_int h
  ·exact wpAny_pyHash_str h
 eqBool:=λhu hv h=>by
  rcases zcV hu with ⟨i,t,rfl,rfl⟩ | ⟨x,t,rfl,rfl⟩
  ·rcases zcV hv with ⟨j,u,rfl,rfl⟩ | ⟨y,u,rfl,rfl⟩
   ·rw[zvP] at h; exact wpAny_eqBool_int h
   ·rw[ztb] at h; exact SeqAt.EqAt.int_str i t y u _ _ _ _ h
  ·rcases zcV hv with ⟨j,u,rfl,rfl⟩ | ⟨y,u,rfl,rfl⟩
   ·rw[zub] at h; exact SeqAt.EqAt.str_int x t j u _ _ _ _ h
   ·rw[zyj] at h; exact wpAny_eqBool_str h
 «strs»:=λk x t v h=>by
  rcases zcV h with ⟨i,u,rfl,e⟩ | ⟨y,u,rfl,e⟩
  ·exact nomatch e
  ·injection e with e1 _
   subst e1
   cases v <;> rfl
end L2
namespace L2
open PySem PySem.Spec PyProof.Rows
inductive V where
 | non | bl (b:Bool) | int (i:Int) | str (x:Str) | byt (b:Array UInt8) | flt (b:UInt64) | ref (a:Addr) | ty (n:String)
 deriving DecidableEq
def zay:V→Value→Prop
 | .non,u=>u=Value.none
 | .bl b,u=>u=Value.bool b
 | .int i,u=>∃t,u=Value.int i t
 | .str x,u=>∃t,u=Value.str x t
 | .byt b,u=>∃t,u=Value.bytes b t
 | .flt b,u=>∃t,u=Value.float b t
 | .ref a,u=>u=Value.ref a
 | .ty n,u=>u=Value.type n
abbrev zaA:List V→List Value→Prop:=Paired zay
theorem zaA.length {xs:List V}{us:List Value}(r:zaA xs us):xs.length=us.length:=Paired.length r
theorem zaA.get:∀ {xs:List V} {us:List Value} {i:Nat} {x:V},zaA xs us→xs[i]?=some x→∃u,us[i]?=some u∧zay x u
 | _,_,_,_,.nil,e=>by simp at e
 | _,_,0,_,.cons r _,e=>by simp at e; subst e; exact⟨_,rfl,r⟩
 | _,_,i+1,x,.cons _ t,e=>by
  obtain⟨u,h1,h2⟩:=zaA.get (i:=i) (x:=x) t (by simpa using e)
  exact⟨u,by simpa using h1,h2⟩
theorem zaA.set {x:V}{u:Value}(r:zay x u):∀ {xs:List V} {us:List Value} (i:Nat),zaA xs us→zaA (xs.set i x) (us.set i u)
 | _,_,_,.nil=>.nil
 | _,_,0,.cons _ t=>.cons r t
 | _,_,i+1,.cons q t=>.cons q (zaA.set r i t)
theorem zaA.append:∀ {xs ys:List V} {us ws:List Value},zaA xs us→zaA ys ws→zaA (xs++ys) (us++ws)
 | _,_,_,_,.nil,s=>s
 | _,_,_,_,.cons r t,s=>.cons r (zaA.append t s)
theorem zaA.take:∀ {xs:List V} {us:List Value} (n:Nat),zaA xs us→zaA (xs.take n) (us.take n)
 | _,_,0,_=>.nil
 | _,_,_+1,.nil=>.nil
 | _,_,n+1,.cons r t=>.cons r (zaA.take n t)
theorem zaA.drop:∀ {xs:List V} {us:List Value} (n:Nat),zaA xs us→zaA (xs.drop n) (us.drop n)
 | _,_,0,r=>r
 | _,_,_+1,.nil=>.nil
 | _,_,n+1,.cons _ t=>zaA.drop n t
theorem zaA.none_of:∀ {xs:List V} {us:List Value} {i:Nat},zaA xs us→xs[i]?=none→us[i]?=none:=λ{xs us i} r e=>by
 have h1:=r.length
 have h2:xs.length≤i:=VaL.mp e
 exact VaL.mpr (by omega)
def zbI:Option V→Option Value→Prop
 | some v,some u=>zay v u
 | none,none=>True
 | _,_=>False
def KV {κ:Type}:List (κ×V)→List (κ×Value)→Prop:=Paired λ(p:κ×V) (q:κ×Value)=>p.1=q.1∧zay p.2 q.2
def kV:Key→V
 | .inl i=>.int i
 | .inr x=>.str x
inductive HO where
  | lst (xs:List V)
  | tup (xs:List V)
  | dK (kvs:List (Key×V)) | dT (kvs:List (List Key×V))
  | set (S:Int→Bool) (n:Nat)
  | ins (C dx:Addr) (fs:List (Str×V))
  | own (x:Addr)
  | xd (fs:List (Str×V))
  | met (f x:Addr)
  | rng (lo hi:Int)
  | frz (o:Obj) (u:HO)
  | tbl (ps:Array Value)
  | ext (φ:Heap→Prop)
abbrev Hp:=Addr→Option HO
def upd (H:Hp)(a:Addr)(o:HO):Hp:=λb=>if b=a then some o else H b
theorem zcL {H:Hp}{a:Addr}{o:HO}:upd H a o a=some o:=by unfold upd; rw[if_pos rfl]
theorem zbd {H:Hp}{a b:Addr}{o:HO}(h:b≠a):upd H a o b=H b:=by unfold upd; rw[if_neg h]
theorem zov {H:Hp}{a b:Addr}{o u:HO}(h:H a=some o)(h':H b=some u)(d:o≠u):a≠b:=by
 intro e; subst e; rw[h] at h'; exact d (Option.some.inj h')
theorem zdL {H:Hp}{a b:Addr}{o:HO}(h:H a=some o)(h':H b=none):a≠b:=by
 intro e; subst e; rw[h] at h'; cases h'
section
variable (P:Program)(w:World)
def zbv (H:Hp)(h:Heap)(a:Addr):HO→Prop
 | .lst xs=>xs.length≤sizeLine∧∃(its:List Value) (n:Nat),zaA xs its∧h.get? a=some { cls:=.type "list",data:=.seq its.toArray n }
 | .tup xs=>xs.length≤sizeLine∧∃its:List Value,zaA xs its∧IsTup h a its.toArray
 | .dK kvs=>kvs.length≤sizeLine∧(a==sysModules)=false∧∃vs,KV kvs vs∧h.DictOf (zrn P w) a vs
 | .dT kvs=>kvs.length≤sizeLine∧(a==sysModules)=false∧∃xs:List (List Key×Addr×Value),
   Paired (λ(p:List Key×V) (q:List Key×Addr×Value)=>p.1=q.1∧H q.2.1=some (.tup (p.1.map kV))∧zay p.2 q.2.2) kvs xs∧
   ∃o es ep,h.get? a=some o∧o.ExactDict∧o.data=.dict es ep∧es.toList=xs.map (entryOfKey (tupleKind (zrn P w)))∧(xs.map (·.1)).Nodup
 | .set S n=>h.SetOf (intKind P w) a S n
 | .ins C dx fs=>H dx=some (.own a)∧fs.length≤1000∧dx≠a∧h.get? a=some (PySem.W.instObj C dx)∧
   ∃mA,h.Ns1 dx mA∧(∀f,zbI (fs.lookup f) (mA f))∧PySem.Within mA (fs.map (·.1))
 | .own _=>∃o,h.get? a=some o
 | .xd fs=>∃mA,h.Ns1 a mA∧∀f,zbI (fs.lookup f) (mA f)
 | .rng lo hi=>∃t u v,h.get? a=some { cls:=.type "range",data:=.fields #[.int lo t,.int hi u,.int 1 v] }
 | .frz o u=>h.get? a=some o∧zbv H h a u
 | .tbl ps=>h.get? a=some { cls:=.none,data:=.fields ps }
 | .met f x=>h.get? a=some (PySem.W.methodObj (.ref f) (.ref x))
 | .ext φ=>φ h∧(∃o,h.get? a=some o)∧∀h1 h2:Heap,φ h1→(∀o,h1.get? a=some o→h2.get? a=some o)→φ h2
def HOk (H:Hp)(h:Heap):Prop:=∀a o,H a=some o→zbv P w H h a o
end
section
variable {P:Program}{w:World}{H H':Hp}{h h':Heap}{a:Addr}{o:HO}
theorem zbv.lt (x:zbv P w H h a o):a<h.objs.size:=by
 cases o with
 | lst xs=>obtain⟨_,_,_,_,e⟩:=x; exact Heap.lt_size e
 | tup xs=>obtain⟨_,_,_,p⟩:=x; exact p.lt
 | dK kvs=>obtain⟨_,_,_,_,o,_,_,e,_⟩:=x; exact Heap.lt_size e
 | dT kvs=>obtain⟨_,_,_,_,o,_,_,e,_⟩:=x; exact Heap.lt_size e
 | set S n=>obtain⟨o,_,_,_,e,_⟩:=x; exact Heap.lt_size e
 | ins C dx fs=>obtain⟨_,_,_,e,_⟩:=x; exact Heap.lt_size e
 | own y=>obtain⟨_,e⟩:=x; exact Heap.lt_size e
 | xd fs=>obtain⟨_,⟨_,_,_,e,_⟩,_⟩:=x; exact Heap.lt_size e
 | rng lo hi=>obtain⟨_,_,_,e⟩:=x; exact Heap.lt_size e
 | frz ob u=>obtain⟨e,_⟩:=x; exact Heap.lt_size e
 | tbl ps=>exact Heap.lt_size (show h.get? a=some _ from x)
 | met f y=>exact Heap.lt_size (show h.get? a=some _ from x)
 | ext φ=>obtain⟨_,⟨_,e⟩,_⟩:=x; exact Heap.lt_size e
theorem Paired.mapP {α β:Type}{F G:α→β→Prop}:∀ {l₁:List α} {l₂:List β},Paired F l₁ l₂→(∀a b,F a b→G a b)→Paired G l₁ l₂
 | _,_,.nil,_=>.nil
 | _,_,.cons r t,f=>.cons (f _ _ r) (Paired.mapP t f)
theorem zbv.stay (x:zbv P w H h a o)(k:∀b u,(b=a∨H b=some (.own a))→h.get? b=some u→h'.get? b=some u)
  (ho:∀b,H b=some (.own a)→H' b=some (.own a))(ht:∀b xs,H b=some (.tup xs)→H' b=some (.tup xs)):zbv P w H' h' a o:=by
 induction o with
 | lst xs=>obtain⟨z,its,n,r,e⟩:=x; exact⟨z,its,n,r,k _ _ (.inl rfl) e⟩
 | tup xs=>obtain⟨z,its,r,ob,e,c⟩:=x; exact⟨z,its,r,ob,k _ _ (.inl rfl) e,c⟩
 | dK kvs=>obtain⟨z,y,vs,r,ob,es,ep,e,c⟩:=x; exact⟨z,y,vs,r,ob,es,ep,k _ _ (.inl rfl) e,c⟩
 | dT kvs=>
  obtain⟨z,y,xs,r,ob,es,ep,e,c⟩:=x
  exact⟨z,y,xs,Paired.mapP r λp q z=>⟨z.1,ht _ _ z.2.1,z.2.2⟩,ob,es,ep,k _ _ (.inl rfl) e,c⟩
 | set S n=>obtain⟨ob,es,ep,t,e,c⟩:=x; exact⟨ob,es,ep,t,k _ _ (.inl rfl) e,c⟩
 | ins C dx fs=>
  obtain⟨d,z,ne,e,mA,⟨od,es,ep,e2,c⟩,r⟩:=x
  exact⟨ho _ d,z,ne,k _ _ (.inl rfl) e,mA,⟨od,es,ep,k _ _ (.inr d) e2,c⟩,r⟩
 | own y=>obtain⟨ob,e⟩:=x; exact⟨ob,k _ _ (.inl rfl) e⟩
 | xd fs=>obtain⟨mA,⟨od,es,ep,e,c⟩,r⟩:=x; exact⟨mA,⟨od,es,ep,k _ _ (.inl rfl) e,c⟩,r⟩
 | rng lo hi=>obtain⟨t,u,v,e⟩:=x; exact⟨t,u,v,k _ _ (.inl rfl) e⟩
 | frz ob u ih=>obtain⟨e,q⟩:=x; exact⟨k _ _ (.inl rfl) e,ih q⟩
 | tbl ps=>
  have e:h.get? a=some { cls:=.none,data:=.fields ps }:=x
  show h'.get? a=some { cls:=.none,data:=.fields ps }
  exact k a _ (.inl rfl) e
 | met f y=>
  have e:h.get? a=some (PySem.W.methodObj (.ref f) (.ref y)):=x
  show h'.get? a=some (PySem.W.methodObj (.ref f) (.ref y))
  exact k a _ (.inl rfl) e
 | ext φ=>obtain⟨p,⟨o,e⟩,st⟩:=x; exact⟨st _ _ p λo q=>k _ _ (.inl rfl) q,⟨o,k _ _ (.inl rfl) e⟩,st⟩
theorem HOk.lt (x:HOk P w H h)(e:H a=some o):a<h.objs.size:=(x a o e).lt
theorem HOk.fresh (x:HOk P w H h)(e:h.objs.size≤a):H a=none:=by
 cases q:H a with
 | none=>rfl
 | some u=>exact absurd (Vax (x.lt q) e) (VaM _)
theorem HOk.kept (x:HOk P w H h)(k:∀b u,h.get? b=some u→h'.get? b=some u):HOk P w H h':=λa o e=>
 (x a o e).stay (λb u _ q=>k b u q) (λ_ q=>q) λ_ _ q=>q
theorem HOk.laid (x:HOk P w H h)(k:∀b u,h.get? b=some u→h'.get? b=some u)(hp:h.objs.size≤a)(new:zbv P w (upd H a o) h' a o):HOk P w (upd H a o) h':=λb u e=>by
 have hn:=x.fresh hp
 by_cases hb:b=a
 ·subst hb; rw[zcL] at e; cases e; exact new
 ·rw[zbd hb] at e
  exact(x b u e).stay (λc v _ q=>k c v q) (λc q=>by rw[zbd (zdL q hn)]; exact q) λc xs q=>by rw[zbd (zdL q hn)]; exact q
end
def Rd (H:Hp)(a:Addr)(u:HO):Prop:=H a=some u∨∃o,H a=some (.frz o u)
theorem Rd.of {H:Hp}{a:Addr}{u:HO}(h:H a=some u):Rd H a u:=.inl h
theorem Rd.ok {P:Program}{w:World}{H:Hp}{h:Heap}{a:Addr}{u:HO}(r:Rd H a u)(x:HOk P w H h):zbv P w H h a u:=by
 rcases r with r | ⟨o,r⟩
 ·exact x a u r
 ·obtain⟨_,q⟩:=x a _ r
  exact q
def Mut:Option HO→Prop
 | some (.lst _)=>True
 | some (.dK _)=>True
 | some (.dT _)=>True
 | some (.set _ _)=>True
 | some (.ins _ _ _)=>True
 | some (.ext _)=>True
 | _=>False
section
variable {P:Program}{w:World}{H:Hp}{h h':Heap}{x e:Addr}{o':HO}
theorem HOk.write (ok:HOk P w H h)(mu:Mut (H x))(he:e=x∨H e=some (.own x))(k:∀b u,b≠e→h.get? b=some u→h'.get? b=some u)(heo:∃u,h'.get? e=some u)
  (new:zbv P w (upd H x o') h' x o'):HOk P w (upd H x o') h':=λb u q=>by
 have nown:∀c y,H c=some (.own y)→c≠x:=λc y r z=>by subst z; rw[r] at mu; exact mu
 have ntup:∀c xs,H c=some (.tup xs)→c≠x:=λc xs r z=>by subst z; rw[r] at mu; exact mu
 by_cases hb:b=x
 ·subst hb; rw[zcL] at q; cases q; exact new
 ·rw[zbd hb] at q
  by_cases hbe:b=e
  ·have q':H b=some (.own x):=by
    rcases he with z | z
    ·exact absurd (hbe.trans z) hb
    ·rw[hbe]; exact z
   rw[q] at q'; cases q'
   obtain⟨v,hv⟩:=heo
   exact⟨v,by rw[hbe]; exact hv⟩
  ·refine(ok b u q).stay (λc v hc r=>k c v ?_ r) (λc r=>by rw[zbd (nown c b r)]; exact r) λc xs r=>by rw[zbd (ntup c xs r)]; exact r
   rcases hc with rfl | hc
   ·exact hbe
   ·rintro rfl
    rcases he with z | z
    ·exact nown c b hc z
    ·rw[hc] at z; cases z; exact hb rfl
end
structure Un (fs ex:List Addr)(H H':Hp)(h h':Heap):Prop where
 keep:∀b o,h.get? b=some o→H b=none→b ∉ fs→b ∉ ex→h'.get? b=some o
 slot:∀b o,h.get? b=some o→H b=none→b∈fs→b ∉ ex→∃sl,h'.get? b=some { o with slots:=sl }
 free:∀b o,h.get? b=some o→H b=none→b ∉ ex→H' b=none
 there:∀b o,h.get? b=some o→b ∉ ex→∃o',h'.get? b=some o'
 tups:∀b xs,H b=some (.tup xs)→H' b=some (.tup xs)
 frzs:∀b o u,H b=some (.frz o u)→H' b=some (.frz o u)
 tbls:∀b ps,H b=some (.tbl ps)→∃more,H' b=some (.tbl (ps++more))
section
variable {fs fs' ex ex':List Addr}{H H1 H2:Hp}{h h1 h2 h':Heap}{a x e:Addr}{o:HO}
theorem Un.any (u:Un fs ex H H1 h h1){b:Addr}{ob:Obj}(q:h.get? b=some ob)(n:H b=none)(hx:b ∉ ex):∃sl,h1.get? b=some { ob with slots:=sl }:=by
 by_cases hb:b∈fs
 ·exact u.slot b ob q n hb hx
 ·exact⟨ob.slots,u.keep b ob q n hb hx⟩
theorem Un.trans (a:Un fs ex H H1 h h1)(b:Un fs ex H1 H2 h1 h2):Un fs ex H H2 h h2 where
 keep:=λc ob q n hc hx=>b.keep c ob (a.keep c ob q n hc hx) (a.free c ob q n hx) hc hx
 slot:=λc ob q n hc hx=>by
  obtain⟨sl,e1⟩:=a.slot c ob q n hc hx
  obtain⟨sl',e2⟩:=b.slot c _ e1 (a.free c ob q n hx) hc hx
  exact⟨sl',e2⟩
 free:=λc ob q n hx=>by
  obtain⟨o',e1⟩:=a.there c ob q hx
  exact b.free c o' e1 (a.free c ob q n hx) hx
 there:=λc ob q hx=>by
  obtain⟨o',e1⟩:=a.there c ob q hx
  exact b.there c o' e1 hx
 tups:=λc xs q=>b.tups c xs (a.tups c xs q)
 frzs:=λc ob xs q=>b.frzs c ob xs (a.frzs c ob xs q)
 tbls:=λc ps q=>by
  obtain⟨m1,e1⟩:=a.tbls c ps q
  obtain⟨m2,e2⟩:=b.tbls c _ e1
  exact⟨m1++m2,by rw[e2,Array.append_assoc]⟩
theorem Un.kept (k:∀b u,h.get? b=some u→h'.get? b=some u):Un fs ex H H h h':=
 ⟨λb ob q _ _ _=>k b ob q,λb ob q _ _ _=>⟨ob.slots,k b ob q⟩,λ_ _ _ n _=>n,λb ob q _=>⟨ob,k b ob q⟩,λ_ _ q=>q,λ_ _ _ q=>q,λ_ ps q=>⟨#[],by rw[q]; simp⟩⟩
theorem Un.refl:Un fs ex H H h h:=Un.kept λ_ _ q=>q
theorem Un.laid (k:∀b u,h.get? b=some u→h'.get? b=some u)(hp:h.objs.size≤a)(hn:H a=none):Un fs ex H (upd H a o) h h' where
 keep:=λb u q _ _ _=>k b u q
 slot:=λb u q _ _ _=>⟨u.slots,k b u q⟩
 free:=λb u q n _=>by rw[zbd (Var (Vax (Heap.lt_size q) hp))]; exact n
 there:=λb u q _=>⟨u,k b u q⟩
 tups:=λb xs q=>by rw[zbd (zdL q hn)]; exact q
 frzs:=λb u xs q=>by rw[zbd (zdL q hn)]; exact q
 tbls:=λb ps q=>⟨#[],by rw[zbd (zdL q hn),q]; simp⟩
theorem Un.write (mu:Mut (H x))(he:e=x∨H e=some (.own x))(k:∀b u,b≠e→h.get? b=some u→h'.get? b=some u)(heo:∃u,h'.get? e=some u):Un fs ex H (upd H x o) h h':=by
 have hx:∀b,H b=none→b≠x:=λb n z=>by subst z; rw[n] at mu; exact mu
 have hb:∀b,H b=none→b≠e:=λb n z=>by
  subst z
  rcases he with r | r
  ·exact hx b n r
  ·rw[n] at r; cases r
 have hm:∀b u,H b=some u→¬ Mut (some u)→b≠x:=λb u q nm z=>by subst z; rw[q] at mu; exact nm mu
 refine⟨λb u q n _ _=>k b u (hb b n) q,λb u q n _ _=>⟨u.slots,k b u (hb b n) q⟩,λb u q n _=>by rw[zbd (hx b n)]; exact n,λb u q _=>?_,
  λb xs q=>by rw[zbd (hm b _ q λz=>z)]; exact q,λb u xs q=>by rw[zbd (hm b _ q λz=>z)]; exact q,λb ps q=>⟨#[],by rw[zbd (hm b _ q λz=>z),q]; simp⟩⟩
 by_cases hbe:b=e
 ·subst hbe; exact heo
 ·exact⟨u,k b u hbe q⟩
theorem Un.mono (u:Un fs ex H H1 h h1)(hs:∀b∈fs,b∈fs')(hx:∀b∈ex,b∈ex'):Un fs' ex' H H1 h h1:=
 ⟨λb ob q n hb he=>u.keep b ob q n (λz=>hb (hs b z)) λz=>he (hx b z),λ_ _ q n _ he=>u.any q n λz=>he (hx _ z),λb ob q n he=>u.free b ob q n λz=>he (hx b z),λb ob q he=>u.there b ob q λz=>he (hx b z),u.tups,u.frzs,u.tbls⟩
end
def trk (h:Heap)(H:Hp):List Addr:=(List.range h.objs.size).filter λa=>(H a).isSome
def zdk (h:Heap)(H:Hp):Heap:=PySem.W.hideAll h (trk h H)
theorem zr0 (h:Heap)(H:Hp):(zdk h H).objs.size=h.objs.size:=PySem.W.hideAll_size _ _
theorem zvc {h:Heap}{H:Hp}{b:Addr}{o:Obj}(e:h.get? b=some o)(n:H b=none):(zdk h H).get? b=some o:=
 PySem.W.hideAll_get _ e λhm=>by
  have q:(H b).isSome=true:=(List.mem_filter.mp hm).2
  rw[n] at q; simp at q
theorem zwj {h:Heap}{H:Hp}{b:Addr}{o:Obj}(e:(zdk h H).get? b=some o):h.get? b=some o∧H b=none:=by
 have e':h.get? b=some o:=PySem.W.of_hideAll (trk h H) e
 refine⟨e',?_⟩
 cases q:H b with
 | none=>rfl
 | some x=>
  have hm:b∈trk h H:=List.mem_filter.mpr ⟨List.mem_range.mpr (Heap.lt_size e'),by simp[q]⟩
  have z:(zdk h H).get? b=none:=PySem.W.hideAll_none (trk h H) hm
  rw[z] at e; cases e
def zto (g h:Heap)(L:Addr):List (Addr×Obj):=(List.range h.objs.size).filterMap λa=>if a=L∨(g.get? a).isSome=true then none else (h.get? a).map λo=>(a,o)
def zbj (g h:Heap)(L d:Addr):List (Addr×Obj):=(zto g h L).filter λp=>decide (p.1≠d)
end L2
namespace L2
open PySem PySem.Spec PyProof.Rows
structure Mod (K:PySem.W.Frag)(mg:Str→Option Value)(base:Heap):Prop where
 kin:K.In base
 glob:base.Ns mainGlobals mg
 blt:∃mb,base.Ns builtinsNs mb∧∀x:Str,x≠"__name__"→mb x=bootBuiltins x
 nolimit:base.NoLimit
structure Cx where
 prog:Program
 w:World
 K:PySem.W.Frag
 mg:Str→Option Value
 base:Heap
 A:Around
 N:List Str
 s₀:Shared
 H₀:Hp
 env:Env
 outer:List Env
 stack:List Env
 ex:List Addr
 fn:Str→Bool
 calm:Bool
 pn:List (Addr×Obj)
 xe:Value→Shared→Prop
def frs (l:List Env):List Addr:=l.filterMap (·.frame)
abbrev Cx.fs (X:Cx):List Addr:=frs X.outer
def Vis (sc:Scope)(x:Str):Prop:=sc.names.lookup x=some .local∨sc.names.lookup x=some .cell∨sc.names.lookup x=some .free
def Loc (sc:Scope)(x:Str):Prop:=sc.names.lookup x=some .local∨sc.names.lookup x=some .cell
def Look (env:Env)(h:Heap)(m:Str→Option Value)(x:Str)(u:Value):Prop:=
 (env.kindOf x=some .local∧m x=some u)∨((env.kindOf x=some .cell∨env.kindOf x=some .free)∧∃c,env.cells.lookup x=some c∧h.IsCell c (some u))
structure Cx.Ok (X:Cx):Prop where
 mod:Mod X.K X.mg X.base
 kind:X.env.scope.kind=.function
 glob:X.env.globals=mainGlobals
 blt:X.env.builtins=builtinsNs
 above:X.s₀.heap.objs.size≤X.env.locals
 inj:∀x y c,X.env.cells.lookup x=some c→X.env.cells.lookup y=some c→x=y
 has:∀x,(X.env.kindOf x=some .cell∨X.env.kindOf x=some .free)→∃c,X.env.cells.lookup x=some c
 cab:∀x c,X.fn x=true→X.env.cells.lookup x=some c→X.s₀.heap.objs.size≤c
 hd:X.calm=true→X.A.handled=none
 frames:X.A.frames=some X.stack
 stk:X.stack=X.outer∨(X.stack=X.env::X.outer∧X.env.frame=some X.env.locals)
 exf:∀b∈X.ex,b≠X.env.locals∧∀x c,X.env.cells.lookup x=some c→c≠b
 bs:∀b o,X.base.get? b=some o→X.s₀.heap.get? b=some o∧X.H₀ b=none
 bsz:X.base.objs.size≤X.s₀.heap.objs.size
 noex:∀b o,X.base.get? b=some o→b ∉ X.ex
 exfs:∀b∈X.ex,b ∉ X.fs
 funs:X.s₀.heap.FunFrames X.base X.outer
 frf:∀b∈X.fs,X.H₀ b=none
structure Inv (X:Cx)(pins:List (Addr×Obj))(σ:List (Option V))(H:Hp)(s:Shared):Prop where
 ok:X.Ok
 os:s.os=X.s₀.os
 bare:AllBare s.gens
 base:Un X.fs X.ex X.H₀ H X.s₀.heap s.heap
 loc:∃m,s.heap.Ns X.env.locals m∧∀(i:Nat) (x:Str) (v:V),X.N[i]?=some x→σ[i]?=some (some v)→Vis X.env.scope x→∃u,zay v u∧Look X.env s.heap m x u
 cell:∀x c,X.env.cells.lookup x=some c→∃v,s.heap.IsCell c v
 free:H X.env.locals=none
 freeC:∀x c,X.env.cells.lookup x=some c→H c=none
 pin:∀p∈X.pn++pins,s.heap.get? p.1=some p.2∧H p.1=none∧p.1≠X.env.locals∧p.1 ∉ X.fs∧∀v,p.2.data≠.cell v
 hok:HOk X.prog X.w H s.heap
 len:σ.length=X.N.length
section
variable {X:Cx}{pins:List (Addr×Obj)}{σ:List (Option V)}{H H':Hp}{s:Shared}{h':Heap}
theorem Cx.Ok.nofr (ok:X.Ok){b:Addr}{o:Obj}(e:X.base.get? b=some o):b ∉ X.fs:=λhb=>by
 have:=(ok.funs.mem hb).1
 rw[e] at this; cases this
theorem Inv.bs (I:Inv X pins σ H s):∀b o,X.base.get? b=some o→s.heap.get? b=some o∧H b=none:=λb o e=>
 ⟨I.base.keep b o (I.ok.bs b o e).1 (I.ok.bs b o e).2 (I.ok.nofr e) (I.ok.noex b o e),I.base.free b o (I.ok.bs b o e).1 (I.ok.bs b o e).2 (I.ok.noex b o e)⟩
theorem Inv.bk (I:Inv X pins σ H s):∀b o,X.base.get? b=some o→s.heap.get? b=some o:=λb o e=>(I.bs b o e).1
theorem Inv.mod (I:Inv X pins σ H s):Mod X.K X.mg X.base:=I.ok.mod
theorem Inv.kIn (I:Inv X pins σ H s):X.K.In s.heap:=I.ok.mod.kin.keeps I.bk
theorem Inv.nolimit (I:Inv X pins σ H s):s.heap.NoLimit:=I.ok.mod.nolimit.keeps I.bk
theorem Inv.fr (I:Inv X pins σ H s):∃m,Fr X.base X.env.locals s.heap m:=
 let ⟨m,hn,_⟩:=I.loc
 ⟨m,hn,I.bk,VaE I.ok.bsz I.ok.above⟩
theorem Inv.lt (I:Inv X pins σ H s):X.env.locals<s.heap.objs.size:=let ⟨_,hn,_⟩:=I.loc; hn.lt
theorem Inv.sz (I:Inv X pins σ H s):X.s₀.heap.objs.size≤s.heap.objs.size:=VaE I.ok.above (VaW I.lt)
theorem Inv.nofs (I:Inv X pins σ H s){a:Addr}(h:s.heap.objs.size≤a):a ∉ X.fs:=λhb=>by
 obtain⟨_,o,ho,_⟩:=I.ok.funs.mem hb
 exact absurd (Vax (Heap.lt_size ho) (VaE I.sz h)) (VaM _)
theorem Inv.cne (I:Inv X pins σ H s):∀x c,X.env.cells.lookup x=some c→c≠X.env.locals:=λx c e z=>by
 obtain⟨v,o,ho,hd⟩:=I.cell x c e
 obtain⟨m,⟨o',es,ep,ho',hd',_⟩,_⟩:=I.loc
 rw[z,ho'] at ho; cases ho; rw[hd'] at hd; cases hd
theorem Inv.funs (I:Inv X pins σ H s):s.heap.FunFrames X.base X.outer:=by
 have all:∀(l:List Env),(∀b∈frs l,b∈X.fs)→X.s₀.heap.FunFrames X.base l→s.heap.FunFrames X.base l:=by
  intro l
  induction l with
  | nil=>intro _ _; trivial
  | cons env r ih=>
   intro hs hl
   obtain⟨hk,⟨L,o,hf,hn,ho,hd⟩,hr⟩:=hl
   have hL:L∈X.fs:=hs L (by unfold frs; rw[List.filterMap_cons,hf]; exact VaX)
   obtain⟨sl,e⟩:=I.base.slot L o ho (I.ok.frf L hL) hL λz=>I.ok.exfs L z hL
   exact⟨hk,⟨L,_,hf,hn,e,hd⟩,ih (λb hb=>hs b (by unfold frs; rw[List.filterMap_cons,hf]; exact VaF _ hb)) hr⟩
 exact all X.outer (λ_ hb=>hb) I.ok.funs
theorem Inv.stack (I:Inv X pins σ H s):s.heap.FunFrames X.base X.stack:=by
 rcases I.ok.stk with e | ⟨e,hf⟩
 ·rw[e]; exact I.funs
 ·rw[e]
  obtain⟨m,hn,_⟩:=I.loc
  refine .cons (by rw[I.ok.kind]; decide) hf hn ?_ I.funs
  exact Heap.get?_none_of_le (VaE I.ok.bsz I.ok.above)
theorem Inv.stkSub (I:Inv X pins σ H s):∀b∈frs X.stack,b∈X.env.locals::X.fs:=λb hb=>by
 rcases I.ok.stk with e | ⟨e,hf⟩
 ·rw[e] at hb; exact VaF _ hb
 ·rw[e] at hb
  unfold frs at hb
  rw[List.filterMap_cons,hf] at hb
  exact hb
theorem Inv.stkFree (I:Inv X pins σ H s):∀b∈frs X.stack,H b=none:=λb hb=>by
 rcases Vaf.mp (I.stkSub b hb) with e | hb
 ·rw[e]; exact I.free
 ·obtain⟨_,o,ho,_⟩:=I.ok.funs.mem hb
  exact I.base.free b o ho (I.ok.frf b hb) λz=>I.ok.exfs b z hb
theorem Inv.step {g':Array GenState}{t':Nat}{d':Drawn}{ch:List Addr}(I:Inv X pins σ H s)
  (hch:∀b∈ch,(b∈X.ex∨X.s₀.heap.objs.size≤b)∧b≠X.env.locals∧(∀x c,X.env.cells.lookup x=some c→c≠b)∧∀p∈X.pn++pins,p.1≠b)
  (keep:∀b o,b≠X.env.locals→b ∉ X.fs→b ∉ ch→s.heap.get? b=some o→H b=none→h'.get? b=some o)
  (slot:∀b o,b≠X.env.locals→b∈X.fs→b ∉ ch→s.heap.get? b=some o→H b=none→∃sl,h'.get? b=some { o with slots:=sl })(free:∀b o,b ∉ ch→s.heap.get? b=some o→H b=none→H' b=none)
  (there:∀b o,b ∉ ch→s.heap.get? b=some o→∃o',h'.get? b=some o')
  (tups:∀b xs,H b=some (.tup xs)→H' b=some (.tup xs))(frzs:∀b o u,H b=some (.frz o u)→H' b=some (.frz o u))(tbls:∀b ps,H b=some (.tbl ps)→∃more,H' b=some (.tbl (ps++more)))
  (ns:∀m,s.heap.Ns X.env.locals m→h'.Ns X.env.locals m)(hok:HOk X.prog X.w H' h')(hg:AllBare g'):
  Inv X pins σ H' { s with heap:=h',gens:=g',drawn:=d',toks:=t' }:=by
 have neL:∀b o,X.s₀.heap.get? b=some o→b≠X.env.locals:=λb o e=>Var (Vax (Heap.lt_size e) I.ok.above)
 have neC:∀b o,X.s₀.heap.get? b=some o→b ∉ X.ex→b ∉ ch:=λb o e hx hb=>by
  rcases (hch b hb).1 with z | z
  ·exact hx z
  ·exact absurd (Vax (Heap.lt_size e) z) (VaM _)
 have cellK:∀x c,X.env.cells.lookup x=some c→∀v,s.heap.IsCell c v→h'.IsCell c v:=λx c e v ⟨o,ho,hd⟩=>by
  have nch:c ∉ ch:=λz=>(hch c z).2.2.1 x c e rfl
  by_cases hc:c∈X.fs
  ·obtain⟨sl,q⟩:=slot c o (I.cne x c e) hc nch ho (I.freeC x c e)
   exact⟨_,q,hd⟩
  ·exact⟨o,keep c o (I.cne x c e) hc nch ho (I.freeC x c e),hd⟩
 refine⟨I.ok,I.os,hg,⟨λb o e n hb hx=>?_,λb o e n hb hx=>?_,λb o e n hx=>?_,λb o e hx=>?_,λb xs e=>tups b xs (I.base.tups b xs e),λb o xs e=>frzs b o xs (I.base.frzs b o xs e),λb ps e=>?_⟩,?_,λx c e=>?_,?_,λx c e=>?_,λp hp=>?_,hok,I.len⟩
 ·exact keep b o (neL b o e) hb (neC b o e hx) (I.base.keep b o e n hb hx) (I.base.free b o e n hx)
 ·obtain⟨sl,e1⟩:=I.base.slot b o e n hb hx
  obtain⟨sl',e2⟩:=slot b _ (neL b o e) hb (neC b o e hx) e1 (I.base.free b o e n hx)
  exact⟨sl',e2⟩
 ·obtain⟨o',e1⟩:=I.base.there b o e hx
  exact free b o' (neC b o e hx) e1 (I.base.free b o e n hx)
 ·obtain⟨o',e1⟩:=I.base.there b o e hx
  exact there b o' (neC b o e hx) e1
 ·obtain⟨m1,e1⟩:=I.base.tbls b ps e
  obtain⟨m2,e2⟩:=tbls b _ e1
  exact⟨m1++m2,by rw[e2,Array.append_assoc]⟩
 ·obtain⟨m,hn,hl⟩:=I.loc
  refine⟨m,ns m hn,λi x v e1 e2 e3=>?_⟩
  obtain⟨u,r,l⟩:=hl i x v e1 e2 e3
  refine⟨u,r,?_⟩
  rcases l with l | ⟨k,c,e,z⟩
  ·exact .inl l
  ·exact .inr ⟨k,c,e,cellK x c e _ z⟩
 ·obtain⟨v,z⟩:=I.cell x c e
  exact⟨v,cellK x c e v z⟩
 ·obtain⟨m,⟨o,_,_,ho,_⟩,_⟩:=I.loc
  exact free _ o (λz=>(hch _ z).2.1 rfl) ho I.free
 ·obtain⟨v,o,ho,hd⟩:=I.cell x c e
  exact free c o (λz=>(hch c z).2.2.1 x c e rfl) ho (I.freeC x c e)
 ·obtain⟨e,n,ne,nf,d⟩:=I.pin p hp
  have nch:p.1 ∉ ch:=λz=>(hch p.1 z).2.2.2 p hp rfl
  exact⟨keep p.1 p.2 ne nf nch e n,free p.1 p.2 nch e n,ne,nf,d⟩
theorem Inv.un {t':Nat}(I:Inv X pins σ H s)(u:Un X.fs [] H H' s.heap h')(hok:HOk X.prog X.w H' h'):Inv X pins σ H' { s with heap:=h',toks:=t' }:=by
 obtain⟨m,⟨o,es,ep,ho,r⟩,_⟩:=id I.loc
 obtain⟨sl,hL⟩:=u.any ho I.free (by simp)
 exact I.step (g':=s.gens) (d':=s.drawn) (ch:=[]) (λ_ z=>nomatch z) (λb o _ hb _ e n=>u.keep b o e n hb (by simp)) (λb o _ hb _ e n=>u.slot b o e n hb (by simp)) (λb o _ e n=>u.free b o e n (by simp)) (λb o _ e=>u.there b o e (by simp)) u.tups u.frzs u.tbls (λm' hm=>by
  obtain⟨o',es',ep',ho',r'⟩:=hm
  rw[ho] at ho'; cases ho'
  exact⟨_,es',ep',hL,r'⟩) hok I.bare
theorem Inv.call {g':Array GenState}{t':Nat}{d':Drawn}{ch:List Addr}(I:Inv X pins σ H s)(u:Un (frs X.stack) ch H H' s.heap h')(hok:HOk X.prog X.w H' h')(hg:AllBare g')
  (hch:∀b∈ch,(b∈X.ex∨X.s₀.heap.objs.size≤b)∧b≠X.env.locals∧(∀x c,X.env.cells.lookup x=some c→c≠b)∧∀p∈X.pn++pins,p.1≠b):
  Inv X pins σ H' { s with heap:=h',gens:=g',drawn:=d',toks:=t' }:=by
 obtain⟨m,⟨o,es,ep,ho,r⟩,_⟩:=id I.loc
 obtain⟨sl,hL⟩:=u.any ho I.free λz=>(hch _ z).2.1 rfl
 exact I.step (ch:=ch) hch (λb o hL hb hc e n=>u.keep b o e n (λz=>(Vaf.mp (I.stkSub b z)).elim hL hb) hc) (λb o _ _ hc e n=>u.any e n hc) (λb o hc e n=>u.free b o e n hc) (λb o hc e=>u.there b o e hc) u.tups u.frzs u.tbls (λm' hm=>by
  obtain⟨o',es',ep',ho',r'⟩:=hm
  rw[ho] at ho'; cases ho'
  exact⟨_,es',ep',hL,r'⟩) hok hg
theorem Inv.turned {t':Nat}{it:Addr}(I:Inv X pins σ H s)(k:∀b o,b≠it→s.heap.get? b=some o→h'.get? b=some o)(hn:H it=none)(hL:it≠X.env.locals)
  (h1:it∈X.ex∨X.s₀.heap.objs.size≤it)(h2:∀x c,X.env.cells.lookup x=some c→c≠it)(h3:∀p∈X.pn++pins,p.1≠it):Inv X pins σ H { s with heap:=h',toks:=t' }:=by
 have nit:∀b u,H b=some u→b≠it:=λb u e z=>by rw[z,hn] at e; cases e
 refine I.step (g':=s.gens) (d':=s.drawn) (ch:=[it]) (λb hb=>?_) (λb o _ _ hc e _=>k b o (λz=>hc (by simp[z])) e) (λb o _ _ hc e _=>⟨o.slots,k b o (λz=>hc (by simp[z])) e⟩) (λ_ _ _ _ n=>n)
  (λb o hc e=>⟨o,k b o (λz=>hc (by simp[z])) e⟩) (λ_ _ e=>e) (λ_ _ _ e=>e) (λb ps e=>⟨#[],by rw[e]; simp⟩) (λm hm=>?_) (λb u e=>?_) I.bare
 ·have e:b=it:=by simpa using hb
  subst e
  exact⟨h1,hL,h2,h3⟩
 ·obtain⟨o,es,ep,ho,r⟩:=hm
  exact⟨o,es,ep,k _ o (Ne.symm hL) ho,r⟩
 ·refine(I.hok b u e).stay (λc v hc q=>k c v ?_ q) (λ_ q=>q) λ_ _ q=>q
  rcases hc with z | z
  ·rw[z]; exact nit b u e
  ·exact nit c _ z
theorem Inv.tok (I:Inv X pins σ H s)(t:Nat):Inv X pins σ H { s with toks:=t }:=I.un (h':=s.heap) (t':=t) Un.refl I.hok
theorem Inv.kept {t':Nat}(I:Inv X pins σ H s)(k:∀b u,s.heap.get? b=some u→h'.get? b=some u):Inv X pins σ H { s with heap:=h',toks:=t' }:=I.un (Un.kept k) (I.hok.kept k)
theorem Inv.laid {a:Addr}{o:HO}{t':Nat}(I:Inv X pins σ H s)(k:∀b u,s.heap.get? b=some u→h'.get? b=some u)(hp:s.heap.objs.size≤a)(new:zbv X.prog X.w (upd H a o) h' a o):
  Inv X pins σ (upd H a o) { s with heap:=h',toks:=t' }:=I.un (Un.laid k hp (I.hok.fresh hp)) (I.hok.laid k hp new)
theorem Inv.write {x e:Addr}{o:HO}{t':Nat}(I:Inv X pins σ H s)(mu:Mut (H x))(he:e=x∨H e=some (.own x))(k:∀b u,b≠e→s.heap.get? b=some u→h'.get? b=some u)(heo:∃u,h'.get? e=some u)
  (new:zbv X.prog X.w (upd H x o) h' x o):Inv X pins σ (upd H x o) { s with heap:=h',toks:=t' }:=I.un (Un.write mu he k heo) (I.hok.write mu he k heo new)
theorem Inv.pins_of {pins':List (Addr×Obj)}(I:Inv X pins σ H s)(h:∀p∈pins',s.heap.get? p.1=some p.2∧H p.1=none∧p.1≠X.env.locals∧p.1 ∉ X.fs∧∀v,p.2.data≠.cell v):Inv X pins' σ H s:=
 ⟨I.ok,I.os,I.bare,I.base,I.loc,I.cell,I.free,I.freeC,λp hp=>(VaR.mp hp).elim (λz=>I.pin p (List.mem_append_left _ z)) (h p),I.hok,I.len⟩
theorem zp4 {N:List Str}(hN:N.Nodup){i j:Nat}{x:Str}(a:N[i]?=some x)(b:N[j]?=some x):i=j:=by
 obtain⟨h1,e1⟩:=Vac.mp a
 obtain⟨h2,e2⟩:=Vac.mp b
 exact(List.getElem_inj hN).mp (e1.trans e2.symm)
theorem zpB {M:Model}{A:Around}{E:Value→Shared→Prop}{i:Nat}{x:Str}{v:V}{u:Value}{Q:Unit→Shared→Prop}(I:Inv X pins σ H s)(hN:X.N.Nodup)(hi:X.N[i]?=some x)(hx:Loc X.env.scope x)(r:zay v u)
  (h:∀s',Inv X pins (σ.set i (some v)) H s'→(∃a,Heap.SameBut a s.heap s'.heap∧(a=X.env.locals∨X.env.cells.lookup x=some a))→Q () s')(hf:X.fn x=true∨X.env.scope.names.lookup x=some .local:=by first | exact .inl rfl | exact .inr rfl | assumption):wpAny M A (storeName X.env x u) Q E s:=by
 obtain⟨m,hn,hl⟩:=id I.loc
 have hcls:(X.env.scope.kind==.class||(X.env.scope.kind==.module&&X.env.locals != X.env.globals))=false:=by rw[I.ok.kind]; rfl
 have hiσ:i<σ.length:=by rw[I.len]; exact(Vac.mp hi).1
 have cne:=I.cne
 have tracked:∀ {a:Addr} {h':Heap},(∃o,s.heap.get? a=some o∧H a=none)→Heap.SameBut a s.heap h'→HOk X.prog X.w H h':=λ{a h'} ha hs b ob e=>by
  obtain⟨_,_,hfree⟩:=ha
  refine(I.hok b ob e).stay (λc w' hc q=>(hs.2 c ?_).trans q) (λ_ q=>q) λ_ _ q=>q
  rintro rfl
  rcases hc with rfl | hc
  ·rw[hfree] at e; cases e
  ·rw[hfree] at hc; cases hc
 rcases hx with hk | hk
 ·refine wpAny_storeName_local hk hn (λh' hn' hs=>?_) hcls
  obtain⟨oL,_,_,hoL,_⟩:=id hn
  refine h _ ⟨I.ok,I.os,I.bare,⟨λb o e n hb hx=>?_,λb o e n hb hx=>?_,I.base.free,λb o e hx=>?_,I.base.tups,I.base.frzs,I.base.tbls⟩,⟨_,hn',λj y v' e1 e2 e3=>?_⟩,λy c e=>?_,I.free,I.freeC,λp hp=>?_,tracked ⟨oL,hoL,I.free⟩ hs,by simpa using I.len⟩ ⟨_,hs,.inl rfl⟩
  ·exact(hs.2 b (Var (Vax (Heap.lt_size e) I.ok.above))).trans (I.base.keep b o e n hb hx)
  ·obtain⟨sl,e1⟩:=I.base.slot b o e n hb hx
   exact⟨sl,(hs.2 b (Var (Vax (Heap.lt_size e) I.ok.above))).trans e1⟩
  ·obtain⟨o',e1⟩:=I.base.there b o e hx
   exact⟨o',(hs.2 b (Var (Vax (Heap.lt_size e) I.ok.above))).trans e1⟩
  ·by_cases hj:j=i
   ·subst hj
    rw[hi] at e1; cases e1
    rw[VaY hiσ] at e2
    cases e2
    exact⟨u,r,.inl ⟨hk,by simp⟩⟩
   ·rw[VaN (Ne.symm hj)] at e2
    obtain⟨u',r',q⟩:=hl j y v' e1 e2 e3
    refine⟨u',r',?_⟩
    rcases q with ⟨k,e⟩ | ⟨k,c,e,z⟩
    ·refine .inl ⟨k,?_⟩
     have:y≠x:=λe=>hj (zp4 hN e1 (e ▸ hi))
     simp[this,e]
    ·exact .inr ⟨k,c,e,z.sameBut hs (cne y c e)⟩
  ·obtain⟨w',z⟩:=I.cell y c e
   exact⟨w',z.sameBut hs (cne y c e)⟩
  ·obtain⟨e,n,ne,nf,d⟩:=I.pin p hp
   exact⟨(hs.2 p.1 ne).trans e,n,ne,nf,d⟩
 ·have hfn:X.fn x=true:=by
   rcases hf with z | z
   ·exact z
   ·rw[z] at hk; cases hk
  obtain⟨c,hc⟩:=I.ok.has x (.inl hk)
  obtain⟨w',z⟩:=I.cell x c hc
  refine wpAny_storeName_cell I.ok.kind hk hc z (λh' hc' hs=>?_)
  obtain⟨oc,hoc,hocd⟩:=id z
  refine h { s with heap:=h' } ⟨I.ok,I.os,I.bare,⟨λb o e n hb hx=>?_,λb o e n hb hx=>?_,I.base.free,λb o e hx=>?_,I.base.tups,I.base.frzs,I.base.tbls⟩,⟨m,hn.sameBut hs (Ne.symm (cne x c hc)),λj y v' e1 e2 e3=>?_⟩,λy c' e=>?_,I.free,I.freeC,λp hp=>?_,tracked ⟨oc,hoc,I.freeC x c hc⟩ hs,by simpa using I.len⟩ ⟨c,hs,.inr hc⟩
  ·exact(hs.2 b (Var (Vax (Heap.lt_size e) (I.ok.cab x c hfn hc)))).trans (I.base.keep b o e n hb hx)
  ·obtain⟨sl,e1⟩:=I.base.slot b o e n hb hx
   exact⟨sl,(hs.2 b (Var (Vax (Heap.lt_size e) (I.ok.cab x c hfn hc)))).trans e1⟩
  ·obtain⟨o',e1⟩:=I.base.there b o e hx
   exact⟨o',(hs.2 b (Var (Vax (Heap.lt_size e) (I.ok.cab x c hfn hc)))).trans e1⟩
  ·by_cases hj:j=i
   ·subst hj
    rw[hi] at e1; cases e1
    rw[VaY hiσ] at e2
    cases e2
    exact⟨u,r,.inr ⟨.inl hk,c,hc,hc'⟩⟩
   ·rw[VaN (Ne.symm hj)] at e2
    obtain⟨u',r',q⟩:=hl j y v' e1 e2 e3
    refine⟨u',r',?_⟩
    rcases q with q | ⟨k,c',e,z'⟩
    ·exact .inl q
    ·refine .inr ⟨k,c',e,z'.sameBut hs ?_⟩
     rintro rfl
     exact hj (zp4 hN e1 (I.ok.inj _ _ _ e hc ▸ hi))
  ·by_cases hcc:c'=c
   ·subst hcc; exact⟨_,hc'⟩
   ·obtain⟨w2,z2⟩:=I.cell y c' e
    exact⟨w2,z2.sameBut hs hcc⟩
  ·obtain⟨e,n,ne,nf,d⟩:=I.pin p hp
   refine⟨(hs.2 p.1 ?_).trans e,n,ne,nf,d⟩
   intro q
   rw[q,hoc] at e
   have q':oc=p.2:=Option.some.inj e
   exact d w' (by rw[← q']; exact hocd)
theorem zq8 {M:Model}{A:Around}{E:Value→Shared→Prop}{i:Nat}{x:Str}{v:V}{u:Value}{Q:Unit→Shared→Prop}(I:Inv X pins σ H s)(hN:X.N.Nodup)(hi:X.N[i]?=some x)(hx:Loc X.env.scope x)(r:zay v u)
  (h:∀s',Inv X pins (σ.set i (some v)) H s'→Q () s')(hf:X.fn x=true∨X.env.scope.names.lookup x=some .local:=by first | exact .inl rfl | exact .inr rfl | assumption):wpAny M A (storeName X.env x u) Q E s:=
 zpB I hN hi hx r (λs' I' _=>h s' I') hf
theorem Inv.call' {s':Shared}{ch:List Addr}(I:Inv X pins σ H s)(ho:s'.os=s.os)(u:Un (frs X.stack) ch H H' s.heap s'.heap)(hok:HOk X.prog X.w H' s'.heap)(hg:AllBare s'.gens)
  (hch:∀b∈ch,(b∈X.ex∨X.s₀.heap.objs.size≤b)∧b≠X.env.locals∧(∀x c,X.env.cells.lookup x=some c→c≠b)∧∀p∈X.pn++pins,p.1≠b):Inv X pins σ H' s':=by
 obtain⟨h',g',d',t',o'⟩:=s'
 have e:o'=s.os:=ho
 subst e
 exact I.call (g':=g') (t':=t') (d':=d') u hok hg hch
end
abbrev XK:=Value→Option Addr→Hp→Prop
abbrev St:=List (Option V)
abbrev VK:=V→Hp→Prop
abbrev TE:=St→Hp→VK→Prop
abbrev TT:=St→Hp→(Bool→Hp→Prop)→Prop
abbrev TA:=St→Hp→(List V→Hp→Prop)→Prop
structure zcW where
 nx:St→Hp→Prop
 rt:VK
 bk:St→Hp→Prop:=λ_ _=>False
 ct:St→Hp→Prop:=λ_ _=>False
abbrev TS:=zcW→St→Hp→Prop
def EP (X:Cx)(pins:List (Addr×Obj))(σ:St)(Q:VK)(u:Value)(s':Shared):Prop:=∃v H',Inv X pins σ H' s'∧zay v u∧Q v H'
def TP (X:Cx)(pins:List (Addr×Obj))(σ:St)(Q:Bool→Hp→Prop)(b:Bool)(s':Shared):Prop:=∃H',Inv X pins σ H' s'∧Q b H'
def AP (X:Cx)(pins:List (Addr×Obj))(σ:St)(Q:List V→Hp→Prop)(us:List Value)(s':Shared):Prop:=∃vs H',Inv X pins σ H' s'∧zaA vs us∧Q vs H'
def SP (X:Cx)(pins:List (Addr×Obj))(D:zcW)(f:Flow)(s':Shared):Prop:=
 match f with
 | .next=>∃σ' H',Inv X pins σ' H' s'∧D.nx σ' H'
 | .brk=>∃σ' H',Inv X pins σ' H' s'∧D.bk σ' H'
 | .cont=>∃σ' H',Inv X pins σ' H' s'∧D.ct σ' H'
 | .ret u=>∃v σ' H',Inv X pins σ' H' s'∧zay v u∧D.rt v H'
def PE (X:Cx)(e:Expr)(t:TE):Prop:=
 ∀(pins:List (Addr×Obj)) (s:Shared) (σ:St) (H:Hp) (Q:VK),Inv X pins σ H s→t σ H Q→wpAny (model X.prog X.w) X.A (eval e X.env) (EP X pins σ Q) X.xe s
def PT (X:Cx)(e:Expr)(t:TT):Prop:=
 ∀(pins:List (Addr×Obj)) (s:Shared) (σ:St) (H:Hp) (Q:Bool→Hp→Prop),Inv X pins σ H s→t σ H Q→wpAny (model X.prog X.w) X.A (isTrue e X.env (eval e X.env)) (TP X pins σ Q) X.xe s
def PW (X:Cx)(e:Expr)(t:TT):Prop:=
 ∀(whole:Sem Value) (pins:List (Addr×Obj)) (s:Shared) (σ:St) (H:Hp) (Q:Bool→Hp→Prop),Inv X pins σ H s→t σ H Q→wpAny (model X.prog X.w) X.A (isTrue e X.env whole) (TP X pins σ Q) X.xe s
theorem PW.pt {X:Cx}{e:Expr}{t:TT}(h:PW X e t):PT X e t:=h _
def PA (X:Cx)(es:List Expr)(t:TA):Prop:=
 ∀(pos:Pos) (pins:List (Addr×Obj)) (s:Shared) (σ:St) (H:Hp) (Q:List V→Hp→Prop),Inv X pins σ H s→t σ H Q→wpAny (model X.prog X.w) X.A (spliced (backTo pos (starEach es X.env))) (AP X pins σ Q) X.xe s
def PS (X:Cx)(st:Stmt)(t:TS):Prop:=
 ∀(pins:List (Addr×Obj)) (s:Shared) (σ:St) (H:Hp) (D:zcW),Inv X pins σ H s→t D σ H→wpAny (model X.prog X.w) X.A (exec st X.env) (SP X pins D) X.xe s
def PSs (X:Cx)(st:List Stmt)(t:TS):Prop:=
 ∀(pins:List (Addr×Obj)) (s:Shared) (σ:St) (H:Hp) (D:zcW),Inv X pins σ H s→t D σ H→wpAny (model X.prog X.w) X.A (execs st X.env) (SP X pins D) X.xe s
theorem thn {α:Type}{t:Sem α}{Q Q':α→Shared→Prop}{M:Model}{A:Around}{E:Value→Shared→Prop}{s:Shared}(h:wpAny M A t Q E s)(hQ:∀a s,Q a s→Q' a s):wpAny M A t Q' E s:=wpAny_mono h hQ λ_ _ x=>x
end L2
namespace L2
open PySem PySem.Spec PyProof.Rows
section
variable {X:Cx}
def tVar (i:Nat):TE:=λσ H Q=>∃v,σ[i]?=some (some v)∧Q v H
def tC (v:V):TE:=λ_ H Q=>Q v H
theorem zpN {i:Nat}{x:Str}{pos:Pos}(hN:X.N[i]?=some x)(hv:Vis X.env.scope x)(hd:(x==("__debug__":Str))=false:=by decide)(hcd:(x==("__classdict__":Str))=false:=by decide):PE X (.Name x pos) (tVar i):=by
 intro pins s σ H Q I h
 obtain⟨v,e,h⟩:=h
 obtain⟨m,hn,hl⟩:=I.loc
 obtain⟨u,r,l⟩:=hl i x v hN e hv
 have fin:EP X pins σ Q u s:=⟨v,H,I,r,h⟩
 rcases l with ⟨hk,hm⟩ | ⟨hk,c,hc,hcell⟩
 ·exact wpAny_Name (wpAny_loadName_local I.ok.kind hk hn hm fin) hd
 ·rcases hk with hk | hk
  ·exact wpAny_Name (wpAny_loadName_cell I.ok.kind hk hc hcell fin) hd
  ·exact wpAny_Name (wpAny_loadName_free I.ok.kind hk hc hcell fin hcd) hd
theorem zxX {i j pos}:PE X (.Constant (.int i) j pos) (tC (.int i)):=λ_ _ _ H _ I h=>wpAny_Constant_int ⟨.int i,H,I.tok _,⟨_,rfl⟩,h⟩
theorem pe_bl {b j pos}:PE X (.Constant (.bool b) j pos) (tC (.bl b)):=λ_ _ _ H _ I h=>Constant_bool ⟨.bl b,H,I,rfl,h⟩
theorem zuw {j pos}:PE X (.Constant .none j pos) (tC .non):=λ_ _ _ H _ I h=>Constant_none ⟨.non,H,I,rfl,h⟩
theorem zvk {x j pos}:PE X (.Constant (.str x) j pos) (tC (.str x)):=λ_ _ _ H _ I h=>Calls.Constant_str ⟨.str x,H,I.tok _,⟨_,rfl⟩,h⟩
def Gl (X:Cx)(x:Str):Prop:=X.env.kindOf x=some .globalImplicit
theorem zpV {E:Value→Shared→Prop}{pins:List (Addr×Obj)}{s:Shared}{σ:St}{H:Hp}{x:Str}{u:Value}{pos:Pos}{Q:Value→Shared→Prop}(I:Inv X pins σ H s)(hg:Gl X x)(hm:X.mg x=some u)(h:Q u s)
  (hd:(x==("__debug__":Str))=false:=by decide):wpAny (model X.prog X.w) X.A (eval (.Name x pos) X.env) Q E s:=
 Calls.Name_function_global I.ok.kind hg (Calls.loadGlobal_global (by rw[I.ok.glob]; exact I.mod.glob.keeps I.bk) hm h) hd
theorem zfr {E:Value→Shared→Prop}{pins:List (Addr×Obj)}{s:Shared}{σ:St}{H:Hp}{x:Str}{u:Value}{pos:Pos}{Q:Value→Shared→Prop}(I:Inv X pins σ H s)(hg:Gl X x)(hm:X.mg x=none)(hv:bootBuiltins x=some u)(h:Q u s)
  (hn:x≠"__name__":=by decide)(hd:(x==("__debug__":Str))=false:=by decide):wpAny (model X.prog X.w) X.A (eval (.Name x pos) X.env) Q E s:=by
 obtain⟨mb,h1,h2⟩:=I.mod.blt
 exact Calls.Name_function_global I.ok.kind hg (Calls.loadGlobal_builtin (by rw[I.ok.glob]; exact I.mod.glob.keeps I.bk) hm (by rw[I.ok.blt]; exact h1.keeps I.bk) ((h2 x hn).trans hv) h) hd
theorem zqM {x:Str}{v:V}{u:Value}{pos:Pos}(hg:Gl X x)(hm:X.mg x=none)(hv:bootBuiltins x=some u)(r:zay v u)(hn:x≠"__name__":=by decide)(hd:(x==("__debug__":Str))=false:=by decide):PE X (.Name x pos) (tC v):=
 λ_ _ _ H _ I h=>zfr I hg hm hv ⟨v,H,I,r,h⟩ hn hd
variable {a b:Expr}{ta tb:TE}{pos:Pos}
def tB (t:TE):TT:=λσ H Q=>t σ H λx H1=>∃c,x=.bl c∧Q c H1
theorem zvo {e:Expr}{t:TE}(h:PE X e t)(he:∀whole,isTrue e X.env whole=(do let v ← whole; standAt e.pos; holding [v] (truthy v)):=by intro _; rfl):PT X e (tB t):=by
 intro pins s σ H Q I hw
 refine isTrue_plain (thn (h pins s σ H _ I hw) λv s1 ⟨x,H1,I1,r1,q1⟩=>?_) (he _)
 obtain⟨d,rfl,q⟩:=q1
 cases r1
 exact wpAny_truthy_bool ⟨H1,I1,q⟩
variable {tA tB':TT}{zbj:List Expr}
def tAnd (t u:TT):TT:=λσ H Q=>t σ H λc H1=>if c=true then u σ H1 Q else Q false H1
def tOr (t u:TT):TT:=λσ H Q=>t σ H λc H1=>if c=true then Q true H1 else u σ H1 Q
def tNot (t:TT):TT:=λσ H Q=>t σ H λc H1=>Q (!c) H1
theorem zr7 (ha:PT X a tA):PW X (.BoolOp .And [a] pos) tA:=by
 intro wh pins s σ H Q I h
 refine isTrue_and (thn (ha pins s σ H Q I h) λc s1 e=>?_)
 cases c with
 | true=>exact isTrue_and_nil e
 | false=>exact e
theorem zs2 (ha:PT X a tA):PW X (.BoolOp .Or [a] pos) tA:=by
 intro wh pins s σ H Q I h
 refine isTrue_or (thn (ha pins s σ H Q I h) λc s1 e=>?_)
 cases c with
 | false=>exact isTrue_or_nil e
 | true=>exact e
theorem ztI (ha:PT X a tA)(hb:PW X (.BoolOp .And (b::zbj) pos) tB'):PW X (.BoolOp .And (a::b::zbj) pos) (tAnd tA tB'):=by
 intro wh pins s σ H Q I h
 refine isTrue_and (thn (ha pins s σ H _ I h) λc s1 ⟨H1,I1,q1⟩=>?_)
 cases c with
 | true=>exact hb wh pins s1 σ H1 Q I1 q1
 | false=>exact⟨H1,I1,q1⟩
theorem pw_or (ha:PT X a tA)(hb:PW X (.BoolOp .Or (b::zbj) pos) tB'):PW X (.BoolOp .Or (a::b::zbj) pos) (tOr tA tB'):=by
 intro wh pins s σ H Q I h
 refine isTrue_or (thn (ha pins s σ H _ I h) λc s1 ⟨H1,I1,q1⟩=>?_)
 cases c with
 | true=>exact⟨H1,I1,q1⟩
 | false=>exact hb wh pins s1 σ H1 Q I1 q1
theorem zwC (ha:PT X a tA):PT X (.UnaryOp .Not a pos) (tNot tA):=by
 intro pins s σ H Q I h
 exact isTrue_not (ha pins s σ H (λc H1=>Q (!c) H1) I h)
def tAndV (ta tb:TE):TE:=λσ H Q=>ta σ H λx H1=>∃c,x=.bl c∧if c=true then tb σ H1 Q else Q (.bl false) H1
def tOrV (ta tb:TE):TE:=λσ H Q=>ta σ H λx H1=>∃c,x=.bl c∧if c=true then Q (.bl true) H1 else tb σ H1 Q
def tNotV (ta:TE):TE:=λσ H Q=>ta σ H λx H1=>∃c,x=.bl c∧Q (.bl (!c)) H1
theorem zuy {op}{t:TE}(h:PE X a t):PE X (.BoolOp op [a] pos) t:=λpins s σ H Q I hw=>BoolOp_one (h pins s σ H Q I hw)
theorem zsW (ha:PE X a ta)(hb:PE X (.BoolOp .And (b::zbj) pos) tb):PE X (.BoolOp .And (a::b::zbj) pos) (tAndV ta tb):=by
 intro pins s σ H Q I h
 refine BoolOp_and (thn (ha pins s σ H _ I h) λv s1 ⟨x,H1,I1,r1,q1⟩=>?_)
 obtain⟨c,rfl,q1⟩:=q1
 cases r1
 refine wpAny_truthy_bool ?_
 cases c with
 | true=>exact hb pins s1 σ H1 Q I1 q1
 | false=>exact⟨.bl false,H1,I1,rfl,q1⟩
theorem pe_or (ha:PE X a ta)(hb:PE X (.BoolOp .Or (b::zbj) pos) tb):PE X (.BoolOp .Or (a::b::zbj) pos) (tOrV ta tb):=by
 intro pins s σ H Q I h
 refine BoolOp_or (thn (ha pins s σ H _ I h) λv s1 ⟨x,H1,I1,r1,q1⟩=>?_)
 obtain⟨c,rfl,q1⟩:=q1
 cases r1
 refine wpAny_truthy_bool ?_
 cases c with
 | false=>exact hb pins s1 σ H1 Q I1 q1
 | true=>exact⟨.bl true,H1,I1,rfl,q1⟩
theorem zws (ha:PE X a ta):PE X (.UnaryOp .Not a pos) (tNotV ta):=by
 intro pins s σ H Q I h
 refine UnaryOp_ (thn (ha pins s σ H _ I h) λv s1 ⟨x,H1,I1,r1,q1⟩=>?_)
 obtain⟨c,rfl,q1⟩:=q1
 cases r1
 exact not_of (wpAny_truthy_bool ⟨.bl (!c),H1,I1,rfl,q1⟩)
def tIf (t:TT)(ta tb:TE):TE:=λσ H Q=>t σ H λc H1=>if c=true then ta σ H1 Q else tb σ H1 Q
theorem zuH {c:Expr}(hc:PT X c tA)(ha:PE X a ta)(hb:PE X b tb):PE X (.IfExp c a b pos) (tIf tA ta tb):=by
 intro pins s σ H Q I h
 refine wpAny_IfExp (thn (hc pins s σ H _ I h) λd s1 ⟨H1,I1,q1⟩=>?_)
 cases d with
 | true=>exact ha pins s1 σ H1 Q I1 q1
 | false=>exact hb pins s1 σ H1 Q I1 q1
end
end L2
namespace L2
open PySem PySem.Spec PyProof.Rows
def SqL (K:PySem.W.Frag)(H:Hp)(a:Addr)(xs:List V):Prop:=
 Rd H a (.lst xs)∨
  ∃(o:Obj) (its:Array Value) (n:Nat),K.lookup a=some o∧o.cls=.type "list"∧o.dict=none∧o.data=.seq its n∧its.size≤sizeLine∧zaA xs its.toList
def SqT (K:PySem.W.Frag)(H:Hp)(a:Addr)(xs:List V):Prop:=
 Rd H a (.tup xs)∨
  ∃(o:Obj) (its:Array Value) (n:Nat),K.lookup a=some o∧o.cls=.type "tuple"∧o.data=.seq its n∧its.size≤sizeLine∧zaA xs its.toList
def absV:Value→Option V
 | .none=>some .non
 | .bool b=>some (.bl b)
 | .int i _=>some (.int i)
 | .str x _=>some (.str x)
 | .bytes b _=>some (.byt b)
 | .float b _=>some (.flt b)
 | .ref a=>some (.ref a)
 | .type n=>some (.ty n)
 | _=>none
theorem zay.abs {x:V}{u:Value}(r:zay x u):absV u=some x:=by
 cases x with
 | non=>cases r; rfl
 | bl _=>cases r; rfl
 | int _=>obtain⟨t,rfl⟩:=r; rfl
 | str _=>obtain⟨t,rfl⟩:=r; rfl
 | byt _=>obtain⟨t,rfl⟩:=r; rfl
 | flt _=>obtain⟨t,rfl⟩:=r; rfl
 | ref _=>cases r; rfl
 | ty _=>cases r; rfl
theorem zay.inj {x y:V}{u:Value}(r:zay x u)(q:zay y u):x=y:=Option.some.inj (r.abs.symm.trans q.abs)
theorem zaA.inj:∀ {xs ys:List V} {us:List Value},zaA xs us→zaA ys us→xs=ys
 | _,_,_,.nil,.nil=>rfl
 | _,_,_,.cons r t,.cons r' t'=>by rw[r.inj r',zaA.inj t t']
section
variable {X:Cx}{pins:List (Addr×Obj)}{σ:St}{H:Hp}{s:Shared}{a:Addr}{xs ys:List V}
theorem SqL.of {K:PySem.W.Frag}(h:H a=some (.lst xs)):SqL K H a xs:=.inl (.inl h)
theorem SqT.of {K:PySem.W.Frag}(h:H a=some (.tup xs)):SqT K H a xs:=.inl (.inl h)
theorem Inv.list (I:Inv X pins σ H s)(h:SqL X.K H a xs):∃its:List Value,zaA xs its∧PlainL s.heap a its.toArray∧xs.length≤sizeLine:=by
 rcases h with h | ⟨o,its,n,hk,hc,hd,hs,hz,r⟩
 ·obtain⟨z,its,n,r,e⟩:=h.ok I.hok
  exact⟨its,r,⟨_,n,e,rfl,rfl,rfl⟩,z⟩
 ·refine⟨its.toList,r,⟨o,n,I.kIn a o hk,hc,hd,by simpa using hs⟩,?_⟩
  have e:=r.length
  simp only[Array.length_toList] at e
  omega
theorem Inv.tuple (I:Inv X pins σ H s)(h:SqT X.K H a xs):∃its:List Value,zaA xs its∧IsTup s.heap a its.toArray∧xs.length≤sizeLine:=by
 rcases h with h | ⟨o,its,n,hk,hc,hs,hz,r⟩
 ·obtain⟨z,its,r,p⟩:=h.ok I.hok
  exact⟨its,r,p,z⟩
 ·refine⟨its.toList,r,⟨o,I.kIn a o hk,hc,n,by simpa using hs⟩,?_⟩
  have e:=r.length
  simp only[Array.length_toList] at e
  omega
theorem Inv.list_inj (I:Inv X pins σ H s)(h:SqL X.K H a xs)(h':SqL X.K H a ys):xs=ys:=by
 obtain⟨its,r,⟨o,n,e,_,_,d⟩,_⟩:=I.list h
 obtain⟨its',r',⟨o',n',e',_,_,d'⟩,_⟩:=I.list h'
 rw[e] at e'; cases e'
 rw[d] at d'
 injection d' with d1 _
 have:its=its':=by simpa using congrArg Array.toList d1
 subst this
 exact r.inj r'
theorem Inv.tuple_inj (I:Inv X pins σ H s)(h:SqT X.K H a xs)(h':SqT X.K H a ys):xs=ys:=by
 obtain⟨its,r,⟨o,e,_,n,d⟩,_⟩:=I.tuple h
 obtain⟨its',r',⟨o',e',_,n',d'⟩,_⟩:=I.tuple h'
 rw[e] at e'; cases e'
 rw[d] at d'
 injection d' with d1 _
 have:its=its':=by simpa using congrArg Array.toList d1
 subst this
 exact r.inj r'
end
abbrev Cx.wish (X:Cx)(E:Value→Shared→Prop):Cx:={ X with xe:=E }
abbrev Cx.nox (X:Cx):Cx:=X.wish λ_ _=>False
theorem Cx.Ok.wish {X:Cx}(ok:X.Ok)(E:Value→Shared→Prop):(X.wish E).Ok:=
 ⟨ok.mod,ok.kind,ok.glob,ok.blt,ok.above,ok.inj,ok.has,ok.cab,ok.hd,ok.frames,ok.stk,ok.exf,ok.bs,ok.bsz,ok.noex,ok.exfs,ok.funs,ok.frf⟩
theorem Cx.Ok.unwish {X:Cx}{E:Value→Shared→Prop}(ok:(X.wish E).Ok):X.Ok:=
 ⟨ok.mod,ok.kind,ok.glob,ok.blt,ok.above,ok.inj,ok.has,ok.cab,ok.hd,ok.frames,ok.stk,ok.exf,ok.bs,ok.bsz,ok.noex,ok.exfs,ok.funs,ok.frf⟩
section
variable {X:Cx}{pins:List (Addr×Obj)}{σ:St}{H:Hp}{s:Shared}{E:Value→Shared→Prop}
theorem Inv.wish (I:Inv X pins σ H s)(E:Value→Shared→Prop):Inv (X.wish E) pins σ H s:=⟨I.ok.wish E,I.os,I.bare,I.base,I.loc,I.cell,I.free,I.freeC,I.pin,I.hok,I.len⟩
theorem Inv.unwish (I:Inv (X.wish E) pins σ H s):Inv X pins σ H s:=⟨I.ok.unwish,I.os,I.bare,I.base,I.loc,I.cell,I.free,I.freeC,I.pin,I.hok,I.len⟩
theorem SP.unwish {D:zcW}{f:Flow}{s':Shared}(h:SP (X.wish E) pins D f s'):SP X pins D f s':=by
 cases f with
 | next=>obtain⟨σ',H',I,q⟩:=h; exact⟨σ',H',I.unwish,q⟩
 | brk=>obtain⟨σ',H',I,q⟩:=h; exact⟨σ',H',I.unwish,q⟩
 | cont=>obtain⟨σ',H',I,q⟩:=h; exact⟨σ',H',I.unwish,q⟩
 | ret u=>obtain⟨v,σ',H',I,r,q⟩:=h; exact⟨v,σ',H',I.unwish,r,q⟩
theorem PE.nox {e:Expr}{t:TE}(h:PE X.nox e t):PE X e t:=λpins s σ H Q I hw=>
 wpAny_mono (h pins s σ H Q (I.wish _) hw) (λ_ _ ⟨v,H',I',r,q⟩=>⟨v,H',I'.unwish,r,q⟩) λ_ _ z=>False.elim z
theorem PT.nox {e:Expr}{t:TT}(h:PT X.nox e t):PT X e t:=λpins s σ H Q I hw=>
 wpAny_mono (h pins s σ H Q (I.wish _) hw) (λ_ _ ⟨H',I',q⟩=>⟨H',I'.unwish,q⟩) λ_ _ z=>False.elim z
theorem PSs.nox {st:List Stmt}{t:TS}(h:PSs X.nox st t):PSs X st t:=λpins s σ H D I hw=>
 wpAny_mono (h pins s σ H D (I.wish _) hw) (λ_ _ q=>q.unwish) λ_ _ z=>False.elim z
end
section
variable {X:Cx}{st:Stmt}{zbj:List Stmt}{t u:TS}{e:Expr}{te:TE}{pos:Pos}
def tNext:TS:=λD σ H=>D.nx σ H
def tSeq (t u:TS):TS:=λD σ H=>t { D with nx:=u D } σ H
theorem zxn:PSs X [] tNext:=λ_ _ σ H _ I h=>wpAny_execs_nil ⟨σ,H,I,h⟩
theorem zwr (h1:PS X st t)(h2:PSs X zbj u):PSs X (st::zbj) (tSeq t u):=by
 intro pins s σ H D I h
 refine wpAny_execs_cons (thn (h1 pins s σ H { D with nx:=u D } I h) λf s1 q=>?_)
 cases f with
 | next=>
  obtain⟨σ',H',I',q⟩:=q
  exact h2 pins s1 σ' H' D I' q
 | ret v=>exact q
 | brk=>exact q
 | cont=>exact q
theorem zyb (h1:PS X st t):PSs X [st] t:=by
 intro pins s σ H D I h
 refine wpAny_execs_cons (thn (h1 pins s σ H D I h) λf s1 q=>?_)
 cases f with
 | next=>exact wpAny_execs_nil q
 | ret v=>exact q
 | brk=>exact q
 | cont=>exact q
theorem Inv.quiet {pins:List (Addr×Obj)}{σ:St}{H:Hp}{s:Shared}(I:Inv X pins σ H s):interactive X.env=false:=by simp[interactive,I.ok.kind]
def tDrop (te:TE):TS:=λD σ H=>te σ H λ_ H1=>D.nx σ H1
theorem zuA (he:PE X e te)(hs:swapsWith e none pos.line X.env=pure false:=by rfl):PS X (.Expr e pos) (tDrop te):=by
 intro pins s σ H D I h
 exact wpAny_Expr_any (thn (he pins s σ H _ I h) λv s1 ⟨x,H1,I1,r1,q1⟩=>⟨σ,H1,I1,q1⟩) I.quiet hs
def tRet (te:TE):TS:=λD σ H=>te σ H D.rt
theorem zun (he:PE X e te):PS X (.Return (some e) pos) (tRet te):=by
 intro pins s σ H D I h
 exact wpAny_Return_some (thn (he pins s σ H _ I h) λv s1 ⟨x,H1,I1,r1,q1⟩=>⟨x,σ,H1,I1,r1,q1⟩)
def tIfS (c:TT)(t u:TS):TS:=λD σ H=>c σ H λb H1=>if b=true then t D σ H1 else u D σ H1
theorem ps_if {c:Expr}{a b:List Stmt}{tc:TT}(hc:PT X c tc)(ha:PSs X a t)(hb:PSs X b u):PS X (.If c a b pos) (tIfS tc t u):=by
 intro pins s σ H D I h
 refine wpAny_If (thn (hc pins s σ H _ I h) λd s1 ⟨H1,I1,q1⟩=>?_)
 cases d with
 | true=>exact ha pins s1 σ H1 D I1 q1
 | false=>exact hb pins s1 σ H1 D I1 q1
def zyy:TS:=λ_ _ _=>False
theorem ztN:PS X st zyy:=λ_ _ _ _ _ _ h=>h.elim
end
abbrev TG:=V→St→Hp→(St→Hp→Prop)→Prop
abbrev TGs:=List V→St→Hp→(St→Hp→Prop)→Prop
def PG (X:Cx)(target:Expr)(t:TG):Prop:=
 ∀(pins:List (Addr×Obj)) (s:Shared) (σ:St) (H:Hp) (v:V) (u:Value) (Q:St→Hp→Prop),Inv X pins σ H s→zay v u→t v σ H Q→
  wpAny (model X.prog X.w) X.A (assign target X.env u) (λ_ s'=>∃σ' H',Inv X pins σ' H' s'∧Q σ' H') X.xe s
def PGs (X:Cx)(ts:List Expr)(t:TGs):Prop:=
 ∀(pins:List (Addr×Obj)) (s:Shared) (σ:St) (H:Hp) (vs:List V) (us:List Value) (Q:St→Hp→Prop),Inv X pins σ H s→zaA vs us→t vs σ H Q→
  wpAny (model X.prog X.w) X.A (assignInOrder ((assignEach ts X.env).map (·.2)) us) (λ_ s'=>∃σ' H',Inv X pins σ' H' s'∧Q σ' H') X.xe s
abbrev TSet:=V→V→V→Hp→(Hp→Prop)→Prop
def PSet (X:Cx)(t:TSet):Prop:=
 ∀(pins:List (Addr×Obj)) (s:Shared) (σ:St) (H:Hp) (o i v:V) (ov iv u:Value) (Q:Hp→Prop),Inv X pins σ H s→zay o ov→zay i iv→zay v u→t o i v H Q→
  wpAny (model X.prog X.w) X.A (setItem ov iv u) (λ_ s'=>∃H',Inv X pins σ H' s'∧Q H') X.xe s
section
variable {X:Cx}{pos:Pos}
def zpQ (i:Nat):TG:=λv σ H Q=>Q (σ.set i (some v)) H
theorem zeS {i:Nat}{x:Str}(hN:X.N.Nodup)(hi:X.N[i]?=some x)(hx:Loc X.env.scope x)(hf:X.fn x=true∨X.env.scope.names.lookup x=some .local:=by first | exact .inl rfl | exact .inr rfl | assumption):PG X (.Name x pos) (zpQ i):=by
 intro pins s σ H v u Q I r h
 exact wpAny_assign_Name (zq8 I hN hi hx r (λs' I'=>⟨_,H,I',h⟩) hf)
def gNil:TGs:=λvs σ H Q=>vs=[]∧Q σ H
def gCons (t:TG)(u:TGs):TGs:=λvs σ H Q=>∃v r,vs=v::r∧t v σ H λσ' H'=>u r σ' H' Q
theorem zw2:PGs X [] gNil:=by
 intro pins s σ H vs us Q I r h
 obtain⟨e,h⟩:=h
 subst e
 cases r
 exact assignInOrder_nil ⟨σ,H,I,h⟩
theorem zsP {e:Expr}{es:List Expr}{t:TG}{u:TGs}(h1:PG X e t)(h2:PGs X es u)
  (hs:(assignEach (e::es) X.env).map (·.2)=assign e X.env::(assignEach es X.env).map (·.2):=by rfl):PGs X (e::es) (gCons t u):=by
 intro pins s σ H vs us Q I r h
 obtain⟨v,vr,e1,h⟩:=h
 subst e1
 cases r with
 | cons r rr=>
  rw[hs]
  refine assignInOrder_cons (thn (h1 pins s σ H _ _ _ I r h) λ_ s1 ⟨σ1,H1,I1,q1⟩=>?_)
  exact h2 pins s1 σ1 H1 _ _ Q I1 rr q1
def gTup (K:PySem.W.Frag)(n:Nat)(t:TGs):TG:=λv σ H Q=>∃a xs,v=.ref a∧SqT K H a xs∧xs.length=n∧t xs σ H Q
theorem zqp {es:List Expr}{k:Nat}{t:TGs}{n:Nat}(hc:X.calm=true)(h:PGs X es t)
  (hn:(assignEach es X.env).length=n:=by rfl)(hst:(assignEach es X.env).findIdx? (·.1)=none:=by rfl):PG X (.Tuple es k pos) (gTup X.K n t):=by
 intro pins s σ H v u Q I r hw
 obtain⟨a,xs,e1,hq,hl,hw⟩:=hw
 subst e1
 cases r
 obtain⟨its,rv,ht,hz⟩:=I.tuple hq
 refine assign_Tuple_tuple (I.ok.hd hc) ht (by simp[hn,← hl,rv.length]) hst λh' hx=>?_
 have I1:Inv X pins σ H { s with heap:=h' }:=I.kept (t':=s.toks) λb o e=>hx b o (Var (Heap.lt_size e)) e
 exact h pins _ σ H xs _ Q I1 (by simpa using rv) hw
def gSub (to ti:TE)(t:TSet):TG:=λv σ H Q=>to σ H λo H1=>ti σ H1 λi H2=>t o i v H2 λH3=>Q σ H3
theorem zuK {o i:Expr}{to ti:TE}{t:TSet}(ho:PE X o to)(hi:PE X i ti)(hs:PSet X t)
  (ha:∀v,assign (.Subscript o i pos) X.env v=(do
   let ov ← holding [v] (eval o X.env)
   let iv ← holding [v,ov] (eval i X.env)
   standAt pos
   holding [v,ov,iv] (setItem ov iv v)
   release [v,ov,iv] []):=by intro _; rfl):PG X (.Subscript o i pos) (gSub to ti t):=by
 intro pins s σ H v u Q I r h
 rw[ha]
 refine wpAny_bind (wpAny_holding (thn (ho pins s σ H _ I h) λov s1 ⟨x,H1,I1,r1,q1⟩=>?_))
 refine wpAny_bind (wpAny_holding (thn (hi pins s1 σ H1 _ I1 q1) λiv s2 ⟨y,H2,I2,r2,q2⟩=>?_))
 refine wpAny_bind (wpAny_standAt (wpAny_bind (wpAny_holding (thn (hs pins s2 σ H2 x y v ov iv u _ I2 r1 r2 r q2) λ_ s3 ⟨H3,I3,q3⟩=>?_))))
 exact wpAny_release ⟨σ,H3,I3,q3⟩
def tAsg (te:TE)(g:TG):TS:=λD σ H=>te σ H λx H1=>g x σ H1 D.nx
theorem zrg {tg e:Expr}{te:TE}{g:TG}(he:PE X e te)(hg:PG X tg g)(hs:swapsWithSole [tg] e pos.line X.env=pure false:=by rfl)(hw:swappedStores [tg] e X.env=pure none:=by rfl)
  (h1:(assignEach [tg] X.env).map (·.2)=[assign tg X.env]:=by rfl):PS X (.Assign [tg] e pos) (tAsg te g):=by
 intro pins s σ H D I h
 refine wpAny_Assign_stores (thn (he pins s σ H _ I h) λv s1 ⟨x,H1,I1,r1,q1⟩=>?_) hs hw
 rw[h1]
 exact thn (hg pins s1 σ H1 x v _ I1 r1 q1) λ_ s2 q=>q
theorem ztR {i:Nat}{x:Str}{e:Expr}{te:TE}{pos':Pos}(hN:X.N.Nodup)(hi:X.N[i]?=some x)(hx:Loc X.env.scope x)(he:PE X e te)(hs:swapsWith e (some (.Name x pos')) pos.line X.env=pure false:=by rfl)(hf:X.fn x=true∨X.env.scope.names.lookup x=some .local:=by first | exact .inl rfl | exact .inr rfl | assumption):
  PS X (.Assign [.Name x pos'] e pos) (tAsg te (zpQ i)):=by
 intro pins s σ H D I h
 refine wpAny_Assign_Name (thn (he pins s σ H _ I h) λv s1 ⟨y,H1,I1,r1,q1⟩=>?_) hs
 exact zq8 I1 hN hi hx r1 (λs2 I2=>⟨_,H1,I2,q1⟩) hf
end
section
variable {X:Cx}{pos:Pos}
def zx5 (c:TT)(tb:TS):TS:=λD σ H=>∃W:Nat→St→Hp→Prop,(∃m,W m σ H)∧∀m σ H,W m σ H→
 c σ H λb H1=>if b=true then ∃N:St→Hp→Prop,(∀σ' H',N σ' H'→∃m',m'<m∧W m' σ' H')∧tb { D with nx:=N,ct:=N,bk:=D.nx } σ H1 else D.nx σ H1
theorem zxI {c:Expr}{body:List Stmt}{tc:TT}{tb:TS}(hp:PassesOwn (model X.prog X.w) X.A X.env X.xe)(hc:PT X c tc)(hb:PSs X body tb):PS X (.While c body [] pos) (zx5 tc tb):=by
 intro pins s σ H D I h
 obtain⟨W,⟨m0,w0⟩,turn⟩:=h
 refine wpAny_While (codeAny_whileLoop (λn s'=>∃σ' H',Inv X pins σ' H' s'∧W n σ' H') ?_ m0 ⟨σ,H,I,w0⟩)
 rintro n s1 ⟨σ1,H1,I1,w1⟩
 refine wpAny_passesOwn hp (thn (hc pins s1 σ1 H1 _ I1 (turn n σ1 H1 w1)) λb s2 ⟨H2,I2,q2⟩=>?_)
 cases b with
 | true=>
  obtain⟨N,hN,q2⟩:=q2
  rw[if_pos rfl]
  refine wpAny_passesOwn hp (thn (hb pins s2 σ1 H2 _ I2 q2) λf s3 q3=>?_)
  cases f with
  | next=>
   obtain⟨σ3,H3,I3,n3⟩:=q3
   obtain⟨m',hm,w3⟩:=hN σ3 H3 n3
   exact⟨m',hm,σ3,H3,I3,w3⟩
  | cont=>
   obtain⟨σ3,H3,I3,n3⟩:=q3
   obtain⟨m',hm,w3⟩:=hN σ3 H3 n3
   exact⟨m',hm,σ3,H3,I3,w3⟩
  | brk=>exact q3
  | ret v=>exact q3
 | false=>
  rw[if_neg Vam]
  exact wpAny_execs_nil ⟨σ1,H2,I2,q2⟩
end
structure It where
 go:Nat→Hp→Prop
 yld:Nat→Hp→V→Hp→Prop
 stop:Nat→Hp→Prop
def zch (X:Cx)(pins:List (Addr×Obj))(H:Hp)(b:Addr):Prop:=
 H b=none∧b≠X.env.locals∧b ∉ X.fs∧(b∈X.ex∨X.s₀.heap.objs.size≤b)∧(∀x c,X.env.cells.lookup x=some c→c≠b)∧∀p∈X.pn++pins,p.1≠b
theorem Inv.fpOk {X:Cx}{pins:List (Addr×Obj)}{σ:St}{H H':Hp}{s:Shared}{b:Addr}(I:Inv X pins σ H s)(hb:s.heap.objs.size≤b)(hn:H' b=none):zch X pins H' b:=by
 refine⟨hn,Nat.ne_of_gt (Vax I.lt hb),I.nofs hb,.inr (VaE I.sz hb),λx c e z=>?_,λp hp z=>?_⟩
 ·obtain⟨v,q⟩:=I.cell x c e
  exact absurd (Vax q.lt (by rw[z]; exact hb)) (VaM _)
 ·exact absurd (Vax (Heap.lt_size (I.pin p hp).1) (by rw[z]; exact hb)) (VaM _)
structure zeW (P:Program)(w:World)(K:PySem.W.Frag)(tg:Expr)(J:It)(fp:List Addr)(it:Addr)(tn:Nat→Heap→Prop):Prop where
 mem:it∈fp
 obj:∀i h,tn i h→∀b∈fp,∃o,h.get? b=some o∧∀v,o.data≠.cell v
 keep:∀i h h',tn i h→(∀b∈fp,∀o,h.get? b=some o→h'.get? b=some o)→tn i h'
 item:∀(X:Cx),X.prog=P→X.w=w→X.K=K→X.calm=true→∀(i:Nat) (pins:List (Addr×Obj)) (s:Shared) (σ:St) (H:Hp) (E:Value→Shared→Prop),Inv X pins σ H s→(∀b∈fp,zch X pins H b)→tn i s.heap→J.go i H→
  wpAny (model P w) X.A (pyNext (.ref it)) (λr s1=>∃u,r=some u∧
   wpAny (model P w) X.A (letOwnedTupleGo tg (.ref it) u) (λ_ s2=>∃x H',Inv X pins σ H' s2∧zay x u∧J.yld i H x H'∧tn (i+1) s2.heap∧∀b∈fp,H' b=none) E s1) E s
 done:∀(X:Cx),X.prog=P→X.w=w→X.K=K→X.calm=true→∀(i:Nat) (pins:List (Addr×Obj)) (s:Shared) (σ:St) (H:Hp) (E:Value→Shared→Prop),Inv X pins σ H s→(∀b∈fp,zch X pins H b)→tn i s.heap→J.stop i H→
  wpAny (model P w) X.A (pyNext (.ref it)) (λr s1=>r=none∧Inv X pins σ H s1) E s
 self:∀(A:Around) (i:Nat) (s:Shared) (Q:Value→Shared→Prop) (E:Value→Shared→Prop),tn i s.heap→Q (.ref it) s→wpAny (model P w) A (pyIter (.ref it)) Q E s
abbrev TI:=St→Hp→(It→Hp→Prop)→Prop
def PIE (X:Cx)(pins:List (Addr×Obj))(σ:St)(tg:Expr)(R:It→Hp→Prop)(itv:Value)(s2:Shared):Prop:=
 ∃(it:Addr) (fp:List Addr) (tn:Nat→Heap→Prop) (J:It) (H':Hp),itv=.ref it∧Inv X pins σ H' s2∧zeW X.prog X.w X.K tg J fp it tn∧tn 0 s2.heap∧(∀b∈fp,zch X pins H' b)∧R J H'
def PI (X:Cx)(tg iter:Expr)(wi:TI):Prop:=
 ∀(pins:List (Addr×Obj)) (s:Shared) (σ:St) (H:Hp) (R:It→Hp→Prop),Inv X pins σ H s→wi σ H R→
  wpAny (model X.prog X.w) X.A (eval iter X.env) (λv s1=>wpAny (model X.prog X.w) X.A (pyIter v) (PIE X pins σ tg R) X.xe s1) X.xe s
theorem ziX {M:Model}{A:Around}{E:Value→Shared→Prop}{s:Shared}{tg:Expr}{it:Addr}{u:Value}{o:Obj}{n:String}{vs:Array Value}{Q:Unit→Shared→Prop}(ho:s.heap.get? it=some o)(hc:o.cls=.type n)(hd:o.data=.fields vs)
    (hn:["enumerate","zip","dict_itemiterator","dict_reverseitemiterator","odict_iterator","itertools.zip_longest","itertools.pairwise"].contains n=false)(hQ:Q () s):wpAny M A (letOwnedTupleGo tg (.ref it) u) Q E s:=by
  unfold letOwnedTupleGo
  cases tg <;> first
    | exact wpAny_pure hQ
    | (cases u <;> first
        | exact wpAny_pure hQ
        | (refine wpAny_bind (wpAny_load ho ?_)
           rw[hc,hd]
           show wpAny M A (if (["enumerate","zip","dict_itemiterator","dict_reverseitemiterator","odict_iterator","itertools.zip_longest","itertools.pairwise"].contains n&&vs[0]?==some (rawInt _))=true then _ else _) Q E s
           rw[if_neg (by intro h; rw[hn,Bool.false_and] at h; cases h)]
           exact wpAny_pure hQ))
def Itl (K:PySem.W.Frag)(a:Addr):It:=
 ⟨λi H=>∃xs x,SqL K H a xs∧xs[i]?=some x,λi H x H'=>H'=H∧∀xs,SqL K H a xs→xs[i]?=some x,λi H=>∃xs,SqL K H a xs∧xs.length≤i⟩
def Itt (K:PySem.W.Frag)(a:Addr):It:=
 ⟨λi H=>∃xs x,SqT K H a xs∧xs[i]?=some x,λi H x H'=>H'=H∧∀xs,SqT K H a xs→xs[i]?=some x,λi H=>∃xs,SqT K H a xs∧xs.length≤i⟩
def Itr (lo:Int)(n:Nat):It:=⟨λi _=>i<n,λi H x H'=>H'=H∧x=.int (lo+i),λi _=>n≤i⟩
theorem zuc {P:Program}{w:World}{K:PySem.W.Frag}{tg:Expr}(a it:Addr):zeW P w K tg (Itl K a) [it] it (λi h=>h.IsListIter it a i) where
 mem:=by simp
 obj:=λi h st b hb=>by
  have e:b=it:=by simpa using hb
  subst e
  obtain⟨o,e,c,d⟩:=st
  exact⟨o,e,λv z=>by rw[d] at z; cases z⟩
 keep:=λi h h' st k=>st.at λo e=>k it (by simp) o e
 item:=by
  intro X hP hw hK hc i pins s σ H E I hf st hg
  subst hP hw hK
  obtain⟨xs,x,hq,hx⟩:=hg
  obtain⟨its,rv,p,hz⟩:=I.list hq
  obtain⟨u,hu,ru⟩:=rv.get hx
  obtain⟨f0,f1,f2,f3,f4,f5⟩:=hf it (by simp)
  refine wpAny_pyNext_list_item st p.isList (x:=u) (by simpa using hu) λh' st' sb=>?_
  have I1:Inv X pins σ H { s with heap:=h' }:=I.turned (t':=s.toks) (λb o hb e=>(sb.2 b hb).trans e) f0 f1 f3 f4 f5
  obtain⟨o,e,c,d⟩:=id st'
  exact⟨u,rfl,ziX (s:={ s with heap:=h' }) e c d (by decide) ⟨x,H,I1,ru,⟨rfl,λys hy=>by rw[I.list_inj hy hq]; exact hx⟩,st',λb hb=>(hf b hb).1⟩⟩
 done:=by
  intro X hP hw hK hc i pins s σ H E I hf st hg
  subst hP hw hK
  obtain⟨xs,hq,hx⟩:=hg
  obtain⟨its,rv,p,hz⟩:=I.list hq
  obtain⟨f0,f1,f2,f3,f4,f5⟩:=hf it (by simp)
  have hl:=rv.length
  exact wpAny_pyNext_list_end (I.ok.hd hc) st p.isList (by simp; omega) λh' eb=>⟨rfl,I.turned (t':=s.toks) (λb o hb e=>eb b o hb e) f0 f1 f3 f4 f5⟩
 self:=λ_ _ _ _ _ st h=>wpAny_pyIter_listiter st h
theorem zta {P:Program}{w:World}{K:PySem.W.Frag}{tg:Expr}(a it:Addr):zeW P w K tg (Itt K a) [it] it (λi h=>h.IsTupleIter it a i) where
 mem:=by simp
 obj:=λi h st b hb=>by
  have e:b=it:=by simpa using hb
  subst e
  obtain⟨o,e,c,d⟩:=st
  exact⟨o,e,λv z=>by rw[d] at z; cases z⟩
 keep:=λi h h' st k=>st.at λo e=>k it (by simp) o e
 item:=by
  intro X hP hw hK hc i pins s σ H E I hf st hg
  subst hP hw hK
  obtain⟨xs,x,hq,hx⟩:=hg
  obtain⟨its,rv,p,hz⟩:=I.tuple hq
  obtain⟨u,hu,ru⟩:=rv.get hx
  obtain⟨f0,f1,f2,f3,f4,f5⟩:=hf it (by simp)
  refine wpAny_pyNext_tuple_item st (show s.heap.IsTuple a its.toArray from p) (x:=u) (by simpa using hu) λh' st' sb=>?_
  have I1:Inv X pins σ H { s with heap:=h' }:=I.turned (t':=s.toks) (λb o hb e=>(sb.2 b hb).trans e) f0 f1 f3 f4 f5
  obtain⟨o,e,c,d⟩:=id st'
  exact⟨u,rfl,ziX (s:={ s with heap:=h' }) e c d (by decide) ⟨x,H,I1,ru,⟨rfl,λys hy=>by rw[I.tuple_inj hy hq]; exact hx⟩,st',λb hb=>(hf b hb).1⟩⟩
 done:=by
  intro X hP hw hK hc i pins s σ H E I hf st hg
  subst hP hw hK
  obtain⟨xs,hq,hx⟩:=hg
  obtain⟨its,rv,p,hz⟩:=I.tuple hq
  obtain⟨f0,f1,f2,f3,f4,f5⟩:=hf it (by simp)
  have hl:=rv.length
  exact wpAny_pyNext_tuple_end (I.ok.hd hc) st (show s.heap.IsTuple a its.toArray from p) (by simp; omega) λh' eb=>⟨rfl,I.turned (t':=s.toks) (λb o hb e=>eb b o hb e) f0 f1 f3 f4 f5⟩
 self:=λ_ _ _ _ _ st h=>wpAny_pyIter_tupleiter st h
theorem zrR {P:Program}{w:World}{K:PySem.W.Frag}{tg:Expr}(it:Addr)(lo:Int)(n:Nat):zeW P w K tg (Itr lo n) [it] it (λi h=>IsRangeIter h it (lo+(i:Nat)*1) ((n:Int)-(i:Nat)) 1) where
 mem:=by simp
 obj:=λi h st b hb=>by
  have e:b=it:=by simpa using hb
  subst e
  exact⟨_,st,λv z=>by
   have z':Data.fields _=Data.cell v:=z
   cases z'⟩
 keep:=λi h h' st k=>k it (by simp) _ st
 item:=by
  intro X hP hw hK hc i pins s σ H E I hf st hg
  subst hP hw hK
  obtain⟨f0,f1,f2,f3,f4,f5⟩:=hf it (by simp)
  have W:=Walks.range (prog:=X.prog) (w:=X.w) (I.ok.hd hc) it lo 1 n
  refine W.item i s _ _ hg st λv h' tk hv st' kk=>?_
  obtain⟨t,rfl⟩:=hv
  have I1:Inv X pins σ H { s with heap:=h',toks:=tk }:=I.turned (λb o hb e=>kk b o (by simpa using hb) e) f0 f1 f3 f4 f5
  refine⟨_,rfl,ziX (s:={ s with heap:=h',toks:=tk }) (n:="range_iterator") st' rfl rfl (by decide) ⟨.int (lo+i),H,I1,⟨t,?_⟩,⟨rfl,rfl⟩,st',λb hb=>(hf b hb).1⟩⟩
  rw[Int.mul_one]
 done:=by
  intro X hP hw hK hc i pins s σ H E I hf st hg
  subst hP hw hK
  obtain⟨f0,f1,f2,f3,f4,f5⟩:=hf it (by simp)
  exact wpAny_pyNext_range_end (I.ok.hd hc) st (by have:n≤i:=hg; omega) λh' eb=>⟨rfl,I.turned (t':=s.toks) (λb o hb e=>eb b o hb e) f0 f1 f3 f4 f5⟩
 self:=λ_ _ _ _ _ st h=>wpAny_pyIter_rangeiter st h
end L2
namespace L2
open PySem PySem.Spec PyProof.Rows
section
variable {X:Cx}{tg:Expr}
def zqC (K:PySem.W.Frag)(tl:TE):TI:=λσ H R=>tl σ H λx H1=>∃a,x=.ref a∧(∃xs,SqL K H1 a xs)∧R (Itl K a) H1
def iTup (K:PySem.W.Frag)(tl:TE):TI:=λσ H R=>tl σ H λx H1=>∃a,x=.ref a∧(∃xs,SqT K H1 a xs)∧R (Itt K a) H1
theorem znU {l:Expr}{tl:TE}(hl:PE X l tl):PI X tg l (zqC X.K tl):=by
 intro pins s σ H R I h
 refine thn (hl pins s σ H _ I h) λv s1 ⟨x,H1,I1,r1,q1⟩=>?_
 obtain⟨a,e,⟨xs,hq⟩,q⟩:=q1
 subst e
 cases r1
 obtain⟨its,rv,p,hz⟩:=I1.list hq
 refine wpAny_pyIter_list p.isList ?_
 refine⟨s1.heap.objs.size,[s1.heap.objs.size],_,_,H1,rfl,I1.kept (t':=s1.toks) λb o e=>Heap.get?_push_of_some _ e,zuc a _,⟨_,Heap.get?_push_size _ rfl,rfl,rfl⟩,λb hb=>?_,q⟩
 have e:b=s1.heap.objs.size:=by simpa using hb
 subst e
 exact I1.fpOk (Vab _) (I1.hok.fresh (Vab _))
theorem zyP {l:Expr}{tl:TE}(hl:PE X l tl):PI X tg l (iTup X.K tl):=by
 intro pins s σ H R I h
 refine thn (hl pins s σ H _ I h) λv s1 ⟨x,H1,I1,r1,q1⟩=>?_
 obtain⟨a,e,⟨xs,hq⟩,q⟩:=q1
 subst e
 cases r1
 obtain⟨its,rv,p,hz⟩:=I1.tuple hq
 refine wpAny_pyIter_tuple (show s1.heap.IsTuple a its.toArray from p) ?_
 refine⟨s1.heap.objs.size,[s1.heap.objs.size],_,_,H1,rfl,I1.kept (t':=s1.toks) λb o e=>Heap.get?_push_of_some _ e,zta a _,⟨_,Heap.get?_push_size _ rfl,rfl,rfl⟩,λb hb=>?_,q⟩
 have e:b=s1.heap.objs.size:=by simpa using hb
 subst e
 exact I1.fpOk (Vab _) (I1.hok.fresh (Vab _))
theorem zuf {pins:List (Addr×Obj)}{σ:St}{H:Hp}{s:Shared}{R:It→Hp→Prop}{E:Value→Shared→Prop}{lo hi:Int}{t u v:Tok}{tk:Nat}(I:Inv X pins σ H s)(h1:-(2^62)≤lo)(h2:lo<2^62)(h3:-(2^62)≤hi)(h4:hi<2^62)
  (q:R (Itr lo (hi-lo).toNat) H):wpAny (model X.prog X.w) X.A (pyIter (.ref s.heap.objs.size)) (PIE X pins σ tg R) E { s with heap:=s.heap.push { cls:=.type "range",data:=.fields #[.int lo t,.int hi u,.int 1 v] },toks:=tk }:=by
 refine wpAny_pyIter_range (IsRange.new ..) (small_one h1 h2 h3 h4) ?_
 have I1:Inv X pins σ H { s with heap:=s.heap.push { cls:=.type "range",data:=.fields #[.int lo t,.int hi u,.int 1 v] },toks:=tk }:=I.kept λb o e=>Heap.get?_push_of_some _ e
 refine⟨(s.heap.push { cls:=.type "range",data:=.fields #[.int lo t,.int hi u,.int 1 v] }).objs.size,[(s.heap.push { cls:=.type "range",data:=.fields #[.int lo t,.int hi u,.int 1 v] }).objs.size],_,_,H,rfl,
  I1.kept (t':=tk) λb o e=>Heap.get?_push_of_some _ e,zrR _ lo (hi-lo).toNat,?_,λb hb=>?_,q⟩
 ·have e1:lo+((0:Nat):Int)*1=lo:=by simp
  have e2:(((hi-lo).toNat:Nat):Int)-((0:Nat):Int)=Builtin.Range.rangeSize lo hi 1:=by rw[rangeSize_one]; split <;> omega
  show IsRangeIter _ _ (lo+((0:Nat):Int)*1) ((((hi-lo).toNat:Nat):Int)-((0:Nat):Int)) 1
  rw[e1,e2]
  exact Heap.get?_push_size _ rfl
 ·have e:b=(s.heap.push { cls:=.type "range",data:=.fields #[.int lo t,.int hi u,.int 1 v] }).objs.size:=by simpa using hb
  subst e
  exact I1.fpOk (Vab _) (I1.hok.fresh (Vab _))
def zql (ta:TA):TI:=λσ H R=>ta σ H λvs H1=>∃j:Int,vs=[.int j]∧-(2^62)≤j∧j<2^62∧R (Itr 0 j.toNat) H1
theorem zpX {a:Expr}{ta:TA}{p pos:Pos}(hg:Gl X "range")(hm:X.mg "range"=none)(ha:PA X [a] ta)(hs:starEach [a] X.env=[(false,eval a X.env)]:=by rfl):PI X tg (.Call (.Name "range" p) [a] [] pos) (zql ta):=by
 intro pins s σ H R I h
 refine Call_ (zfr I hg hm boot_range (PyProof.Rows.callWith_type1 (thn (ha pos pins s σ H _ I h) λus s1 ⟨vs,H1,I1,r1,q1⟩=>?_) hs rfl))
 obtain⟨j,e,q1,q2,q⟩:=q1
 subst e
 cases r1 with
 | cons r rr=>
  cases rr
  obtain⟨t,rfl⟩:=r
  exact call_range_1 (zuf I1 (by omega) (by omega) q1 q2 (by simpa using q))
def tFor (wi:TI)(g:TG)(tb:TS):TS:=λD σ H=>wi σ H λJ H1=>∃W:Nat→Nat→St→Hp→Prop,(∃m,W 0 m σ H1)∧∀i m σ H,W i m σ H→
 (J.stop i H∧D.nx σ H)∨(J.go i H∧∃N:St→Hp→Prop,(∀σ' H',N σ' H'→∃m',m'<m∧W (i+1) m' σ' H')∧∀x H',J.yld i H x H'→g x σ H' λσ2 H2=>tb { D with nx:=N,ct:=N,bk:=D.nx } σ2 H2)
def zh5 (fp:List Addr)(h:Heap):List (Addr×Obj):=fp.filterMap λb=>(h.get? b).map λo=>(b,o)
theorem zkY {fp:List Addr}{h:Heap}{b:Addr}{o:Obj}(hb:b∈fp)(e:h.get? b=some o):(b,o)∈zh5 fp h:=List.mem_filterMap.mpr ⟨b,hb,by rw[e]; rfl⟩
theorem zt9 {fp:List Addr}{h:Heap}{p:Addr×Obj}(hp:p∈zh5 fp h):p.1∈fp∧h.get? p.1=some p.2:=by
 obtain⟨b,hb,e⟩:=List.mem_filterMap.mp hp
 cases q:h.get? b with
 | none=>rw[q] at e; cases e
 | some o=>
  rw[q] at e
  have e':(b,o)=p:=Option.some.inj e
  subst e'
  exact⟨hb,q⟩
theorem Inv.pinned {pins:List (Addr×Obj)}{σ:St}{H:Hp}{s:Shared}{fp:List Addr}(I:Inv X pins σ H s)(hf:∀b∈fp,zch X pins H b)(ho:∀b∈fp,∃o,s.heap.get? b=some o∧∀v,o.data≠.cell v):Inv X (pins++zh5 fp s.heap) σ H s:=
 I.pins_of λp hp=>(VaR.mp hp).elim (λz=>I.pin p (VaI _ z)) λz=>by
  obtain⟨hb,e⟩:=zt9 z
  obtain⟨f0,f1,f2,_⟩:=hf p.1 hb
  obtain⟨o,e',d⟩:=ho p.1 hb
  rw[e] at e'; cases e'
  exact⟨e,f0,f1,f2,d⟩
theorem Inv.unpinned {pins pl:List (Addr×Obj)}{σ:St}{H:Hp}{s:Shared}(I:Inv X (pins++pl) σ H s):Inv X pins σ H s:=I.pins_of λp hp=>I.pin p (VaI _ (List.mem_append_left _ hp))
theorem zgx {iter:Expr}{body:List Stmt}{wi:TI}{g:TG}{tb:TS}{pos:Pos}(hp:PassesOwn (model X.prog X.w) X.A X.env X.xe)(hc:X.calm=true)(hi:PI X tg iter wi)(hg:PG X tg g)(hb:PSs X body tb)
  (hs:∀x,foldedSetIterable iter X.env x=pure x:=by intro _; rfl):PS X (.For tg iter body [] pos) (tFor wi g tb):=by
 intro pins s σ H D I h
 refine wpAny_For (thn (hi pins s σ H _ I h) λv s1 h1=>thn h1 λitv s2 h2=>?_) hs
 obtain⟨it,fp,tn,J,H2,e,I2,T,st2,f2,W,⟨m0,w0⟩,turn⟩:=h2
 subst e
 have stat:∀ {H':Hp},(∀b∈fp,H' b=none)→∀b∈fp,zch X pins H' b:=λhn b hb=>⟨hn b hb,(f2 b hb).2⟩
 refine codeAny_forLoop_any (λn s'=>∃i σ' H',Inv X pins σ' H' s'∧tn i s'.heap∧(∀b∈fp,H' b=none)∧W i n σ' H') ?_ m0 ⟨0,σ,H2,I2,st2,λb hb=>(f2 b hb).1,w0⟩
 rintro n s3 ⟨i,σ3,H3,I3,st3,fr3,w3⟩
 rcases turn i n σ3 H3 w3 with ⟨stop,qn⟩ | ⟨go,N,hN,step⟩
 ·refine wpAny_passesOwn hp (thn (T.done X rfl rfl rfl hc i pins s3 σ3 H3 X.xe I3 (stat fr3) st3 stop) λr s4 ⟨hr,I4⟩=>?_)
  subst hr
  exact wpAny_execs_nil ⟨σ3,H3,I4,qn⟩
 ·refine wpAny_passesOwn hp (thn (T.item X rfl rfl rfl hc i pins s3 σ3 H3 X.xe I3 (stat fr3) st3 go) λr s4 ⟨u,hr,h4⟩=>?_)
  subst hr
  refine wpAny_passesOwn hp (thn h4 λ_ s5 ⟨x,H5,I5,r5,y5,st5,fr5⟩=>?_)
  have I5':=I5.pinned (stat fr5) (T.obj _ _ st5)
  refine wpAny_passesOwn hp (thn (hg _ s5 σ3 H5 x u _ I5' r5 (step x H5 y5)) λ_ s6 ⟨σ6,H6,I6,q6⟩=>?_)
  refine wpAny_passesOwn hp (thn (hb _ s6 σ6 H6 _ I6 q6) λf s7 q7=>?_)
  have again:∀ {σ7:St} {H7:Hp},Inv X (pins++zh5 fp s5.heap) σ7 H7 s7→N σ7 H7→∃m,m<n∧∃i σ' H',Inv X pins σ' H' s7∧tn i s7.heap∧(∀b∈fp,H' b=none)∧W i m σ' H':=λ{σ7 H7} I7 n7=>by
   obtain⟨m',hm,w7⟩:=hN σ7 H7 n7
   refine⟨m',hm,i+1,σ7,H7,I7.unpinned,T.keep _ _ _ st5 λb hb o e=>(I7.pin (b,o) (VaI _ (VaI _ (zkY hb e)))).1,λb hb=>?_,w7⟩
   obtain⟨o,e,d⟩:=T.obj _ _ st5 b hb
   exact(I7.pin (b,o) (VaI _ (VaI _ (zkY hb e)))).2.1
  cases f with
  | next=>obtain⟨σ7,H7,I7,n7⟩:=q7; exact again I7 n7
  | cont=>obtain⟨σ7,H7,I7,n7⟩:=q7; exact again I7 n7
  | brk=>obtain⟨σ7,H7,I7,q7⟩:=q7; exact⟨σ7,H7,I7.unpinned,q7⟩
  | ret v=>obtain⟨x7,σ7,H7,I7,r7,q7⟩:=q7; exact⟨x7,σ7,H7,I7.unpinned,r7,q7⟩
end
end L2
namespace L2
open PySem PySem.Spec PyProof.Rows
abbrev R2:=V→V→Hp→VK→Prop
def OpR (X:Cx)(f:Value→Value→Sem Value)(r:R2):Prop:=
 ∀(pins:List (Addr×Obj)) (s:Shared) (σ:St) (H:Hp) (x y:V) (v u:Value) (Q:VK),Inv X pins σ H s→zay x v→zay y u→r x y H Q→
  wpAny (model X.prog X.w) X.A (f v u) (EP X pins σ Q) X.xe s
def UnR (X:Cx)(f:Value→Sem Value)(r:V→Hp→VK→Prop):Prop:=
 ∀(pins:List (Addr×Obj)) (s:Shared) (σ:St) (H:Hp) (x:V) (v:Value) (Q:VK),Inv X pins σ H s→zay x v→r x H Q→
  wpAny (model X.prog X.w) X.A (f v) (EP X pins σ Q) X.xe s
def zbm (X:Cx)(f:Value)(r:List V→Hp→VK→Prop):Prop:=
 ∀(pins:List (Addr×Obj)) (s:Shared) (σ:St) (H:Hp) (xs:List V) (us:List Value) (Q:VK),Inv X pins σ H s→zaA xs us→r xs H Q→
  wpAny (model X.prog X.w) X.A (call f us) (EP X pins σ Q) X.xe s
def tOp (r:R2)(ta tb:TE):TE:=λσ H Q=>ta σ H λx H1=>tb σ H1 λy H2=>r x y H2 Q
def tUn (r:V→Hp→VK→Prop)(ta:TE):TE:=λσ H Q=>ta σ H λx H1=>r x H1 Q
def rI (C:Int→Int→Prop)(g:Int→Int→V):R2:=λx y H Q=>∃i j,x=.int i∧y=.int j∧C i j∧Q (g i j) H
def rI0 (g:Int→Int→V):R2:=λx y H Q=>∃i j,x=.int i∧y=.int j∧Q (g i j) H
def rU (g:Int→V):V→Hp→VK→Prop:=λx H Q=>∃i,x=.int i∧Q (g i) H
section
variable {X:Cx}{a b c:Expr}{ta tb tc:TE}{pos:Pos}
theorem binT (ha:PE X a ta)(hb:PE X b tb){pins:List (Addr×Obj)}{s:Shared}{σ:St}{H:Hp}{R:V→V→Hp→Prop}(I:Inv X pins σ H s)
  (h:ta σ H λx H1=>tb σ H1 λy H2=>R x y H2){Q:Value→Shared→Prop}{f:Value→Value→Sem Value}
  (hf:∀v u s2 x y H2,Inv X pins σ H2 s2→zay x v→zay y u→R x y H2→wpAny (model X.prog X.w) X.A (f v u) Q X.xe s2):
  wpAny (model X.prog X.w) X.A (eval a X.env) (λv s₁=>wpAny (model X.prog X.w) X.A (eval b X.env) (λu s₂=>wpAny (model X.prog X.w) X.A (f v u) Q X.xe s₂) X.xe s₁) X.xe s:=by
 refine thn (ha pins s σ H _ I h) λv s1 ⟨x,H1,I1,r1,q1⟩=>?_
 refine thn (hb pins s1 σ H1 _ I1 q1) λu s2 ⟨y,H2,I2,r2,q2⟩=>?_
 exact hf v u s2 x y H2 I2 r1 r2 q2
theorem pe_op {op:Operator}{r:R2}(ho:OpR X (binaryOp op) r)(ha:PE X a ta)(hb:PE X b tb):PE X (.BinOp a op b pos) (tOp r ta tb):=by
 intro pins s σ H Q I h
 exact wpAny_BinOp (binT ha hb I h λv u s2 x y H2 I2 rx ry q=>ho pins s2 σ H2 x y v u Q I2 rx ry q)
theorem pe_un {op:UnaryOp}{r:V→Hp→VK→Prop}(ho:UnR X (unaryOp op) r)(ha:PE X a ta):PE X (.UnaryOp op a pos) (tUn r ta):=by
 intro pins s σ H Q I h
 exact UnaryOp_ (thn (ha pins s σ H _ I h) λv s1 ⟨x,H1,I1,r1,q1⟩=>ho pins s1 σ H1 x v Q I1 r1 q1)
theorem opI {f:Value→Value→Sem Value}{C:Int→Int→Prop}{g:Int→Int→Int}
  (rule:∀(i j:Int) (t u:Tok) (s:Shared) (Q:Value→Shared→Prop) (E:Value→Shared→Prop),C i j→Q (.int (g i j) s.toks) { s with toks:=s.toks+1 }→wpAny (model X.prog X.w) X.A (f (.int i t) (.int j u)) Q E s):
  OpR X f (rI C λi j=>.int (g i j)):=by
 intro pins s σ H x y v u Q I rx ry h
 obtain⟨i,j,rfl,rfl,hc,q⟩:=h
 obtain⟨t,rfl⟩:=rx
 obtain⟨t',rfl⟩:=ry
 exact rule i j t t' s _ _ hc ⟨.int (g i j),H,I.tok _,⟨_,rfl⟩,q⟩
theorem opI0 {f:Value→Value→Sem Value}{g:Int→Int→Int}
  (rule:∀(i j:Int) (t u:Tok) (s:Shared) (Q:Value→Shared→Prop) (E:Value→Shared→Prop),Q (.int (g i j) s.toks) { s with toks:=s.toks+1 }→wpAny (model X.prog X.w) X.A (f (.int i t) (.int j u)) Q E s):
  OpR X f (rI0 λi j=>.int (g i j)):=by
 intro pins s σ H x y v u Q I rx ry h
 obtain⟨i,j,rfl,rfl,q⟩:=h
 obtain⟨t,rfl⟩:=rx
 obtain⟨t',rfl⟩:=ry
 exact rule i j t t' s _ _ ⟨.int (g i j),H,I.tok _,⟨_,rfl⟩,q⟩
theorem zmz {f:Value→Value→Sem Value}{g:Int→Int→Bool}
  (rule:∀(i j:Int) (t u:Tok) (s:Shared) (Q:Value→Shared→Prop) (E:Value→Shared→Prop),Q (.bool (g i j)) s→wpAny (model X.prog X.w) X.A (f (.int i t) (.int j u)) Q E s):
  OpR X f (rI0 λi j=>.bl (g i j)):=by
 intro pins s σ H x y v u Q I rx ry h
 obtain⟨i,j,rfl,rfl,q⟩:=h
 obtain⟨t,rfl⟩:=rx
 obtain⟨t',rfl⟩:=ry
 exact rule i j t t' s _ _ ⟨.bl (g i j),H,I,rfl,q⟩
def zmp (i j:Int):Prop:=0≤j∧j≤1000000∧i.natAbs<2^64
def CMul (i j:Int):Prop:=(-(2^64)<i∧i<2^64)∨(-(2^64)<j∧j<2^64)
theorem CMul.ok {i j:Int}(h:CMul i j):IntMulOk i j:=by
 rcases h with ⟨h1,h2⟩ | ⟨h1,h2⟩
 ·exact .of_left (intBits_le_64 h1 h2)
 ·exact .of_right (intBits_le_64 h1 h2)
theorem zxm:OpR X (binaryOp .Add) (rI0 λi j=>.int (i+j)):=opI0 λ_ _ _ _ _ _ _ q=>add_int q
theorem zwM:OpR X (binaryOp .Sub) (rI0 λi j=>.int (i-j)):=opI0 λ_ _ _ _ _ _ _ q=>sub_int q
theorem zsf:OpR X (binaryOp .Mod) (rI (λ_ j=>0<j) λi j=>.int (i%j)):=opI λi j _ _ _ _ _ hc q=>by
 have h1:(0:Int)<j:=hc
 exact mod_int' (by omega) (by rw[Int.fmod_eq_emod_of_nonneg i (by omega)]; exact q)
theorem zuE:OpR X (binaryOp .Pow) (rI zmp λi j=>.int (i^j.toNat)):=opI λ_ _ _ _ _ _ _ hc q=>pow_int_small hc.1 hc.2.1 hc.2.2 q
theorem zus:OpR X (binaryOp .LShift) (rI zmp λi j=>.int (i*2^j.toNat)):=opI λ_ _ _ _ _ _ _ hc q=>lshift_int_small hc.1 hc.2.1 hc.2.2 q
theorem unI {f:Value→Sem Value}{g:Int→Int}
  (rule:∀(i:Int) (t:Tok) (s:Shared) (Q:Value→Shared→Prop) (E:Value→Shared→Prop),Q (.int (g i) s.toks) { s with toks:=s.toks+1 }→wpAny (model X.prog X.w) X.A (f (.int i t)) Q E s):
  UnR X f (rU λi=>.int (g i)):=by
 intro pins s σ H x v Q I rx h
 obtain⟨i,rfl,q⟩:=h
 obtain⟨t,rfl⟩:=rx
 exact rule i t s _ _ ⟨.int (g i),H,I.tok _,⟨_,rfl⟩,q⟩
theorem zxK:UnR X (unaryOp .USub) (rU λi=>.int (-i)):=unI λ_ _ _ _ _ q=>neg_int q
end
def zmO:V→V→Bool
 | .non,.non=>true | .non,.int _=>true | .int _,.non=>true | .non,.bl _=>true | .bl _,.non=>true | .non,.str _=>true | .str _,.non=>true
 | .int _,.int _=>true | .bl _,.bl _=>true | .str _,.str _=>true | .byt _,.byt _=>true
 | .int _,.str _=>true | .str _,.int _=>true | .bl _,.str _=>true | .str _,.bl _=>true
 | _,_=>false
def rEq:R2:=λx y H Q=>zmO x y=true∧Q (.bl (decide (x=y))) H
def rNe:R2:=λx y H Q=>zmO x y=true∧Q (.bl (!decide (x=y))) H
theorem zqa {i j:Int}:decide (V.int i=V.int j)=(i==j):=by
 rw[Bool.eq_iff_iff]
 simp
theorem zrC {i j:Bool}:decide (V.bl i=V.bl j)=(i==j):=by
 rw[Bool.eq_iff_iff]
 simp
theorem zp3 {i j:Str}:decide (V.str i=V.str j)=(i==j):=by
 rw[Bool.eq_iff_iff]
 simp
theorem zra {i j:Array UInt8}:decide (V.byt i=V.byt j)=(i.toList==j.toList):=by
 rw[Bool.eq_iff_iff]
 cases i
 cases j
 simp
section
variable {X:Cx}{a b c:Expr}{ta tb tc:TE}{pos:Pos}
theorem za3 {pins:List (Addr×Obj)}{σ:St}{H:Hp}{s:Shared}{Q:VK}{k k':Bool}(I:Inv X pins σ H s)(q:Q (.bl k) H)(e:k=k'):EP X pins σ Q (.bool k') s:=by
 subst e
 exact⟨.bl k,H,I,rfl,q⟩
theorem zo9:OpR X (compareOp .Eq) rEq:=by
 intro pins s σ H x y v u Q I rx ry h
 obtain⟨hs,q⟩:=h
 cases x with
 | non=>
  cases rx
  cases y with
  | non=>cases ry; exact PySem.EqNone.eq_none_none (za3 I q (by simp))
  | bl j=>cases ry; exact PySem.EqNone.eq_none_bool (za3 I q (by simp))
  | int j=>obtain⟨t',rfl⟩:=ry; exact PySem.EqNone.eq_none_int (za3 I q (by simp))
  | str j=>obtain⟨t',rfl⟩:=ry; exact PySem.EqNone.eq_none_str (za3 I q (by simp))
  | _=>exact absurd (show false=true from hs) Vam
 | bl i=>
  cases rx
  cases y with
  | non=>cases ry; exact PySem.EqNone.eq_bool_none (za3 I q (by simp))
  | bl j=>cases ry; exact eq_bool (za3 I q zrC)
  | str j=>obtain⟨t',rfl⟩:=ry; exact PySem.EqMixed.eq_bool_str (za3 I q (by simp))
  | _=>exact absurd (show false=true from hs) Vam
 | int i=>
  obtain⟨t,rfl⟩:=rx
  cases y with
  | non=>cases ry; exact PySem.EqNone.eq_int_none (za3 I q (by simp))
  | int j=>obtain⟨t',rfl⟩:=ry; exact eq_int (za3 I q zqa)
  | str j=>obtain⟨t',rfl⟩:=ry; exact PySem.EqMixed.eq_int_str (za3 I q (by simp))
  | _=>exact absurd (show false=true from hs) Vam
 | str i=>
  obtain⟨t,rfl⟩:=rx
  cases y with
  | non=>cases ry; exact PySem.EqNone.eq_str_none (za3 I q (by simp))
  | bl j=>cases ry; exact PySem.EqMixed.eq_str_bool (za3 I q (by simp))
  | int j=>obtain⟨t',rfl⟩:=ry; exact PySem.EqMixed.eq_str_int (za3 I q (by simp))
  | str j=>obtain⟨t',rfl⟩:=ry; exact eq_str (za3 I q zp3)
  | _=>exact absurd (show false=true from hs) Vam
 | byt i=>
  obtain⟨t,rfl⟩:=rx
  cases y with
  | byt j=>obtain⟨t',rfl⟩:=ry; exact PySem.W.eq_bytes (za3 I q zra)
  | _=>exact absurd (show false=true from hs) Vam
 | _=>cases y <;> exact absurd (show false=true from hs) Vam
theorem op_ne:OpR X (compareOp .NotEq) rNe:=by
 intro pins s σ H x y v u Q I rx ry h
 obtain⟨hs,q⟩:=h
 cases x with
 | non=>
  cases rx
  cases y with
  | non=>cases ry; exact PySem.EqNone.ne_none_none (za3 I q (by simp))
  | bl j=>cases ry; exact PySem.EqNone.ne_none_bool (za3 I q (by simp))
  | int j=>obtain⟨t',rfl⟩:=ry; exact PySem.EqNone.ne_none_int (za3 I q (by simp))
  | str j=>obtain⟨t',rfl⟩:=ry; exact PySem.EqNone.ne_none_str (za3 I q (by simp))
  | _=>exact absurd (show false=true from hs) Vam
 | bl i=>
  cases rx
  cases y with
  | non=>cases ry; exact PySem.EqNone.ne_bool_none (za3 I q (by simp))
  | bl j=>cases ry; exact ne_bool (za3 I q (congrArg not zrC))
  | str j=>obtain⟨t',rfl⟩:=ry; exact PySem.EqMixed.ne_bool_str (za3 I q (by simp))
  | _=>exact absurd (show false=true from hs) Vam
 | int i=>
  obtain⟨t,rfl⟩:=rx
  cases y with
  | non=>cases ry; exact PySem.EqNone.ne_int_none (za3 I q (by simp))
  | int j=>obtain⟨t',rfl⟩:=ry; exact ne_int (za3 I q (congrArg not zqa))
  | str j=>obtain⟨t',rfl⟩:=ry; exact PySem.EqMixed.ne_int_str (za3 I q (by simp))
  | _=>exact absurd (show false=true from hs) Vam
 | str i=>
  obtain⟨t,rfl⟩:=rx
  cases y with
  | non=>cases ry; exact PySem.EqNone.ne_str_none (za3 I q (by simp))
  | bl j=>cases ry; exact PySem.EqMixed.ne_str_bool (za3 I q (by simp))
  | int j=>obtain⟨t',rfl⟩:=ry; exact PySem.EqMixed.ne_str_int (za3 I q (by simp))
  | str j=>obtain⟨t',rfl⟩:=ry; exact ne_str (za3 I q (congrArg not zp3))
  | _=>exact absurd (show false=true from hs) Vam
 | byt i=>
  obtain⟨t,rfl⟩:=rx
  cases y with
  | byt j=>obtain⟨t',rfl⟩:=ry; exact PySem.W.ne_bytes (za3 I q (congrArg not zra))
  | _=>exact absurd (show false=true from hs) Vam
 | _=>cases y <;> exact absurd (show false=true from hs) Vam
theorem op_lt:OpR X (compareOp .Lt) (rI0 λi j=>.bl (decide (i<j))):=zmz λ_ _ _ _ _ _ _ q=>lt_int q
theorem op_le:OpR X (compareOp .LtE) (rI0 λi j=>.bl (decide (i≤j))):=zmz λ_ _ _ _ _ _ _ q=>le_int q
theorem op_gt:OpR X (compareOp .Gt) (rI0 λi j=>.bl (decide (j<i))):=zmz λ_ _ _ _ _ _ _ q=>gt_int q
theorem op_ge:OpR X (compareOp .GtE) (rI0 λi j=>.bl (decide (j≤i))):=zmz λ_ _ _ _ _ _ _ q=>ge_int q
theorem ztM:OpR X (compareOp .Is) (λx y H Q=>y=.non∧Q (.bl (decide (x=.non))) H):=by
 intro pins s σ H x y v u Q I rx ry h
 obtain⟨rfl,q⟩:=h
 cases ry
 refine is_none_gen (za3 I q ?_)
 cases x <;> first
  | (cases rx; rfl)
  | (obtain⟨t,rfl⟩:=rx; rfl)
theorem zvV:OpR X (compareOp .IsNot) (λx y H Q=>y=.non∧Q (.bl (!decide (x=.non))) H):=by
 intro pins s σ H x y v u Q I rx ry h
 obtain⟨rfl,q⟩:=h
 cases ry
 refine isnot_none_gen (za3 I q ?_)
 cases x <;> first
  | (cases rx; rfl)
  | (obtain⟨t,rfl⟩:=rx; rfl)
theorem OpR.or {f:Value→Value→Sem Value}{r r':R2}(h:OpR X f r)(h':OpR X f r'):OpR X f (λx y H Q=>r x y H Q∨r' x y H Q):=by
 intro pins s σ H x y v u Q I rx ry q
 rcases q with q | q
 ·exact h pins s σ H x y v u Q I rx ry q
 ·exact h' pins s σ H x y v u Q I rx ry q
theorem zaq (b:Expr){op:CmpOp}(h:op≠.In:=by decide)(h2:op≠.NotIn:=by decide):behindInMarks op b=false:=by
 have e1:(op==CmpOp.In)=false:=by cases op <;> first | rfl | exact absurd rfl h
 have e2:(op==CmpOp.NotIn)=false:=by cases op <;> first | rfl | exact absurd rfl h2
 cases b <;> simp[behindInMarks,e1,e2]
theorem zyo {op:CmpOp}{r:R2}(ho:OpR X (compareOp op) r)(ha:PE X a ta)(hb:PE X b tb)(hm:behindInMarks op b=false):PE X (.Compare a [op] [b] pos) (tOp r ta tb):=by
 intro pins s σ H Q I h
 exact wpAny_Compare1 (binT ha hb I h λv u s2 x y H2 I2 rx ry q=>ho pins s2 σ H2 x y v u Q I2 rx ry q) hm
def zrK (t:TE):TT:=λσ H Q=>t σ H λx H'=>∃k,x=.bl k∧Q k H'
theorem zsT {op:CmpOp}{r:R2}(ho:OpR X (compareOp op) r)(ha:PE X a ta)(hb:PE X b tb)(hm:behindInMarks op b=false):PT X (.Compare a [op] [b] pos) (zrK (tOp r ta tb)):=by
 intro pins s σ H Q I h
 refine wpAny_isTrue_Compare1 (thn (ha pins s σ H _ I h) λv s1 ⟨x,H1,I1,r1,q1⟩=>thn (hb pins s1 σ H1 _ I1 q1) λu s2 ⟨y,H2,I2,r2,q2⟩=>
  thn (ho pins s2 σ H2 x y v u _ I2 r1 r2 q2) λc s3 ⟨z,H3,I3,r3,k,e,q3⟩=>?_) hm
 subst e
 cases r3
 exact wpAny_truthy_bool ⟨H3,I3,q3⟩
def zpm (r r':R2)(ta tb tc:TE):TE:=λσ H Q=>ta σ H λx H1=>tb σ H1 λy H2=>r x y H2 λz H3=>∃k,z=.bl k∧
 (if k=true then tc σ H3 λw' H4=>r' y w' H4 Q else Q (.bl false) H3)
theorem zsq {op op':CmpOp}{r r':R2}(ho:OpR X (compareOp op) r)(ho':OpR X (compareOp op') r')(ha:PE X a ta)(hb:PE X b tb)(hc:PE X c tc)
  (hm:lastMarks [op,op'] [b,c]=false:=by with_unfolding_all rfl):PE X (.Compare a [op,op'] [b,c] pos) (zpm r r' ta tb tc):=by
 intro pins s σ H Q I h
 refine Compare_chain (thn (ha pins s σ H _ I h) λv s1 ⟨x,H1,I1,r1,q1⟩=>chain_link (thn (hb pins s1 σ H1 _ I1 q1) λu s2 ⟨y,H2,I2,r2,q2⟩=>
  thn (ho pins s2 σ H2 x y v u _ I2 r1 r2 q2) λd s3 ⟨z,H3,I3,r3,k,e,q3⟩=>?_)) hm
 subst e
 cases r3
 refine wpAny_truthy_bool ?_
 cases k with
 | false=>exact ite_ff ⟨.bl false,H3,I3,rfl,q3⟩
 | true=>exact ite_tt (chain_last (thn (hc pins s3 σ H3 _ I3 q3) λw' s4 ⟨z',H4,I4,r4,q4⟩=>ho' pins s4 σ H4 y z' u w' Q I4 r2 r4 q4))
theorem zxb {op op':CmpOp}{r r':R2}(ho:OpR X (compareOp op) r)(ho':OpR X (compareOp op') r')(ha:PE X a ta)(hb:PE X b tb)(hc:PE X c tc)
  (hm:lastMarks [op,op'] [b,c]=false:=by with_unfolding_all rfl):PT X (.Compare a [op,op'] [b,c] pos) (zrK (zpm r r' ta tb tc)):=by
 intro pins s σ H Q I h
 refine isTrue_chain (thn (ha pins s σ H _ I h) λv s1 ⟨x,H1,I1,r1,q1⟩=>test_link (thn (hb pins s1 σ H1 _ I1 q1) λu s2 ⟨y,H2,I2,r2,q2⟩=>
  thn (ho pins s2 σ H2 x y v u _ I2 r1 r2 q2) λd s3 ⟨z,H3,I3,r3,k,e,q3⟩=>?_)) hm
 subst e
 cases r3
 refine wpAny_truthy_bool ?_
 cases k with
 | false=>
  obtain⟨k',e',q'⟩:=q3
  cases e'
  exact ite_ff ⟨H3,I3,q'⟩
 | true=>
  refine ite_tt (test_last (thn (hc pins s3 σ H3 _ I3 q3) λw' s4 ⟨z',H4,I4,r4,q4⟩=>thn (ho' pins s4 σ H4 y z' u w' _ I4 r2 r4 q4) λd' s5 ⟨z2,H5,I5,r5,k2,e2,q5⟩=>?_))
  subst e2
  cases r5
  exact wpAny_truthy_bool ⟨H5,I5,q5⟩
theorem zgU:(sizeLine:Nat)<2^63:=by rw[sizeLine_eq]; decide
theorem zeL {x:V}{us:List Value}(r:zaA [x] us):∃u,us=[u]∧zay x u:=by
 cases r with
 | cons r1 r2=>cases r2; exact⟨_,rfl,r1⟩
theorem zoP {x y:V}{us:List Value}(r:zaA [x,y] us):∃u w',us=[u,w']∧zay x u∧zay y w':=by
 cases r with
 | cons r1 r2=>
  cases r2 with
  | cons r3 r4=>cases r4; exact⟨_,_,rfl,r1,r3⟩
theorem zug:zbm X (.builtin "abs") (λxs H Q=>∃i,xs=[.int i]∧Q (.int (if i<0 then -i else i)) H):=by
 intro pins s σ H xs us Q I r h
 obtain⟨i,rfl,q⟩:=h
 obtain⟨u,rfl,t,rfl⟩:=zeL r
 exact call_abs_int λu tk=>⟨.int (if i<0 then -i else i),H,I.tok _,⟨_,rfl⟩,q⟩
theorem ztQ (hc:X.calm=true):zbm X (.builtin "max") (λxs H Q=>∃i j,xs=[.int i,.int j]∧Q (.int (if j > i then j else i)) H):=by
 intro pins s σ H xs us Q I r h
 obtain⟨i,j,rfl,q⟩:=h
 obtain⟨u,w',rfl,⟨t,rfl⟩,⟨t',rfl⟩⟩:=zoP r
 refine max_two_ints (I.ok.hd hc) λh' tk k=>⟨_,H,I.kept k,?_,q⟩
 by_cases hj:j > i
 ·rw[if_pos hj,if_pos hj]; exact⟨_,rfl⟩
 ·rw[if_neg hj,if_neg hj]; exact⟨_,rfl⟩
theorem zwQ (hc:X.calm=true):zbm X (.builtin "min") (λxs H Q=>∃i j,xs=[.int i,.int j]∧Q (.int (if j<i then j else i)) H):=by
 intro pins s σ H xs us Q I r h
 obtain⟨i,j,rfl,q⟩:=h
 obtain⟨u,w',rfl,⟨t,rfl⟩,⟨t',rfl⟩⟩:=zoP r
 refine min_two_ints (I.ok.hd hc) λh' tk k=>⟨_,H,I.kept k,?_,q⟩
 by_cases hj:j<i
 ·rw[if_pos hj,if_pos hj]; exact⟨_,rfl⟩
 ·rw[if_neg hj,if_neg hj]; exact⟨_,rfl⟩
end
end L2
namespace L2
open PySem PySem.Spec PyProof.Rows
structure zd8 (h:Heap)(x dx C:Addr)(mA:Str→Option Value):Prop where
 obj:h.get? x=some (PySem.W.instObj C dx)
 ns:h.Ns1 dx mA
 ne:dx≠x
theorem zyd {h:Heap}{dx:Addr}{mA:Str→Option Value}(n:h.Ns1 dx mA):∃od,h.get? dx=some od∧∀name,PySem.W.lookIn name od=some (mA name):=by
 obtain⟨o,es,ep,ho,hd,hk,_,hm⟩:=n
 refine⟨o,ho,λname=>?_⟩
 have e:=hm name
 unfold nsFind findBy at e
 rw[← Array.find?_toList] at e
 unfold PySem.W.lookIn
 rw[hd]
 dsimp only
 split
 ·rename_i y q
  rw[q] at e
  exact congrArg some e
 ·rename_i q
  rw[q] at e
  have a:es.toList.any (·.refKey)=false:=by
   rw[List.any_eq_false]
   intro y hy
   obtain⟨z,t,hkey⟩:=hk y (Array.mem_toList_iff.mp hy)
   simp[DictEntry.refKey,hkey]
  have a':¬ es.toList.any (·.refKey)=true:=by rw[a]; exact Vam
  rw[if_neg a']
  exact congrArg some e
theorem zd8.look {h:Heap}{x dx C:Addr}{mA:Str→Option Value}(I:zd8 h x dx C mA):∃od,PySem.W.InstAt h x (PySem.W.instObj C dx) C (some od)∧∀name,PySem.W.lookIn name od=some (mA name):=
 let ⟨od,ho,hl⟩:=zyd I.ns
 ⟨od,⟨I.obj,rfl,rfl,ho⟩,hl⟩
section
variable {prog:Program}{w:World}{A:Around}{E:Value→Shared→Prop}{s:Shared}{K:PySem.W.Frag}{x dx C f:Addr}{mA:Str→Option Value}{name:Str}{v:Value}
theorem zu4 {expr:Bool}{Q:Value→Shared→Prop}(X:K.In s.heap)(I:zd8 s.heap x dx C mA)(hg:PySem.W.plainGet K C name=true)(hh:PySem.W.hasDictIn K C=true)
  (ha:PySem.W.findIn K (.ref C) name=some none)(hv:mA name=some v)(hv':PySem.W.handedIn v=true)(h:Q v { s with toks:=s.toks+1 }):
  wpAny (model prog w) A (getAttr (.ref x) name expr) Q E s:=by
 obtain⟨od,J,hl⟩:=I.look
 exact PySem.W.get_value X J (PySem.W.plainGet_of hg).1 (PySem.W.findObj_own hh ha rfl (by rw[hl,hv])) hv' h
theorem zvM {pl:Sem Bool}{Q:Value×List Value→Shared→Prop}(X:K.In s.heap)(I:zd8 s.heap x dx C mA)(hg:PySem.W.plainGet K C name=true)
  (hf:PySem.W.findIn K (.ref C) name=some (some (.ref f)))(ht:PySem.W.isFn K (.ref f)=true)(hv:mA name=none)(h:Q (.ref f,[.ref x]) s):
  wpAny (model prog w) A (getMethod (.ref x) name pl) Q E s:=by
 obtain⟨od,J,hl⟩:=I.look
 exact PySem.W.method_fn X J (PySem.W.plainGet_of hg).1 (PySem.W.plainGet_of hg).2 hf (beq_iff_eq.mp ht) (by show (PySem.W.lookIn name od).map (·.isSome)=some false; rw[hl,hv]; rfl) h
theorem zr2 {ns:List Str}{Q:Unit→Shared→Prop}(X:K.In s.heap)(I:zd8 s.heap x dx C mA)
  (hs:PySem.W.findIn K (.ref C) "__setattr__"=some (some (.builtin "object.__setattr__")))(hp:PySem.W.plainOver K C=true)(ht:PySem.W.takerIn K C name=some none)(hh:PySem.W.hasDictIn K C=true)
  (hw:PySem.Within mA ns)(hsz:ns.length≤sizeLine)
  (h:∀h',zd8 h' x dx C (λy=>if y=name then some v else mA y)→Heap.SameBut dx s.heap h'→Q () { s with heap:=h',toks:=s.toks+2 }):
  wpAny (model prog w) A (setAttr (.ref x) name v) Q E s:=by
 obtain⟨od,J,hl⟩:=I.look
 refine PySem.W.set_plain X J hs (PySem.W.osa_open (s:={ s with toks:=s.toks+1 }) (r:=none) X J hp ht λb=>?_)
 obtain⟨cd,hc,hd'⟩:=PySem.W.any_some hh
 have hx:s.heap.get? x=some ⟨.ref C,some dx,.plain,#[]⟩:=I.obj
 refine wpAny_bind (wpAny_pure (wpAny_bind (wpAny_bind (wpAny_loadPart hx (wpAny_bind (PySem.W.Looks.here (s:={ s with toks:=s.toks+1 }) (PySem.W.looks_clsIn X hc) ?_))))))
 rw[hd']
 refine wpAny_pure (a:=some dx) (wpAny_bind (wpAny_pure (wpAny_bind ?_)))
 refine wpAny_nsSet1 (s:={ s with toks:=s.toks+1 }) I.ns λh' hn2 hs2=>?_
 obtain⟨oD,esD,epD,hoD,hdD,hcD⟩:=hn2.count (PySem.Within.cons name v hw)
 refine wpAny_bind (wpAny_lookBehind hoD (by rw[hdD]; exact pastItsLine_dict (VaE hcD (by rw[VaC]; omega))) ?_)
 exact wpAny_pure (h _ ⟨(hs2.2 _ (Ne.symm I.ne)).trans I.obj,hn2,I.ne⟩ hs2)
theorem zt1 {R:Result→Shared→Prop}{vs:List Value}{kw:List (Str×Value)}(X:K.In s.heap)(hm:PySem.W.makesIn K C=true)
  (hi:PySem.W.findIn K (.ref C) "__init__"=some (some (.ref f)))(hf:PySem.W.typeIn K (.ref f)=some (.type "function"))
  (h:codeAny (model prog w) (A.under (.builtin "type.__call__" ⟨.ref C::vs,kw⟩)) (.call (.ref f) ⟨.ref (s.heap.objs.size+1)::vs,kw⟩) (PySem.W.InitBack (s.heap.objs.size+1) R)
   { s with heap:=(s.heap.push PySem.W.emptyDict).push (PySem.W.instObj C s.heap.objs.size) }):
  codeAny (model prog w) A (.call (.ref C) ⟨vs,kw⟩) R s:=by
 obtain⟨hh,g,d,t,os⟩:=s
 exact PySem.W.make_core (PySem.W.makes_of X hm) (PySem.W.looks_findIn X hi) (λself=>PySem.W.bind_fn X self hf) (.inl rfl) h
end
def zbs (f:Str)(v:V):List (Str×V)→List (Str×V)
 | []=>[(f,v)]
 | (g,x)::r=>if g=f then (g,v)::r else (g,x)::zbs f v r
theorem zps (f g:Str)(v:V):∀fs:List (Str×V),(zbs f v fs).lookup g=if g=f then some v else fs.lookup g
 | []=>by
  show List.lookup g [(f,v)]=_
  by_cases h:g=f
  ·have hb:(g==f)=true:=beq_iff_eq.mpr h
   simp only[List.lookup,hb,if_pos h]
  ·have hb:(g==f)=false:=beq_eq_false_iff_ne.mpr h
   simp only[List.lookup,hb,if_neg h]
 | (k,x)::r=>by
  have ih:=zps f g v r
  rw[show zbs f v ((k,x)::r)=(if k=f then (k,v)::r else (k,x)::zbs f v r) from rfl]
  by_cases hk:k=f
  ·rw[if_pos hk]
   by_cases h:g=k
   ·have hb:(g==k)=true:=beq_iff_eq.mpr h
    simp only[List.lookup,hb,if_pos (h.trans hk)]
   ·have hb:(g==k)=false:=beq_eq_false_iff_ne.mpr h
    simp only[List.lookup,hb,if_neg (λe:g=f=>h (e.trans hk.symm))]
  ·rw[if_neg hk]
   by_cases h:g=k
   ·have hb:(g==k)=true:=beq_iff_eq.mpr h
    simp only[List.lookup,hb,if_neg (λe:g=f=>hk (h.symm.trans e))]
   ·have hb:(g==k)=false:=beq_eq_false_iff_ne.mpr h
    simp only[List.lookup,hb]
    exact ih
theorem zou (f:Str)(v:V):∀fs:List (Str×V),f∈(zbs f v fs).map (·.1)∧∀g,g∈fs.map (·.1)→g∈(zbs f v fs).map (·.1)
 | []=>⟨by simp[zbs],λg h=>by simp at h⟩
 | (k,x)::r=>by
  obtain⟨i1,i2⟩:=zou f v r
  rw[show zbs f v ((k,x)::r)=(if k=f then (k,v)::r else (k,x)::zbs f v r) from rfl]
  by_cases hk:k=f
  ·rw[if_pos hk]
   subst hk
   exact⟨by simp,λg h=>by simpa using h⟩
  ·rw[if_neg hk]
   refine⟨?_,λg h=>?_⟩
   ·rw[Vas]
    exact VaF _ i1
   ·rw[Vas] at h ⊢
    rcases Vaf.mp h with e | e
    ·exact Vaf.mpr (.inl e)
    ·exact VaF _ (i2 g e)
theorem zqu (f:Str)(v:V):∀fs:List (Str×V),(zbs f v fs).length≤fs.length+1
 | []=>by simp[zbs]
 | (k,x)::r=>by
  have ih:=zqu f v r
  rw[show zbs f v ((k,x)::r)=(if k=f then (k,v)::r else (k,x)::zbs f v r) from rfl]
  by_cases hk:k=f
  ·rw[if_pos hk,VaC,VaC]; omega
  ·rw[if_neg hk,VaC,VaC]; omega
theorem zbI.some_of {v:V}{o:Option Value}(r:zbI (some v) o):∃u,o=some u∧zay v u:=by
 cases o with
 | none=>exact(show False from r).elim
 | some u=>exact⟨u,rfl,r⟩
theorem zbI.none_of {o:Option Value}(r:zbI none o):o=none:=by
 cases o with
 | none=>rfl
 | some u=>exact(show False from r).elim
theorem ztO {v:V}{u:Value}(r:zay v u):PySem.W.handedIn u=true:=by
 cases v with
 | non=>cases (show u=Value.none from r); rfl
 | bl b=>cases (show u=Value.bool b from r); rfl
 | int i=>obtain⟨t,e⟩:=(show ∃t,u=Value.int i t from r); cases e; rfl
 | str x=>obtain⟨t,e⟩:=(show ∃t,u=Value.str x t from r); cases e; rfl
 | byt b=>obtain⟨t,e⟩:=(show ∃t,u=Value.bytes b t from r); cases e; rfl
 | flt b=>obtain⟨t,e⟩:=(show ∃t,u=Value.float b t from r); cases e; rfl
 | ref a=>cases (show u=Value.ref a from r); rfl
 | ty n=>cases (show u=Value.type n from r); rfl
section
variable {P:Program}{w:World}{H H':Hp}{h h':Heap}{a C dx:Addr}{fs fs':List (Str×V)}
theorem ziO (hok:HOk P w H h)(e:H a=some (.ins C dx fs)):∃mA,zd8 h a dx C mA∧(∀f,zbI (fs.lookup f) (mA f))∧PySem.Within mA (fs.map (·.1))∧fs.length≤1000∧H dx=some (.own a):=by
 obtain⟨d,z,ne,ob,mA,n,r,q⟩:=(show zbv P w H h a (.ins C dx fs) from hok a _ e)
 exact⟨mA,⟨ob,n,ne⟩,r,q,z,d⟩
end
structure Cls (K:PySem.W.Frag)(C:Addr):Prop where
 pg:PySem.W.plainGet K C Str.empty=true
 hd:PySem.W.hasDictIn K C=true
 po:PySem.W.plainOver K C=true
 sa:PySem.W.findIn K (.ref C) "__setattr__"=some (some (.builtin "object.__setattr__"))
theorem Cls.get {K:PySem.W.Frag}{C:Addr}(c:Cls K C)(f:Str):PySem.W.plainGet K C f=true:=c.pg
def zbu (K:PySem.W.Frag)(C:Addr)(f:Str):Prop:=PySem.W.findIn K (.ref C) f=some none
theorem zbu.taker {K:PySem.W.Frag}{C:Addr}{f:Str}(n:zbu K C f):PySem.W.takerIn K C f=some none:=by
 unfold PySem.W.takerIn
 rw[show PySem.W.findIn K (.ref C) f=some none from n]
 rfl
structure Con (K:PySem.W.Frag)(C:Addr)(f:Str)(v:V)(u:Value):Prop where
 at_:PySem.W.findIn K (.ref C) f=some (some u)
 rel:zay v u
 get:PySem.W.specialIn K u "__get__"=some none
 cp:PySem.W.copiedNames.contains f=false
structure zfx (K:PySem.W.Frag)(C:Addr)(m:Str)(f:Addr):Prop where
 at_:PySem.W.findIn K (.ref C) m=some (some (.ref f))
 fn:PySem.W.isFn K (.ref f)=true
 kp:PySem.W.keepIn K (.ref f)=true
section
variable {X:Cx}{pins:List (Addr×Obj)}{σ:St}{H:Hp}{s:Shared}{a C dx:Addr}{fs:List (Str×V)}{f:Str}{v:V}{A:Around}{E:Value→Shared→Prop}
theorem zxF {b:Bool}{Q:Value→Shared→Prop}(I:Inv X pins σ H s)(e:H a=some (.ins C dx fs))(c:Cls X.K C)(n:zbu X.K C f)(l:fs.lookup f=some v)
  (h:∀u s',Inv X pins σ H s'→zay v u→Q u s'):wpAny (model X.prog X.w) A (getAttr (.ref a) f b) Q E s:=by
 obtain⟨mA,O,r,_,_,_⟩:=ziO I.hok e
 obtain⟨u,hu,ru⟩:=zbI.some_of (v:=v) (o:=mA f) (by rw[← l]; exact r f)
 exact zu4 I.kIn O (c.get f) c.hd n hu (ztO ru) (h u _ (I.tok _) ru)
theorem zrw {m:Str}{g:Addr}{pl:Sem Bool}{Q:Value×List Value→Shared→Prop}(I:Inv X pins σ H s)(e:H a=some (.ins C dx fs))(c:Cls X.K C)(k:zfx X.K C m g)(l:fs.lookup m=none)
  (h:Q (.ref g,[.ref a]) s):wpAny (model X.prog X.w) A (getMethod (.ref a) m pl) Q E s:=by
 obtain⟨mA,O,r,_,_,_⟩:=ziO I.hok e
 have hn:mA m=none:=zbI.none_of (by rw[← l]; exact r m)
 exact zvM I.kIn O (c.get m) k.at_ k.fn hn h
theorem zxT {y:V}{u:Value}{Q:Unit→Shared→Prop}(I:Inv X pins σ H s)(e:H a=some (.ins C dx fs))(c:Cls X.K C)(n:zbu X.K C f)(hl:fs.length<1000)(ry:zay y u)
  (h:∀s',Inv X pins σ (upd H a (.ins C dx (zbs f y fs))) s'→Q () s'):wpAny (model X.prog X.w) A (setAttr (.ref a) f u) Q E s:=by
 obtain⟨mA,O,r,wi,_,ho⟩:=ziO I.hok e
 have hz:(fs.map (·.1)).length≤sizeLine:=by rw[Vaa,sizeLine_eq]; omega
 refine zr2 I.kIn O c.sa c.po n.taker c.hd wi hz λh' O' sb=>h _ ?_
 have hd:∃o,h'.get? dx=some o:=let ⟨o,_,_,e',_⟩:=O'.ns; ⟨o,e'⟩
 refine I.write (x:=a) (e:=dx) (by rw[e]; exact True.intro) (.inr ho) (λb q hb z=>(sb.2 b hb).trans z) hd ?_
 refine⟨by rw[zbd O.ne]; exact ho,?_,O.ne,O'.obj,_,O'.ns,λg=>?_,λg hg=>?_⟩
 ·have:=zqu f y fs; omega
 ·show zbI ((zbs f y fs).lookup g) (if g=f then some u else mA g)
  rw[zps]
  by_cases q:g=f
  ·rw[if_pos q,if_pos q]; exact ry
  ·rw[if_neg q,if_neg q]; exact r g
 ·by_cases q:g=f
  ·rw[q]; exact(zou f y fs).1
  ·refine(zou f y fs).2 g (wi g λz=>hg ?_)
   show (if g=f then some u else mA g)=none
   rw[if_neg q]; exact z
theorem Inv.made (I:Inv X pins σ H s):Inv X pins σ (upd (upd H s.heap.objs.size (.own (s.heap.objs.size+1))) (s.heap.objs.size+1) (.ins C s.heap.objs.size []))
  { s with heap:=(s.heap.push PySem.W.emptyDict).push (PySem.W.instObj C s.heap.objs.size) }:=by
 have e1:(s.heap.push PySem.W.emptyDict).get? s.heap.objs.size=some PySem.W.emptyDict:=Heap.get?_push_size s.heap rfl
 have e2:((s.heap.push PySem.W.emptyDict).push (PySem.W.instObj C s.heap.objs.size)).get? (s.heap.objs.size+1)=some (PySem.W.instObj C s.heap.objs.size):=by
  have:=Heap.get?_push_size (s.heap.push PySem.W.emptyDict) (o:=PySem.W.instObj C s.heap.objs.size) rfl
  rwa [Heap.size_push] at this
 have e3:(s.heap.push PySem.W.emptyDict).Ns s.heap.objs.size (λ_=>none):=⟨PySem.W.emptyDict,#[],_,e1,rfl,(λe he=>absurd he (by simp)),λ_=>rfl⟩
 have I1:=I.laid (a:=s.heap.objs.size) (o:=.own (s.heap.objs.size+1)) (h':=s.heap.push PySem.W.emptyDict) (t':=s.toks) (λb u q=>Heap.get?_push_of_some _ q) (Vab _) ⟨_,e1⟩
 refine I1.laid (a:=s.heap.objs.size+1) (o:=.ins C s.heap.objs.size []) (t':=s.toks) (λb u q=>Heap.get?_push_of_some _ q) (Nat.le_of_eq (Heap.size_push _ _)) ?_
 have ne:s.heap.objs.size≠s.heap.objs.size+1:=Var (Nat.lt_succ_self _)
 refine⟨by rw[zbd ne,zcL],Vao _,ne,e2,λ_=>none,(Heap.Ns1.of_empty e3).at λo q=>Heap.get?_push_of_some _ q,λ_=>True.intro,λy hy=>absurd rfl hy⟩
theorem ztr {prog:Program}{w:World}{env:Env}{e:Expr}{f:Str}{pos:Pos}{s:Shared}{Q:Value→Shared→Prop}(hb:attributeBase e f env (eval e env)=eval e env)
  (h:wpAny (model prog w) A (eval e env) (λo s₁=>wpAny (model prog w) A (getAttr o f true) Q E s₁) E s):wpAny (model prog w) A (eval (.Attribute e f pos) env) Q E s:=
 Attribute_any_ h (by rw[arm_eval_Attribute,hb])
end
def tFld (K:PySem.W.Frag)(ta:TE)(f:Str):TE:=λσ H Q=>ta σ H λx H1=>∃a C dx fs v,x=.ref a∧H1 a=some (.ins C dx fs)∧Cls K C∧zbu K C f∧fs.lookup f=some v∧Q v H1
def sFld (K:PySem.W.Frag)(ta tv:TE)(f:Str):TS:=λD σ H=>tv σ H λy H1=>ta σ H1 λx H2=>∃a C dx fs,x=.ref a∧H2 a=some (.ins C dx fs)∧Cls K C∧zbu K C f∧fs.length<1000∧
 D.nx σ (upd H2 a (.ins C dx (zbs f y fs)))
section
variable {X:Cx}{o e value:Expr}{f:Str}{pos pos' tpos:Pos}{ta tv:TE}
theorem zrS (he:PE X e ta)(hb:attributeBase e f X.env (eval e X.env)=eval e X.env):PE X (.Attribute e f pos) (tFld X.K ta f):=by
 intro pins s σ H Q I h
 refine ztr hb (thn (he pins s σ H _ I h) λu s1 ⟨x,H1,I1,rx,a,C,dx,fs,v,ex,ea,c,n,l,q⟩=>?_)
 subst ex
 obtain rfl:u=Value.ref a:=rx
 exact zxF I1 ea c n l λu' s2 I2 ru=>⟨v,H1,I2,ru,q⟩
theorem zwv (ha:PE X o ta)(hv:PE X value tv)(hs:swapsWith value (some (.Attribute o f pos')) pos.line X.env=pure false):PS X (.Assign [.Attribute o f pos'] value pos) (sFld X.K ta tv f):=by
 intro pins s σ H D I h
 refine plainObj_wpAny_Assign_Attribute (thn (hv pins s σ H _ I h) λu s1 ⟨y,H1,I1,ry,q⟩=>thn (ha pins s1 σ H1 _ I1 q) λov s2 ⟨x,H2,I2,rx,a,C,dx,fs,ex,ea,c,n,l,q2⟩=>?_) hs
 subst ex
 obtain rfl:ov=Value.ref a:=rx
 exact zxT I2 ea c n l ry λs3 I3=>⟨σ,_,I3,q2⟩
end
section
variable {X:Cx}{pins:List (Addr×Obj)}{σ:St}{H:Hp}{s:Shared}{A:Around}{E:Value→Shared→Prop}{Q:Value→Shared→Prop}{c:Value}{b:Bool}
inductive zcb (K:PySem.W.Frag)(H:Hp):V→Value→Prop where
 | non:zcb K H .non (.type "NoneType")
 | bl (x:Bool):zcb K H (.bl x) (.type "bool")
 | int (i:Int):zcb K H (.int i) (.type "int")
 | str (x:Str):zcb K H (.str x) (.type "str")
 | flt (x:UInt64):zcb K H (.flt x) (.type "float")
 | lst {a:Addr} {xs:List V} (e:H a=some (.lst xs)):zcb K H (.ref a) (.type "list")
 | frz {a:Addr} {o:Obj} {xs:List V} (e:H a=some (.frz o (.lst xs))):zcb K H (.ref a) (.type "list")
 | tup {a:Addr} {xs:List V} (e:H a=some (.tup xs)):zcb K H (.ref a) (.type "tuple")
 | dK {a:Addr} {kvs:List (Key×V)} (e:H a=some (.dK kvs)):zcb K H (.ref a) (.type "dict")
 | dT {a:Addr} {kvs:List (List Key×V)} (e:H a=some (.dT kvs)):zcb K H (.ref a) (.type "dict")
 | ins {a C dx:Addr} {fs:List (Str×V)} (e:H a=some (.ins C dx fs)) (cl:Cls K C) (ha:PySem.W.findIn K (.ref C) "__class__"=some (some (.builtin "object.__class__")))
   (hn:PySem.W.specialIn K (.builtin "object.__class__") "__get__"=some (some (.builtin "getset_descriptor.__get__"))) (htk:PySem.W.takesIn K (.builtin "object.__class__")=some true)
   (hm:PySem.W.mroIn K C (.type "object")=some true):zcb K H (.ref a) (.ref C)
theorem zwy {x:V}{u t:Value}(I:Inv X pins σ H s)(rx:zay x u)(ty:zcb X.K H x t)(e:PySem.W.kitOne X.K t c=some b)(h:∀tk,Q (.bool b) { s with toks:=tk }):
  wpAny (model X.prog X.w) A (call (.builtin "isinstance") [u,c]) Q E s:=by
 cases ty with
 | non=>cases (show u=Value.none from rx); exact PySem.W.kia_one PySem.W.kitx_none I.kIn True.intro e (λz=>nomatch z) h
 | bl y=>cases (show u=Value.bool y from rx); exact PySem.W.kia_one PySem.W.kitx_bool I.kIn True.intro e (λz=>nomatch z) h
 | int i=>obtain⟨t,q⟩:=(show ∃t,u=Value.int i t from rx); cases q; exact PySem.W.kia_one PySem.W.kitx_int I.kIn True.intro e (λz=>nomatch z) h
 | str y=>obtain⟨t,q⟩:=(show ∃t,u=Value.str y t from rx); cases q; exact PySem.W.kia_one PySem.W.kitx_str I.kIn True.intro e (λz=>nomatch z) h
 | flt y=>obtain⟨t,q⟩:=(show ∃t,u=Value.float y t from rx); cases q; exact PySem.W.kia_one PySem.W.kitx_float I.kIn True.intro e (λz=>nomatch z) h
 | @lst a xs ea=>
  cases (show u=Value.ref a from rx)
  obtain⟨_,_,n,_,h1⟩:=(show zbv X.prog X.w H s.heap a (.lst xs) from I.hok a _ ea)
  exact PySem.W.kia_one PySem.W.kitx_list I.kIn ⟨_,h1,rfl⟩ e (λz=>nomatch z) h
 | @frz a ob xs ea=>
  cases (show u=Value.ref a from rx)
  obtain⟨_,_,_,n,_,h1⟩:=(show zbv X.prog X.w H s.heap a (.frz ob (.lst xs)) from I.hok a _ ea)
  exact PySem.W.kia_one PySem.W.kitx_list I.kIn ⟨_,h1,rfl⟩ e (λz=>nomatch z) h
 | @tup a xs ea=>
  cases (show u=Value.ref a from rx)
  obtain⟨_,_,_,p⟩:=(show zbv X.prog X.w H s.heap a (.tup xs) from I.hok a _ ea)
  obtain⟨o,h1,h2,_⟩:=p
  exact PySem.W.kia_one PySem.W.kitx_tuple I.kIn ⟨o,h1,h2⟩ e (λz=>nomatch z) h
 | @dK a kvs ea=>
  cases (show u=Value.ref a from rx)
  obtain⟨_,_,vs,_,p⟩:=(show zbv X.prog X.w H s.heap a (.dK kvs) from I.hok a _ ea)
  obtain⟨o,es,ep,h1,h2,_⟩:=p
  exact PySem.W.kia_one PySem.W.kitx_dict I.kIn ⟨o,h1,h2.1⟩ e (λz=>nomatch z) h
 | @dT a kvs ea=>
  cases (show u=Value.ref a from rx)
  obtain⟨_,_,xs,_,o,es,ep,h1,h2,_⟩:=(show zbv X.prog X.w H s.heap a (.dT kvs) from I.hok a _ ea)
  exact PySem.W.kia_one PySem.W.kitx_dict I.kIn ⟨o,h1,h2.1⟩ e (λz=>nomatch z) h
 | @ins a C dx fs ea cl ha hn htk hm=>
  cases (show u=Value.ref a from rx)
  obtain⟨mA,O,_⟩:=ziO I.hok ea
  obtain⟨od,J,_⟩:=O.look
  exact PySem.W.kia_one (PySem.W.kitx_own (cl.get _) cl.hd ha hn htk hm) I.kIn J e (λz=>nomatch z) h
end
end L2
namespace L2
open PySem PySem.Spec PyProof.Rows
structure zaN (k:Nat)(A:Around):Prop where
 hd:A.handled=none
 dp:A.depth+3*k+5<recursionLimit
 un:A.units+16*k+200<cLine
theorem zaN.mono {j k:Nat}{A:Around}(r:zaN k A)(h:j≤k):zaN j A:=⟨r.hd,by have:=r.dp; omega,by have:=r.un; omega⟩
theorem zaN.deeper {k:Nat}{A:Around}(r:zaN (k+1) A)(env:Env):zaN k (A.deeper env):=
 ⟨r.hd,by have:=r.dp; show A.depth+1+3*k+5<_; omega,by have:=r.un; show A.units+3+16*k+200<_; omega⟩
theorem zaN.in1 {k:Nat}{A:Around}(r:zaN (k+1) A):zaN k A.in1:=
 ⟨r.hd,by have:=r.dp; show A.depth+3*k+5<_; omega,by have:=r.un; show A.units+1+16*k+200<_; omega⟩
theorem ztX {A:Around}{C:Addr}{us:List Value}{kw:List (Str×Value)}:(A.under (.builtin "type.__call__" ⟨.ref C::us,kw⟩)).depth=A.depth+1:=by
 first | rfl | simp[Around.under,Code.weight,Code.isCreation,Code.isGuard,Code.isCaller,Code.frames,Code.isFrame,guardIds]
theorem zv2 {A:Around}{C:Addr}{us:List Value}{kw:List (Str×Value)}:(A.under (.builtin "type.__call__" ⟨.ref C::us,kw⟩)).units=A.units+1:=by
 first | rfl | simp[Around.under,Code.cUnits,Code.frames,Code.isFrame]
theorem zaN.make {k:Nat}{A:Around}(r:zaN (k+1) A)(C:Addr)(us:List Value)(kw:List (Str×Value)):zaN k (A.under (.builtin "type.__call__" ⟨.ref C::us,kw⟩)):=
 ⟨r.hd,by have:=r.dp; rw[ztX]; omega,by have:=r.un; rw[zv2]; omega⟩
theorem zaN.depth {k:Nat}{A:Around}(r:zaN k A):A.depth<recursionLimit:=by have:=r.dp; omega
theorem zaN.units {k:Nat}{A:Around}(r:zaN k A):A.units+64<cLine:=by have:=r.un; omega
def tNil:TA:=λ_ H Q=>Q [] H
def tCons (ta:TE)(tr:TA):TA:=λσ H Q=>ta σ H λx H1=>tr σ H1 λxs H2=>Q (x::xs) H2
section
variable {X:Cx}{e:Expr}{es:List Expr}{te:TE}{t:TA}{pos:Pos}
theorem zjh:PA X [] tNil:=λ_ _ _ _ H Q I h=>Calls.spliced_nil ⟨[],H,I,.nil,h⟩
theorem zfF (ha:PE X e te)(hr:PA X es t)(hs:starEach (e::es) X.env=(false,eval e X.env)::starEach es X.env:=by rfl):PA X (e::es) (tCons te t):=by
 intro pos pins s σ H Q I h
 rw[hs]
 show wpAny _ _ (spliced ((false,eval e X.env)::backTo pos (starEach es X.env))) _ _ s
 refine Calls.spliced_cons (thn (ha pins s σ H _ I h) λu s1 ⟨x,H1,I1,r1,q1⟩=>?_)
 exact thn (hr pos pins s1 σ H1 _ I1 q1) λus s2 ⟨xs,H2,I2,r2,q2⟩=>⟨x::xs,H2,I2,.cons r1 r2,q2⟩
def tTup (t:TA):TE:=λσ H Q=>t σ H λxs H1=>xs.length≤sizeLine∧∀p,H1 p=none→Q (.ref p) (upd H1 p (.tup xs))
def tLst (t:TA):TE:=λσ H Q=>t σ H λxs H1=>xs.length≤sizeLine∧∀p,H1 p=none→Q (.ref p) (upd H1 p (.lst xs))
theorem zuC {x1}(h:PA X es t):PE X (.Tuple es x1 pos) (tTup t):=by
 intro pins s σ H Q I hq
 refine wpAny_Tuple_spliced (thn (h pos pins s σ H _ I hq) λus s1 ⟨xs,H1,I1,r,z,q⟩=>⟨by rw[← r.length]; exact z,?_⟩)
 have hf:H1 s1.heap.objs.size=none:=I1.hok.fresh (Vab _)
 refine⟨.ref s1.heap.objs.size,upd H1 s1.heap.objs.size (.tup xs),I1.laid (t':=s1.toks) (λb u e=>Heap.get?_push_of_some _ e) (Vab _) ?_,rfl,q _ hf⟩
 exact⟨z,us,r,⟨_,Heap.get?_push_size _ rfl,rfl,_,rfl⟩⟩
theorem zxB (h:PA X es t):PE X (.List es pos) (tLst t):=by
 intro pins s σ H Q I hq
 refine wpAny_List_spliced (thn (h pos pins s σ H _ I hq) λus s1 ⟨xs,H1,I1,r,z,q⟩=>⟨by rw[← r.length]; exact z,?_⟩)
 have hf:H1 s1.heap.objs.size=none:=I1.hok.fresh (Vab _)
 refine⟨.ref s1.heap.objs.size,upd H1 s1.heap.objs.size (.lst xs),I1.laid (t':=s1.toks) (λb u e=>Heap.get?_push_of_some _ e) (Vab _) ?_,rfl,q _ hf⟩
 exact⟨z,us,0,r,Heap.get?_push_size _ rfl⟩
end
abbrev Sp:=List V→Hp→VK→XK→Prop
abbrev CXT:=List Env→Hp→Shared→XK→Value→Shared→Prop
structure zcB (P:Program)(w:World)(K:PySem.W.Frag)(mg:Str→Option Value)(base:Heap)(A:Around)(outer:List Env)(s:Shared)(H:Hp):Prop where
 frames:A.frames=some outer
 mod:Mod K mg base
 bs:∀b o,base.get? b=some o→s.heap.get? b=some o∧H b=none
 bsz:base.objs.size≤s.heap.objs.size
 funs:s.heap.FunFrames base outer
 frf:∀b∈frs outer,H b=none
 hok:HOk P w H s.heap
 bare:AllBare s.gens
def CE (outer:List Env)(P:Program)(w:World)(H:Hp)(s:Shared)(Q:VK)(u:Value)(s':Shared):Prop:=
 ∃v H',s'.os=s.os∧AllBare s'.gens∧Un (frs outer) [] H H' s.heap s'.heap∧HOk P w H' s'.heap∧zay v u∧Q v H'
def CR (CX:CXT)(outer:List Env)(P:Program)(w:World)(H:Hp)(s:Shared)(Q:VK)(E:XK)(r:Result)(s':Shared):Prop:=
 match r with
 | .ok (.ret u)=>CE outer P w H s Q u s'
 | .ok _=>False
 | .error e=>CX outer H s E e s'
structure zbc (P:Program)(w:World)(K:PySem.W.Frag)(mg:Str→Option Value)(base:Heap)(CX:CXT)(k:Nat)(f:Addr)(fd:FuncData)(ps:List Str)(sp:Sp):Prop where
 len:∀vs H Q E,sp vs H Q E→vs.length=ps.length
 run:∀(A:Around) (outer:List Env) (s:Shared) (H:Hp) (args:Args) (us:List Value) (vs:List V) (Q:VK) (E:XK),zaN k A→zcB P w K mg base A outer s H→BindsTo s fd args (ps.zip us)→zaA vs us→sp vs H Q E→
  codeAny (model P w) A (.call (.ref f) args) (CR CX outer P w H s Q E) s
theorem zbc.mono {P:Program}{w:World}{K:PySem.W.Frag}{mg:Str→Option Value}{base:Heap}{CX:CXT}{j k:Nat}{f:Addr}{fd:FuncData}{ps:List Str}{sp:Sp}(F:zbc P w K mg base CX j f fd ps sp)(h:j≤k):
  zbc P w K mg base CX k f fd ps sp:=⟨F.len,λA outer s H args us vs Q E hr=>F.run A outer s H args us vs Q E (hr.mono h)⟩
theorem zbc.imp {P:Program}{w:World}{K:PySem.W.Frag}{mg:Str→Option Value}{base:Heap}{CX:CXT}{k:Nat}{f:Addr}{fd:FuncData}{ps:List Str}{sp sp':Sp}(F:zbc P w K mg base CX k f fd ps sp)
  (h:∀vs H Q E,sp' vs H Q E→sp vs H Q E):zbc P w K mg base CX k f fd ps sp':=
 ⟨λvs H Q E q=>F.len vs H Q E (h _ _ _ _ q),λA outer s H args us vs Q E hr he hb hv hs=>F.run A outer s H args us vs Q E hr he hb hv (h _ _ _ _ hs)⟩
theorem zcB.make {P:Program}{w:World}{K:PySem.W.Frag}{mg:Str→Option Value}{base:Heap}{A:Around}{outer:List Env}{s:Shared}{H:Hp}(e:zcB P w K mg base A outer s H)(C:Addr)(us:List Value)(kw:List (Str×Value)):
  zcB P w K mg base (A.under (.builtin "type.__call__" ⟨.ref C::us,kw⟩)) outer s H:=⟨by first | exact e.frames | (simpa [Around.under,Code.envs,Code.isFrame,pushEnvs] using e.frames),e.mod,e.bs,e.bsz,e.funs,e.frf,e.hok,e.bare⟩
theorem zcB.in1 {P:Program}{w:World}{K:PySem.W.Frag}{mg:Str→Option Value}{base:Heap}{A:Around}{outer:List Env}{s:Shared}{H:Hp}(e:zcB P w K mg base A outer s H):
  zcB P w K mg base A.in1 outer s H:=⟨e.frames,e.mod,e.bs,e.bsz,e.funs,e.frf,e.hok,e.bare⟩
section
variable {X:Cx}{pins:List (Addr×Obj)}{σ:St}{H:Hp}{s s':Shared}
theorem Inv.env0 (I:Inv X pins σ H s):zcB X.prog X.w X.K X.mg X.base X.A X.stack s H:=
 ⟨I.ok.frames,I.ok.mod,I.bs,VaE I.ok.bsz I.sz,I.stack,I.stkFree,I.hok,I.bare⟩
theorem Inv.after {Q:VK}{u:Value}(I:Inv X pins σ H s)(h:CE X.stack X.prog X.w H s Q u s'):EP X pins σ Q u s':=by
 obtain⟨v,H',os,bare,un,hok,r,q⟩:=h
 obtain⟨hh,g,d,t,os'⟩:=s'
 obtain rfl:os'=s.os:=os
 exact⟨v,H',I.call (h':=hh) (g':=g) (d':=d) (t':=t) (ch:=[]) un hok bare (λb z=>absurd z (by simp)),r,q⟩
end
def tMake (C:Addr)(sp:Sp)(dvs:List V)(E:XK)(t:TA):TE:=λσ H Q=>t σ H λvs H1=>∀x dx,H1 x=none→H1 dx=none→dx≠x→
 sp (.ref x::(vs++dvs)) (upd (upd H1 dx (.own x)) x (.ins C dx [])) (λv H2=>v=.non∧Q (.ref x) H2) E
def zbz (K:PySem.W.Frag)(fd:FuncData)(ps:List Str)(ds:List Value):Prop:=
 ∀(s:Shared) (us:List Value),K.In s.heap→(us++ds).length=ps.length→BindsTo s fd ⟨us,[]⟩ (ps.zip (us++ds))
theorem zbz.all {K:PySem.W.Frag}{fd:FuncData}{ps:List Str}(h:∀us:List Value,us.length=ps.length→bindArgs fd ⟨us,[]⟩=pure (ps.zip us)):zbz K fd ps []:=λs us _ hl=>by
 rw[Va1] at hl ⊢
 exact .of_eq (h us hl)
def zlz (CX:CXT)(X:Cx)(E:XK):Prop:=∀(pins:List (Addr×Obj)) (σ:St) (H:Hp) (s:Shared) (e:Value) (s':Shared),Inv X pins σ H s→CX X.stack H s E e s'→X.xe e s'
section
variable {X:Cx}{CX:CXT}{k:Nat}{f C:Addr}{fd:FuncData}{ps:List Str}{sp:Sp}{dvs:List V}{ds:List Value}{E:XK}{x m:Str}{p pos apos:Pos}{e o:Expr}{es:List Expr}{ta:TE}{t:TA}
structure Mk (K:PySem.W.Frag)(C f:Addr):Prop where
 makes:PySem.W.makesIn K C=true
 init:PySem.W.findIn K (.ref C) "__init__"=some (some (.ref f))
 fn:PySem.W.isFn K (.ref f)=true
 kp:PySem.W.keepIn K (.ref C)=true
theorem zsZ {pins:List (Addr×Obj)}{σ:St}{H:Hp}{s:Shared}{Q:VK}{us:List Value}{vs:List V}(M:Mk X.K C f)(F:zbc X.prog X.w X.K X.mg X.base CX k f fd ps sp)(hr:zaN (k+1) X.A)(hb:zbz X.K fd ps ds)(hd:zaA dvs ds)
  (hx:zlz CX X E)(I:Inv X pins σ H s)(r:zaA vs us)
  (h:∀x dx,H x=none→H dx=none→dx≠x→sp (.ref x::(vs++dvs)) (upd (upd H dx (.own x)) x (.ins C dx [])) (λv H2=>v=.non∧Q (.ref x) H2) E):
  wpAny (model X.prog X.w) X.A (call (.ref C) us) (EP X pins σ Q) X.xe s:=by
 have hq:=h (s.heap.objs.size+1) s.heap.objs.size (I.hok.fresh (Nat.le_succ _)) (I.hok.fresh (Vab _)) (Var (Nat.lt_succ_self _))
 have I2:=Inv.made (C:=C) I
 have r2:zaA (V.ref (s.heap.objs.size+1)::(vs++dvs)) (Value.ref (s.heap.objs.size+1)::(us++ds)):=.cons rfl (r.append hd)
 have hl:(Value.ref (s.heap.objs.size+1)::us++ds).length=ps.length:=by
  have e:=r2.length
  rw[F.len _ _ _ _ hq] at e
  exact e.symm
 refine wpAny_call (zt1 (f:=f) I.kIn M.makes M.init (beq_iff_eq.mp M.fn) (codeAny_mono (F.run _ X.stack _ _ ⟨Value.ref (s.heap.objs.size+1)::us,[]⟩ (Value.ref (s.heap.objs.size+1)::(us++ds)) _ _ E (hr.make C us [])
  (I2.env0.make C us []) (hb _ (Value.ref (s.heap.objs.size+1)::us) I2.kIn hl) r2 hq) λr s' hq'=>?_))
 cases r with
 | error e=>exact hx pins σ _ _ e s' I2 hq'
 | ok fl=>
  cases fl with
  | ret u=>
   obtain⟨v,H',I3,rv,ev,q3⟩:=I2.after hq'
   subst ev
   exact⟨rv,⟨V.ref (s.heap.objs.size+1),H',I3,rfl,q3⟩⟩
  | next=>exact False.elim hq'
  | brk=>exact False.elim hq'
  | cont=>exact False.elim hq'
theorem zvy (M:Mk X.K C f)(F:zbc X.prog X.w X.K X.mg X.base CX k f fd ps sp)(hr:zaN (k+1) X.A)(hg:Gl X x)(hm:X.mg x=some (.ref C))(hb:zbz X.K fd ps ds)(hd:zaA dvs ds)(hx:zlz CX X E)
  (ha:PA X (e::es) t)(hdb:(x==("__debug__":Str))=false:=by decide)(he:starEach (e::es) X.env=(false,eval e X.env)::starEach es X.env:=by rfl)(hpl:(backTo pos (starEach es X.env)).any (·.1)=false:=by rfl):
  PE X (.Call (.Name x p) (e::es) [] pos) (tMake C sp dvs E t):=by
 intro pins s σ H Q I h
 refine wpAny_Call_Name_kw (zpV I hg hm ?_ hdb)
 refine PySem.W.callWith_K (h₀:=X.base) I.ok.mod.kin M.kp (thn (ha pos pins s σ H _ I h) λus s1 ⟨vs,H1,I1,r,q⟩=>⟨I1.kIn,?_⟩) he hpl
 exact zsZ M F hr hb hd hx I1 r q
end
section
variable {X:Cx}{CX:CXT}{k:Nat}{f C:Addr}{fd:FuncData}{ps ks:List Str}{sp:Sp}{E:XK}{x m:Str}{p pos apos kpos:Pos}{e o:Expr}{es:List Expr}{kws:List Keyword}{te ta:TE}{t tk:TA}{nm:Option Str}
structure KBinds (K:PySem.W.Frag)(fd:FuncData)(ps ks:List Str)(g:List Value→List Value→List Value)(gV:List V→List V→List V):Prop where
 to:∀(s:Shared) (us ws:List Value),K.In s.heap→(g us ws).length=ps.length→BindsTo s fd ⟨us,ks.zip ws⟩ (ps.zip (g us ws))
 rel:∀ {vs:List V} {us:List Value} {zs:List V} {ws:List Value},zaA vs us→zaA zs ws→zaA (gV vs zs) (g us ws)
variable {g:List Value→List Value→List Value}{gV:List V→List V→List V}
end
structure zau (N P:List Str)(sc:Scope):Prop where
 kind:sc.kind=.function
 co:sc.isCoroutine=false
 gen:sc.isGenerator=false
 nd:N.Nodup
 pre:N.take P.length=P
 par:∀x∈P,sc.names.lookup x=some .local∨sc.names.lookup x=some .cell
 nofree:∀y∈sc.names,y.2≠.free
theorem zrr {kindOf:Str→Option NameKind}{x:Str}:∀ {binds:List (Str×Value)} {m:Str→Option Value},(∀v,(x,v) ∉ binds)→bindL kindOf binds m x=m x
 | [],_,_=>rfl
 | (n,v)::r,m,h=>by
  unfold bindL
  rw[zrr λw hw=>h w (VaF _ hw)]
  split
  ·have:x≠n:=by rintro rfl; exact h v VaX
   simp[this]
  ·rfl
theorem zqB {kindOf:Str→Option NameKind}{x:Str}:∀ {binds:List (Str×Value)} {m:Str→Option Value},(∀v,(x,v) ∉ binds)→bindC kindOf binds m x=m x
 | [],_,_=>rfl
 | (n,v)::r,m,h=>by
  unfold bindC
  rw[zqB λw hw=>h w (VaF _ hw)]
  split
  ·rfl
  ·have:x≠n:=by rintro rfl; exact h v VaX
   simp[this]
theorem zqj {kindOf:Str→Option NameKind}{x:Str}{v:Value}:∀ {P:List Str} {vs:List Value} {i:Nat} {m:Str→Option Value},P.Nodup→P[i]?=some x→vs[i]?=some v→kindOf x=some .local→
  bindL kindOf (P.zip vs) m x=some v
 | [],_,_,_,_,h,_,_=>by simp at h
 | _::_,[],_,_,_,_,h,_=>by simp at h
 | p::P,w::vs,0,m,nd,h1,h2,hk=>by
  simp at h1 h2; subst h1; subst h2
  show bindL kindOf ((p,w)::P.zip vs) m p=_
  unfold bindL
  rw[zrr λv hv=>(List.nodup_cons.mp nd).1 (List.of_mem_zip hv).1,if_pos hk]
  simp
 | p::P,w::vs,i+1,m,nd,h1,h2,hk=>by
  show bindL kindOf ((p,w)::P.zip vs) m x=_
  unfold bindL
  exact zqj (i:=i) (List.nodup_cons.mp nd).2 (by simpa using h1) (by simpa using h2) hk
theorem zpx {kindOf:Str→Option NameKind}{x:Str}{v:Value}:∀ {P:List Str} {vs:List Value} {i:Nat} {m:Str→Option Value},P.Nodup→P[i]?=some x→vs[i]?=some v→kindOf x≠some .local→
  bindC kindOf (P.zip vs) m x=some v
 | [],_,_,_,_,h,_,_=>by simp at h
 | _::_,[],_,_,_,_,h,_=>by simp at h
 | p::P,w::vs,0,m,nd,h1,h2,hk=>by
  simp at h1 h2; subst h1; subst h2
  show bindC kindOf ((p,w)::P.zip vs) m p=_
  unfold bindC
  rw[zqB λv hv=>(List.nodup_cons.mp nd).1 (List.of_mem_zip hv).1,if_neg hk]
  simp
 | p::P,w::vs,i+1,m,nd,h1,h2,hk=>by
  show bindC kindOf ((p,w)::P.zip vs) m x=_
  unfold bindC
  exact zpx (i:=i) (List.nodup_cons.mp nd).2 (by simpa using h1) (by simpa using h2) hk
def zcz (N:List Str)(vs:List V):St:=vs.map some++List.replicate (N.length-vs.length) none
def zd0 (CX:CXT)(P:Program)(w:World)(K:PySem.W.Frag)(mg:Str→Option Value)(base:Heap)(N:List Str)(qual:Str)(scope:Scope)(f:Addr)(cd:Value)(A:Around)(outer:List Env)(s:Shared)(H:Hp)(E:XK):Cx where
 prog:=P
 w:=w
 K:=K
 mg:=mg
 base:=base
 A:=A.deeper (envOfC qual scope s.heap.objs.size f cd)
 N:=N
 s₀:=s
 H₀:=H
 env:=envOfC qual scope s.heap.objs.size f cd
 outer:=outer
 stack:=envOfC qual scope s.heap.objs.size f cd::outer
 ex:=[]
 calm:=true
 fn:=λ_=>true
 pn:=[]
 xe:=λe s'=>wpAny (model P w) (A.deeper (envOfC qual scope s.heap.objs.size f cd)) (leaving (envOfC qual scope s.heap.objs.size f cd) e) (λ_ s''=>CX outer H s E e s'') (λe' s''=>CX outer H s E e' s'') s'
theorem zp0 {sc:Scope}{n:Nat}{x:Str}(h:sc.names.lookup x=some .cell):∃c,(cellsFrom n sc.names []).lookup x=some c:=by
 have q:=PySem.W.cellsFrom_some sc.names n [] (.inl h)
 exact Option.isSome_iff_exists.mp q
theorem zvS {CX:CXT}{P:Program}{w:World}{K:PySem.W.Frag}{mg:Str→Option Value}{base:Heap}{N ps:List Str}{qual:Str}{scope:Scope}{f:Addr}{cd:Value}{A:Around}{outer:List Env}{s s1:Shared}{H:Hp}{E:XK}{us:List Value}{vs:List V}
  (S:zau N ps scope)(hd:A.handled=none)(e0:zcB P w K mg base A outer s H)(hl:vs.length=ps.length)(r:zaA vs us)
  (x:InCallC s s.heap.objs.size (bindL (envOfC qual scope s.heap.objs.size f cd).kindOf (ps.zip us) λ_=>none) (cellsFrom (s.heap.objs.size+1) scope.names []) (bindC (envOfC qual scope s.heap.objs.size f cd).kindOf (ps.zip us) λ_=>none) s1):
  Inv (zd0 CX P w K mg base N qual scope f cd A outer s H E) [] (zcz N vs) H s1:=by
 have hpl:ps.length≤N.length:=by have:=congrArg List.length S.pre; rw[Vah] at this; omega
 obtain⟨h1,tk,rfl,hk⟩:=x.done
 have noA:∀b:Addr,b ∉ (zd0 CX P w K mg base N qual scope f cd A outer s H E).ex:=λb z=>absurd (show b∈([]:List Addr) from z) (by simp)
 refine⟨⟨e0.mod,S.kind,rfl,rfl,Vab _,λy z c h1 h2=>?_,λy hy=>?_,λy c _ h=>?_,λ_=>hd,Around.frames_deeper e0.frames,.inr ⟨rfl,rfl⟩,λb z=>absurd z (noA b),e0.bs,e0.bsz,λb _ _=>noA b,λb z=>absurd z (noA b),e0.funs,e0.frf⟩,
  rfl,e0.bare,Un.kept hk,⟨_,x.toInCall.ns,λi y v h1 h2 h3=>?_⟩,λy c h=>⟨_,x.cell y c h⟩,e0.hok.fresh (Vab _),λy c h=>?_,λp hp=>absurd (show p∈([]:List (Addr×Obj)) from hp) (by simp),e0.hok.kept hk,?_⟩
 ·exact name_of_addr x.apart (PySem.mem_of_lookup h1) (PySem.mem_of_lookup h2)
 ·have hy:scope.names.lookup y=some .cell∨scope.names.lookup y=some .free:=hy
  rcases hy with hy | hy
  ·exact zp0 hy
  ·exact absurd rfl (S.nofree _ (PySem.mem_of_lookup hy))
 ·exact VaW (x.above y c (PySem.mem_of_lookup h))
 ·have hi:i<vs.length:=by
   unfold zcz at h2
   by_cases hi:i<vs.length
   ·exact hi
   ·rw[VaO (by simpa using hi)] at h2
    rw[List.getElem?_replicate] at h2
    split at h2 <;> cases h2
  have ha:vs[i]?=some v:=by
   unfold zcz at h2
   rw[Vak (by simpa using hi),Vai] at h2
   cases e:vs[i]? with
   | none=>rw[e] at h2; cases h2
   | some a=>rw[e] at h2; cases h2; rfl
  obtain⟨u,hu,rv⟩:=r.get ha
  have hp:ps[i]?=some y:=by
   rw[← S.pre,List.getElem?_take_of_lt (by omega)]; exact h1
  have ndP:ps.Nodup:=by rw[← S.pre]; exact S.nd.sublist (List.take_sublist _ _)
  refine⟨u,rv,?_⟩
  rcases S.par y (Vat hp) with k | k
  ·exact .inl ⟨k,zqj ndP hp hu k⟩
  ·obtain⟨c,e⟩:=zp0 (n:=s.heap.objs.size+1) k
   refine .inr ⟨.inl k,c,e,?_⟩
   have q:=x.cell y c e
   rw[zpx ndP hp hu (by show scope.names.lookup y≠_; rw[k]; decide)] at q
   exact q
 ·exact e0.hok.fresh (VaW (x.above y c (PySem.mem_of_lookup h)))
 ·unfold zcz
  show _=N.length
  rw[Van,Vaa,List.length_replicate]
  omega
theorem zq4 {CX:CXT}{P:Program}{w:World}{K:PySem.W.Frag}{mg:Str→Option Value}{base:Heap}{k:Nat}{f:Addr}{name qual:Str}{params:Arguments}{body:List Stmt}{scope:Scope}{dV kV doc pm cdv ct oc:Value}{an od:Option Addr}
  {osl:Array (Option Value)}{N ps:List Str}{sp:Sp}(lk:K.lookup f=some ⟨oc,od,.func (PySem.W.fnOf name qual params body scope dV kV doc pm an cdv ct),osl⟩)(hcd:PySem.W.codeIn K cdv qual=true)(S:zau N ps scope)
  (len:∀vs H Q E,sp vs H Q E→vs.length=ps.length)
  (hbody:∀(A:Around) (outer:List Env) (s:Shared) (H:Hp) (vs:List V) (Q:VK) (E:XK),zaN k (A.deeper (envOfC qual scope s.heap.objs.size f cdv))→sp vs H Q E→
   ∃t,PSs (zd0 CX P w K mg base N qual scope f cdv A outer s H E) body t∧t { nx:=λ_ H'=>Q .non H',rt:=Q } (zcz N vs) H):
  zbc P w K mg base CX (k+1) f (PySem.W.fnOf name qual params body scope dV kV doc pm an cdv ct) ps sp:=by
 refine⟨len,λA outer s H args us vs Q E hr e0 hb r hsp=>?_⟩
 have hl:=len _ _ _ _ hsp
 have KX:K.In s.heap:=e0.mod.kin.keeps λb o e=>(e0.bs b o e).1
 have lim:s.heap.NoLimit:=e0.mod.nolimit.keeps λb o e=>(e0.bs b o e).1
 have hkind:∀y∈ps.zip us,scope.names.lookup y.1=some .local∨(scope.names.lookup y.1=some .cell∧((cellsFrom (s.heap.objs.size+1) scope.names []).lookup y.1).isSome=true):=λ⟨n,v⟩ hy=>by
  rcases S.par n (List.of_mem_zip hy).1 with q | q
  ·exact .inl q
  ·exact .inr ⟨q,PySem.W.cellsFrom_some _ _ _ (.inl q)⟩
 refine codeAny_call_function hr.depth (KX _ _ lk) rfl S.co S.gen rfl (PySem.W.codeRec_of KX hcd) (hb _ _ _ _ ?_)
 refine wpAny_newFunctionEnv_cells S.kind hkind λenv he s1 x=>?_
 subst he
 refine⟨lim.keeps x.toInCall.keep,codeAny_func ?_⟩
 obtain⟨t,ht,hq⟩:=hbody A outer s H vs Q E (hr.deeper _) hsp
 have I:Inv (zd0 CX P w K mg base N qual scope f cdv A outer s H E) [] (zcz N vs) H s1:=zvS S hr.hd e0 hl r x
 refine wpAny_mono (ht [] s1 (zcz N vs) H _ I hq) (λfl s' hs=>?_) λe s' hs=>hs
 have fin:∀ {σ':St} {H':Hp} {v:V} {u:Value},Inv (zd0 CX P w K mg base N qual scope f cdv A outer s H E) [] σ' H' s'→zay v u→Q v H'→CE outer P w H s Q u s':=
  λ{σ' H' v u} J rv q=>⟨v,H',J.os,J.bare,J.base,J.hok,rv,q⟩
 cases fl with
 | ret u=>
  obtain⟨v,σ',H',J,rv,q⟩:=hs
  exact fin J rv q
 | next=>
  obtain⟨σ',H',J,q⟩:=hs
  exact fin (v:=V.non) (u:=Value.none) J rfl q
 | brk=>
  obtain⟨_,_,_,q⟩:=hs
  exact False.elim q
 | cont=>
  obtain⟨_,_,_,q⟩:=hs
  exact False.elim q
end L2
namespace L2
open PySem PySem.Spec PyProof.Rows
section
variable {X:Cx}{x:Str}{p pos:Pos}{e:Expr}{es:List Expr}{t:TA}{id T:String}{r:List V→Hp→VK→Prop}
def tCB (r:List V→Hp→VK→Prop)(t:TA):TE:=λσ H Q=>t σ H λvs H1=>r vs H1 Q
theorem znW (hc:zbm X (.builtin id) r)(hg:Gl X x)(hm:X.mg x=none)(hv:bootBuiltins x=some (.builtin id))(ha:PA X (e::es) t)(hn:x≠"__name__":=by decide)(hdb:(x==("__debug__":Str))=false:=by decide)
  (he:starEach (e::es) X.env=(false,eval e X.env)::starEach es X.env:=by rfl)(hpl:(backTo pos (starEach es X.env)).any (·.1)=false:=by rfl):PE X (.Call (.Name x p) (e::es) [] pos) (tCB r t):=by
 intro pins s σ H Q I h
 refine wpAny_Call_Name_kw (zfr I hg hm hv ?_ hn hdb)
 exact PyProof.Rows.callWith_builtin1 (thn (ha pos pins s σ H _ I h) λus s1 ⟨vs,H1,I1,r1,q1⟩=>hc pins s1 σ H1 vs us Q I1 r1 q1) he hpl
theorem zu0 (hc:zbm X (.type T) r)(hg:Gl X x)(hm:X.mg x=none)(hv:bootBuiltins x=some (.type T))(ha:PA X (e::es) t)(hn:x≠"__name__":=by decide)(hdb:(x==("__debug__":Str))=false:=by decide)
  (he:starEach (e::es) X.env=(false,eval e X.env)::starEach es X.env:=by rfl)(hpl:(backTo pos (starEach es X.env)).any (·.1)=false:=by rfl):PE X (.Call (.Name x p) (e::es) [] pos) (tCB r t):=by
 intro pins s σ H Q I h
 refine wpAny_Call_Name_kw (zfr I hg hm hv ?_ hn hdb)
 exact PyProof.Rows.callWith_type1 (thn (ha pos pins s σ H _ I h) λus s1 ⟨vs,H1,I1,r1,q1⟩=>hc pins s1 σ H1 vs us Q I1 r1 q1) he hpl
end
end L2
namespace HT
open PySem PyProof.Rows
section
open PySem.SeqAt
open PySem.AutoSeq1 (wpAny_loadPart')
open PySem.MeetsSeq PySem.MeetsSeq2 PySem.MeetsSeq3
end
section
variable {prog:Program}{w:World}{A:Around}{E:Value→Shared→Prop}{s:Shared}
def sIx (n d:Nat):Option Int→Nat
 | none=>d
 | some v=>if v<0 then (v+(n:Int)).toNat else min v.toNat n
theorem sIx_none (n d:Nat):sIx n d none=d:=rfl
theorem sIx_nat (n d k:Nat):sIx n d (some (k:Int))=min k n:=by
 show (if (k:Int)<0 then ((k:Int)+(n:Int)).toNat else min (k:Int).toNat n)=min k n
 rw[if_neg (by omega),Vad]
end
end HT
namespace L2
open PySem PySem.Spec PyProof.Rows
abbrev TO:=St→Hp→(Option Int→Hp→Prop)→Prop
def PO (X:Cx)(e:Option Expr)(t:TO):Prop:=
 ∀(pins:List (Addr×Obj)) (s:Shared) (σ:St) (H:Hp) (Q:Option Int→Hp→Prop),Inv X pins σ H s→t σ H Q→
  wpAny (model X.prog X.w) X.A (evalPart e X.env) (λu s'=>∃o H',Inv X pins σ H' s'∧IsPart u o∧Q o H') X.xe s
def zyG:TO:=λ_ H Q=>Q none H
def tPart (t:TE):TO:=λσ H Q=>t σ H λx H1=>∃i,x=.int i∧Q (some i) H1
section
variable {X:Cx}{e:Expr}{te:TE}{lo hi:Option Expr}{tl th:TO}{pos p2:Pos}
theorem zrQ:PO X none zyG:=by
 intro pins s σ H Q I h
 rw[evalPart_none]
 exact wpAny_pure ⟨none,H,I,.none,h⟩
theorem zsS (h:PE X e te):PO X (some e) (tPart te):=by
 intro pins s σ H Q I hw
 rw[evalPart_some]
 refine thn (h pins s σ H _ I hw) λu s1 ⟨x,H1,I1,r1,q1⟩=>?_
 obtain⟨i,rfl,q⟩:=q1
 obtain⟨t,rfl⟩:=r1
 exact⟨some i,H1,I1,.int i t,q⟩
def SlR (X:Cx)(r:V→Option Int→Option Int→Hp→VK→Prop):Prop:=
 ∀(pins:List (Addr×Obj)) (s:Shared) (σ:St) (H:Hp) (x:V) (v vl vu:Value) (lo hi:Option Int) (sl:Addr) (Q:VK),Inv X pins σ H s→zay x v→s.heap.IsSliceOf sl vl vu .none→IsPart vl lo→IsPart vu hi→r x lo hi H Q→
  ∃T id,typeLookup (.type T) "__getitem__"=pure (some (.builtin id))∧s.TypeIs v T∧wpAny (model X.prog X.w) X.A (getItem v (.ref sl)) (EP X pins σ Q) X.xe s
theorem SlR.or {r r':V→Option Int→Option Int→Hp→VK→Prop}(h:SlR X r)(h':SlR X r'):SlR X (λx lo hi H Q=>r x lo hi H Q∨r' x lo hi H Q):=by
 intro pins s σ H x v vl vu lo hi sl Q I rx hs pl pu q
 rcases q with q | q
 ·exact h pins s σ H x v vl vu lo hi sl Q I rx hs pl pu q
 ·exact h' pins s σ H x v vl vu lo hi sl Q I rx hs pl pu q
def tSl (r:V→Option Int→Option Int→Hp→VK→Prop)(te:TE)(tl th:TO):TE:=λσ H Q=>te σ H λx H1=>tl σ H1 λl H2=>th σ H2 λu H3=>r x l u H3 Q
theorem zr4 {r:V→Option Int→Option Int→Hp→VK→Prop}(hr:SlR X r)(he:PE X e te)(hl:PO X lo tl)(hu:PO X hi th):PE X (.Subscript e (.Slice lo hi none p2) pos) (tSl r te tl th):=by
 intro pins s σ H Q I h
 refine Subscript_ (thn (he pins s σ H _ I h) λv s1 ⟨x,H1,I1,r1,q1⟩=>?_)
 refine wpAny_Slice (thn (hl pins s1 σ H1 _ I1 q1) λvl s2 ⟨l,H2,I2,pl,q2⟩=>thn (hu pins s2 σ H2 _ I2 q2) λvu s3 ⟨u,H3,I3,pu,q3⟩=>?_)
 rw[evalPart_none]
 refine wpAny_pure ?_
 have I4:Inv X pins σ H3 { s3 with heap:=s3.heap.push { cls:=.type "slice",data:=.fields #[vl,vu,.none] } }:=I3.kept (t':=s3.toks) λb ob q=>Heap.get?_push_of_some _ q
 obtain⟨T,id,hT,ht,hg⟩:=hr pins { s3 with heap:=s3.heap.push { cls:=.type "slice",data:=.fields #[vl,vu,.none] } } σ H3 x v vl vu l u s3.heap.objs.size Q I4 r1 (Heap.IsSliceOf.new ..) pl pu q3
 show wpAny (model X.prog X.w) X.A (subscriptTail e (.Slice lo hi none p2) v (.ref s3.heap.objs.size)) (EP X pins σ Q) X.xe { s3 with heap:=s3.heap.push { cls:=.type "slice",data:=.fields #[vl,vu,.none] } }
 exact tail_any (ops:=[.ref s3.heap.objs.size,v]) ht hT hg (by with_unfolding_all rfl)
def zfG (xs:List V)(lo hi:Option Int):List V:=(xs.drop (HT.sIx xs.length 0 lo)).take (HT.sIx xs.length xs.length hi-HT.sIx xs.length 0 lo)
theorem zuW (xs:List V)(lo hi:Option Int):(zfG xs lo hi).length≤xs.length:=by
 unfold zfG
 rw[Vah,List.length_drop]
 omega
end
end L2
namespace L2
open PySem PySem.Spec PyProof.Rows
def ixN (n:Nat)(i:Int):Option Nat:=if 0≤i then (if i<n then some i.toNat else none) else if -(n:Int)≤i then some (i+n).toNat else none
def atI {α:Type}(xs:List α)(i:Int):Option α:=(ixN xs.length i).bind λj=>xs[j]?
theorem zqf {n:Nat}{i:Int}{j:Nat}(h:ixN n i=some j):seqIndex? i n=some j∧j<n∧-(n:Int)≤i∧i<n:=by
 unfold ixN at h
 by_cases h0:0≤i
 ·rw[if_pos h0] at h
  by_cases h1:i<n
  ·rw[if_pos h1] at h
   have e:i.toNat=j:=Option.some.inj h
   exact⟨by rw[seqIndex_of h0 h1,e],by omega,by omega,h1⟩
  ·rw[if_neg h1] at h; cases h
 ·rw[if_neg h0] at h
  by_cases h1:-(n:Int)≤i
  ·rw[if_pos h1] at h
   have e:(i+n).toNat=j:=Option.some.inj h
   exact⟨by rw[seqIndex_neg (by omega) h1,e],by omega,h1,by omega⟩
  ·rw[if_neg h1] at h; cases h
theorem zrf {α:Type}{xs:List α}{i:Int}{v:α}(h:atI xs i=some v):∃j,seqIndex? i xs.length=some j∧xs[j]?=some v∧j<xs.length∧-(xs.length:Int)≤i∧i<xs.length:=by
 unfold atI at h
 cases e:ixN xs.length i with
 | none=>rw[e] at h; cases h
 | some j=>
  rw[e] at h
  obtain⟨h1,h2,h3,h4⟩:=zqf e
  exact⟨j,h1,h,h2,h3,h4⟩
theorem zhP {α:Type}{xs:List α}{j:Nat}{v:α}(h:xs[j]?=some v):atI xs (j:Int)=some v:=by
 have hj:j<xs.length:=(Vac.mp h).1
 have e:ixN xs.length (j:Int)=some j:=by
  unfold ixN
  rw[if_pos (by omega),if_pos (by omega)]; simp
 unfold atI; rw[e]; exact h
def zpn (b:Expr):Prop:=∀o i,subscripted b false o i=operate [o,i] (getItem o i)
def IxR (X:Cx)(r:R2):Prop:=
 ∀(value slice:Expr) (pins:List (Addr×Obj)) (s:Shared) (σ:St) (H:Hp) (x y:V) (v u:Value) (Q:VK),Inv X pins σ H s→zay x v→zay y u→r x y H Q→
  subscripted slice false v u=operate [v,u] (getItem v u)→wpAny (model X.prog X.w) X.A (subscriptTail value slice v u) (EP X pins σ Q) X.xe s
def MtR (X:Cx)(id:String)(r:V→List V→Hp→VK→Prop):Prop:=
 ∀(pins:List (Addr×Obj)) (s:Shared) (σ:St) (H:Hp) (x:V) (xs:List V) (v:Value) (us:List Value) (Q:VK),Inv X pins σ H s→zay x v→zaA xs us→r x xs H Q→
  wpAny (model X.prog X.w) X.A (call (.builtin id) (v::us)) (EP X pins σ Q) X.xe s
section
variable {X:Cx}{a b:Expr}{ta tb:TE}{pos:Pos}
theorem IxR.or {r r':R2}(h:IxR X r)(h':IxR X r'):IxR X (λx y H Q=>r x y H Q∨r' x y H Q):=by
 intro value slice pins s σ H x y v u Q I rx ry q hs
 rcases q with q | q
 ·exact h value slice pins s σ H x y v u Q I rx ry q hs
 ·exact h' value slice pins s σ H x y v u Q I rx ry q hs
theorem MtR.or {id:String}{r r':V→List V→Hp→VK→Prop}(h:MtR X id r)(h':MtR X id r'):MtR X id (λx xs H Q=>r x xs H Q∨r' x xs H Q):=by
 intro pins s σ H x xs v us Q I rx rs q
 rcases q with q | q
 ·exact h pins s σ H x xs v us Q I rx rs q
 ·exact h' pins s σ H x xs v us Q I rx rs q
theorem pe_ix {r:R2}(hr:IxR X r)(ha:PE X a ta)(hb:PE X b tb)(hs:zpn b):PE X (.Subscript a b pos) (tOp r ta tb):=by
 intro pins s σ H Q I h
 exact Subscript_ (binT ha hb I h λv u s2 x y H2 I2 rx ry q=>hr a b pins s2 σ H2 x y v u Q I2 rx ry q (hs _ _))
def rIxL (K:PySem.W.Frag):R2:=λx y H Q=>∃p xs i v,x=.ref p∧y=.int i∧SqL K H p xs∧atI xs i=some v∧Q v H
def rIxT (K:PySem.W.Frag):R2:=λx y H Q=>∃p xs i v,x=.ref p∧y=.int i∧SqT K H p xs∧atI xs i=some v∧Q v H
theorem zsJ:IxR X (rIxL X.K):=by
 intro value slice pins s σ H x y v u Q I rx ry h hs
 obtain⟨p,xs,i,z,rfl,rfl,hq,he,q⟩:=h
 cases rx
 obtain⟨t,rfl⟩:=ry
 obtain⟨its,r,pl,hz⟩:=I.list hq
 obtain⟨j,h1,h2,h3,h4,h5⟩:=zrf he
 obtain⟨w,ew,rw'⟩:=r.get h2
 have hl:=r.length
 have hn:=zgU
 have fin:EP X pins σ Q w s:=⟨z,H,I,rw',q⟩
 by_cases h0:0≤i
 ·have hj:i.toNat=j:=by
   rw[seqIndex_of h0 h5] at h1
   exact Option.some.inj h1
  exact item_listR pl.isList h0 (by omega) (by rw[hj]; simpa using ew) fin hs
 ·have hj:(i+(its.toArray.size:Int)).toNat=j:=by
   rw[seqIndex_neg (by omega) h4] at h1
   rw[Vaj,← hl]
   exact Option.some.inj h1
  exact subscriptTail_builtinR (x:=w) pl.isList.typeIs slot_list_getitem.lookup
   (wpAny_getItem_list_neg (Q:=λr s'=>r=w∧EP X pins σ Q r s') pl.isList (by omega) (by rw[Vaj] <;> omega) (by omega) (by rw[hj]; simpa using ew) ⟨rfl,fin⟩) hs
theorem zsQ:IxR X (rIxT X.K):=by
 intro value slice pins s σ H x y v u Q I rx ry h hs
 obtain⟨p,xs,i,z,rfl,rfl,hq,he,q⟩:=h
 cases rx
 obtain⟨t,rfl⟩:=ry
 obtain⟨its,r,pl,hz⟩:=I.tuple hq
 obtain⟨j,h1,h2,h3,h4,h5⟩:=zrf he
 obtain⟨w,ew,rw'⟩:=r.get h2
 have hl:=r.length
 have hn:=zgU
 have fin:EP X pins σ Q w s:=⟨z,H,I,rw',q⟩
 exact subscriptTail_builtinR (x:=w) pl.typeIs slot_tuple_getitem.lookup
  (getItem_tuple (j:=j) (Q:=λr s'=>r=w∧EP X pins σ Q r s') pl (by omega) (by omega) (by rw[Vaj,← hl]; exact h1) (by simpa using ew) ⟨rfl,fin⟩) hs
theorem zrY (its:List Value)(n j:Nat)(u:Value):Obj.mapSeq (·.setIfInBounds j u) { cls:=.type "list",data:=.seq its.toArray n }={ cls:=.type "list",data:=.seq (its.set j u).toArray n }:=by
 simp[Obj.mapSeq]
theorem Inv.lst {pins:List (Addr×Obj)}{σ:St}{H:Hp}{s:Shared}{p:Addr}{xs:List V}(I:Inv X pins σ H s)(h:H p=some (.lst xs)):
  ∃(its:List Value) (n:Nat),zaA xs its∧s.heap.get? p=some { cls:=.type "list",data:=.seq its.toArray n }∧xs.length≤sizeLine:=by
 obtain⟨z,its,n,r,e⟩:=I.hok p _ h
 exact⟨its,n,r,e,z⟩
theorem Inv.lstUpd {pins:List (Addr×Obj)}{σ:St}{H:Hp}{s:Shared}{p:Addr}{xs ys:List V}{its its':List Value}{n n':Nat}{f:Obj→Obj}(I:Inv X pins σ H s)(h:H p=some (.lst xs))
  (ho:s.heap.get? p=some { cls:=.type "list",data:=.seq its.toArray n })(hf:f { cls:=.type "list",data:=.seq its.toArray n }={ cls:=.type "list",data:=.seq its'.toArray n' })(r:zaA ys its')(hz:ys.length≤sizeLine)(t:Nat):
  Inv X pins σ (upd H p (.lst ys)) { s with heap:=s.heap.update p f,toks:=t }:=by
 have e:(s.heap.update p f).get? p=some { cls:=.type "list",data:=.seq its'.toArray n' }:=by
  rw[Heap.get?_update_self f ho (by rw[hf] <;> rfl),hf]
 refine I.write (x:=p) (e:=p) (by rw[h]; trivial) (.inl rfl) (λb u hb q=>(Heap.get?_update_other _ _ (Ne.symm hb)).trans q) ⟨_,e⟩ ?_
 exact⟨hz,its',n',r,e⟩
def rSetL:V→V→V→Hp→(Hp→Prop)→Prop:=λo i v H Q=>∃p xs k j,o=.ref p∧i=.int k∧H p=some (.lst xs)∧ixN xs.length k=some j∧Q (upd H p (.lst (xs.set j v)))
theorem ztY:PSet X rSetL:=by
 intro pins s σ H o i v ov iv u Q I ro ri rv h
 obtain⟨p,xs,k,j,rfl,rfl,hp,hj,q⟩:=h
 cases ro
 obtain⟨t,rfl⟩:=ri
 obtain⟨its,n,r,ho,hz⟩:=I.lst hp
 obtain⟨h1,h2,h3,h4⟩:=zqf hj
 have hl:=r.length
 have hn:=zgU
 have I':Inv X pins σ (upd H p (.lst (xs.set j v))) { s with heap:=s.heap.update p (Obj.mapSeq (·.setIfInBounds j u)) }:=
  I.lstUpd hp ho (zrY its n j u) (r.set rv j) (by rw[VaA]; exact hz) s.toks
 by_cases h0:0≤k
 ·have hk:k.toNat=j:=by
   rw[seqIndex_of h0 h4] at h1
   exact Option.some.inj h1
  exact PySem.W.ki_setAt ho h0 (by omega) (by rw[Vaj,← hl]; exact h4) (by rw[hk]; exact⟨_,I',q⟩)
 ·have hk:(k+(its.toArray.size:Int)).toNat=j:=by
   rw[seqIndex_neg (by omega) h3] at h1
   rw[Vaj,← hl]
   exact Option.some.inj h1
  exact PySem.W.ki_setBack ho (by omega) (by rw[Vaj,← hl]; exact h3) (by omega) (by rw[hk]; exact⟨_,I',q⟩)
theorem zyl (lo hi:Option Int)(n:Nat):(sliceBounds lo hi none n).1=((HT.sIx n 0 lo:Nat):Int)∧(sliceBounds lo hi none n).2.1=((HT.sIx n n hi:Nat):Int)∧(sliceBounds lo hi none n).2.2=1:=by
 refine⟨?_,?_,rfl⟩
 ·cases lo with
  | none=>simp[sliceBounds,HT.sIx]
  | some i=>
   simp only[sliceBounds,HT.sIx,Option.getD_none,show (1:Int) > 0 by decide,if_true]
   by_cases h:i<0
   ·simp only[h,if_true] <;> omega
   ·simp only[h,if_false] <;> omega
 ·cases hi with
  | none=>simp[sliceBounds,HT.sIx]
  | some i=>
   simp only[sliceBounds,HT.sIx,Option.getD_none,show (1:Int) > 0 by decide,if_true]
   by_cases h:i<0
   ·simp only[h,if_true] <;> omega
   ·simp only[h,if_false] <;> omega
theorem zsk (its:List Value)(lo hi:Option Int):slicePick its.toArray lo hi none=((its.drop (HT.sIx its.length 0 lo)).take (HT.sIx its.length its.length hi-HT.sIx its.length 0 lo)).toArray:=by
 obtain⟨h1,h2,h3⟩:=zyl lo hi its.toArray.size
 unfold slicePick
 rw[h1,h2,h3]
 simp only[sliceRange_one,pick_run,Vaj] <;> rfl
def rSlL (K:PySem.W.Frag):V→Option Int→Option Int→Hp→VK→Prop:=λx lo hi H Q=>∃a xs,x=.ref a∧SqL K H a xs∧∀p,H p=none→Q (.ref p) (upd H p (.lst (zfG xs lo hi)))
theorem zrZ:SlR X (rSlL X.K):=by
 intro pins s σ H x v vl vu lo hi sl Q I rx hs pl pu h
 obtain⟨a,xs,rfl,hx,q⟩:=h
 cases rx
 obtain⟨its,r,ht,hz⟩:=I.list hx
 have hlen:=r.length
 refine⟨"list",_,slot_list_getitem.lookup,ht.isList.typeIs,?_⟩
 refine wpAny_getItem_list_slice ht.isList hs pl pu .none (by simp) ?_ (by rw[Vaj] <;> omega)
 rw[zsk,← hlen]
 refine⟨.ref s.heap.objs.size,_,I.laid (t':=s.toks) (o:=.lst (zfG xs lo hi)) (λb ob q=>Heap.get?_push_of_some _ q) (Vab _) ?_,rfl,q _ (I.hok.fresh (Vab _))⟩
 exact⟨VaE (zuW xs lo hi) hz,_,0,(r.drop (HT.sIx xs.length 0 lo)).take (HT.sIx xs.length xs.length hi-HT.sIx xs.length 0 lo),Heap.get?_push_size _ rfl⟩
def zjg:V→Bool
 | .non=>true
 | .bl _=>true
 | .int _=>true
 | .str _=>true
 | _=>false
def eqV:V→V→Bool
 | .non,.non=>true
 | .bl a,.bl b=>a==b
 | .bl a,.int b=>(if a then 1 else 0)==b
 | .int a,.bl b=>a==(if b then 1 else 0)
 | .int a,.int b=>a==b
 | .str a,.str b=>a==b
 | _,_=>false
theorem zyY {A:Around}{s:Shared}{y x:V}{u v:Value}(ry:zay y u)(rx:zay x v)(fy:zjg y=true)(fx:zjg x=true):SeqAt.EqAt A s u v (eqV y x):=by
 cases y with
 | non=>
  cases ry
  cases x with
  | non=>cases rx; exact SeqAt.EqAt.same _
  | bl b=>cases rx; exact SeqAt.EqAt.none_bool b
  | int b=>obtain⟨t,rfl⟩:=rx; exact SeqAt.EqAt.none_int b t
  | str b=>obtain⟨t,rfl⟩:=rx; exact SeqAt.EqAt.none_str b t
  | _=>exact absurd (show false=true from fx) Vam
 | bl a=>
  cases ry
  cases x with
  | non=>cases rx; exact SeqAt.EqAt.bool_none a
  | bl b=>cases rx; exact SeqAt.EqAt.bool_bool a b
  | int b=>obtain⟨t,rfl⟩:=rx; exact SeqAt.EqAt.bool_int a b t
  | str b=>obtain⟨t,rfl⟩:=rx; exact SeqAt.EqAt.bool_str a b t
  | _=>exact absurd (show false=true from fx) Vam
 | int a=>
  obtain⟨t',rfl⟩:=ry
  cases x with
  | non=>cases rx; exact SeqAt.EqAt.int_none a t'
  | bl b=>cases rx; exact SeqAt.EqAt.int_bool a t' b
  | int b=>obtain⟨t,rfl⟩:=rx; exact SeqAt.EqAt.int_int a t' b t
  | str b=>obtain⟨t,rfl⟩:=rx; exact SeqAt.EqAt.int_str a t' b t
  | _=>exact absurd (show false=true from fx) Vam
 | str a=>
  obtain⟨t',rfl⟩:=ry
  cases x with
  | non=>cases rx; exact SeqAt.EqAt.str_none a t'
  | bl b=>cases rx; exact SeqAt.EqAt.str_bool a t' b
  | int b=>obtain⟨t,rfl⟩:=rx; exact SeqAt.EqAt.str_int a t' b t
  | str b=>obtain⟨t,rfl⟩:=rx; exact SeqAt.EqAt.str_str a t' b t
  | _=>exact absurd (show false=true from fx) Vam
 | _=>exact absurd (show false=true from fy) Vam
theorem zvb:zbm X (.builtin "len") (λxs H Q=>∃p ys,xs=[.ref p]∧(SqL X.K H p ys∨SqT X.K H p ys)∧Q (.int ys.length) H):=by
 intro pins s σ H xs us Q I r h
 obtain⟨p,ys,rfl,hq,q⟩:=h
 obtain⟨u,rfl,rx⟩:=zeL r
 cases rx
 have hn:=zgU
 rcases hq with hq | hq
 ·obtain⟨its,r',pl,hz⟩:=I.list hq
  have hlen:=r'.length
  exact Calls.call_len_list pl.isList (by simp only[Vaj] <;> omega) ⟨.int ys.length,H,I.tok _,⟨s.toks+1,by rw[Vaj,hlen]⟩,q⟩
 ·obtain⟨its,r',pl,hz⟩:=I.tuple hq
  have hlen:=r'.length
  exact len_tuple pl (by simp only[Vaj] <;> omega) ⟨.int ys.length,H,I.tok _,⟨s.toks+1,by rw[Vaj,hlen]⟩,q⟩
theorem zbm.or {f:Value}{r r':List V→Hp→VK→Prop}(h:zbm X f r)(h':zbm X f r'):zbm X f (λxs H Q=>r xs H Q∨r' xs H Q):=by
 intro pins s σ H xs us Q I rs q
 rcases q with q | q
 ·exact h pins s σ H xs us Q I rs q
 ·exact h' pins s σ H xs us Q I rs q
theorem zuG:zbm X (.type "list") (λxs H Q=>∃p ys,xs=[.ref p]∧(SqL X.K H p ys∨SqT X.K H p ys)∧∀l,H l=none→Q (.ref l) (upd H l (.lst ys))):=by
 intro pins s σ H xs us Q I r h
 obtain⟨p,ys,rfl,hq,q⟩:=h
 obtain⟨u,rfl,rx⟩:=zeL r
 cases rx
 have fin:∀(its:List Value),zaA ys its→ys.length≤sizeLine→∀(h':Heap) (c':Nat),(∀b o',s.heap.get? b=some o'→h'.get? b=some o')→
   h'.get? s.heap.objs.size=some { cls:=.type "list",dict:=none,data:=.seq its.toArray c',slots:=#[] }→EP X pins σ Q (.ref s.heap.objs.size) { s with heap:=h' }:=λits r' hz h' c' kp e=>
  ⟨.ref s.heap.objs.size,_,I.laid (t':=s.toks) kp (Vab _) (show zbv X.prog X.w _ h' _ (.lst ys) from ⟨hz,its,c',r',e⟩),rfl,q _ (I.hok.fresh (Vab _))⟩
 rcases hq with hq | hq
 ·obtain⟨its,r',pl,hz⟩:=I.list hq
  have hlen:=r'.length
  obtain⟨o,ho,hc,n,hd⟩:=pl.isList
  exact call_list_seq p (.inl rfl) ho hc hd (λh' c' kp e=>fin its r' hz h' c' kp e) (by simp only[Vaj] <;> omega)
 ·obtain⟨its,r',pl,hz⟩:=I.tuple hq
  have hlen:=r'.length
  obtain⟨o,ho,hc,n,hd⟩:=pl
  exact call_list_seq p (.inr rfl) ho hc hd (λh' c' kp e=>fin its r' hz h' c' kp e) (by simp only[Vaj] <;> omega)
def tyV (K:PySem.W.Frag)(T:String)(x:V)(H:Hp):Prop:=match x with
 | .str _=>T="str"
 | .int _=>T="int"
 | .ref p=>(T="list"∧∃xs,SqL K H p xs)∨(T="tuple"∧∃o,K.lookup p=some o∧o.cls=.type "tuple"∧o.dict=none)∨
   (T="dict"∧((∃kvs,H p=some (.dK kvs))∨∃kvs,H p=some (.dT kvs)))∨(T="set"∧∃S n,H p=some (.set S n))
 | _=>False
theorem zpI {pins:List (Addr×Obj)}{σ:St}{H:Hp}{s:Shared}{T:String}{x:V}{v:Value}(I:Inv X pins σ H s)(r:zay x v)(ty:tyV X.K T x H):
  s.TypeIs v T∧∀a,v=.ref a→∃ob,s.heap.get? a=some ob∧ob.dict=none:=by
 cases x with
 | str z=>
  obtain⟨t,rfl⟩:=r
  cases (show T="str" from ty)
  exact⟨typeIs_str s z t,λ_ e=>nomatch e⟩
 | int i=>
  obtain⟨t,rfl⟩:=r
  cases (show T="int" from ty)
  exact⟨typeIs_int s i t,λ_ e=>nomatch e⟩
 | ref p=>
  cases r
  rcases ty with ⟨rfl,xs,hq⟩ | ⟨rfl,o,hk,hc,hd⟩ | ⟨rfl,hk⟩ | ⟨rfl,S,n,hk⟩
  ·obtain⟨its,_,pl,_⟩:=I.list hq
   refine⟨pl.isList.typeIs,λa e=>?_⟩
   cases e
   obtain⟨o,n,e,c,hd,_⟩:=pl
   exact⟨o,e,hd⟩
  ·refine⟨⟨o,I.kIn p o hk,hc⟩,λa e=>?_⟩
   cases e
   exact⟨o,I.kIn _ o hk,hd⟩
  ·have z:∃o,s.heap.get? p=some o∧o.ExactDict:=by
    rcases hk with ⟨kvs,hk⟩ | ⟨kvs,hk⟩
    ·obtain⟨_,_,_,_,o,_,_,e,ex,_⟩:=I.hok p _ hk
     exact⟨o,e,ex⟩
    ·obtain⟨_,_,_,_,o,_,_,e,ex,_⟩:=I.hok p _ hk
     exact⟨o,e,ex⟩
   obtain⟨o,e,ex⟩:=z
   refine⟨⟨o,e,ex.1⟩,λa e2=>?_⟩
   cases e2
   exact⟨o,e,ex.2.1⟩
  ·obtain⟨o,_,_,_,e,ex,_⟩:=I.hok p _ hk
   refine⟨⟨o,e,ex.1⟩,λa e2=>?_⟩
   cases e2
   exact⟨o,e,ex.2.1⟩
 | _=>exact False.elim ty
def tBM0 (K:PySem.W.Frag)(T:String)(r:V→List V→Hp→VK→Prop)(to:TE):TE:=λσ H Q=>to σ H λx H1=>tyV K T x H1∧r x [] H1 Q
def tBM (K:PySem.W.Frag)(T:String)(r:V→List V→Hp→VK→Prop)(to:TE)(t:TA):TE:=λσ H Q=>to σ H λx H1=>tyV K T x H1∧t σ H1 λxs H2=>r x xs H2 Q
variable {o e:Expr}{es:List Expr}{to:TE}{t:TA}{name:Str}{apos cpos:Pos}{T id:String}{r:V→List V→Hp→VK→Prop}
theorem zyK (pa:PlainAttrs T)(slot:Slot T name id)(hty:typeOf (.builtin id)=pure (.type "method_descriptor"))(hm:MtR X id r)(ho:PE X o to)
  (hbase:attributeBase o name X.env (eval o X.env)=eval o X.env:=by rfl)(hline:(apos.endLine==cpos.line)=true:=by rfl):PE X (.Call (.Attribute o name apos) [] [] cpos) (tBM0 X.K T r to):=by
 intro pins s σ H Q I h
 refine wpAny_Call_method0_late hbase hline (thn (ho pins s σ H _ I h) λv s1 ⟨x,H1,I1,r1,ty,q1⟩=>?_)
 obtain⟨h1,h2⟩:=zpI I1 r1 ty
 exact⟨T,id,pa,slot,hty,h1,h2,Calls.callWith_builtin rfl (PySem.evalArgs_none (hm pins s1 σ H1 x [] v [] Q I1 r1 .nil q1))⟩
theorem zpy (pa:PlainAttrs T)(slot:Slot T name id)(hty:typeOf (.builtin id)=pure (.type "method_descriptor"))(hm:MtR X id r)(ho:PE X o to)(ha:PA X (e::es) t)
  (hbase:attributeBase o name X.env (eval o X.env)=eval o X.env:=by rfl)
  (hfew:((backTo cpos (starEach (e::es) X.env)).all (λx=>!x.1)&&(backToKw cpos (keywordEach [] X.env)).all (λx=>x.1.isSome)
  &&decide ((e::es).length+([]:List Keyword).length+(if ([]:List Keyword).isEmpty then 0 else 1)<30))=true:=by rfl)
  (hline:(apos.endLine==cpos.line)=true:=by rfl)(hs:starEach (e::es) X.env=(false,eval e X.env)::starEach es X.env:=by rfl)(hplain:(backTo cpos (starEach es X.env)).any (·.1)=false:=by rfl):
  PE X (.Call (.Attribute o name apos) (e::es) [] cpos) (tBM X.K T r to t):=by
 intro pins s σ H Q I h
 refine wpAny_Call_method_late hbase hfew hline rfl (thn (ho pins s σ H _ I h) λv s1 ⟨x,H1,I1,r1,ty,q1⟩=>?_)
 obtain⟨h1,h2⟩:=zpI I1 r1 ty
 refine⟨T,id,pa,slot,hty,h1,h2,?_⟩
 have hA:=ha cpos pins s1 σ H1 _ I1 q1
 rw[hs] at hA ⊢
 refine Calls.callWith_builtin (by show (false||(backTo cpos (starEach es X.env)).any (·.1))=false; rw[hplain] <;> rfl) (Calls.evalArgs_plain ?_)
 exact thn hA λus s2 ⟨vs,H2,I2,r2,q2⟩=>hm pins s2 σ H2 x vs v us Q I2 r1 r2 q2
end
end L2
namespace L2
open PySem PySem.Spec PyProof.Rows
def MtM (X:Cx)(id:String)(r:V→List V→Hp→VK→Prop):Prop:=
 ∀(pins:List (Addr×Obj)) (s:Shared) (σ:St) (H:Hp) (x:V) (xs:List V) (v:Value) (us:List Value) (Q:VK),Inv X pins σ H s→zay x v→zaA xs us→r x xs H Q→
  wpAny (model X.prog X.w) X.A (call (.builtin id) (v::us)) (EP X pins σ Q) X.xe s
theorem zaA.one:∀ {x:V} {us:List Value},zaA [x] us→∃u,us=[u]∧zay x u
 | _,_,.cons r .nil=>⟨_,rfl,r⟩
theorem zaA.two:∀ {x y:V} {us:List Value},zaA [x,y] us→∃u v,us=[u,v]∧zay x u∧zay y v
 | _,_,_,.cons r (.cons q .nil)=>⟨_,_,rfl,r,q⟩
theorem zaA.zero:∀ {us:List Value},zaA [] us→us=[]
 | _,.nil=>rfl
section
variable {X:Cx}{pins:List (Addr×Obj)}{σ:St}{H:Hp}{s:Shared}{l b:Addr}{xs ys zs:List V}
theorem Inv.lset {its its':List Value}{n:Nat}{f:Array Value→Array Value}{t':Nat}(I:Inv X pins σ H s)(hH:H l=some (.lst xs))
  (e:s.heap.get? l=some { cls:=.type "list",data:=.seq its.toArray n })(hf:f its.toArray=its'.toArray)(hv:zaA ys its')(hz:ys.length≤sizeLine):
  Inv X pins σ (upd H l (.lst ys)) { s with heap:=s.heap.update l (Obj.mapSeq f),toks:=t' }:=by
 have q:=PySem.IsL.update e f
 rw[hf] at q
 refine I.write (x:=l) (e:=l) (by rw[hH]; exact trivial) (.inl rfl) (λb' u hb hu=>(Heap.get?_update_other s.heap (Obj.mapSeq f) (Ne.symm hb)).trans hu) ⟨_,q⟩ ?_
 exact⟨hz,its',_,hv,q⟩
theorem Inv.lnew {its:List Value}{t':Nat}(I:Inv X pins σ H s)(hv:zaA ys its)(hz:ys.length≤sizeLine):
  Inv X pins σ (upd H s.heap.objs.size (.lst ys)) { s with heap:=s.heap.push { cls:=.type "list",data:=.seq its.toArray },toks:=t' }:=
 I.laid (λ_ _ q=>Heap.get?_push_of_some _ q) (Vab _) ⟨hz,its,0,hv,Heap.get?_push_size _ rfl⟩
theorem Inv.fresh (I:Inv X pins σ H s):H s.heap.objs.size=none:=I.hok.fresh (Vab _)
theorem Inv.lstM (I:Inv X pins σ H s)(hH:H l=some (.lst xs)):xs.length≤sizeLine∧∃(its:List Value) (n:Nat),zaA xs its∧xs.length=its.length∧s.heap.get? l=some { cls:=.type "list",data:=.seq its.toArray n }:=by
 obtain⟨z,its,n,r,e⟩:=I.hok l _ hH
 exact⟨z,its,n,r,r.length,e⟩
end
section
variable {X:Cx}
def zsj:V→List V→Hp→VK→Prop:=λx vs H Q=>∃l xs y,x=.ref l∧vs=[y]∧H l=some (.lst xs)∧xs.length<sizeLine∧Q .non (upd H l (.lst (xs++[y])))
theorem zpt:MtM X "list.append" zsj:=by
 intro pins s σ H x vs v us Q I rx rv h
 obtain⟨l,xs,y,rfl,rfl,hH,hz,q⟩:=h
 cases rx
 obtain⟨u,rfl,ru⟩:=rv.one
 obtain⟨z,its,n,r,hl,e⟩:=I.lstM hH
 refine call_meets F.slot_list_append ⟨_,e,rfl⟩ F.entry_list_append (F.args_list_append_2 _ _) (PySem.list_append l its.toArray n u (by rw[Vaj]; omega)) ⟨e,?_⟩
 refine⟨.non,_,I.lset (its':=its++[u]) hH e (by simp) (r.append (.cons ru .nil)) ?_,rfl,q⟩
 rw[Van,List.length_singleton]
 omega
def rCat:R2:=λx y H Q=>∃l b xs zs,x=.ref l∧y=.ref b∧H l=some (.lst xs)∧H b=some (.lst zs)∧xs.length+zs.length≤sizeLine∧∀p,H p=none→Q (.ref p) (upd H p (.lst (xs++zs)))
theorem zxg:OpR X (binaryOp .Add) rCat:=by
 intro pins s σ H x y v u Q I rx ry h
 obtain⟨l,b,xs,zs,rfl,rfl,hH,hB,hz,q⟩:=h
 cases rx
 cases ry
 obtain⟨z,its,n,r,hl,e⟩:=I.lstM hH
 obtain⟨z2,its2,n2,r2,hl2,e2⟩:=I.lstM hB
 refine PySem.P.add_list e e2 ?_ (by rw[Vaj,Vaj]; omega)
 have ea:its.toArray++its2.toArray=(its++its2).toArray:=by simp
 rw[ea]
 exact⟨.ref _,_,I.lnew (t':=s.toks) (r.append r2) (by rw[Van]; omega),rfl,q _ I.fresh⟩
end
section
variable {prog:Program}{w:World}{A:Around}{E:Value→Shared→Prop}{s:Shared}
set_option maxRecDepth 100000 in
end
section
variable {X:Cx}
end
end L2
namespace Att
open PySem PySem.W PySem.Calls PyProof.Rows
theorem zvl {P:Params}{h:Heap}:∀(ns:List Int) (vs:List Value),WellAll P h vs (ns.map WData.int)→IntsAre vs ns:=by
 intro ns
 induction ns with
 | nil=>
  intro vs w
  rw[List.map_nil] at w
  cases w
  exact .nil
 | cons n ns ih=>
  intro vs w
  rw[Vas] at w
  cases w with
  | cons a b=>
   cases a
   exact .cons _ _ (ih _ b)
theorem zvI {l:OpenLaw}{n:Nat}(hn:l.most=some n){P:Params}{h:Heap}{args:List WData}{vals:List Value}
  (hpre:l.row.toRowW.claim.pre args=true)(hwl:WellAll P h vals args):
  ∃a vs ns,vals=[Value.ref a]∧args=[WData.list (ns.map WData.int)]∧h.get? a=some { cls:=.type "list",data:=.seq vs.toArray }∧IntsAre vs ns∧ns.length≤n:=by
 have hsh:WShape.hasAll [] args [.list .int]=true:=(pre_splitW hpre).1
 have hc:l.pre.holds [] { args:=args }=true:=(pre_splitW hpre).2
 obtain⟨d,r,rfl,h1,h2⟩:=hasAllW_cons hsh
 obtain rfl:=hasAllW_nil h2
 obtain⟨xs,rfl,h3⟩:=hasW_list h1
 obtain⟨ns,rfl⟩:=items_int h3
 have hlen:ns.length≤n:=by
  unfold OpenLaw.pre at hc
  have h4:(WTm.not (.lt (.lit (.int (n:Int))) (.len (.arg 0)))).holds [] { args:=[.list (ns.map .int)] }=true:=by
   have h4:=(holds_andW hc).1
   rw[hn] at h4
   exact h4
  have h5:=condW_of h4 (w_not (w_lt w_lit (w_len_list (w_arg rfl))))
  rw[Vaa] at h5
  refine Nat.le_of_not_lt λq=>?_
  have q':(n:Int)<((ns.length:Nat):Int):=by omega
  first
   | (rw[decide_eq_true q'] at h5; exact absurd h5 (by decide))
   | (simp at h5; omega)
 cases hwl with
 | cons w1 w2=>
  cases w2
  cases w1 with
  | list ho hall=>exact⟨_,_,ns,rfl,rfl,ho,zvl ns _ hall,hlen⟩
theorem ztw (l:OpenLaw)(args:List WData):l.row.toRowW.claim.post args (.bool true) args=true:=
 postW_of (r:=l.row.toRowW) (X:=(true==true))
  (show WShape.has [] (.bool true) .bool=true by first | rfl | decide | simp[WShape.has,WShape.arms,WShape.armsAll])
  (show (WTm.eq .res (.lit (.bool true))).value [] { args:=args,res:=some (.bool true),after:=args }=some (.bool (true==true)) from w_eq_bool (w_res rfl) w_lit) rfl
theorem attach_call {l:OpenLaw}{n:Nat}{q:Program}{loose:List Str}{XP:(Str→Option Value)→Heap→Prop}{YP:World→Heap→Prop}{d:DefRec}
  (hn:l.most=some n)(hdf:d.params.defaults=[])
  (call:∀(w:World) (s₀ s₁:Shared) (mg mb:Str→Option Value) (fa:Addr) (o:Obj) (pm cd doc:Value) (a:Addr) (vs:List Value) (ns:List Int),
   Ground q loose [] XP w s₀ mg mb s₁.heap→YP w s₁.heap→
   s₁.heap.get? fa=some o→o.data=.func (docDef d.name d.params d.body d.scope pm cd doc)→s₁.heap.CodeRec cd d.name→mg d.name=some (.ref fa)→
   s₁.heap.get? a=some { cls:=.type "list",data:=.seq vs.toArray }→IntsAre vs ns→ns.length≤n→s₁.gens=#[]→
   codeAny (model l.prog w) callerA (.call (.ref fa) ⟨[.ref a],[]⟩) (λr s'=>r=.ok (.ret (.bool true))∧OldK s₁.heap s'.heap∧s'.os=s₁.os∧AllBare s'.gens) s₁):
  WalkO q loose XP YP l.row.toRowW d [] (λf vs=>PySem.call f vs):=by
 intro w s₀ s₁ mg mb G Y fa o pm cd doc dV kV ho hd hcd hD hmg hg args vals as hpre hlay hrd hwl hlo
 obtain rfl:dV=.none:=Dflts.none hD hdf
 obtain rfl:kV=.none:=Dflts.noKw hD
 obtain⟨a,vs,ns,rfl,rfl,hobj,hints,hlen⟩:=zvI hn hpre hwl
 refine enter_call (codeAny_mono (call w s₀ s₁ mg mb fa o pm cd doc a vs ns G Y ho (fd_plain hd) hcd hmg hobj hints hlen hg) λr s' hq=>?_)
 obtain⟨rfl,h2,h3,h4⟩:=hq
 exact⟨.inl ⟨.bool true,.bool true,[],rfl,λ_=>rfl,.bool true,ztw l _,λ_=>⟨List.Pairwise.nil,λ_ hm=>(nomatch hm)⟩⟩,h2,h3,h4⟩
section
variable {prog:Program}{w:World}{A:Around}{E:Value→Shared→Prop}{s:Shared}{K:Frag}
def ledger (h:Heap)(L d:Addr):List (Addr×Obj):=(List.range h.objs.size).filterMap λa=>if a=L∨a=d then none else (h.get? a).map λo=>(a,o)
end
end Att
namespace L2
open PySem PySem.Spec PyProof.Rows
theorem zmR:∀ {vs:List Value} {ns:List Int},IntsAre vs ns→zaA (ns.map V.int) vs
 | _,_,.nil=>.nil
 | _,_,.cons n t h=>.cons ⟨t,rfl⟩ (zmR h)
def zgI (H:Hp):Prop:=∀b,H b=none∨∃o xs,H b=some (.frz o (.lst xs))
theorem zsx {P:Program}{w:World}{K:PySem.W.Frag}{mg mb:Str→Option Value}{CX:CXT}{k:Nat}{fa a:Addr}{fd:FuncData}{x:Str}{sp:Sp}{s₁:Shared}{vs:List Value}{ns:List Int}
  (KX:K.In s₁.heap)(hns:s₁.heap.Ns mainGlobals mg)(hb:s₁.heap.Ns builtinsNs mb)(hbb:∀x:Str,x≠"__name__"→mb x=bootBuiltins x)(hlim:s₁.heap.NoLimit)(hg:s₁.gens=#[])
  (ha:s₁.heap.get? a=some { cls:=.type "list",data:=.seq vs.toArray })(hi:IntsAre vs ns)(hl:ns.length≤sizeLine)(hr:zaN k callerA)
  (F:∀base:Heap,K.In base→base.Ns mainGlobals mg→zbc P w K mg base CX k fa fd [x] sp)(hbind:∀(s:Shared) (u:Value),BindsTo s fd ⟨[u],[]⟩ [(x,u)])
  (hsp:∀H:Hp,zgI H→SqL K H a (ns.map V.int)→sp [.ref a] H (λv _=>v=.bl true) λ_ _ _=>False)
  (hCX:∀H e s',CX [] H s₁ (λ_ _ _=>False) e s'→False):
  codeAny (model P w) callerA (.call (.ref fa) ⟨[.ref a],[]⟩) (λr s'=>r=.ok (.ret (.bool true))∧OldK s₁.heap s'.heap∧s'.os=s₁.os∧AllBare s'.gens) s₁:=by
 have rv:=zmR hi
 have lenV:=hi.length
 have core:∀H:Hp,zgI H→SqL K H a (ns.map V.int)→HOk P w H s₁.heap→(∀b,H b≠none→b=a)→(H a≠none→K.lookup a=none)→
   codeAny (model P w) callerA (.call (.ref fa) ⟨[.ref a],[]⟩) (λr s'=>r=.ok (.ret (.bool true))∧OldK s₁.heap s'.heap∧s'.os=s₁.os∧AllBare s'.gens) s₁:=by
  intro H hO hS hok hA hK
  have base_of:∀ {b:Addr} {o:Obj},s₁.heap.get? b=some o→H b=none→(zdk s₁.heap H).get? b=some o:=λe n=>zvc e n
  have noA:∀ {b:Addr} {o:Obj} {es:Array DictEntry} {ep:Nat},s₁.heap.get? b=some o→o.data=.dict es ep→H b=none:=λ{b o es ep} e d=>by
   cases q:H b with
   | none=>rfl
   | some u=>
    have e':b=a:=hA b (by rw[q]; simp)
    subst e'
    rw[ha] at e; cases e
    have d':Data.seq vs.toArray _=Data.dict es ep:=d
    cases d'
  have nsK:∀ {b:Addr} {m:Str→Option Value},s₁.heap.Ns b m→(zdk s₁.heap H).Ns b m:=λ{b m} ⟨o,es,ep,e,d,r⟩=>⟨o,es,ep,base_of e (noA e d),d,r⟩
  have hKb:K.In (zdk s₁.heap H):=λb o e=>base_of (KX b o e) (by
   cases q:H b with
   | none=>rfl
   | some u=>
    have e':b=a:=hA b (by rw[q]; simp)
    subst e'
    rw[hK (by rw[q]; simp)] at e; cases e)
  have hM:Mod K mg (zdk s₁.heap H):=⟨hKb,nsK hns,⟨mb,nsK hb,hbb⟩,let ⟨mc,h1,h2⟩:=hlim; ⟨mc,nsK h1,h2⟩⟩
  have e0:zcB P w K mg (zdk s₁.heap H) callerA [] s₁ H:=⟨rfl,hM,λb o e=>zwj e,Nat.le_of_eq (zr0 _ _),trivial,λb hb=>absurd (show b∈([]:List Addr) from hb) (by simp),hok,.of_eq hg⟩
  refine codeAny_mono ((F _ hKb (nsK hns)).run callerA [] s₁ H ⟨[.ref a],[]⟩ [.ref a] [.ref a] _ _ hr e0 (hbind s₁ (.ref a)) (.cons rfl .nil) (hsp H hO hS)) λr s' h=>?_
  cases r with
  | error e=>exact(hCX H e s' h).elim
  | ok fl=>
   cases fl with
   | next=>exact False.elim h
   | brk=>exact False.elim h
   | cont=>exact False.elim h
   | ret u=>
    obtain⟨v,H',os,bare,un,hok',r',q⟩:=h
    have q':v=.bl true:=q
    subst q'
    obtain rfl:u=Value.bool true:=r'
    refine⟨rfl,OldK.of_keep λb o e=>?_,os,bare⟩
    cases q:H b with
    | none=>exact un.keep b o e q (by intro z; exact absurd (show b∈([]:List Addr) from z) (by simp)) (by simp)
    | some u=>
     rcases hO b with z | ⟨ob,xs,z⟩
     ·rw[q] at z; cases z
     ·have z2:=un.frzs b ob _ z
      obtain⟨e1,_⟩:=hok b _ z
      obtain⟨e2,_⟩:=hok' b _ z2
      rw[e] at e1; cases e1
      exact e2
 cases hk:K.lookup a with
 | some o=>
  have e:=KX a o hk
  rw[ha] at e
  cases e
  refine core (λ_=>none) (λ_=>.inl rfl) (.inr ⟨_,vs.toArray,_,hk,rfl,rfl,rfl,by rw[Vaj,lenV]; exact hl,by simpa using rv⟩) (λb u z=>by have z':(none:Option HO)=some u:=z; cases z') (λb z=>absurd rfl z) λz=>absurd rfl z
 | none=>
  refine core (λb=>if b=a then some (.frz { cls:=.type "list",data:=.seq vs.toArray } (.lst (ns.map V.int))) else none) (λb=>?_) (.inl (.inr ⟨{ cls:=.type "list",data:=.seq vs.toArray },if_pos rfl⟩)) (λb u z=>?_) (λb z=>?_) λ_=>hk
  ·by_cases hb:b=a
   ·exact .inr ⟨_,_,if_pos hb⟩
   ·exact .inl (if_neg hb)
  ·by_cases hb:b=a
   ·have z':=(if_pos hb).symm.trans z
    cases z'
    subst hb
    exact⟨ha,by rw[Vaa]; exact hl,vs,_,rv,ha⟩
   ·have z':=(if_neg hb).symm.trans z
    cases z'
  ·by_cases hb:b=a
   ·exact hb
   ·exact absurd (if_neg hb) z
end L2
namespace L2
open PySem PySem.Spec PyProof.Rows
theorem zyg {l:PySem.W.OpenLaw}{n k:Nat}{q:Program}{loose:List Str}{XP:(Str→Option Value)→Heap→Prop}{YP:World→Heap→Prop}{d:DefRec}{K:Params→PySem.W.Frag}{CX:World→CXT}{sp:World→Sp}{x:Str}
  (hn:l.most=some n)(hn2:n≤sizeLine)(hdf:d.params.defaults=[])(hr:zaN k callerA)
  (hY:∀(w:World) (h:Heap),YP w h→(K w.params).In h)
  (F:∀(w:World) (mg:Str→Option Value) (fa:Addr) (h:Heap),(K w.params).In h→h.Ns mainGlobals mg→mg d.name=some (.ref fa)→
   ∃fd:FuncData,(∀(s:Shared) (u:Value),BindsTo s fd ⟨[u],[]⟩ [(x,u)])∧
    ∀base:Heap,(K w.params).In base→base.Ns mainGlobals mg→zbc l.prog w (K w.params) mg base (CX w) k fa fd [x] (sp w))
  (hsp:∀(w:World) (H:Hp) (a:Addr) (ns:List Int),ns.length≤n→zgI H→SqL (K w.params) H a (ns.map V.int)→sp w [.ref a] H (λv _=>v=.bl true) λ_ _ _=>False)
  (hCX:∀(w:World) (H:Hp) (s:Shared) (e:Value) (s':Shared),CX w [] H s (λ_ _ _=>False) e s'→False):
  PySem.W.WalkO q loose XP YP l.row.toRowW d [] (λf vs=>PySem.call f vs):=by
 refine Att.attach_call hn hdf λw s₀ s₁ mg mb fa o pm cd doc a vs ns G Y ho hd hcd hmg hobj hints hlen hg=>?_
 have KX:=hY w _ Y
 obtain⟨fd,hb,hF⟩:=F w mg fa _ KX G.T.g hmg
 exact zsx KX G.T.g G.T.b G.T.builtins G.T.nolimit hg hobj hints (VaE hlen hn2) hr hF hb (λH hO hS=>hsp w H a ns hlen hO hS) λH e s'=>hCX w H s₁ e s'
end L2
namespace L2
open PySem PySem.Spec PyProof.Rows
abbrev CX0:CXT:=λ_ _ _ _ _ _=>False
structure Fun (K:PySem.W.Frag)(x qual:Str)(st:Stmt)(f:Addr)(fd:FuncData):Prop where
 ex:∃(oc:Value) (od:Option Addr) (kV doc pm:Value) (an:Option Addr) (cdv ct:Value) (osl:Array (Option Value)),
  fd=PySem.W.fnOf x qual (zd3 st) (zde st) (zar st) .none kV doc pm an cdv ct∧K.lookup f=some ⟨oc,od,.func fd,osl⟩∧PySem.W.codeIn K cdv qual=true
 kp:PySem.W.keepIn K (.ref f)=true
section
variable {P:Program}{w:World}{K:PySem.W.Frag}{mg:Str→Option Value}{base:Heap}
theorem Fun.ok {x qual:Str}{st:Stmt}{f:Addr}{fd:FuncData}{N ps:List Str}{k:Nat}{sp:Sp}(F:Fun K x qual st f fd)(S:zau N ps (zar st))(len:∀vs H Q E,sp vs H Q E→vs.length=ps.length)
  (hbody:∀(cdv:Value) (A:Around) (outer:List Env) (s:Shared) (H:Hp) (vs:List V) (Q:VK) (E:XK),zaN k (A.deeper (envOfC qual (zar st) s.heap.objs.size f cdv))→sp vs H Q E→
   ∃t,PSs (zd0 CX0 P w K mg base N qual (zar st) f cdv A outer s H E).nox (zde st) t∧t { nx:=λ_ H'=>Q .non H',rt:=Q } (zcz N vs) H):zbc P w K mg base CX0 (k+1) f fd ps sp:=by
 obtain⟨oc,od,kV,doc,pm,an,cdv,ct,osl,rfl,lk,hcd⟩:=F.ex
 refine zq4 lk hcd S len λA outer s H vs Q E hr hsp=>?_
 obtain⟨t,h,q⟩:=hbody cdv A outer s H vs Q E hr hsp
 exact⟨t,h.nox,q⟩
theorem Fun.binds {x qual:Str}{st:Stmt}{f:Addr}{fd:FuncData}{ps:List Str}(F:Fun K x qual st f fd)
  (h:∀(kV doc pm:Value) (an:Option Addr) (cdv ct:Value) (us:List Value),us.length=ps.length→bindArgs (PySem.W.fnOf x qual (zd3 st) (zde st) (zar st) .none kV doc pm an cdv ct) ⟨us,[]⟩=pure (ps.zip us)):zbz K fd ps []:=by
 obtain⟨oc,od,kV,doc,pm,an,cdv,ct,osl,rfl,lk,hcd⟩:=F.ex
 exact .all (h kV doc pm an cdv ct)
theorem zl8 {x qual:Str}{st:Stmt}{f:Addr}{oc:Value}{od an:Option Addr}{osl:Array (Option Value)}{kV doc pm cdv ct:Value}(l:K.lookup f=some ⟨oc,od,.func (PySem.W.fnOf x qual (zd3 st) (zde st) (zar st) .none kV doc pm an cdv ct),osl⟩)
  (c:PySem.W.codeIn K cdv qual=true)(k:PySem.W.keepIn K (.ref f)=true):Fun K x qual st f (PySem.W.fnOf x qual (zd3 st) (zde st) (zar st) .none kV doc pm an cdv ct):=⟨⟨oc,od,kV,doc,pm,an,cdv,ct,osl,rfl,l,c⟩,k⟩
end
theorem zn8 {n:Nat}(h:n≤1000):n<sizeLine:=VaZ h (by decide)
section
variable {X:Cx}
theorem pv (i:Nat){x:Str}{pos:Pos}(hN:X.N[i]?=some x:=by rfl)(hv:Vis X.env.scope x:=by first | exact Or.inl rfl | exact Or.inr (Or.inl rfl) | exact Or.inr (Or.inr rfl))(hd:(x==("__debug__":Str))=false:=by decide)
  (hcd:(x==("__classdict__":Str))=false:=by decide):PE X (.Name x pos) (tVar i):=zpN hN hv hd hcd
end
theorem zbO {A B:Prop}(h:B):if false=true then A else B:=by
 rw[if_neg Vam]
 exact h
theorem zcv {A B:Prop}(h:A):if true=true then A else B:=by
 rw[if_pos rfl]
 exact h
theorem zf9 {c A B:Prop} [Decidable c] (h1:c→A)(h2:¬ c→B):if c then A else B:=by
 by_cases h:c
 ·rw[if_pos h]
  exact h1 h
 ·rw[if_neg h]
  exact h2 h
def zcP (H H':Hp):Prop:=∀b o,H b=some o→H' b=some o
theorem zcP.refl (H:Hp):zcP H H:=λ_ _ h=>h
theorem zcP.trans {H H1 H2:Hp}(a:zcP H H1)(b:zcP H1 H2):zcP H H2:=λc o h=>b c o (a c o h)
theorem zcP.free {H H':Hp}(e:zcP H H'){l:Addr}(h:H' l=Option.none):H l=Option.none:=by
 cases q:H l with
 | none=>rfl
 | some o=>
  rw[e l o q] at h
  cases h
theorem zcP.seq {K:PySem.W.Frag}{H H':Hp}{a:Addr}{xs:List V}(e:zcP H H')(h:SqL K H a xs):SqL K H' a xs:=by
 rcases h with (h | ⟨o,h⟩) | h
 ·exact .inl (.inl (e _ _ h))
 ·exact .inl (.inr ⟨o,e _ _ h⟩)
 ·exact .inr h
end L2
namespace L2
open PySem PySem.Spec PyProof.Rows
section
variable {κ:Type} [DecidableEq κ]
def zb0 (kvs:List (κ×V))(k:κ):Option V:=(kvs.find? λkv=>decide (kv.1=k)).map (·.2)
def putK (kvs:List (κ×V))(k:κ)(v:V):List (κ×V):=
 if (kvs.any λkv=>decide (kv.1=k))=true then kvs.map (λkv=>if kv.1=k then (kv.1,v) else kv) else kvs++[(k,v)]
def zrF (kvs:List (κ×V))(k:κ):List (κ×V):=kvs.filter λkv=>decide (kv.1≠k)
theorem zla {p:κ×V}{r:List (κ×V)}{k:κ}(e:p.1=k):zb0 (p::r) k=some p.2:=by simp[zb0,VaS,e]
theorem zkD {p:κ×V}{r:List (κ×V)}{k:κ}(e:¬ p.1=k):zb0 (p::r) k=zb0 r k:=by simp[zb0,VaS,e]
theorem zpG (k:κ):∀kvs:List (κ×V),(kvs.any λkv=>decide (kv.1=k))=(zb0 kvs k).isSome
 | []=>rfl
 | p::r=>by
  rw[List.any_cons]
  by_cases e:p.1=k
  ·simp only[zla e,decide_eq_true e,Bool.true_or,Option.isSome_some]
  ·rw[zkD e,decide_eq_false e,Bool.false_or]; exact zpG k r
theorem zbI.isSome_eq {o:Option V}{u:Option Value}(r:zbI o u):o.isSome=u.isSome:=by
 cases o with
 | none=>cases u with
  | none=>rfl
  | some _=>exact(show False from r).elim
 | some _=>cases u with
  | none=>exact(show False from r).elim
  | some _=>rfl
theorem zbI.getD {o:Option V}{u:Option Value}{d:V}{d':Value}(r:zbI o u)(rd:zay d d'):zay (o.getD d) (u.getD d'):=by
 cases o with
 | none=>cases u with
  | none=>exact rd
  | some _=>exact(show False from r).elim
 | some _=>cases u with
  | none=>exact(show False from r).elim
  | some _=>exact r
theorem KV.val {kvs:List (κ×V)}{vs:List (κ×Value)}(r:KV kvs vs)(k:κ):zbI (zb0 kvs k) (valueAt vs k):=by
 unfold KV at r
 induction r with
 | nil=>exact True.intro
 | @cons p q ps qs h t ih=>
  obtain⟨h1,h2⟩:=h
  by_cases e:p.1=k
  ·have e':q.1=k:=h1.symm.trans e
   have b:valueAt (q::qs) k=some q.2:=by simp[valueAt,VaS,e']
   rw[zla e,b]; exact h2
  ·have e':¬ q.1=k:=λz=>e (h1.trans z)
   have b:valueAt (q::qs) k=valueAt qs k:=by simp[valueAt,VaS,e']
   rw[zkD e,b]; exact ih
theorem KV.any {kvs:List (κ×V)}{vs:List (κ×Value)}(r:KV kvs vs)(k:κ):(kvs.any λkv=>decide (kv.1=k))=vs.any λkv=>decide (kv.1=k):=by
 unfold KV at r
 induction r with
 | nil=>rfl
 | cons h t ih=>rw[List.any_cons,List.any_cons,ih,h.1]
theorem KV.repl {kvs:List (κ×V)}{vs:List (κ×Value)}(r:KV kvs vs)(k:κ){y:V}{u:Value}(ry:zay y u):
  KV (kvs.map λkv=>if kv.1=k then (kv.1,y) else kv) (vs.map λkv=>if kv.1=k then (kv.1,u) else kv):=by
 unfold KV at r ⊢
 induction r with
 | nil=>exact .nil
 | @cons p q ps qs h t ih=>
  rw[Vas,Vas]
  refine .cons ?_ ih
  obtain⟨h1,h2⟩:=h
  by_cases e:p.1=k
  ·rw[if_pos e,if_pos (h1.symm.trans e)]; exact⟨h1,ry⟩
  ·rw[if_neg e,if_neg (λz=>e (h1.trans z))]; exact⟨h1,h2⟩
theorem KV.put {kvs:List (κ×V)}{vs:List (κ×Value)}(r:KV kvs vs)(k:κ){y:V}{u:Value}(ry:zay y u):KV (putK kvs k y) (stored vs k u):=by
 unfold putK stored
 rw[r.any k]
 by_cases e:(vs.any λkv=>decide (kv.1=k))=true
 ·rw[if_pos e,if_pos e]; exact r.repl k ry
 ·rw[if_neg e,if_neg e]; exact Paired.snoc r ⟨rfl,ry⟩
theorem KV.drop {kvs:List (κ×V)}{vs:List (κ×Value)}(r:KV kvs vs)(k:κ):KV (zrF kvs k) (without vs k):=by
 unfold KV at r ⊢
 unfold zrF without
 induction r with
 | nil=>exact .nil
 | @cons p q ps qs h t ih=>
  obtain⟨h1,h2⟩:=h
  rw[List.filter_cons,List.filter_cons]
  by_cases e:p.1=k
  ·have a:¬ decide (p.1≠k)=true:=by simp[e]
   have b:¬ decide (q.1≠k)=true:=by simp[h1.symm.trans e]
   rw[if_neg a,if_neg b]; exact ih
  ·have e':¬ q.1=k:=λz=>e (h1.trans z)
   have a:decide (p.1≠k)=true:=by simp[e]
   have b:decide (q.1≠k)=true:=by simp[e']
   rw[if_pos a,if_pos b]; exact .cons ⟨h1,h2⟩ ih
theorem KV.keys {kvs:List (κ×V)}{vs:List (κ×Value)}(r:KV kvs vs):kvs.map (·.1)=vs.map (·.1):=by
 unfold KV at r
 induction r with
 | nil=>rfl
 | cons h t ih=>rw[Vas,Vas,ih,h.1]
theorem KV.length {kvs:List (κ×V)}{vs:List (κ×Value)}(r:KV kvs vs):kvs.length=vs.length:=Paired.length r
end
abbrev KT (H:Hp):List (List Key×V)→List (List Key×Addr×Value)→Prop:=Paired λp q=>p.1=q.1∧H q.2.1=some (.tup (p.1.map kV))∧zay p.2 q.2.2
theorem KT.val {H:Hp}{kvs:List (List Key×V)}{xs:List (List Key×Addr×Value)}(r:KT H kvs xs)(k:List Key):zbI (zb0 kvs k) ((atKey xs k).map (·.2)):=by
 induction r with
 | nil=>exact True.intro
 | @cons p q ps qs h t ih=>
  obtain⟨h1,_,h2⟩:=h
  by_cases e:p.1=k
  ·have e':q.1=k:=h1.symm.trans e
   have b:atKey (q::qs) k=some q.2:=by simp[atKey,VaS,e']
   rw[zla e,b]; exact h2
  ·have e':¬ q.1=k:=λz=>e (h1.trans z)
   have b:atKey (q::qs) k=atKey qs k:=by simp[atKey,VaS,e']
   rw[zkD e,b]; exact ih
theorem KT.repl {H:Hp}{kvs:List (List Key×V)}{xs:List (List Key×Addr×Value)}(r:KT H kvs xs)(k:List Key){y:V}{u:Value}(ry:zay y u):
  KT H (kvs.map λkv=>if kv.1=k then (kv.1,y) else kv) (xs.map (putAt k u)):=by
 induction r with
 | nil=>exact .nil
 | @cons p q ps qs h t ih=>
  rw[Vas,Vas]
  refine .cons ?_ ih
  obtain⟨h1,h2,h3⟩:=h
  unfold putAt
  by_cases e:p.1=k
  ·rw[if_pos e,if_pos (h1.symm.trans e)]; exact⟨h1,h2,ry⟩
  ·rw[if_neg e,if_neg (λz=>e (h1.trans z))]; exact⟨h1,h2,h3⟩
theorem KT.put {H:Hp}{kvs:List (List Key×V)}{xs:List (List Key×Addr×Value)}(r:KT H kvs xs)(k:List Key){b:Addr}{y:V}{u:Value}(hb:H b=some (.tup (k.map kV)))(ry:zay y u):
  KT H (putK kvs k y) (storedH xs k b u):=by
 have e:(kvs.any λkv=>decide (kv.1=k))=(atKey xs k).isSome:=by
  rw[zpG,(r.val k).isSome_eq,Option.isSome_map]
 unfold putK storedH
 rw[e]
 by_cases q:(atKey xs k).isSome=true
 ·rw[if_pos q,if_pos q]; exact r.repl k ry
 ·rw[if_neg q,if_neg q]; exact Paired.snoc r ⟨rfl,hb,ry⟩
theorem KT.keeps {H H':Hp}{kvs:List (List Key×V)}{xs:List (List Key×Addr×Value)}(r:KT H kvs xs)(ht:∀b ys,H b=some (.tup ys)→H' b=some (.tup ys)):KT H' kvs xs:=
 Paired.mapP r λ_ _ z=>⟨z.1,ht _ _ z.2.1,z.2.2⟩
section
variable {P:Program}{w:World}{H:Hp}{h:Heap}{a:Addr}
end
def zj2 (H:Hp)(a:Addr)(y:V)(r:Option V):Prop:=
 (∃kvs k,Rd H a (.dK kvs)∧y=kV k∧r=zb0 kvs k)∨∃kvs k b,Rd H a (.dT kvs)∧y=.ref b∧H b=some (.tup (k.map kV))∧r=zb0 kvs k
def zmE (H:Hp)(a:Addr)(y v:V)(H':Hp):Prop:=
 (∃kvs k,H a=some (.dK kvs)∧y=kV k∧kvs.length<sizeLine∧H'=upd H a (.dK (putK kvs k v)))∨
 ∃kvs k b,H a=some (.dT kvs)∧y=.ref b∧H b=some (.tup (k.map kV))∧kvs.length<sizeLine∧H'=upd H a (.dT (putK kvs k v))
theorem zj2.k {H:Hp}{a:Addr}{kvs:List (Key×V)}{k:Key}(e:H a=some (.dK kvs)):zj2 H a (kV k) (zb0 kvs k):=.inl ⟨kvs,k,.inl e,rfl,rfl⟩
theorem zj2.t {H:Hp}{a b:Addr}{kvs:List (List Key×V)}{k:List Key}(e:H a=some (.dT kvs))(eb:H b=some (.tup (k.map kV))):zj2 H a (.ref b) (zb0 kvs k):=.inr ⟨kvs,k,b,.inl e,rfl,eb,rfl⟩
theorem zmE.k {H:Hp}{a:Addr}{kvs:List (Key×V)}{k:Key}{v:V}(e:H a=some (.dK kvs))(hl:kvs.length<sizeLine):zmE H a (kV k) v (upd H a (.dK (putK kvs k v))):=.inl ⟨kvs,k,e,rfl,hl,rfl⟩
theorem zmE.t {H:Hp}{a b:Addr}{kvs:List (List Key×V)}{k:List Key}{v:V}(e:H a=some (.dT kvs))(eb:H b=some (.tup (k.map kV)))(hl:kvs.length<sizeLine):
  zmE H a (.ref b) v (upd H a (.dT (putK kvs k v))):=.inr ⟨kvs,k,b,e,rfl,eb,hl,rfl⟩
section
variable {X:Cx}{pins:List (Addr×Obj)}{σ:St}{H:Hp}{s:Shared}{a:Addr}{y v:V}{u r:Value}{o:Option V}{A:Around}{E:Value→Shared→Prop}
theorem Inv.big (I:Inv X pins σ H s):sysModules<s.heap.objs.size:=by
 have h:mainGlobals<s.heap.objs.size:=(I.mod.glob.keeps I.bk).lt
 exact Nat.lt_trans (by decide) h
end
section
variable {X:Cx}{pins:List (Addr×Obj)}{σ:St}{H:Hp}{s:Shared}{a:Addr}{kvs:List (Key×V)}{k:Key}{u:Value}{A:Around}{E:Value→Shared→Prop}
end
section
variable {X:Cx}{o i e value:Expr}{pos pos' tpos:Pos}{td ty tv:TE}
end
section
variable {X:Cx}{pos:Pos}
end
structure M1 (X:Cx)(o:Expr)(m:Str)(apos:Pos)(e:Expr)(cpos:Pos):Prop where
 base:attributeBase o m X.env (eval o X.env)=eval o X.env
 few:((backTo cpos (starEach [e] X.env)).all (λx=>!x.1)&&(backToKw cpos (keywordEach [] X.env)).all (λx=>x.1.isSome)
 &&decide (([e]:List Expr).length+([]:List Keyword).length+(if ([]:List Keyword).isEmpty then 0 else 1)<30))=true
 line:(apos.endLine==cpos.line)=true
 trees:backTo cpos (starEach [e] X.env)=[(false,eval e X.env)]
structure M2 (X:Cx)(o:Expr)(m:Str)(apos:Pos)(e f:Expr)(cpos:Pos):Prop where
 base:attributeBase o m X.env (eval o X.env)=eval o X.env
 few:((backTo cpos (starEach [e,f] X.env)).all (λx=>!x.1)&&(backToKw cpos (keywordEach [] X.env)).all (λx=>x.1.isSome)
 &&decide (([e,f]:List Expr).length+([]:List Keyword).length+(if ([]:List Keyword).isEmpty then 0 else 1)<30))=true
 line:(apos.endLine==cpos.line)=true
 trees:backTo cpos (starEach [e,f] X.env)=[(false,eval e X.env),(false,eval f X.env)]
section
variable {X:Cx}{pins:List (Addr×Obj)}{σ:St}{H:Hp}{s:Shared}{a:Addr}{y d:V}{u r:Value}{o:Option V}{A:Around}{E:Value→Shared→Prop}
end
section
variable {X:Cx}{o e f:Expr}{apos cpos:Pos}{td ty tx:TE}
end
section
variable {X:Cx}{pins:List (Addr×Obj)}{σ:St}{H:Hp}{s:Shared}{a:Addr}{kvs:List (Key×V)}{A:Around}{E:Value→Shared→Prop}
end
section
variable {X:Cx}{pins:List (Addr×Obj)}{σ:St}{H:Hp}{s:Shared}{a:Addr}{y:V}{u:Value}{A:Around}{E:Value→Shared→Prop}
end
end L2
namespace L3
open PySem PySem.Spec PyProof.Rows L2
abbrev St:=L2.St
inductive D where
 | non | bl (b:Bool) | int (i:Int) | str (x:Str) | tup (xs:List D) | ref (n:Nat) | exc (c:Addr)
inductive Ob where
 | lst (xs:List D) | frz (xs:List D)
  | ins (C:Addr) (fs:List (Str×D))
  | dct (kvs:List (List Key×D))
abbrev Sto:=List Ob
abbrev Ev:=List (Option D)
abbrev DK:=D→Sto→Prop
abbrev TDE:=Ev→Sto→DK→Prop
abbrev TDT:=Ev→Sto→(Bool→Sto→Prop)→Prop
abbrev TDA:=Ev→Sto→(List D→Sto→Prop)→Prop
structure zcl where
 nx:Ev→Sto→Prop
 rt:DK
 bk:Ev→Sto→Prop:=λ_ _=>False
 ct:Ev→Sto→Prop:=λ_ _=>False
abbrev TDS:=zcl→Ev→Sto→Prop
def isX (a c:Addr):HO:=.ext λh=>∃o,h.get? a=some o∧o.cls=.ref c
inductive Rp (r:List Addr)(H:Hp):D→V→Prop
 | non:Rp r H .non .non
 | bl (b:Bool):Rp r H (.bl b) (.bl b)
 | int (i:Int):Rp r H (.int i) (.int i)
 | str (x:Str):Rp r H (.str x) (.str x)
 | tup {ds:List D} {xs:List V} {a:Addr}:H a=some (.tup xs)→ds.length=xs.length→(∀(i:Nat) (d:D) (v:V),ds[i]?=some d→xs[i]?=some v→Rp r H d v)→Rp r H (.tup ds) (.ref a)
 | ref {n:Nat} {a:Addr}:r[n]?=some a→Rp r H (.ref n) (.ref a)
 | exc {c a:Addr}:H a=some (isX a c)→Rp r H (.exc c) (.ref a)
def Rps (r:List Addr)(H:Hp)(ds:List D)(vs:List V):Prop:=ds.length=vs.length∧∀(i:Nat) (d:D) (v:V),ds[i]?=some d→vs[i]?=some v→Rp r H d v
structure Ext (r r':List Addr)(H H':Hp):Prop where
 adr:∀(n:Nat) (a:Addr),r[n]?=some a→r'[n]?=some a
 tup:∀a xs,H a=some (.tup xs)→H' a=some (.tup xs)
 xc:∀a c,H a=some (isX a c)→H' a=some (isX a c)
section
variable {r r' r2:List Addr}{H H' H2:Hp}{d:D}{v:V}{ds:List D}{vs:List V}
theorem Ext.refl:Ext r r H H:=⟨λ_ _ h=>h,λ_ _ h=>h,λ_ _ h=>h⟩
theorem Ext.trans (a:Ext r r' H H')(b:Ext r' r2 H' H2):Ext r r2 H H2:=⟨λn x h=>b.adr n x (a.adr n x h),λx y h=>b.tup x y (a.tup x y h),λx y h=>b.xc x y (a.xc x y h)⟩
theorem Rp.ext (h:Rp r H d v)(e:Ext r r' H H'):Rp r' H' d v:=by
 induction h with
 | non=>exact .non
 | bl b=>exact .bl b
 | int i=>exact .int i
 | str x=>exact .str x
 | tup h l _ ih=>exact .tup (e.tup _ _ h) l ih
 | ref h=>exact .ref (e.adr _ _ h)
 | exc h=>exact .exc (e.xc _ _ h)
theorem Rps.ext (h:Rps r H ds vs)(e:Ext r r' H H'):Rps r' H' ds vs:=⟨h.1,λi d v h1 h2=>(h.2 i d v h1 h2).ext e⟩
theorem Rps.nil:Rps r H [] []:=⟨rfl,λi d v h=>by simp at h⟩
theorem Rps.cons (h:Rp r H d v)(t:Rps r H ds vs):Rps r H (d::ds) (v::vs):=by
 refine⟨by simp[t.1],λi x y h1 h2=>?_⟩
 cases i with
 | zero=>
  simp at h1 h2
  subst h1; subst h2
  exact h
 | succ i=>exact t.2 i x y (by simpa using h1) (by simpa using h2)
theorem Rps.tail {y:V}(h:Rps r H (d::ds) (y::vs)):Rp r H d y∧Rps r H ds vs:=
 ⟨h.2 0 d y rfl rfl,by simpa using h.1,λi a b h1 h2=>h.2 (i+1) a b (by simpa using h1) (by simpa using h2)⟩
theorem Rps.uncons (h:Rps r H (d::ds) vs):∃v vs',vs=v::vs'∧Rp r H d v∧Rps r H ds vs':=by
 cases vs with
 | nil=>exact absurd h.1 (by simp)
 | cons v vs'=>exact⟨v,vs',rfl,h.tail⟩
theorem Rps.unnil (h:Rps r H [] vs):vs=[]:=by
 cases vs with
 | nil=>rfl
 | cons v vs'=>exact absurd h.1 (by simp)
theorem Rps.get {i:Nat}(h:Rps r H ds vs)(e:ds[i]?=some d):∃v,vs[i]?=some v∧Rp r H d v:=by
 have hi:i<ds.length:=(Vac.mp e).1
 have hv:i<vs.length:=by rw[← h.1]; exact hi
 exact⟨vs[i],by simp[hv],h.2 i d vs[i] e (by simp[hv])⟩
theorem Rps.get' {i:Nat}(h:Rps r H ds vs)(e:vs[i]?=some v):∃d,ds[i]?=some d∧Rp r H d v:=by
 have hv:i<vs.length:=(Vac.mp e).1
 have hi:i<ds.length:=by rw[h.1]; exact hv
 exact⟨ds[i],by simp[hi],h.2 i ds[i] v (by simp[hi]) e⟩
theorem Rps.snoc (h:Rps r H ds vs)(t:Rp r H d v):Rps r H (ds++[d]) (vs++[v]):=by
 refine⟨by simp[h.1],λi x y h1 h2=>?_⟩
 by_cases hi:i<ds.length
 ·rw[Vak hi] at h1
  rw[Vak (by rw[← h.1]; exact hi)] at h2
  exact h.2 i x y h1 h2
 ·have hl:i<(ds++[d]).length:=(Vac.mp h1).1
  have e:i=ds.length:=by simp at hl; omega
  subst e
  rw[VaO (Vab _)] at h1
  rw[h.1,VaO (Vab _)] at h2
  simp at h1 h2
  subst h1; subst h2
  exact t
theorem Rps.tupR {a:Addr}(h:Rps r H ds vs)(e:H a=some (.tup vs)):Rp r H (.tup ds) (.ref a):=.tup e h.1 h.2
theorem Rp.untup {vs:V}(h:Rp r H (.tup ds) vs):∃a xs,vs=.ref a∧H a=some (.tup xs)∧Rps r H ds xs:=by
 cases h with
 | tup e l f=>exact⟨_,_,rfl,e,l,f⟩
end
def SqF (K:PySem.W.Frag)(H:Hp)(a:Addr)(xs:List V):Prop:=
 (∃o,H a=some (.frz o (.lst xs)))∨
  ∃(o:Obj) (its:Array Value) (n:Nat),K.lookup a=some o∧o.cls=.type "list"∧o.dict=none∧o.data=.seq its n∧its.size≤sizeLine∧zaA xs its.toList
theorem SqF.sql {K:PySem.W.Frag}{H:Hp}{a:Addr}{xs:List V}(h:SqF K H a xs):SqL K H a xs:=by
 rcases h with ⟨o,h⟩ | h
 ·exact .inl (.inr ⟨o,h⟩)
 ·exact .inr h
def FR {α:Type}(r:List Addr)(H:Hp)(fs:List (α×D))(fs':List (α×V)):Prop:=fs.map (·.1)=fs'.map (·.1)∧Rps r H (fs.map (·.2)) (fs'.map (·.2))
theorem FR.ext {α:Type}{r r':List Addr}{H H':Hp}{fs:List (α×D)}{fs':List (α×V)}(h:FR r H fs fs')(e:Ext r r' H H'):FR r' H' fs fs':=⟨h.1,h.2.ext e⟩
theorem FR.nil {α:Type}{r:List Addr}{H:Hp}:FR (α:=α) r H [] []:=⟨rfl,Rps.nil⟩
def ObR (K:PySem.W.Frag)(r:List Addr)(H:Hp)(a:Addr):Ob→Prop
 | .lst ds=>∃xs,H a=some (.lst xs)∧Rps r H ds xs
 | .frz ds=>∃xs,SqF K H a xs∧Rps r H ds xs
 | .ins C fs=>∃dx fs',H a=some (.ins C dx fs')∧FR r H fs fs'
 | .dct kvs=>∃kvs',H a=some (.dT kvs')∧FR r H kvs kvs'
def zdU:Ob→Bool
 | .frz _=>false
 | _=>true
structure za5 (K:PySem.W.Frag)(r:List Addr)(S:Sto)(H:Hp):Prop where
 len:r.length=S.length
 ob:∀(n:Nat) (a:Addr) (o:Ob),r[n]?=some a→S[n]?=some o→ObR K r H a o
 nd:∀(n m:Nat) (a:Addr) (o u:Ob),r[n]?=some a→r[m]?=some a→S[n]?=some o→S[m]?=some u→zdU o=true→zdU u=true→n=m
def zaz:Ob→List D
 | .lst ds=>ds
 | .frz ds=>ds
 | _=>[.exc 0]
def zb5:Ob→Option Ob
 | .lst ds=>some (.lst ds)
 | .frz ds=>some (.frz ds)
 | _=>none
def lAt (S:Sto)(n:Nat):Option Ob:=(S[n]?).bind zb5
theorem zxL {o u:Ob}(h:zb5 o=some u):u=o:=by
 cases o <;> simp[zb5] at h <;> exact h.symm
theorem zb3 {S:Sto}{n:Nat}{o:Ob}(h:lAt S n=some o):S[n]?=some o∧zb5 o=some o:=by
  unfold lAt at h
  cases q:S[n]? with
  | none=>
   rw[q] at h
   cases h
  | some u=>
    rw[q] at h
    have h':zb5 u=some o:=h
    have e:=zxL h'
    subst e
    exact⟨rfl,h'⟩
theorem zbg {S:Sto}{n:Nat}{o:Ob}(h:S[n]?=some o)(hL:zb5 o=some o):lAt S n=some o:=by
 unfold lAt
 rw[h]
 exact hL
section
variable {K:PySem.W.Frag}{r r':List Addr}{S:Sto}{H H':Hp}{n:Nat}{a p:Addr}
theorem za5.at {o:Ob}(h:za5 K r S H)(e:S[n]?=some o):∃a,r[n]?=some a∧ObR K r H a o:=by
 have hn:n<S.length:=(Vac.mp e).1
 have hr:n<r.length:=by rw[h.len]; exact hn
 exact⟨r[n],by simp[hr],h.ob n r[n] o (by simp[hr]) e⟩
theorem ObR.list {o:Ob}(h:ObR K r H a o)(hL:zb5 o=some o):∃xs,SqL K H a xs∧Rps r H (zaz o) xs:=by
 cases o with
 | lst ds=>obtain⟨xs,e,q⟩:=h; exact⟨xs,SqL.of e,q⟩
 | frz ds=>obtain⟨xs,e,q⟩:=h; exact⟨xs,e.sql,q⟩
 | ins C fs=>cases hL
 | dct kvs=>cases hL
theorem ObR.keep {o:Ob}(q:ObR K r H a o)(x:Ext r r' H H')(ha:∀u,H a=some u→H' a=some u):ObR K r' H' a o:=by
 cases o with
 | lst ds=>obtain⟨xs,h3,h4⟩:=q; exact⟨xs,ha _ h3,h4.ext x⟩
 | frz ds=>
  obtain⟨xs,h3,h4⟩:=q
  refine⟨xs,?_,h4.ext x⟩
  rcases h3 with ⟨o,h3⟩ | h3
  ·exact .inl ⟨o,ha _ h3⟩
  ·exact .inr h3
 | ins C fs=>obtain⟨dx,fs',h3,h4⟩:=q; exact⟨dx,fs',ha _ h3,h4.ext x⟩
 | dct kvs=>obtain⟨ks,h3,h4⟩:=q; exact⟨ks,ha _ h3,h4.ext x⟩
theorem ObR.own {o:Ob}(q:ObR K r H a o)(h:zdU o=true):∃u,H a=some u∧(∀xs,u≠HO.tup xs)∧(∀b c,u≠isX b c)∧∀z y,u≠HO.frz z y:=by
 cases o with
 | lst ds=>obtain⟨xs,h3,h4⟩:=q; exact⟨_,h3,(λ_ z=>by cases z),(λ_ _ z=>by cases z),(λ_ _ z=>by cases z)⟩
 | frz ds=>cases h
 | ins C fs=>obtain⟨dx,fs',h3,h4⟩:=q; exact⟨_,h3,(λ_ z=>by cases z),(λ_ _ z=>by cases z),(λ_ _ z=>by cases z)⟩
 | dct kvs=>obtain⟨ks,h3,h4⟩:=q; exact⟨_,h3,(λ_ z=>by cases z),(λ_ _ z=>by cases z),(λ_ _ z=>by cases z)⟩
theorem za5.same (h:za5 K r S H)(e:∀b o,H b=some o→H' b=some o):za5 K r S H':=
 ⟨h.len,λn a o h1 h2=>(h.ob n a o h1 h2).keep ⟨λ_ _ q=>q,λa xs q=>e _ _ q,λa c q=>e _ _ q⟩ (e a),h.nd⟩
theorem zdz {o:HO}(h:H p=none):∀b u,H b=some u→(upd H p o) b=some u:=λb u q=>by rw[zbd (zdL q h)]; exact q
theorem zi3 {n:Nat}{b:Addr}(e:(r++[p])[n]?=some b):(n<r.length∧r[n]?=some b)∨(n=r.length∧b=p):=by
 by_cases hn:n<r.length
 ·rw[Vak hn] at e; exact .inl ⟨hn,e⟩
 ·have hl:n<(r++[p]).length:=(Vac.mp e).1
  have en:n=r.length:=by simp at hl; omega
  subst en
  rw[VaO (Vab _)] at e
  simp at e
  exact .inr ⟨rfl,e.symm⟩
theorem za5.pushO {o:Ob}(h:za5 K r S H)(hp:H p=none)(keep:∀b u,H b=some u→H' b=some u)(q:Ext r (r++[p]) H H'→ObR K (r++[p]) H' p o):za5 K (r++[p]) (S++[o]) H'∧Ext r (r++[p]) H H':=by
 have x:Ext r (r++[p]) H H':=⟨λn a e=>by
  have hn:n<r.length:=(Vac.mp e).1
  rw[Vak hn]; exact e,λa ys e=>keep _ _ e,λa c e=>keep _ _ e⟩
 have sS:∀ {n:Nat} {u:Ob},n<r.length→(S++[o])[n]?=some u→S[n]?=some u:=λ{n u} hn e=>by
  rw[Vak (by rw[← h.len]; exact hn)] at e; exact e
 refine⟨⟨by simp[h.len],λn a u h1 h2=>?_,λn m a u w h1 h2 h3 h4 o1 o2=>?_⟩,x⟩
 ·rcases zi3 h1 with ⟨hn,e⟩ | ⟨rfl,rfl⟩
  ·exact(h.ob n a u e (sS hn h2)).keep x (keep a)
  ·rw[h.len,VaO (Vab _)] at h2
   simp at h2
   subst h2
   exact q x
 ·rcases zi3 h1 with ⟨hn,e⟩ | ⟨rfl,rfl⟩
  ·rcases zi3 h2 with ⟨hm,e'⟩ | ⟨rfl,rfl⟩
   ·exact h.nd n m a u w e e' (sS hn h3) (sS hm h4) o1 o2
   ·obtain⟨zs,h5,_⟩:=(h.ob n _ _ e (sS hn h3)).own o1
    rw[hp] at h5; cases h5
  ·rcases zi3 h2 with ⟨hm,e'⟩ | ⟨rfl,_⟩
   ·obtain⟨zs,h5,_⟩:=(h.ob m _ _ e' (sS hm h4)).own o2
    rw[hp] at h5; cases h5
   ·rfl
theorem za5.push {ds:List D}{xs:List V}(h:za5 K r S H)(hp:H p=none)(q:Rps r H ds xs):za5 K (r++[p]) (S++[.lst ds]) (upd H p (.lst xs))∧Ext r (r++[p]) H (upd H p (.lst xs)):=
 h.pushO hp (zdz hp) λx=>⟨xs,zcL,q.ext x⟩
theorem za5.setO {o o':Ob}{u:HO}(h:za5 K r S H)(hn:r[n]?=some a)(hS:S[n]?=some o)(ho:zdU o=true)(ho':zdU o'=true)(q:Ext r r H (upd H a u)→ObR K r (upd H a u) a o'):za5 K r (S.set n o') (upd H a u)∧Ext r r H (upd H a u):=by
 obtain⟨u0,h0,t1,t2,t3⟩:=(h.ob n a _ hn hS).own ho
 have x:Ext r r H (upd H a u):=⟨λ_ _ e=>e,λb zs e=>by
  rw[zbd (zov e h0 (λz=>t1 zs z.symm))]; exact e,λb c e=>by
  rw[zbd (zov e h0 (λz=>t2 b c z.symm))]; exact e⟩
 have hlt:n<S.length:=(Vac.mp hS).1
 have off:∀ {m:Nat} {w:Ob},m≠n→(S.set n o')[m]?=some w→S[m]?=some w:=λ{m w} hm e=>by
  rw[VaN (Ne.symm hm)] at e; exact e
 refine⟨⟨by simp[h.len],λm b w h1 h2=>?_,λm k b w y h1 h2 h3 h4 o1 o2=>?_⟩,x⟩
 ·by_cases hm:m=n
  ·subst hm
   rw[hn] at h1; cases h1
   rw[VaY hlt] at h2
   cases h2
   exact q x
  ·have h2':=off hm h2
   have q':=h.ob m b w h1 h2'
   by_cases hw:zdU w=true
   ·have hb:b≠a:=λz=>hm (by subst z; exact h.nd m n b w o h1 hn h2' hS hw ho)
    exact q'.keep x λz e=>by rw[zbd hb]; exact e
   ·cases w with
    | frz es=>
     obtain⟨zs,h3,h4⟩:=q'
     refine⟨zs,?_,h4.ext x⟩
     rcases h3 with ⟨z,h3⟩ | h3
     ·exact .inl ⟨z,by rw[zbd (zov h3 h0 (λy=>t3 _ _ y.symm))]; exact h3⟩
     ·exact .inr h3
    | _=>exact absurd rfl hw
 ·have back:∀ {j:Nat} {w:Ob},(S.set n o')[j]?=some w→zdU w=true→∃y,S[j]?=some y∧zdU y=true:=λ{j w} e ow=>by
   by_cases hj:j=n
   ·subst hj; exact⟨o,hS,ho⟩
   ·exact⟨w,off hj e,ow⟩
  obtain⟨us',h3',q3⟩:=back h3 o1
  obtain⟨ws',h4',q4⟩:=back h4 o2
  exact h.nd m k b us' ws' h1 h2 h3' h4' q3 q4
theorem za5.set {ds ds':List D}{xs:List V}(h:za5 K r S H)(hn:r[n]?=some a)(hS:S[n]?=some (.lst ds))(q:Rps r H ds' xs):za5 K r (S.set n (.lst ds')) (upd H a (.lst xs))∧Ext r r H (upd H a (.lst xs)):=
 h.setO hn hS rfl rfl λx=>⟨xs,zcL,q.ext x⟩
end
def Rs (r:List Addr)(H:Hp)(dl:Ev)(σ:St):Prop:=dl.length=σ.length∧∀(i:Nat) (d:D),dl[i]?=some (some d)→∃v,σ[i]?=some (some v)∧Rp r H d v
theorem Rs.ext {r r':List Addr}{H H':Hp}{dl:Ev}{σ:St}(h:Rs r H dl σ)(e:Ext r r' H H'):Rs r' H' dl σ:=⟨h.1,λi d q=>by
 obtain⟨v,h1,h2⟩:=h.2 i d q
 exact⟨v,h1,h2.ext e⟩⟩
theorem Rs.set {r:List Addr}{H:Hp}{dl:Ev}{σ:St}{d:D}{v:V}(i:Nat)(h:Rs r H dl σ)(q:Rp r H d v):Rs r H (dl.set i (some d)) (σ.set i (some v)):=by
 refine⟨by simp[h.1],λj e hj=>?_⟩
 by_cases hij:i=j
 ·subst hij
  have hl:i<dl.length:=by
   have:=(Vac.mp hj).1
   simpa using this
  rw[VaY hl] at hj
  cases hj
  exact⟨v,by rw[VaY (by rw[← h.1]; exact hl)],q⟩
 ·rw[VaN hij] at hj
  obtain⟨v',h1,h2⟩:=h.2 j e hj
  exact⟨v',by rw[VaN hij]; exact h1,h2⟩
structure Zx where
 ex:Ev→Addr→Sto→Prop
 w:St→XK
abbrev Zc (ex:Addr→Sto→Prop)(E:XK):Zx:=⟨λ_=>ex,λ_=>E⟩
def zei (K:PySem.W.Frag)(Z:Zx)(r:List Addr)(H:Hp):Prop:=∀(dl:Ev) (σ:St) (c:Addr) (H':Hp) (r':List Addr) (S':Sto),Ext r r' H H'→Rs r' H' dl σ→za5 K r' S' H'→Z.ex dl c S'→Z.w σ (.ref c) none H'
theorem zei.ext {K:PySem.W.Frag}{Z:Zx}{r r':List Addr}{H H':Hp}(h:zei K Z r H)(e:Ext r r' H H'):zei K Z r' H':=λdl σ c H2 r2 S2 x=>h dl σ c H2 r2 S2 (e.trans x)
structure Rel (K:PySem.W.Frag)(Z:Zx)(r:List Addr)(S:Sto)(H:Hp):Prop where
 b:za5 K r S H
 xw:zei K Z r H
section
variable {K:PySem.W.Frag}{Z:Zx}{r r':List Addr}{S:Sto}{H H':Hp}{n:Nat}{a p:Addr}
theorem Rel.len (h:Rel K Z r S H):r.length=S.length:=h.b.len
theorem Rel.at {o:Ob}(h:Rel K Z r S H)(e:S[n]?=some o):∃a,r[n]?=some a∧ObR K r H a o:=h.b.at e
theorem Rel.same (h:Rel K Z r S H)(e:∀b o,H b=some o→H' b=some o):Rel K Z r S H':=⟨h.b.same e,h.xw.ext ⟨λ_ _ q=>q,λa xs q=>e _ _ q,λa c q=>e _ _ q⟩⟩
theorem Rel.push {ds:List D}{xs:List V}(h:Rel K Z r S H)(hp:H p=none)(q:Rps r H ds xs):Rel K Z (r++[p]) (S++[.lst ds]) (upd H p (.lst xs))∧Ext r (r++[p]) H (upd H p (.lst xs)):=by
 obtain⟨h1,h2⟩:=h.b.push hp q
 exact⟨⟨h1,h.xw.ext h2⟩,h2⟩
theorem Rel.set {ds ds':List D}{xs:List V}(h:Rel K Z r S H)(hn:r[n]?=some a)(hS:S[n]?=some (.lst ds))(q:Rps r H ds' xs):Rel K Z r (S.set n (.lst ds')) (upd H a (.lst xs))∧Ext r r H (upd H a (.lst xs)):=by
 obtain⟨h1,h2⟩:=h.b.set hn hS q
 exact⟨⟨h1,h.xw.ext h2⟩,h2⟩
end
def Ret (K:PySem.W.Frag)(Z:Zx)(r:List Addr)(H:Hp)(Q:DK)(Qv:VK):Prop:=∀v H' r' d S',Ext r r' H H'→Rel K Z r' S' H'→Rp r' H' d v→Q d S'→Qv v H'
theorem Ret.ext {K:PySem.W.Frag}{Z:Zx}{r r':List Addr}{H H':Hp}{Q:DK}{Qv:VK}(h:Ret K Z r H Q Qv)(e:Ext r r' H H'):Ret K Z r' H' Q Qv:=λv H2 r2 d S2 x=>h v H2 r2 d S2 (e.trans x)
def up (K:PySem.W.Frag)(Z:Zx)(t:TDE):TE:=λσ H Qv=>∃r dl S Q,Rs r H dl σ∧Rel K Z r S H∧t dl S Q∧Ret K Z r H Q Qv
def upT (K:PySem.W.Frag)(Z:Zx)(t:TDT):TT:=λσ H Qb=>∃r dl S Q,Rs r H dl σ∧Rel K Z r S H∧t dl S Q∧∀b H' r' S',Ext r r' H H'→Rel K Z r' S' H'→Q b S'→Qb b H'
def upA (K:PySem.W.Frag)(Z:Zx)(t:TDA):TA:=λσ H Qv=>∃r dl S Q,Rs r H dl σ∧Rel K Z r S H∧t dl S Q∧∀vs H' r' ds S',Ext r r' H H'→Rel K Z r' S' H'→Rps r' H' ds vs→Q ds S'→Qv vs H'
structure zmQ (K:PySem.W.Frag)(Z:Zx)(r:List Addr)(H:Hp)(E:zcl)(F:zcW):Prop where
 nx:∀σ' H' r' dl' S',Ext r r' H H'→Rs r' H' dl' σ'→Rel K Z r' S' H'→E.nx dl' S'→F.nx σ' H'
 bk:∀σ' H' r' dl' S',Ext r r' H H'→Rs r' H' dl' σ'→Rel K Z r' S' H'→E.bk dl' S'→F.bk σ' H'
 ct:∀σ' H' r' dl' S',Ext r r' H H'→Rs r' H' dl' σ'→Rel K Z r' S' H'→E.ct dl' S'→F.ct σ' H'
 rt:Ret K Z r H E.rt F.rt
theorem zmQ.ext {K:PySem.W.Frag}{Z:Zx}{r r':List Addr}{H H':Hp}{E:zcl}{F:zcW}(h:zmQ K Z r H E F)(e:Ext r r' H H'):zmQ K Z r' H' E F:=
 ⟨λa b c d f x=>h.nx a b c d f (e.trans x),λa b c d f x=>h.bk a b c d f (e.trans x),λa b c d f x=>h.ct a b c d f (e.trans x),h.rt.ext e⟩
def upS (K:PySem.W.Frag)(Z:Zx)(t:TDS):TS:=λF σ H=>∃r dl S E,Rs r H dl σ∧Rel K Z r S H∧t E dl S∧zmQ K Z r H E F
def PD (X:Cx)(Z:Zx)(e:Expr)(t:TDE):Prop:=PE X e (up X.K Z t)
def PDT (X:Cx)(Z:Zx)(e:Expr)(t:TDT):Prop:=PT X e (upT X.K Z t)
def PDW (X:Cx)(Z:Zx)(e:Expr)(t:TDT):Prop:=PW X e (upT X.K Z t)
def PDA (X:Cx)(Z:Zx)(es:List Expr)(t:TDA):Prop:=PA X es (upA X.K Z t)
def PDS (X:Cx)(Z:Zx)(st:Stmt)(t:TDS):Prop:=PS X st (upS X.K Z t)
def zci (X:Cx)(Z:Zx)(st:List Stmt)(t:TDS):Prop:=PSs X st (upS X.K Z t)
section
variable {X:Cx}{Z:Zx}
theorem zbf {e:Expr}{t t':TE}(h:PE X e t)(f:∀σ H Q,t' σ H Q→t σ H Q):PE X e t':=λpins s σ H Q I q=>h pins s σ H Q I (f σ H Q q)
theorem zjt {e:Expr}{t t':TT}(h:PT X e t)(f:∀σ H Q,t' σ H Q→t σ H Q):PT X e t':=λpins s σ H Q I q=>h pins s σ H Q I (f σ H Q q)
theorem zqR {e:Expr}{t t':TT}(h:PW X e t)(f:∀σ H Q,t' σ H Q→t σ H Q):PW X e t':=λwh pins s σ H Q I q=>h wh pins s σ H Q I (f σ H Q q)
theorem zrG {e:List Expr}{t t':TA}(h:PA X e t)(f:∀σ H Q,t' σ H Q→t σ H Q):PA X e t':=λpos pins s σ H Q I q=>h pos pins s σ H Q I (f σ H Q q)
theorem zbD {e:Stmt}{t t':TS}(h:PS X e t)(f:∀F σ H,t' F σ H→t F σ H):PS X e t':=λpins s σ H F I q=>h pins s σ H F I (f F σ H q)
theorem zrz {e:List Stmt}{t t':TS}(h:PSs X e t)(f:∀F σ H,t' F σ H→t F σ H):PSs X e t':=λpins s σ H F I q=>h pins s σ H F I (f F σ H q)
theorem PDW.pt {e:Expr}{t:TDT}(h:PDW X Z e t):PDT X Z e t:=PW.pt h
def zjQ (i:Nat):TDE:=λdl S Q=>match dl[i]? with
 | some (some d)=>Q d S
 | _=>False
def dC (d:D):TDE:=λ_ S Q=>Q d S
theorem zyF {e:Expr}{i:Nat}(h:PE X e (tVar i)):PD X Z e (zjQ i):=zbf h λσ H Qv ⟨r,dl,S,Q,rs,rel,q,ret⟩=>by
 unfold zjQ at q
 split at q
 ·rename_i d e
  obtain⟨v,h1,h2⟩:=rs.2 i d e
  exact⟨v,h1,ret v H r d S Ext.refl rel h2 q⟩
 ·exact q.elim
theorem dv (i:Nat){x:Str}{pos:Pos}(hN:X.N[i]?=some x:=by rfl)(hv:Vis X.env.scope x:=by first | exact Or.inl rfl | exact Or.inr (Or.inl rfl) | exact Or.inr (Or.inr rfl))(hd:(x==("__debug__":Str))=false:=by decide)
  (hcd:(x==("__classdict__":Str))=false:=by decide):PD X Z (.Name x pos) (zjQ i):=zyF (zpN hN hv hd hcd)
theorem zl9 {e:Expr}{d:D}{v:V}(h:PE X e (tC v))(q:∀r H,Rp r H d v):PD X Z e (dC d):=zbf h λσ H Qv ⟨r,dl,S,Q,rs,rel,h,ret⟩=>ret v H r d S Ext.refl rel (q r H) h
theorem zab {i j pos}:PD X Z (.Constant (.int i) j pos) (dC (.int i)):=zl9 zxX λ_ _=>.int i
theorem zcx {b j pos}:PD X Z (.Constant (.bool b) j pos) (dC (.bl b)):=zl9 pe_bl λ_ _=>.bl b
theorem za0 {j pos}:PD X Z (.Constant .none j pos) (dC .non):=zl9 zuw λ_ _=>.non
theorem zaH {x j pos}:PD X Z (.Constant (.str x) j pos) (dC (.str x)):=zl9 zvk λ_ _=>.str x
abbrev W2:=D→D→Sto→DK→Prop
abbrev W1:=D→Sto→DK→Prop
def upO (K:PySem.W.Frag)(Z:Zx)(w:W2):R2:=λx y H Qv=>∃r S dx dy Q,Rel K Z r S H∧Rp r H dx x∧Rp r H dy y∧w dx dy S Q∧Ret K Z r H Q Qv
def upU (K:PySem.W.Frag)(Z:Zx)(w:W1):V→Hp→VK→Prop:=λx H Qv=>∃r S dx Q,Rel K Z r S H∧Rp r H dx x∧w dx S Q∧Ret K Z r H Q Qv
def dOp (w:W2)(ta tb:TDE):TDE:=λdl S Q=>ta dl S λx S1=>tb dl S1 λy S2=>w x y S2 Q
def dUn (w:W1)(ta:TDE):TDE:=λdl S Q=>ta dl S λx S1=>w x S1 Q
variable {a b c:Expr}{ta tb tc:TDE}{pos:Pos}
theorem zkU {w:W2}{σ:St}{H:Hp}{Qv:VK}(h:up X.K Z (dOp w ta tb) σ H Qv):tOp (upO X.K Z w) (up X.K Z ta) (up X.K Z tb) σ H Qv:=by
 obtain⟨r,dl,S,Q,rs,rel,h,ret⟩:=h
 exact⟨r,dl,S,_,rs,rel,h,λv H1 r1 dx S1 e1 rel1 p1 h1=>⟨r1,dl,S1,_,rs.ext e1,rel1,h1,λv2 H2 r2 dy S2 e2 rel2 p2 h2=>⟨r2,S2,dx,dy,Q,rel2,p1.ext e2,p2,h2,ret.ext (e1.trans e2)⟩⟩⟩
theorem zaf {op:Operator}{w:W2}(ho:OpR X (binaryOp op) (upO X.K Z w))(ha:PD X Z a ta)(hb:PD X Z b tb):PD X Z (.BinOp a op b pos) (dOp w ta tb):=zbf (pe_op ho ha hb) λ_ _ _ h=>zkU h
theorem zbF {op:UnaryOp}{w:W1}(ho:UnR X (unaryOp op) (upU X.K Z w))(ha:PD X Z a ta):PD X Z (.UnaryOp op a pos) (dUn w ta):=zbf (pe_un ho ha) λσ H Qv ⟨r,dl,S,Q,rs,rel,h,ret⟩=>
 ⟨r,dl,S,_,rs,rel,h,λv H1 r1 dx S1 e1 rel1 p1 h1=>⟨r1,S1,dx,Q,rel1,p1,h1,ret.ext e1⟩⟩
theorem zb6 {op:CmpOp}{w:W2}(ho:OpR X (compareOp op) (upO X.K Z w))(ha:PD X Z a ta)(hb:PD X Z b tb)(hm:behindInMarks op b=false):PD X Z (.Compare a [op] [b] pos) (dOp w ta tb):=zbf (zyo ho ha hb hm) λ_ _ _ h=>zkU h
theorem zeq {f:Value→Value→Sem Value}{r r':R2}(h:OpR X f r)(g:∀x y H Q,r' x y H Q→r x y H Q):OpR X f r':=λpins s σ H x y v u Q I rx ry q=>h pins s σ H x y v u Q I rx ry (g x y H Q q)
theorem zuJ {f:Value→Sem Value}{r r':V→Hp→VK→Prop}(h:UnR X f r)(g:∀x H Q,r' x H Q→r x H Q):UnR X f r':=λpins s σ H x v Q I rx q=>h pins s σ H x v Q I rx (g x H Q q)
theorem znD {f:Value}{r r':List V→Hp→VK→Prop}(h:zbm X f r)(g:∀x H Q,r' x H Q→r x H Q):zbm X f r':=λpins s σ H xs us Q I rx q=>h pins s σ H xs us Q I rx (g xs H Q q)
def wI (C:Int→Int→Prop)(g:Int→Int→D):W2:=λx y S Q=>match x,y with
 | .int i,.int j=>C i j∧Q (g i j) S
 | _,_=>False
def wI0 (g:Int→Int→D):W2:=λx y S Q=>match x,y with
 | .int i,.int j=>Q (g i j) S
 | _,_=>False
theorem opD {f:Value→Value→Sem Value}{C:Int→Int→Prop}{g:Int→Int→V}{g':Int→Int→D}(h:OpR X f (rI C g))(hg:∀r H i j,Rp r H (g' i j) (g i j)):OpR X f (upO X.K Z (wI C g')):=
 zeq h λx y H Qv ⟨r,S,dx,dy,Q,rel,px,py,q,ret⟩=>by
  cases px <;> cases py <;> first
   | exact⟨_,_,rfl,rfl,q.1,ret _ _ _ _ _ Ext.refl rel (hg _ _ _ _) q.2⟩
   | exact(show False from q).elim
theorem zfj {f:Value→Value→Sem Value}{g:Int→Int→V}{g':Int→Int→D}(h:OpR X f (rI0 g))(hg:∀r H i j,Rp r H (g' i j) (g i j)):OpR X f (upO X.K Z (wI0 g')):=
 zeq h λx y H Qv ⟨r,S,dx,dy,Q,rel,px,py,q,ret⟩=>by
  cases px <;> cases py <;> first
   | exact⟨_,_,rfl,rfl,ret _ _ _ _ _ Ext.refl rel (hg _ _ _ _) q⟩
   | exact(show False from q).elim
abbrev wAdd:W2:=wI0 λi j=>.int (i+j)
abbrev wSub:W2:=wI0 λi j=>.int (i-j)
abbrev wMul:W2:=wI IntMulOk λi j=>.int (i*j)
def CFd (_ j:Int):Prop:=0<j∧j.natAbs.log2<9000
abbrev wFdiv:W2:=wI CFd λi j=>.int (i/j)
abbrev wMod:W2:=wI (λ_ j=>0<j) λi j=>.int (i%j)
abbrev wPow:W2:=wI zmp λi j=>.int (i^j.toNat)
theorem zaT:OpR X (binaryOp .Add) (upO X.K Z wAdd):=zfj zxm λ_ _ _ _=>.int _
theorem zbl:OpR X (binaryOp .Sub) (upO X.K Z wSub):=zfj zwM λ_ _ _ _=>.int _
theorem zaM:OpR X (binaryOp .Mult) (upO X.K Z wMul):=opD (opI λ_ _ _ _ _ _ _ hc q=>mul_int q hc) λ_ _ _ _=>.int _
theorem zbo:OpR X (binaryOp .FloorDiv) (upO X.K Z wFdiv):=opD (opI λi j _ _ _ _ _ hc q=>floordiv_int (by have h:0<j:=hc.1; omega) (by have h:0<j:=hc.1; rw[Int.fdiv_eq_ediv_of_nonneg i (by omega)]; exact q) (.inl (PyProof.noPylong_of_log2 hc.2))) λ_ _ _ _=>.int _
theorem za2:OpR X (binaryOp .Mod) (upO X.K Z wMod):=opD zsf λ_ _ _ _=>.int _
theorem zvB:OpR X (binaryOp .Pow) (upO X.K Z wPow):=opD zuE λ_ _ _ _=>.int _
abbrev wLt:W2:=wI0 λi j=>.bl (decide (i<j))
abbrev wLe:W2:=wI0 λi j=>.bl (decide (i≤j))
abbrev wGt:W2:=wI0 λi j=>.bl (decide (j<i))
abbrev wGe:W2:=wI0 λi j=>.bl (decide (j≤i))
theorem zbi:OpR X (compareOp .Lt) (upO X.K Z wLt):=zfj op_lt λ_ _ _ _=>.bl _
theorem zd6:OpR X (compareOp .LtE) (upO X.K Z wLe):=zfj op_le λ_ _ _ _=>.bl _
theorem zcZ:OpR X (compareOp .Gt) (upO X.K Z wGt):=zfj op_gt λ_ _ _ _=>.bl _
theorem zqy:OpR X (compareOp .GtE) (upO X.K Z wGe):=zfj op_ge λ_ _ _ _=>.bl _
def wNeg:W1:=λx S Q=>match x with
 | .int i=>Q (.int (-i)) S
 | _=>False
theorem zbM:UnR X (unaryOp .USub) (upU X.K Z wNeg):=zuJ zxK λx H Qv ⟨r,S,dx,Q,rel,px,q,ret⟩=>by
 cases px <;> first
  | exact⟨_,rfl,ret _ _ _ _ _ Ext.refl rel (.int _) q⟩
  | exact(show False from q).elim
end
def eqF:D→D→Option Bool
 | .non,.non=>some true
 | .bl i,.bl j=>some (i==j)
 | .int i,.int j=>some (decide (i=j))
 | .str i,.str j=>some (decide (i=j))
 | .non,.int _=>some false | .int _,.non=>some false | .non,.bl _=>some false | .bl _,.non=>some false | .non,.str _=>some false | .str _,.non=>some false
 | .int _,.str _=>some false | .str _,.int _=>some false | .bl _,.str _=>some false | .str _,.bl _=>some false
 | _,_=>none
def eqL (f:D→D→Option Bool):List D→List D→Option Bool
 | [],[]=>some true
 | x::xs,y::ys=>match f x y,eqL f xs ys with
  | some b,some c=>some (b&&c)
  | _,_=>none
 | _,_=>some false
def eqT (f:D→D→Option Bool):D→D→Option Bool
 | .tup xs,.tup ys=>eqL f xs ys
 | x,y=>eqF x y
abbrev eq1:D→D→Option Bool:=eqT eqF
abbrev eq2:D→D→Option Bool:=eqT eq1
def zdN (n:Nat)(f:D→D→Option Bool):Prop:=∀(X:Cx) (pins:List (Addr×Obj)) (σ:St) (H:Hp) (s:Shared) (r:List Addr) (A:Around) (dx dy:D) (x y:V) (u v:Value) (b:Bool),
 Inv X pins σ H s→A.units+n<cLine→Rp r H dx x→Rp r H dy y→zay x u→zay y v→f dx dy=some b→SeqAt.EqAt A s u v b
def zfk (f:D→D→Option Bool):Prop:=∀(r:List Addr) (H:Hp) (dx dy:D) (x:V) (b:Bool),Rp r H dx x→Rp r H dy x→f dx dy=some b→b=true
theorem zfB:zfk eqF:=by
 intro r H dx dy x b px py e
 cases px <;> cases py <;> simp[eqF] at e <;> first | exact e.symm | exact e
theorem zqg {f:D→D→Option Bool}(hf:zfk f){r:List Addr}{H:Hp}:∀ {xs ys:List D} {vs:List V} {b:Bool},Rps r H xs vs→Rps r H ys vs→eqL f xs ys=some b→b=true
 | [],[],_,b,_,_,e=>by simp[eqL] at e; exact e
 | [],y::ys,vs,b,p,q,e=>by
  have h1:=p.unnil
  subst h1
  exact absurd q.1 (by simp)
 | x::xs,[],vs,b,p,q,e=>by
  have h1:=q.unnil
  subst h1
  exact absurd p.1 (by simp)
 | x::xs,y::ys,vs,b,p,q,e=>by
  obtain⟨v,vs',rfl,p1,p2⟩:=p.uncons
  obtain⟨q1,q2⟩:=q.tail
  unfold eqL at e
  split at e
  ·rename_i b1 c1 e1 e2
   have h1:=hf r H x y v b1 p1 q1 e1
   have h2:=zqg hf p2 q2 e2
   subst h1; subst h2
   simp at e
   exact e
  ·cases e
theorem zqt {f:D→D→Option Bool}(hf:zfk f):zfk (eqT f):=by
 intro r H dx dy x b px py e
 cases px with
 | tup e1 l1 f1=>
  cases py with
  | tup e2 l2 f2=>
   rw[e1] at e2; cases e2
   exact zqg hf ⟨l1,f1⟩ ⟨l2,f2⟩ e
  | ref h=>simp[eqT,eqF] at e
  | exc h=>simp[eqT,eqF] at e
 | non=>exact zfB r H _ _ _ b .non py (by cases py <;> exact e)
 | bl i=>exact zfB r H _ _ _ b (.bl i) py (by cases py <;> exact e)
 | int i=>exact zfB r H _ _ _ b (.int i) py (by cases py <;> exact e)
 | str i=>exact zfB r H _ _ _ b (.str i) py (by cases py <;> exact e)
 | ref h=>cases py <;> simp[eqT,eqF] at e
 | exc h=>cases py <;> simp[eqT,eqF] at e
theorem zmV (n:Nat):zdN n eqF:=by
 intro X pins σ H s r A dx dy x y u v b I hu px py rx ry e
 have fin:∀ {x y:V},zay x u→zay y v→zjg x=true→zjg y=true→eqV x y=b→SeqAt.EqAt A s u v b:=λrx ry fx fy e'=>by
  subst e'; exact zyY rx ry fx fy
 cases px <;> cases py <;> simp[eqF] at e <;> refine fin rx ry rfl rfl ?_ <;> simp[eqV,e] <;> first | exact e | (subst e; simp) | skip
theorem zeG {X:Cx}{pins:List (Addr×Obj)}{σ:St}{H:Hp}{s:Shared}{a:Addr}{xs:List V}(I:Inv X pins σ H s)(h:H a=some (.tup xs)):∃its:List Value,zaA xs its∧IsTup s.heap a its.toArray∧xs.length≤sizeLine:=I.tuple (SqT.of h)
def zcA (f:D→D→Option Bool)(xs ys:List D)(j:Nat):Bool:=match xs[j]?,ys[j]? with
 | some x,some y=>(f x y).getD false
 | _,_=>false
theorem zqE {f:D→D→Option Bool}:∀ {xs ys:List D} {b:Bool},eqL f xs ys=some b→(∀(j:Nat) (x y:D),xs[j]?=some x→ys[j]?=some y→∃c,f x y=some c)∧((List.range (min xs.length ys.length)).all (zcA f xs ys)&&xs.length==ys.length)=b
 | [],[],b,e=>by simp[eqL] at e; subst e; simp
 | [],y::ys,b,e=>by simp[eqL] at e; subst e; simp
 | x::xs,[],b,e=>by simp[eqL] at e; subst e; simp
 | x::xs,y::ys,b,e=>by
  unfold eqL at e
  split at e
  ·rename_i b1 c1 e1 e2
   obtain⟨h1,h2⟩:=zqE e2
   refine⟨λj p q hp hq=>?_,?_⟩
   ·cases j with
    | zero=>simp at hp hq; subst hp; subst hq; exact⟨b1,e1⟩
    | succ j=>exact h1 j p q (by simpa using hp) (by simpa using hq)
   ·have z:min (x::xs).length (y::ys).length=min xs.length ys.length+1:=by simp[Nat.succ_min_succ]
    rw[z,List.range_succ_eq_map,List.all_cons,List.all_map]
    have e0:zcA f (x::xs) (y::ys) 0=b1:=by simp[zcA,e1]
    have es:(zcA f (x::xs) (y::ys) ∘ Nat.succ)=zcA f xs ys:=by funext j; simp[zcA]
    rw[e0,es]
    have e3:((x::xs).length==(y::ys).length)=(xs.length==ys.length):=by simp
    rw[e3,Bool.and_assoc,h2]
    simp at e
    exact e
  ·cases e
theorem zlp {n:Nat}{f:D→D→Option Bool}(hf:zdN n f){X:Cx}{pins:List (Addr×Obj)}{σ:St}{H:Hp}{s:Shared}{r:List Addr}{A:Around}{xs ys:List D}{us vs:List V}{is js:List Value}{b:Bool}
  (I:Inv X pins σ H s)(hu:A.units+n<cLine)(p:Rps r H xs us)(q:Rps r H ys vs)(ri:zaA us is)(rj:zaA vs js)(e:eqL f xs ys=some b):
  (∀j (h1:j<is.toArray.size) (h2:j<js.toArray.size),SeqAt.EqAt A s is.toArray[j] js.toArray[j] (zcA f xs ys j))∧((List.range (min is.toArray.size js.toArray.size)).all (zcA f xs ys)&&is.toArray.size==js.toArray.size)=b:=by
 obtain⟨h1,h2⟩:=zqE e
 have l1:is.toArray.size=xs.length:=by rw[Vaj,← ri.length,p.1]
 have l2:js.toArray.size=ys.length:=by rw[Vaj,← rj.length,q.1]
 refine⟨λj hj1 hj2=>?_,by rw[l1,l2]; exact h2⟩
 have k1:j<xs.length:=by omega
 have k2:j<ys.length:=by omega
 have g1:xs[j]?=some xs[j]:=by simp[k1]
 have g2:ys[j]?=some ys[j]:=by simp[k2]
 obtain⟨x,gx,px⟩:=p.get g1
 obtain⟨y,gy,py⟩:=q.get g2
 obtain⟨u,gu,ru⟩:=ri.get gx
 obtain⟨v,gv,rv⟩:=rj.get gy
 obtain⟨c,hc⟩:=h1 j _ _ g1 g2
 have eu:is.toArray[j]=u:=by
  have z:=Vac.mp gu
  simpa using z.2
 have ev:js.toArray[j]=v:=by
  have z:=Vac.mp gv
  simpa using z.2
 have ec:zcA f xs ys j=c:=by simp[zcA,g1,g2,hc]
 rw[eu,ev,ec]
 exact hf X pins σ H s r A _ _ x y u v c I hu px py ru rv hc
theorem zrD {n:Nat}{f:D→D→Option Bool}(hf:zdN n f)(hs:zfk f):zdN (n+1) (eqT f):=by
 intro X pins σ H s r A dx dy x y u v b I hu px py rx ry e
 have zbb:∀ {dx dy:D} {x y:V},Rp r H dx x→Rp r H dy y→zay x u→zay y v→eqF dx dy=some b→SeqAt.EqAt A s u v b:=λpx py rx ry e=>zmV (n+1) X pins σ H s r A _ _ _ _ u v b I hu px py rx ry e
 cases px with
 | @tup ds xs a e1 l1 f1=>
  cases py with
  | @tup es ys a' e2 l2 f2=>
   cases rx
   cases ry
   by_cases z:a=a'
   ·subst z
    have hb:=zqt hs r H _ _ _ b (.tup e1 l1 f1) (.tup e2 l2 f2) e
    subst hb
    exact SeqAt.EqAt.same _
   ·obtain⟨is,ri,ti,_⟩:=zeG I e1
    obtain⟨js,rj,tj,_⟩:=zeG I e2
    obtain⟨g1,g2⟩:=zlp (A:=A.in1) hf I (by show A.units+1+n<_; omega) ⟨l1,f1⟩ ⟨l2,f2⟩ ri rj e
    have q:=SeqAt.RcAt.tuples (A:=A) ti tj (by omega) g1
    rw[g2] at q
    exact SeqAt.EqAt.of_refs z q
  | ref h=>simp[eqT,eqF] at e
  | _=>simp[eqT,eqF] at e
 | non=>exact zbb .non py rx ry (by cases py <;> exact e)
 | bl i=>exact zbb (.bl i) py rx ry (by cases py <;> exact e)
 | int i=>exact zbb (.int i) py rx ry (by cases py <;> exact e)
 | str i=>exact zbb (.str i) py rx ry (by cases py <;> exact e)
 | ref h=>cases py <;> simp[eqT,eqF] at e
 | exc h=>cases py <;> simp[eqT,eqF] at e
theorem zq5 (n:Nat):zdN (n+1) eq1:=zrD (zmV n) zfB
def wEq (f:D→D→Option Bool):W2:=λx y S Q=>match f x y with
 | some b=>Q (.bl b) S
 | none=>False
def wNe (f:D→D→Option Bool):W2:=λx y S Q=>match f x y with
 | some b=>Q (.bl (!b)) S
 | none=>False
section
variable {X:Cx}{Z:Zx}
theorem zrI {r:List Addr}{H:Hp}{dx dy:D}{x y:V}{b:Bool}(px:Rp r H dx x)(py:Rp r H dy y)(e:eqF dx dy=some b):zmO x y=true∧decide (x=y)=b:=by
 cases px <;> cases py <;> simp[eqF] at e <;> simp[zmO] <;> first | exact e | (subst e; simp) | skip
theorem zkn {n:Nat}{f:D→D→Option Bool}(hf:zdN n f)(hu:X.A.units+1+n<cLine):OpR X (compareOp .Eq) (upO X.K Z (wEq (eqT f))):=by
 intro pins s σ H x y v u Qv I rx ry h
 obtain⟨r,S,dx,dy,Q,rel,px,py,q,ret⟩:=h
 unfold wEq at q
 split at q
 ·rename_i b e
  have zbb:∀ {dx dy:D} {x y:V},Rp r H dx x→Rp r H dy y→zay x v→zay y u→eqF dx dy=some b→wpAny (model X.prog X.w) X.A (compareOp .Eq v u) (EP X pins σ Qv) X.xe s:=λpx py rx ry e=>by
   obtain⟨h1,h2⟩:=zrI px py e
   refine zo9 pins s σ H _ _ v u Qv I rx ry ⟨h1,?_⟩
   rw[h2]
   exact ret _ _ _ _ _ Ext.refl rel (.bl b) q
  cases px with
  | @tup ds xs a e1 l1 f1=>
   cases py with
   | @tup es ys a' e2 l2 f2=>
    cases rx
    cases ry
    obtain⟨is,ri,ti,_⟩:=zeG I e1
    obtain⟨js,rj,tj,_⟩:=zeG I e2
    obtain⟨g1,g2⟩:=zlp (A:=X.A.in1) hf I (by show X.A.units+1+n<_; omega) ⟨l1,f1⟩ ⟨l2,f2⟩ ri rj e
    refine SeqAt.eq_tupleAt (A:=X.A) ti tj (by omega) g1 ?_
    rw[g2]
    exact⟨.bl b,H,I,rfl,ret _ _ _ _ _ Ext.refl rel (.bl b) q⟩
   | _=>simp[eqT,eqF] at e
  | non=>exact zbb .non py rx ry (by cases py <;> exact e)
  | bl i=>exact zbb (.bl i) py rx ry (by cases py <;> exact e)
  | int i=>exact zbb (.int i) py rx ry (by cases py <;> exact e)
  | str i=>exact zbb (.str i) py rx ry (by cases py <;> exact e)
  | ref h=>cases py <;> simp[eqT,eqF] at e
  | exc h=>cases py <;> simp[eqT,eqF] at e
 ·exact q.elim
theorem znv {n:Nat}{f:D→D→Option Bool}(hf:zdN n f)(hu:X.A.units+1+n<cLine):OpR X (compareOp .NotEq) (upO X.K Z (wNe (eqT f))):=by
 intro pins s σ H x y v u Qv I rx ry h
 obtain⟨r,S,dx,dy,Q,rel,px,py,q,ret⟩:=h
 unfold wNe at q
 split at q
 ·rename_i b e
  have zbb:∀ {dx dy:D} {x y:V},Rp r H dx x→Rp r H dy y→zay x v→zay y u→eqF dx dy=some b→wpAny (model X.prog X.w) X.A (compareOp .NotEq v u) (EP X pins σ Qv) X.xe s:=λpx py rx ry e=>by
   obtain⟨h1,h2⟩:=zrI px py e
   refine op_ne pins s σ H _ _ v u Qv I rx ry ⟨h1,?_⟩
   rw[h2]
   exact ret _ _ _ _ _ Ext.refl rel (.bl (!b)) q
  cases px with
  | @tup ds xs a e1 l1 f1=>
   cases py with
   | @tup es ys a' e2 l2 f2=>
    cases rx
    cases ry
    obtain⟨is,ri,ti,_⟩:=zeG I e1
    obtain⟨js,rj,tj,_⟩:=zeG I e2
    obtain⟨g1,g2⟩:=zlp (A:=X.A.in1) hf I (by show X.A.units+1+n<_; omega) ⟨l1,f1⟩ ⟨l2,f2⟩ ri rj e
    refine SeqAt.RcNeAt.tuples (A:=X.A) ti tj (by omega) g1 X.prog X.w _ _ ?_
    rw[g2]
    exact⟨.bl (!b),H,I,rfl,ret _ _ _ _ _ Ext.refl rel (.bl (!b)) q⟩
   | _=>simp[eqT,eqF] at e
  | non=>exact zbb .non py rx ry (by cases py <;> exact e)
  | bl i=>exact zbb (.bl i) py rx ry (by cases py <;> exact e)
  | int i=>exact zbb (.int i) py rx ry (by cases py <;> exact e)
  | str i=>exact zbb (.str i) py rx ry (by cases py <;> exact e)
  | ref h=>cases py <;> simp[eqT,eqF] at e
  | exc h=>cases py <;> simp[eqT,eqF] at e
 ·exact q.elim
theorem zaI {k:Nat}(hr:zaN k X.A):OpR X (compareOp .Eq) (upO X.K Z (wEq eq2)):=zkn (zq5 0) (by have:=hr.un; omega)
theorem ziQ {k:Nat}(hr:zaN k X.A):OpR X (compareOp .NotEq) (upO X.K Z (wNe eq2)):=znv (zq5 0) (by have:=hr.un; omega)
end
section
variable {X:Cx}{Z:Zx}{a b c:Expr}{ta tb tc:TDE}{pos:Pos}{zbj:List Expr}
def zkz (t:TDE):TDT:=λdl S Q=>t dl S λd S'=>match d with
 | .bl k=>Q k S'
 | _=>False
theorem zoj {K:PySem.W.Frag}{Z:Zx}{r:List Addr}{H:Hp}{Q:Bool→Sto→Prop}{Qb:Bool→Hp→Prop}(h:∀b H' r' S',Ext r r' H H'→Rel K Z r' S' H'→Q b S'→Qb b H'):
  Ret K Z r H (λd S'=>match d with | .bl k=>Q k S' | _=>False) (λx H'=>∃k,x=.bl k∧Qb k H'):=λv H' r' d S' e rel p q=>by
 cases p with
 | bl k=>exact⟨k,rfl,h k H' r' S' e rel q⟩
 | _=>exact(show False from q).elim
theorem zas {op:CmpOp}{w:W2}(ho:OpR X (compareOp op) (upO X.K Z w))(ha:PD X Z a ta)(hb:PD X Z b tb)(hm:behindInMarks op b=false):PDT X Z (.Compare a [op] [b] pos) (zkz (dOp w ta tb)):=
 zjt (zsT ho ha hb hm) λσ H Qb ⟨r,dl,S,Q,rs,rel,h,ret⟩=>zkU ⟨r,dl,S,_,rs,rel,h,zoj ret⟩
theorem zbq {e:Expr}{t:TDE}(h:PD X Z e t)(he:∀whole,isTrue e X.env whole=(do let v ← whole; standAt e.pos; holding [v] (truthy v)):=by intro _; rfl):PDT X Z e (zkz t):=
 zjt (zvo h he) λσ H Qb ⟨r,dl,S,Q,rs,rel,h,ret⟩=>⟨r,dl,S,_,rs,rel,h,zoj ret⟩
def dNot (t:TDT):TDT:=λdl S Q=>t dl S λk S'=>Q (!k) S'
theorem zcs {t:TDT}(ha:PDT X Z a t):PDT X Z (.UnaryOp .Not a pos) (dNot t):=
 zjt (zwC ha) λσ H Qb ⟨r,dl,S,Q,rs,rel,h,ret⟩=>⟨r,dl,S,_,rs,rel,h,λk H' r' S' e rel' q=>ret (!k) H' r' S' e rel' q⟩
def dAnd (t u:TDT):TDT:=λdl S Q=>t dl S λk S1=>if k=true then u dl S1 Q else Q false S1
def dOr (t u:TDT):TDT:=λdl S Q=>t dl S λk S1=>if k=true then Q true S1 else u dl S1 Q
theorem zc4 {t:TDT}(ha:PDT X Z a t):PDW X Z (.BoolOp .And [a] pos) t:=zr7 ha
theorem zcG {t:TDT}(ha:PDT X Z a t):PDW X Z (.BoolOp .Or [a] pos) t:=zs2 ha
theorem zct {t u:TDT}(ha:PDT X Z a t)(hb:PDW X Z (.BoolOp .And (b::zbj) pos) u):PDW X Z (.BoolOp .And (a::b::zbj) pos) (dAnd t u):=
 zqR (ztI ha hb) λσ H Qb ⟨r,dl,S,Q,rs,rel,h,ret⟩=>⟨r,dl,S,_,rs,rel,h,λk H1 r1 S1 e1 rel1 q1=>by
  cases k with
  | true=>exact zcv ⟨r1,dl,S1,Q,rs.ext e1,rel1,(by simpa using q1),λk' H2 r2 S2 e2=>ret k' H2 r2 S2 (e1.trans e2)⟩
  | false=>exact zbO (ret false H1 r1 S1 e1 rel1 (by simpa using q1))⟩
theorem zbV {t u:TDT}(ha:PDT X Z a t)(hb:PDW X Z (.BoolOp .Or (b::zbj) pos) u):PDW X Z (.BoolOp .Or (a::b::zbj) pos) (dOr t u):=
 zqR (pw_or ha hb) λσ H Qb ⟨r,dl,S,Q,rs,rel,h,ret⟩=>⟨r,dl,S,_,rs,rel,h,λk H1 r1 S1 e1 rel1 q1=>by
  cases k with
  | true=>exact zcv (ret true H1 r1 S1 e1 rel1 (by simpa using q1))
  | false=>exact zbO ⟨r1,dl,S1,Q,rs.ext e1,rel1,(by simpa using q1),λk' H2 r2 S2 e2=>ret k' H2 r2 S2 (e1.trans e2)⟩⟩
def zpJ (ta tb:TDE):TDE:=λdl S Q=>ta dl S λx S1=>match x with
 | .bl k=>if k=true then tb dl S1 Q else Q (.bl false) S1
 | _=>False
def dOrV (ta tb:TDE):TDE:=λdl S Q=>ta dl S λx S1=>match x with
 | .bl k=>if k=true then Q (.bl true) S1 else tb dl S1 Q
 | _=>False
def zqc (ta:TDE):TDE:=λdl S Q=>ta dl S λx S1=>match x with
 | .bl k=>Q (.bl (!k)) S1
 | _=>False
theorem ze5 {op}{t:TDE}(h:PD X Z a t):PD X Z (.BoolOp op [a] pos) t:=zuy h
theorem zf2 (ha:PD X Z a ta)(hb:PD X Z (.BoolOp .And (b::zbj) pos) tb):PD X Z (.BoolOp .And (a::b::zbj) pos) (zpJ ta tb):=
 zbf (zsW ha hb) λσ H Qv ⟨r,dl,S,Q,rs,rel,h,ret⟩=>⟨r,dl,S,_,rs,rel,h,λv H1 r1 d S1 e1 rel1 p q1=>by
  cases p with
  | bl k=>
   refine⟨k,rfl,?_⟩
   cases k with
   | true=>exact zcv ⟨r1,dl,S1,Q,rs.ext e1,rel1,(by simpa using q1),ret.ext e1⟩
   | false=>exact zbO (ret _ H1 r1 (.bl false) S1 e1 rel1 (.bl false) (by simpa using q1))
  | _=>exact(show False from q1).elim⟩
theorem zoR (ha:PD X Z a ta)(hb:PD X Z (.BoolOp .Or (b::zbj) pos) tb):PD X Z (.BoolOp .Or (a::b::zbj) pos) (dOrV ta tb):=
 zbf (pe_or ha hb) λσ H Qv ⟨r,dl,S,Q,rs,rel,h,ret⟩=>⟨r,dl,S,_,rs,rel,h,λv H1 r1 d S1 e1 rel1 p q1=>by
  cases p with
  | bl k=>
   refine⟨k,rfl,?_⟩
   cases k with
   | true=>exact zcv (ret _ H1 r1 (.bl true) S1 e1 rel1 (.bl true) (by simpa using q1))
   | false=>exact zbO ⟨r1,dl,S1,Q,rs.ext e1,rel1,(by simpa using q1),ret.ext e1⟩
  | _=>exact(show False from q1).elim⟩
theorem zu8 (ha:PD X Z a ta):PD X Z (.UnaryOp .Not a pos) (zqc ta):=
 zbf (zws ha) λσ H Qv ⟨r,dl,S,Q,rs,rel,h,ret⟩=>⟨r,dl,S,_,rs,rel,h,λv H1 r1 d S1 e1 rel1 p q1=>by
  cases p with
  | bl k=>exact⟨k,rfl,ret _ H1 r1 (.bl (!k)) S1 e1 rel1 (.bl (!k)) q1⟩
  | _=>exact(show False from q1).elim⟩
def dIfE (t:TDT)(ta tb:TDE):TDE:=λdl S Q=>t dl S λk S1=>if k=true then ta dl S1 Q else tb dl S1 Q
theorem zc5 {t:TDT}(hc:PDT X Z c t)(ha:PD X Z a ta)(hb:PD X Z b tb):PD X Z (.IfExp c a b pos) (dIfE t ta tb):=
 zbf (zuH hc ha hb) λσ H Qv ⟨r,dl,S,Q,rs,rel,h,ret⟩=>⟨r,dl,S,_,rs,rel,h,λk H1 r1 S1 e1 rel1 q1=>by
  cases k with
  | true=>exact zcv ⟨r1,dl,S1,Q,rs.ext e1,rel1,(by simpa using q1),ret.ext e1⟩
  | false=>exact zbO ⟨r1,dl,S1,Q,rs.ext e1,rel1,(by simpa using q1),ret.ext e1⟩⟩
def zj3 (w w':W2)(ta tb tc:TDE):TDE:=λdl S Q=>ta dl S λx S1=>tb dl S1 λy S2=>w x y S2 λz S3=>match z with
 | .bl k=>if k=true then tc dl S3 λu S4=>w' y u S4 Q else Q (.bl false) S3
 | _=>False
theorem zpA {w w':W2}{σ:St}{H:Hp}{Qv:VK}(h:up X.K Z (zj3 w w' ta tb tc) σ H Qv):zpm (upO X.K Z w) (upO X.K Z w') (up X.K Z ta) (up X.K Z tb) (up X.K Z tc) σ H Qv:=by
 obtain⟨r,dl,S,Q,rs,rel,h,ret⟩:=h
 refine⟨r,dl,S,_,rs,rel,h,λv H1 r1 dx S1 e1 rel1 p1 h1=>⟨r1,dl,S1,_,rs.ext e1,rel1,h1,λv2 H2 r2 dy S2 e2 rel2 p2 h2=>⟨r2,S2,dx,dy,_,rel2,p1.ext e2,p2,h2,λv3 H3 r3 dz S3 e3 rel3 p3 h3=>?_⟩⟩⟩
 cases p3 with
 | bl k=>
  refine⟨k,rfl,?_⟩
  cases k with
  | true=>exact zcv ⟨r3,dl,S3,_,rs.ext (e1.trans (e2.trans e3)),rel3,(by simpa using h3),λv4 H4 r4 du S4 e4 rel4 p4 h4=>⟨r4,S4,dy,du,Q,rel4,(p2.ext e3).ext e4,p4,h4,ret.ext (e1.trans (e2.trans (e3.trans e4)))⟩⟩
  | false=>exact zbO (ret _ H3 r3 (.bl false) S3 (e1.trans (e2.trans e3)) rel3 (.bl false) (by simpa using h3))
 | _=>exact(show False from h3).elim
theorem ztj {op op':CmpOp}{w w':W2}(ho:OpR X (compareOp op) (upO X.K Z w))(ho':OpR X (compareOp op') (upO X.K Z w'))(ha:PD X Z a ta)(hb:PD X Z b tb)(hc:PD X Z c tc)
  (hm:lastMarks [op,op'] [b,c]=false:=by with_unfolding_all rfl):PD X Z (.Compare a [op,op'] [b,c] pos) (zj3 w w' ta tb tc):=zbf (zsq ho ho' ha hb hc hm) λ_ _ _ h=>zpA h
theorem znA {op op':CmpOp}{w w':W2}(ho:OpR X (compareOp op) (upO X.K Z w))(ho':OpR X (compareOp op') (upO X.K Z w'))(ha:PD X Z a ta)(hb:PD X Z b tb)(hc:PD X Z c tc)
  (hm:lastMarks [op,op'] [b,c]=false:=by with_unfolding_all rfl):PDT X Z (.Compare a [op,op'] [b,c] pos) (zkz (zj3 w w' ta tb tc)):=
 zjt (zxb ho ho' ha hb hc hm) λσ H Qb ⟨r,dl,S,Q,rs,rel,h,ret⟩=>zpA ⟨r,dl,S,_,rs,rel,h,zoj ret⟩
def ziP:D→Bool
 | .non=>true
 | _=>false
def wIsN:W2:=λx y S Q=>match y with
 | .non=>Q (.bl (ziP x)) S
 | _=>False
def zqI:W2:=λx y S Q=>match y with
 | .non=>Q (.bl (!ziP x)) S
 | _=>False
theorem zqP {r:List Addr}{H:Hp}{d:D}{x:V}(p:Rp r H d x):decide (x=.non)=ziP d:=by
 cases p <;> simp[ziP]
theorem zbN:OpR X (compareOp .Is) (upO X.K Z wIsN):=zeq ztM λx y H Qv ⟨r,S,dx,dy,Q,rel,px,py,q,ret⟩=>by
 cases py with
 | non=>exact⟨rfl,by rw[zqP px]; exact ret _ _ _ _ _ Ext.refl rel (.bl _) q⟩
 | _=>exact(show False from q).elim
theorem zry:OpR X (compareOp .IsNot) (upO X.K Z zqI):=zeq zvV λx y H Qv ⟨r,S,dx,dy,Q,rel,px,py,q,ret⟩=>by
 cases py with
 | non=>exact⟨rfl,by rw[zqP px]; exact ret _ _ _ _ _ Ext.refl rel (.bl _) q⟩
 | _=>exact(show False from q).elim
variable {e:Expr}{es:List Expr}
def dNil:TDA:=λ_ S Q=>Q [] S
def zrA (ta:TDE)(tr:TDA):TDA:=λdl S Q=>ta dl S λx S1=>tr dl S1 λxs S2=>Q (x::xs) S2
theorem zac:PDA X Z [] dNil:=zrG zjh λσ H Qv ⟨r,dl,S,Q,rs,rel,h,ret⟩=>ret [] H r [] S Ext.refl rel Rps.nil h
theorem zaa {te:TDE}{t:TDA}(ha:PD X Z e te)(hr:PDA X Z es t)(hs:starEach (e::es) X.env=(false,eval e X.env)::starEach es X.env:=by rfl):PDA X Z (e::es) (zrA te t):=
 zrG (zfF ha hr hs) λσ H Qv ⟨r,dl,S,Q,rs,rel,h,ret⟩=>⟨r,dl,S,_,rs,rel,h,λv H1 r1 d S1 e1 rel1 p1 h1=>⟨r1,dl,S1,_,rs.ext e1,rel1,h1,λvs H2 r2 ds S2 e2 rel2 p2 h2=>
  ret (v::vs) H2 r2 (d::ds) S2 (e1.trans e2) rel2 (Rps.cons (p1.ext e2) p2) h2⟩⟩
def dTup (t:TDA):TDE:=λdl S Q=>t dl S λds S1=>if ds.length≤1000 then Q (.tup ds) S1 else False
def dLst (t:TDA):TDE:=λdl S Q=>t dl S λds S1=>if ds.length≤1000 then Q (.ref S1.length) (S1++[.lst ds]) else False
theorem zns {A:Prop}{p:Prop} [Decidable p] (h:if p then A else False):p∧A:=by
 split at h
 ·exact⟨by assumption,h⟩
 ·exact h.elim
theorem zja {n:Nat}(h:n≤1000):n≤sizeLine:=VaW (zn8 h)
theorem zat {x1}{t:TDA}(h:PDA X Z es t):PD X Z (.Tuple es x1 pos) (dTup t):=
 zbf (zuC h) λσ H Qv ⟨r,dl,S,Q,rs,rel,h,ret⟩=>⟨r,dl,S,_,rs,rel,h,λvs H1 r1 ds S1 e1 rel1 p1 h1=>by
  obtain⟨hl,h1⟩:=zns h1
  refine⟨by rw[← p1.1]; exact zja hl,λp hp=>?_⟩
  have x:Ext r1 r1 H1 (upd H1 p (.tup vs)):=⟨λ_ _ q=>q,λa xs q=>zdz hp _ _ q,λa c q=>zdz hp _ _ q⟩
  exact ret _ _ r1 (.tup ds) S1 (e1.trans x) (rel1.same (zdz hp)) ((p1.ext x).tupR zcL) h1⟩
theorem zeF {r:List Addr}{p:Addr}{H:Hp}{n:Nat}(h:r.length=n):Rp (r++[p]) H (.ref n) (.ref p):=.ref (by subst h; simp)
theorem za8 {t:TDA}(h:PDA X Z es t):PD X Z (.List es pos) (dLst t):=
 zbf (zxB h) λσ H Qv ⟨r,dl,S,Q,rs,rel,h,ret⟩=>⟨r,dl,S,_,rs,rel,h,λvs H1 r1 ds S1 e1 rel1 p1 h1=>by
  obtain⟨hl,h1⟩:=zns h1
  refine⟨by rw[← p1.1]; exact zja hl,λp hp=>?_⟩
  obtain⟨rel2,x⟩:=rel1.push hp p1
  exact ret _ _ _ (.ref S1.length) _ (e1.trans x) rel2 (zeF rel1.len) h1⟩
def wIx:W2:=λx y S Q=>match x,y with
 | .tup xs,.int i=>match atI xs i with
  | some d=>Q d S
  | none=>False
 | .ref n,.int i=>match lAt S n with
  | some o=>match atI (zaz o) i with
   | some d=>Q d S
   | none=>False
  | none=>False
 | _,_=>False
theorem zqF {r:List Addr}{H:Hp}{ds:List D}{vs:List V}{i:Int}{d:D}(h:Rps r H ds vs)(e:atI ds i=some d):∃v,atI vs i=some v∧Rp r H d v:=by
  unfold atI at e ⊢
  rw[← h.1]
  cases q:ixN ds.length i with
  | none=>
   rw[q] at e
   cases e
  | some j=>
    rw[q] at e
    exact h.get e
theorem do_ix:IxR X (upO X.K Z wIx):=by
 intro value slice pins s σ H x y v u Qv I rx ry h hs
 obtain⟨r,S,dx,dy,Q,rel,px,py,q,ret⟩:=h
 cases px with
 | @tup ds xs a e1 l1 f1=>
  cases py with
  | int i=>
   have q':(match atI ds i with | some d=>Q d S | none=>False):=q
   split at q'
   ·rename_i d e
    obtain⟨w,hw,pw⟩:=zqF ⟨l1,f1⟩ e
    exact zsQ value slice pins s σ H _ _ v u Qv I rx ry ⟨a,xs,i,w,rfl,rfl,SqT.of e1,hw,ret w H r d S Ext.refl rel pw q'⟩ hs
   ·exact q'.elim
  | _=>exact(show False from q).elim
 | @ref n a e1=>
  cases py with
  | int i=>
   have q':(match lAt S n with | some o=>(match atI (zaz o) i with | some d=>Q d S | none=>False) | none=>False):=q
   split at q'
   ·rename_i o eo
    obtain⟨eo,eL⟩:=zb3 eo
    obtain⟨a',ha,ob⟩:=rel.at eo
    rw[e1] at ha; cases ha
    obtain⟨xs,sq,pr⟩:=ob.list eL
    split at q'
    ·rename_i d e
     obtain⟨w,hw,pw⟩:=zqF pr e
     exact zsJ value slice pins s σ H _ _ v u Qv I rx ry ⟨a,xs,i,w,rfl,rfl,sq,hw,ret w H r d S Ext.refl rel pw q'⟩ hs
    ·exact q'.elim
   ·exact q'.elim
  | _=>exact(show False from q).elim
 | _=>exact(show False from q).elim
theorem zad (ha:PD X Z a ta)(hb:PD X Z b tb)(hs:zpn b):PD X Z (.Subscript a b pos) (dOp wIx ta tb):=zbf (pe_ix do_ix ha hb hs) λ_ _ _ h=>zkU h
end
structure Bk (fs:List Addr)(H H':Hp)(B h:Heap)(ea:Addr):Prop where
 trk:∀b u,H' b=some u→∃o,B.get? b=some o
 old:∀b o,h.get? b=some o→H b=none→b ∉ fs→B.get? b=some o
 all:∀b o,h.get? b=some o→b ∉ fs→∃o',B.get? b=some o'
 new:H' ea=none
def CXE (P:Program)(w:World):CXT:=λouter H s E e s'=>∃(ea c:Addr) (a0:Value) (B:Heap) (H':Hp),e=.ref ea∧s'.os=s.os∧AllBare s'.gens∧Un (frs outer) [] H H' s.heap s'.heap∧HOk P w H' s'.heap∧
 Heap.FlyingW B outer ea (.ref c) a0 s'.heap∧Bk (frs outer) H H' B s.heap ea∧E (.ref c) none H'
section
variable {X:Cx}{pins:List (Addr×Obj)}{σ:St}{H:Hp}{s:Shared}
end
section
variable {P:Program}{w:World}{K:PySem.W.Frag}{mg:Str→Option Value}{base:Heap}{N:List Str}{qual:Str}{scope:Scope}{f:Addr}{cdv:Value}{A:Around}{outer:List Env}{s0:Shared}{H0:Hp}{E:XK}
end
structure Xc (K:PySem.W.Frag)(mg:Str→Option Value)(x:Str)(C:Addr)(bm:List Value)(nid:String):Prop where
 bound:mg x=some (.ref C)
 ex:PySem.W.excIn K C bm nid=true
abbrev WC:=List D→Sto→DK→Prop
abbrev Sd:=List D→Sto→DK→(Addr→Sto→Prop)→Prop
def upC (K:PySem.W.Frag)(Z:Zx)(w:WC):List V→Hp→VK→Prop:=λxs H Qv=>∃r S ds Q,Rel K Z r S H∧Rps r H ds xs∧w ds S Q∧Ret K Z r H Q Qv
def upF (K:PySem.W.Frag)(sd:Sd):Sp:=λvs H Qv E=>∃ex:Addr→Sto→Prop,upC K (Zc ex E) (λds S Q=>sd ds S Q ex) vs H Qv
def zlD (w:WC)(t:TDA):TDE:=λdl S Q=>t dl S λds S1=>w ds S1 Q
def zlP (ex:Ev→Addr→Sto→Prop)(sd:Sd)(t:TDA):TDE:=λdl S Q=>t dl S λds S1=>sd ds S1 Q (ex dl)
def zc8 (X:Cx)(W:St→XK):Prop:=∀(pins:List (Addr×Obj)) (σ:St) (H:Hp) (s:Shared) (e:Value) (s':Shared),Inv X pins σ H s→CXE X.prog X.w X.stack H s (W σ) e s'→X.xe e s'
section
variable {X:Cx}{k:Nat}{f:Addr}{fd:FuncData}{ps:List Str}{sp:Sp}{W:St→XK}{x:Str}{p pos:Pos}{e:Expr}{es:List Expr}{t:TA}
theorem znX {pins:List (Addr×Obj)}{σ:St}{H:Hp}{s:Shared}{Q:VK}{us:List Value}{vs:List V}(F:zbc X.prog X.w X.K X.mg X.base (CXE X.prog X.w) k f fd ps sp)(hr:zaN k X.A)(hb:zbz X.K fd ps [])(hx:zc8 X W)
  (I:Inv X pins σ H s)(r:zaA vs us)(h:sp vs H Q (W σ)):wpAny (model X.prog X.w) X.A (call (.ref f) us) (EP X pins σ Q) X.xe s:=by
 have hl:us.length=ps.length:=by rw[← r.length]; exact F.len _ _ _ _ h
 have hb':=hb s us I.kIn (by rw[Va1]; exact hl)
 rw[Va1] at hb'
 refine wpAny_call (codeAny_mono (F.run X.A X.stack s H ⟨us,[]⟩ us vs Q (W σ) hr I.env0 hb' r h) λz s' hq=>?_)
 cases z with
 | error ev=>exact hx pins σ H s ev s' I hq
 | ok fl=>
  cases fl with
  | ret u=>exact I.after hq
  | _=>exact False.elim hq
theorem zx1 (F:zbc X.prog X.w X.K X.mg X.base (CXE X.prog X.w) k f fd ps sp)(hr:zaN k X.A)(hg:Gl X x)(hm:X.mg x=some (.ref f))(hk:PySem.W.keepIn X.K (.ref f)=true)(hb:zbz X.K fd ps [])(hx:zc8 X W)
  (ha:PA X (e::es) t)(hdb:(x==("__debug__":Str))=false)(he:starEach (e::es) X.env=(false,eval e X.env)::starEach es X.env)(hpl:(backTo pos (starEach es X.env)).any (·.1)=false):
  PE X (.Call (.Name x p) (e::es) [] pos) (λσ H Q=>t σ H λvs H1=>sp vs H1 Q (W σ)):=by
 intro pins s σ H Q I h
 refine wpAny_Call_Name_kw (zpV I hg hm ?_ hdb)
 exact PySem.W.callWith_K (h₀:=X.base) I.ok.mod.kin hk (thn (ha pos pins s σ H _ I h) λus s1 ⟨vs,H1,I1,r,q⟩=>⟨I1.kIn,znX F hr hb hx I1 r q⟩) he hpl
end
section
variable {X:Cx}{Z:Zx}{x:Str}{p pos:Pos}{e:Expr}{es:List Expr}{t:TDA}{id T:String}{w:WC}
theorem zpP {σ:St}{H:Hp}{Qv:VK}(h:up X.K Z (zlD w t) σ H Qv):upA X.K Z t σ H λvs H1=>upC X.K Z w vs H1 Qv:=by
 obtain⟨r,dl,S,Q,rs,rel,h,ret⟩:=h
 exact⟨r,dl,S,_,rs,rel,h,λvs H1 r1 ds S1 e1 rel1 p1 h1=>⟨r1,S1,ds,Q,rel1,p1,h1,ret.ext e1⟩⟩
theorem zaP (hc:zbm X (.builtin id) (upC X.K Z w))(hg:Gl X x)(hm:X.mg x=none)(hv:bootBuiltins x=some (.builtin id))(ha:PDA X Z (e::es) t)(hn:x≠"__name__":=by decide)(hdb:(x==("__debug__":Str))=false:=by decide)
  (he:starEach (e::es) X.env=(false,eval e X.env)::starEach es X.env:=by rfl)(hpl:(backTo pos (starEach es X.env)).any (·.1)=false:=by rfl):PD X Z (.Call (.Name x p) (e::es) [] pos) (zlD w t):=
 zbf (znW hc hg hm hv ha hn hdb he hpl) λ_ _ _ h=>zpP h
theorem zdo (hc:zbm X (.type T) (upC X.K Z w))(hg:Gl X x)(hm:X.mg x=none)(hv:bootBuiltins x=some (.type T))(ha:PDA X Z (e::es) t)(hn:x≠"__name__":=by decide)(hdb:(x==("__debug__":Str))=false:=by decide)
  (he:starEach (e::es) X.env=(false,eval e X.env)::starEach es X.env:=by rfl)(hpl:(backTo pos (starEach es X.env)).any (·.1)=false:=by rfl):PD X Z (.Call (.Name x p) (e::es) [] pos) (zlD w t):=
 zbf (zu0 hc hg hm hv ha hn hdb he hpl) λ_ _ _ h=>zpP h
theorem znG {sd:Sd}{r:List Addr}{S:Sto}{H:Hp}{dl:Ev}{σ:St}{ds:List D}{vs:List V}{Q:DK}{Qv:VK}(rs:Rs r H dl σ)(rel:Rel X.K Z r S H)(p:Rps r H ds vs)(h:sd ds S Q (Z.ex dl))(ret:Ret X.K Z r H Q Qv):upF X.K sd vs H Qv (Z.w σ):=
 ⟨Z.ex dl,r,S,ds,Q,⟨rel.b,λ_ _ c H' r' S' x _ rb q=>rel.xw dl σ c H' r' S' x (rs.ext x) rb q⟩,p,h,λv H' r' d S' x rel' pv q=>ret v H' r' d S' x ⟨rel'.b,rel.xw.ext x⟩ pv q⟩
theorem zxN {k:Nat}{f:Addr}{fd:FuncData}{ps:List Str}{sd:Sd}(F:zbc X.prog X.w X.K X.mg X.base (CXE X.prog X.w) k f fd ps (upF X.K sd))(hr:zaN k X.A)(hg:Gl X x)(hm:X.mg x=some (.ref f))(hk:PySem.W.keepIn X.K (.ref f)=true)
  {ex:Ev→Addr→Sto→Prop}{W:St→XK}(hb:zbz X.K fd ps [])(hx:zc8 X W)(ha:PDA X ⟨ex,W⟩ (e::es) t)(hdb:(x==("__debug__":Str))=false:=by decide)(he:starEach (e::es) X.env=(false,eval e X.env)::starEach es X.env:=by rfl)
  (hpl:(backTo pos (starEach es X.env)).any (·.1)=false:=by rfl):PD X ⟨ex,W⟩ (.Call (.Name x p) (e::es) [] pos) (zlP ex sd t):=
 zbf (zx1 F hr hg hm hk hb hx ha hdb he hpl) λσ H Qv ⟨r,dl,S,Q,rs,rel,h,ret⟩=>⟨r,dl,S,_,rs,rel,h,λvs H1 r1 ds S1 e1 rel1 p1 h1=>znG (Z:=⟨ex,W⟩) (rs.ext e1) rel1 p1 h1 (ret.ext e1)⟩
def wAbs:WC:=λds S Q=>match ds with
 | [.int i]=>Q (.int (if i<0 then -i else i)) S
 | _=>False
theorem zkE:zbm X (.builtin "abs") (upC X.K Z wAbs):=znD zug λxs H Qv ⟨r,S,ds,Q,rel,ps,q,ret⟩=>by
 unfold wAbs at q
 split at q
 ·rename_i i
  obtain⟨v,vs,rfl,p1,p2⟩:=ps.uncons
  have z:=p2.unnil
  subst z
  cases p1
  exact⟨i,rfl,ret _ _ _ _ _ Ext.refl rel (.int _) q⟩
 ·exact q.elim
def zdX:List D→Option (List Int)
 | []=>some []
 | .int i::r=>(zdX r).map (i::·)
 | _::_=>none
def zd1 (le:Int→Int→Prop)(two:Int→Int→Int):WC:=λds S Q=>match ds with
 | [.int i,.int j]=>Q (.int (two i j)) S
 | [.ref n]=>match lAt S n with
  | some o=>match zdX (zaz o) with
   | some xs=>xs≠[]∧∀m,m∈xs→(∀y∈xs,le y m)→Q (.int m) S
   | none=>False
  | none=>False
 | _=>False
abbrev wMax:WC:=zd1 (λy m=>y≤m) λi j=>if j > i then j else i
abbrev wMin:WC:=zd1 (λy m=>m≤y) λi j=>if j<i then j else i
theorem zop {r:List Addr}{H:Hp}:∀ {ds:List D} {ns:List Int} {vs:List V} {us:List Value},zdX ds=some ns→Rps r H ds vs→zaA vs us→∃xs:List (Int×Tok),us.toArray=intItems xs.toArray∧xs.map (·.1)=ns
 | [],ns,vs,us,e,p,q=>by
  have z:=p.unnil
  subst z
  cases q
  simp[zdX] at e
  subst e
  exact⟨[],by simp[intItems],rfl⟩
 | d::ds,ns,vs,us,e,p,q=>by
  obtain⟨v,vs',rfl,p1,p2⟩:=p.uncons
  cases d with
  | int i=>
   cases p1
   cases q with
   | cons q1 q2=>
    obtain⟨t,rfl⟩:=q1
    simp only[zdX,Vaq] at e
    obtain⟨ms,e1,rfl⟩:=e
    obtain⟨xs,h1,h2⟩:=zop e1 p2 q2
    refine⟨(i,t)::xs,?_,by simp[h2]⟩
    simp[intItems] at h1 ⊢
    exact h1
  | _=>simp[zdX] at e
theorem zre (f:Nat→Int):∀k j,j≤k→f j≤f (argBest (λi j=>decide (f i > f j)) k)
 | 0,j,h=>by
  have z:j=0:=by omega
  subst z
  exact VaD _
 | k+1,j,h=>by
  have ih:=zre f k
  unfold argBest
  split
  ·rename_i hb
   have hb':f (k+1) > f (argBest (λi j=>decide (f i > f j)) k):=of_decide_eq_true hb
   by_cases z:j=k+1
   ·subst z; exact VaD _
   ·have:=ih j (by omega); omega
  ·rename_i hb
   have hb':¬ f (k+1) > f (argBest (λi j=>decide (f i > f j)) k):=λq=>hb (decide_eq_true q)
   by_cases z:j=k+1
   ·subst z; omega
   ·exact ih j (by omega)
theorem zqm (f:Nat→Int):∀k j,j≤k→f (argBest (λi j=>decide (f i<f j)) k)≤f j
 | 0,j,h=>by
  have z:j=0:=by omega
  subst z
  exact VaD _
 | k+1,j,h=>by
  have ih:=zqm f k
  unfold argBest
  split
  ·rename_i hb
   have hb':f (k+1)<f (argBest (λi j=>decide (f i<f j)) k):=of_decide_eq_true hb
   by_cases z:j=k+1
   ·subst z; exact VaD _
   ·have:=ih j (by omega); omega
  ·rename_i hb
   have hb':¬ f (k+1)<f (argBest (λi j=>decide (f i<f j)) k):=λq=>hb (decide_eq_true q)
   by_cases z:j=k+1
   ·subst z; omega
   ·exact ih j (by omega)
theorem zot (bt:Nat→Nat→Bool):∀k,argBest bt k≤k
 | 0=>Vab _
 | k+1=>by
  unfold argBest
  split
  ·exact Vab _
  ·exact Nat.le_succ_of_le (zot bt k)
theorem zpc {xs:List (Int×Tok)}{ns:List Int}(h:xs.map (·.1)=ns){j:Nat}{y:Int}(e:ns[j]?=some y):numAt xs.toArray j=y:=by
  subst h
  unfold numAt
  rw[Vai] at e
  simp only[List.getElem?_toArray]
  cases q:xs[j]? with
  | none=>
   rw[q] at e
   cases e
  | some z=>rw[q] at e; simpa using e
theorem zp8 {xs:List (Int×Tok)}{ns:List Int}(h:xs.map (·.1)=ns){j:Nat}(hj:j<ns.length):numAt xs.toArray j∈ns:=by
 have e:ns[j]?=some ns[j]:=by simp[hj]
 rw[zpc h e]
 exact List.getElem_mem hj
theorem zb8 (hc:X.calm=true):zbm X (.builtin "max") (upC X.K Z wMax):=by
 intro pins s σ H xs us Qv I rv h
 obtain⟨r,S,ds,Q,rel,ps,q,ret⟩:=h
 unfold wMax zd1 at q
 split at q
 ·rename_i i j
  obtain⟨v,vs,rfl,p1,p2⟩:=ps.uncons
  obtain⟨v2,vs2,rfl,p3,p4⟩:=p2.uncons
  have z:=p4.unnil
  subst z
  cases p1
  cases p3
  exact ztQ hc pins s σ H _ us Qv I rv ⟨i,j,rfl,ret _ _ _ _ _ Ext.refl rel (.int _) q⟩
 ·rename_i n
  obtain⟨v,vs,rfl,p1,p2⟩:=ps.uncons
  have z:=p2.unnil
  subst z
  split at q
  ·rename_i o eo
   split at q
   ·rename_i ns en
    obtain⟨hne,q⟩:=q
    obtain⟨eo,eL⟩:=zb3 eo
    obtain⟨a,ha,ob⟩:=rel.at eo
    cases p1 with
    | ref h1=>
     rw[h1] at ha; cases ha
     obtain⟨ys,sq,pr⟩:=ob.list eL
     obtain⟨u,rfl,ru⟩:=zeL rv
     cases ru
     obtain⟨its,ri,pl,hz⟩:=I.list sq
     obtain⟨zs,hz1,hz2⟩:=zop en pr ri
     have hl:zs.length=ns.length:=by rw[← hz2,Vaa]
     have hpos:0<ns.length:=List.length_pos_iff.mpr hne
     have isl:=pl.isList
     rw[hz1] at isl
     refine max_intList (I.ok.hd hc) isl (by simp; omega) λv h' tk hv hk=>?_
     have hvi:=intItems_at hv
     obtain⟨t,rfl⟩:=hvi
     have hb:=zot (λi j=>decide (numAt zs.toArray i > numAt zs.toArray j)) (zs.toArray.size-1)
     have hsz:zs.toArray.size=ns.length:=by simp[hl]
     refine⟨.int _,H,I.kept hk,⟨_,rfl⟩,ret _ _ _ _ _ Ext.refl rel (.int _) (q _ (zp8 hz2 (by omega)) λy hy=>?_)⟩
     obtain⟨j,hj,ej⟩:=VaJ.mp hy
     have e1:=zpc hz2 (show ns[j]?=some y by simp[hj,ej])
     rw[← e1]
     exact zre _ _ j (by omega)
   ·exact q.elim
  ·exact q.elim
 ·exact q.elim
theorem zdh (hc:X.calm=true):zbm X (.builtin "min") (upC X.K Z wMin):=by
 intro pins s σ H xs us Qv I rv h
 obtain⟨r,S,ds,Q,rel,ps,q,ret⟩:=h
 unfold wMin zd1 at q
 split at q
 ·rename_i i j
  obtain⟨v,vs,rfl,p1,p2⟩:=ps.uncons
  obtain⟨v2,vs2,rfl,p3,p4⟩:=p2.uncons
  have z:=p4.unnil
  subst z
  cases p1
  cases p3
  exact zwQ hc pins s σ H _ us Qv I rv ⟨i,j,rfl,ret _ _ _ _ _ Ext.refl rel (.int _) q⟩
 ·rename_i n
  obtain⟨v,vs,rfl,p1,p2⟩:=ps.uncons
  have z:=p2.unnil
  subst z
  split at q
  ·rename_i o eo
   split at q
   ·rename_i ns en
    obtain⟨hne,q⟩:=q
    obtain⟨eo,eL⟩:=zb3 eo
    obtain⟨a,ha,ob⟩:=rel.at eo
    cases p1 with
    | ref h1=>
     rw[h1] at ha; cases ha
     obtain⟨ys,sq,pr⟩:=ob.list eL
     obtain⟨u,rfl,ru⟩:=zeL rv
     cases ru
     obtain⟨its,ri,pl,hz⟩:=I.list sq
     obtain⟨zs,hz1,hz2⟩:=zop en pr ri
     have hl:zs.length=ns.length:=by rw[← hz2,Vaa]
     have hpos:0<ns.length:=List.length_pos_iff.mpr hne
     have isl:=pl.isList
     rw[hz1] at isl
     refine min_intList (I.ok.hd hc) isl (by simp; omega) λv h' tk hv hk=>?_
     have hvi:=intItems_at hv
     obtain⟨t,rfl⟩:=hvi
     have hb:=zot (λi j=>decide (numAt zs.toArray i<numAt zs.toArray j)) (zs.toArray.size-1)
     have hsz:zs.toArray.size=ns.length:=by simp[hl]
     refine⟨.int _,H,I.kept hk,⟨_,rfl⟩,ret _ _ _ _ _ Ext.refl rel (.int _) (q _ (zp8 hz2 (by omega)) λy hy=>?_)⟩
     obtain⟨j,hj,ej⟩:=VaJ.mp hy
     have e1:=zpc hz2 (show ns[j]?=some y by simp[hj,ej])
     rw[← e1]
     exact zqm _ _ j (by omega)
   ·exact q.elim
  ·exact q.elim
 ·exact q.elim
def ze6:WC:=λds S Q=>match ds with
 | [.tup xs]=>Q (.int xs.length) S
 | [.ref n]=>match lAt S n with
  | some o=>Q (.int (zaz o).length) S
  | none=>False
 | _=>False
theorem zbC:zbm X (.builtin "len") (upC X.K Z ze6):=znD zvb λxs H Qv ⟨r,S,ds,Q,rel,ps,q,ret⟩=>by
 unfold ze6 at q
 split at q
 ·rename_i ys
  obtain⟨v,vs,rfl,p1,p2⟩:=ps.uncons
  have z:=p2.unnil
  subst z
  obtain⟨a,zs,rfl,h1,h2⟩:=p1.untup
  exact⟨a,zs,rfl,.inr (SqT.of h1),by rw[← h2.1]; exact ret _ _ _ _ _ Ext.refl rel (.int _) q⟩
 ·rename_i n
  obtain⟨v,vs,rfl,p1,p2⟩:=ps.uncons
  have z:=p2.unnil
  subst z
  split at q
  ·rename_i o eo
   obtain⟨eo,eL⟩:=zb3 eo
   obtain⟨a,ha,ob⟩:=rel.at eo
   cases p1 with
   | ref h1=>
    rw[h1] at ha; cases ha
    obtain⟨ys,sq,pr⟩:=ob.list eL
    exact⟨_,ys,rfl,.inl sq,by rw[← pr.1]; exact ret _ _ _ _ _ Ext.refl rel (.int _) q⟩
  ·exact q.elim
 ·exact q.elim
def zc7 (t T:String):Bool:=t==T||(t == "bool"&&T == "int")
def zpO (T:String)(te:TDE):TDE:=λdl S Q=>te dl S λd S1=>match d with
 | .ref _=>False
 | .exc _=>False
 | .non=>Q (.bl (zc7 "NoneType" T)) S1
 | .bl _=>Q (.bl (zc7 "bool" T)) S1
 | .int _=>Q (.bl (zc7 "int" T)) S1
 | .str _=>Q (.bl (zc7 "str" T)) S1
 | .tup _=>Q (.bl (zc7 "tuple" T)) S1
def Kit (K:PySem.W.Frag)(T:String):Prop:=∀t∈["NoneType","bool","int","str","tuple"],PySem.W.kitOne K (.type t) (.type T)=some (zc7 t T)
def rInst (K:PySem.W.Frag):List V→Hp→VK→Prop:=λxs H Qv=>∃x T t b,xs=[x,.ty T]∧zcb K H x t∧PySem.W.kitOne K t (.type T)=some b∧Qv (.bl b) H
theorem zqY:zbm X (.builtin "isinstance") (rInst X.K):=by
 intro pins s σ H xs us Q I r h
 obtain⟨x,T,t,b,rfl,ty,e,q⟩:=h
 obtain⟨u,w',rfl,r1,r2⟩:=zoP r
 cases r2
 exact zwy I r1 ty e λtk=>⟨.bl b,H,I.tok tk,rfl,q⟩
theorem zgr {T:String}{te:TDE}{y:Str}{p2:Pos}(KT:Kit X.K T)(hg:Gl X "isinstance")(hm:X.mg "isinstance"=none)(hg2:Gl X y)(hm2:X.mg y=none)(hv2:bootBuiltins y=some (.type T))(ha:PD X Z e te)
  (hv:bootBuiltins "isinstance"=some (.builtin "isinstance"):=by exact PyProof.Rows.Boot.«isinstance»)
  (hn2:y≠"__name__":=by decide)(hd2:(y==("__debug__":Str))=false:=by decide)(he2:starEach [e,.Name y p2] X.env=(false,eval e X.env)::starEach [.Name y p2] X.env:=by rfl)
  (he3:starEach [.Name y p2] X.env=(false,eval (.Name y p2) X.env)::starEach [] X.env:=by rfl)(hpl:(backTo pos (starEach [.Name y p2] X.env)).any (·.1)=false:=by rfl):
  PD X Z (.Call (.Name "isinstance" p) [e,.Name y p2] [] pos) (zpO T te):=
 zbf (znW zqY hg hm hv (zfF ha (zfF (zqM (v:=.ty T) hg2 hm2 hv2 rfl hn2 hd2) zjh he3) he2) (by decide) (by decide) he2 hpl) λσ H Qv ⟨r,dl,S,Q,rs,rel,h,ret⟩=>
  ⟨r,dl,S,_,rs,rel,h,λv H1 r1 d S1 e1 rel1 p1 h1=>by
   cases p1 with
   | non=>exact⟨_,T,_,_,rfl,.non,KT _ (by simp),ret _ _ _ _ _ e1 rel1 (.bl _) h1⟩
   | bl b=>exact⟨_,T,_,_,rfl,.bl b,KT _ (by simp),ret _ _ _ _ _ e1 rel1 (.bl _) h1⟩
   | int b=>exact⟨_,T,_,_,rfl,.int b,KT _ (by simp),ret _ _ _ _ _ e1 rel1 (.bl _) h1⟩
   | str b=>exact⟨_,T,_,_,rfl,.str b,KT _ (by simp),ret _ _ _ _ _ e1 rel1 (.bl _) h1⟩
   | tup e2 _ _=>exact⟨_,T,_,_,rfl,.tup e2,KT _ (by simp),ret _ _ _ _ _ e1 rel1 (.bl _) h1⟩
   | ref _=>exact(show False from h1).elim
   | exc _=>exact(show False from h1).elim⟩
end
section
variable {X:Cx}{Z:Zx}{st:Stmt}{zbj:List Stmt}{t u:TDS}{e:Expr}{te:TDE}{pos:Pos}
def zoC:TDS:=λE dl S=>E.nx dl S
def zby (t u:TDS):TDS:=λE dl S=>t { nx:=λdl' S'=>u E dl' S',rt:=E.rt,bk:=E.bk,ct:=E.ct } dl S
theorem zaw:zci X Z [] zoC:=zrz zxn λF σ H ⟨r,dl,S,E,rs,rel,h,ret⟩=>ret.nx σ H r dl S Ext.refl rs rel h
theorem zae (h1:PDS X Z st t)(h2:zci X Z zbj u):zci X Z (st::zbj) (zby t u):=
 zrz (zwr h1 h2) λF σ H ⟨r,dl,S,E,rs,rel,h,ret⟩=>⟨r,dl,S,_,rs,rel,h,λσ' H' r' dl' S' x rs' rel' q=>⟨r',dl',S',E,rs',rel',q,ret.ext x⟩,ret.bk,ret.ct,ret.rt⟩
theorem zag (h1:PDS X Z st t):zci X Z [st] t:=zyb h1
def zq6 (te:TDE):TDS:=λE dl S=>te dl S λ_ S1=>E.nx dl S1
theorem zbJ (he:PD X Z e te)(hs:swapsWith e none pos.line X.env=pure false:=by rfl):PDS X Z (.Expr e pos) (zq6 te):=
 zbD (zuA he hs) λF σ H ⟨r,dl,S,E,rs,rel,h,ret⟩=>⟨r,dl,S,_,rs,rel,h,λv H1 r1 d S1 x rel1 p q=>ret.nx σ H1 r1 dl S1 x (rs.ext x) rel1 q⟩
def dRet (te:TDE):TDS:=λE dl S=>te dl S E.rt
theorem zak (he:PD X Z e te):PDS X Z (.Return (some e) pos) (dRet te):=
 zbD (zun he) λF σ H ⟨r,dl,S,E,rs,rel,h,ret⟩=>⟨r,dl,S,_,rs,rel,h,ret.rt⟩
def dRetN:TDS:=λE _ S=>E.rt .non S
def dIf (c:TDT)(t u:TDS):TDS:=λE dl S=>c dl S λk S1=>if k=true then t E dl S1 else u E dl S1
theorem zav {c:Expr}{a b:List Stmt}{tc:TDT}(hc:PDT X Z c tc)(ha:zci X Z a t)(hb:zci X Z b u):PDS X Z (.If c a b pos) (dIf tc t u):=
 zbD (ps_if hc ha hb) λF σ H ⟨r,dl,S,E,rs,rel,h,ret⟩=>⟨r,dl,S,_,rs,rel,h,λk H1 r1 S1 x rel1 q=>by
  cases k with
  | true=>exact zcv ⟨r1,dl,S1,E,rs.ext x,rel1,(by simpa using q),ret.ext x⟩
  | false=>exact zbO ⟨r1,dl,S1,E,rs.ext x,rel1,(by simpa using q),ret.ext x⟩⟩
def zki (i:Nat)(te:TDE):TDS:=λE dl S=>te dl S λd S1=>E.nx (dl.set i (some d)) S1
theorem zam {i:Nat}{x:Str}{pos':Pos}(hN:X.N.Nodup)(hi:X.N[i]?=some x)(hx:Loc X.env.scope x)(he:PD X Z e te)(hs:swapsWith e (some (.Name x pos')) pos.line X.env=pure false:=by rfl)
  (hf:X.fn x=true∨X.env.scope.names.lookup x=some .local:=by first | exact .inl rfl | exact .inr rfl | assumption):PDS X Z (.Assign [.Name x pos'] e pos) (zki i te):=
 zbD (ztR hN hi hx he hs hf) λF σ H ⟨r,dl,S,E,rs,rel,h,ret⟩=>⟨r,dl,S,_,rs,rel,h,λv H1 r1 d S1 x rel1 p q=>ret.nx _ H1 r1 _ S1 x ((rs.ext x).set i p) rel1 q⟩
def zyV (c:TDT)(tb:TDS):TDS:=λE dl S=>∃W:Nat→Ev→Sto→Prop,(∃m,W m dl S)∧∀m dl S,W m dl S→
 c dl S λk S1=>if k=true then tb { nx:=λdl' S'=>∃m',m'<m∧W m' dl' S',rt:=E.rt,bk:=E.nx,ct:=λdl' S'=>∃m',m'<m∧W m' dl' S' } dl S1 else E.nx dl S1
theorem zqA {c:Expr}{body:List Stmt}{tc:TDT}{tb:TDS}(hp:PassesOwn (model X.prog X.w) X.A X.env X.xe)(hc:PDT X Z c tc)(hb:zci X Z body tb):PDS X Z (.While c body [] pos) (zyV tc tb):=
 zbD (zxI hp hc hb) λF σ H ⟨r,dl,S,E,rs,rel,⟨W,⟨m0,w0⟩,turn⟩,ret⟩=>by
  refine⟨λm σ' H'=>∃r' dl' S',Ext r r' H H'∧Rs r' H' dl' σ'∧Rel X.K Z r' S' H'∧W m dl' S',⟨m0,r,dl,S,Ext.refl,rs,rel,w0⟩,?_⟩
  rintro m σ1 H1 ⟨r1,dl1,S1,x1,rs1,rel1,w1⟩
  refine⟨r1,dl1,S1,_,rs1,rel1,turn m dl1 S1 w1,λk H2 r2 S2 x2 rel2 q2=>?_⟩
  cases k with
  | true=>
   refine zcv ⟨λσ' H'=>∃m',m'<m∧∃r' dl' S',Ext r r' H H'∧Rs r' H' dl' σ'∧Rel X.K Z r' S' H'∧W m' dl' S',λ_ _ z=>z,r2,dl1,S2,_,rs1.ext x2,rel2,(by simpa using q2),?_⟩
   have go:∀σ' H' r' dl' S',Ext r2 r' H2 H'→Rs r' H' dl' σ'→Rel X.K Z r' S' H'→(∃m',m'<m∧W m' dl' S')→∃m',m'<m∧∃r' dl' S',Ext r r' H H'∧Rs r' H' dl' σ'∧Rel X.K Z r' S' H'∧W m' dl' S':=
    λσ' H' r' dl' S' x rs' rel' ⟨m',hm,w'⟩=>⟨m',hm,r',dl',S',x1.trans (x2.trans x),rs',rel',w'⟩
   exact⟨go,λσ' H' r' dl' S' x rs' rel' q=>ret.nx σ' H' r' dl' S' (x1.trans (x2.trans x)) rs' rel' q,go,ret.rt.ext (x1.trans x2)⟩
  | false=>exact zbO (ret.nx σ1 H2 r2 dl1 S2 (x1.trans x2) (rs1.ext x2) rel2 (by simpa using q2))
def dFor (i:Nat)(tl:TDE)(tb:TDS):TDS:=λE dl S=>tl dl S λd S1=>match d with
 | .ref n=>(lAt S1 n).isSome=true∧∃W:Nat→Nat→Ev→Sto→Prop,(∃m,W 0 m dl S1)∧∀k m dl S,W k m dl S→match lAt S n with
  | some o=>match (zaz o)[k]? with
   | some x=>tb { nx:=λdl' S'=>∃m',m'<m∧W (k+1) m' dl' S',rt:=E.rt,bk:=E.nx,ct:=λdl' S'=>∃m',m'<m∧W (k+1) m' dl' S' } (dl.set i (some x)) S
   | none=>E.nx dl S
  | none=>False
 | _=>False
theorem zda {i:Nat}{x:Str}{pos':Pos}{iter:Expr}{body:List Stmt}{tl:TDE}{tb:TDS}(hp:PassesOwn (model X.prog X.w) X.A X.env X.xe)(hc:X.calm=true)(hN:X.N.Nodup)(hi:X.N[i]?=some x)(hx:Loc X.env.scope x)
  (hl:PD X Z iter tl)(hb:zci X Z body tb)(hf:X.fn x=true∨X.env.scope.names.lookup x=some .local:=by first | exact .inl rfl | exact .inr rfl | assumption)
  (hs:∀y,foldedSetIterable iter X.env y=pure y:=by intro _; rfl):PDS X Z (.For (.Name x pos') iter body [] pos) (dFor i tl tb):=
 zbD (zgx hp hc (znU hl) (zeS hN hi hx hf) hb hs) λF σ H ⟨r,dl,S,E,rs,rel,h,ret⟩=>by
  refine⟨r,dl,S,_,rs,rel,h,λv H1 r1 d S1 x1 rel1 p1 q1=>?_⟩
  cases p1 with
  | @ref n a hn=>
   obtain⟨hsome,W,⟨m0,w0⟩,turn⟩:=q1
   have sql:∀ {r':List Addr} {S':Sto} {H':Hp} {o:Ob},Ext r1 r' H1 H'→Rel X.K Z r' S' H'→lAt S' n=some o→∃xs,SqL X.K H' a xs∧Rps r' H' (zaz o) xs:=λ{r' S' H' o} x' rel' eo=>by
    obtain⟨eo,eL⟩:=zb3 eo
    obtain⟨a',ha,ob⟩:=rel'.at eo
    rw[x'.adr n a hn] at ha; cases ha
    exact ob.list eL
   obtain⟨o1,eo1⟩:=Option.isSome_iff_exists.mp hsome
   obtain⟨xs1,sq1,_⟩:=sql Ext.refl rel1 eo1
   refine⟨a,rfl,⟨xs1,sq1⟩,λk m σ' H'=>∃r' dl' S',Ext r1 r' H1 H'∧Rs r' H' dl' σ'∧Rel X.K Z r' S' H'∧W k m dl' S',⟨m0,r1,dl,S1,Ext.refl,rs.ext x1,rel1,w0⟩,?_⟩
   rintro k m σ2 H2 ⟨r2,dl2,S2,x2,rs2,rel2,w2⟩
   have q:=turn k m dl2 S2 w2
   split at q
   ·rename_i o eo
    obtain⟨xs,sq,pr⟩:=sql x2 rel2 eo
    split at q
    ·rename_i y ey
     obtain⟨v,hv,pv⟩:=pr.get ey
     have go:∀ {r3:List Addr} {H3:Hp},Ext r2 r3 H2 H3→∀σ' H' r' dl' S',Ext r3 r' H3 H'→Rs r' H' dl' σ'→Rel X.K Z r' S' H'→(∃m',m'<m∧W (k+1) m' dl' S')→∃m',m'<m∧∃r' dl' S',Ext r1 r' H1 H'∧Rs r' H' dl' σ'∧Rel X.K Z r' S' H'∧W (k+1) m' dl' S':=
      λ{r3 H3} x3 σ' H' r' dl' S' x rs' rel' ⟨m',hm,w'⟩=>⟨m',hm,r',dl',S',x2.trans (x3.trans x),rs',rel',w'⟩
     refine .inr ⟨⟨xs,v,sq,hv⟩,λσ' H'=>∃m',m'<m∧∃r' dl' S',Ext r1 r' H1 H'∧Rs r' H' dl' σ'∧Rel X.K Z r' S' H'∧W (k+1) m' dl' S',λ_ _ z=>z,λv' H' y'=>?_⟩
     obtain⟨eH,y'⟩:=y'
     subst eH
     have ev:v'=v:=by
      have z:=y' xs sq
      rw[hv] at z; exact(Option.some.inj z).symm
     subst ev
     exact⟨r2,_,S2,_,rs2.set i pv,rel2,q,go Ext.refl,λσ' H' r' dl' S' x rs' rel' z=>ret.nx σ' H' r' dl' S' (x1.trans (x2.trans x)) rs' rel' z,go Ext.refl,ret.rt.ext (x1.trans x2)⟩
    ·rename_i ey
     have hlen:(zaz o).length≤k:=VaL.mp ey
     exact .inl ⟨⟨xs,sq,by rw[← pr.1]; exact hlen⟩,ret.nx σ2 H2 r2 dl2 S2 (x1.trans x2) rs2 rel2 q⟩
   ·exact q.elim
  | _=>exact(show False from q1).elim
def dForR (i:Nat)(ta:TDA)(tb:TDS):TDS:=λE dl S=>ta dl S λds S1=>match ds with
 | [.int j]=>(-(2^62)≤j∧j<2^62)∧∃W:Nat→Ev→Sto→Prop,W 0 dl S1∧∀k dl S,W k dl S→
   if k<j.toNat then tb { nx:=λdl' S'=>W (k+1) dl' S',rt:=E.rt,bk:=E.nx,ct:=λdl' S'=>W (k+1) dl' S' } (dl.set i (some (.int k))) S else E.nx dl S
 | _=>False
theorem zn6 {i:Nat}{x:Str}{pos2 pos' p:Pos}{a:Expr}{body:List Stmt}{ta:TDA}{tb:TDS}(hp:PassesOwn (model X.prog X.w) X.A X.env X.xe)(hc:X.calm=true)(hN:X.N.Nodup)(hi:X.N[i]?=some x)(hx:Loc X.env.scope x)
  (hg:Gl X "range")(hm:X.mg "range"=none)(ha:PDA X Z [a] ta)(hb:zci X Z body tb)(hf:X.fn x=true∨X.env.scope.names.lookup x=some .local:=by first | exact .inl rfl | exact .inr rfl | assumption)
  (hs:∀y,foldedSetIterable (.Call (.Name "range" p) [a] [] pos) X.env y=pure y:=by intro _; rfl)(hst:starEach [a] X.env=[(false,eval a X.env)]:=by rfl):
  PDS X Z (.For (.Name x pos') (.Call (.Name "range" p) [a] [] pos) body [] pos2) (dForR i ta tb):=
 zbD (zgx hp hc (zpX hg hm ha hst) (zeS hN hi hx hf) hb hs) λF σ H ⟨r,dl,S,E,rs,rel,h,ret⟩=>by
  refine⟨r,dl,S,_,rs,rel,h,λvs H1 r1 ds S1 x1 rel1 p1 q1=>?_⟩
  split at q1
  ·rename_i j
   obtain⟨v,vs',rfl,p2,p3⟩:=p1.uncons
   have z:=p3.unnil
   subst z
   cases p2
   obtain⟨⟨b1,b2⟩,W,w0,turn⟩:=q1
   refine⟨j,rfl,b1,b2,λk m σ' H'=>m=j.toNat-k∧∃r' dl' S',Ext r1 r' H1 H'∧Rs r' H' dl' σ'∧Rel X.K Z r' S' H'∧W k dl' S',⟨j.toNat,by simp,r1,dl,S1,Ext.refl,rs.ext x1,rel1,w0⟩,?_⟩
   rintro k m σ2 H2 ⟨em,r2,dl2,S2,x2,rs2,rel2,w2⟩
   have q:=turn k dl2 S2 w2
   split at q
   ·rename_i hk
    have go:∀σ' H' r' dl' S',Ext r2 r' H2 H'→Rs r' H' dl' σ'→Rel X.K Z r' S' H'→W (k+1) dl' S'→∃r' dl' S',Ext r1 r' H1 H'∧Rs r' H' dl' σ'∧Rel X.K Z r' S' H'∧W (k+1) dl' S':=
     λσ' H' r' dl' S' x rs' rel' w'=>⟨r',dl',S',x2.trans x,rs',rel',w'⟩
    have pk:Rp r2 H2 (.int (k:Int)) (.int (0+(k:Int))):=by rw[Int.zero_add]; exact .int _
    refine .inr ⟨hk,λσ' H'=>∃r' dl' S',Ext r1 r' H1 H'∧Rs r' H' dl' σ'∧Rel X.K Z r' S' H'∧W (k+1) dl' S',λσ' H' z=>⟨j.toNat-(k+1),by omega,rfl,z⟩,λv' H' y'=>?_⟩
    obtain⟨eH,y'⟩:=y'
    subst eH
    subst y'
    exact⟨r2,_,S2,_,rs2.set i pk,rel2,q,go,λσ' H' r' dl' S' x rs' rel' z=>ret.nx σ' H' r' dl' S' (x1.trans (x2.trans x)) rs' rel' z,go,ret.rt.ext (x1.trans x2)⟩
   ·rename_i hk
    exact .inl ⟨by show j.toNat≤k; omega,ret.nx σ2 H2 r2 dl2 S2 (x1.trans x2) rs2 rel2 q⟩
  ·exact q1.elim
end
def zeD (N:List Str)(ds:List D):Ev:=ds.map some++List.replicate (N.length-ds.length) none
theorem zrX {r:List Addr}{H:Hp}{N:List Str}{ds:List D}{vs:List V}(h:Rps r H ds vs):Rs r H (zeD N ds) (L2.zcz N vs):=by
  refine⟨by simp[zeD,L2.zcz,h.1],λi d e=>?_⟩
  unfold zeD at e
  by_cases hi:i<ds.length
  · rw[Vak (by simpa using hi),Vai] at e
    cases q:ds[i]? with
    | none=>
   rw[q] at e
   cases e
    | some z=>
      rw[q] at e
      cases e
      obtain⟨v,hv,pv⟩:=h.get q
      refine⟨v,?_,pv⟩
      unfold L2.zcz
      rw[Vak (by simpa [h.1] using hi),Vai,hv]
      rfl
  · rw[VaO (by simpa using hi),List.getElem?_replicate] at e
    split at e <;> cases e
section
variable {P:Program}{w:World}{K:PySem.W.Frag}{mg:Str→Option Value}{base:Heap}
abbrev Z0:Zx:=Zc (λ_ _=>False) (λ_ _ _=>False)
theorem zcF {X:Cx}:zc8 X Z0.w:=λ_ _ _ _ _ _ _ h=>by
 obtain⟨_,_,_,_,_,_,_,_,_,_,_,_,q⟩:=h
 exact q.elim
theorem zax {x qual:Str}{st:Stmt}{f:Addr}{fd:FuncData}{N ps:List Str}{k:Nat}{sd:Sd}(F:Fun K x qual st f fd)(Sc:zau N ps (zar st))(len:∀ds S Q ex,sd ds S Q ex→ds.length=ps.length)
  (hbody:∀(cdv:Value) (A:Around) (outer:List Env) (s:Shared) (H:Hp) (E:XK),zaN k (A.deeper (envOfC qual (zar st) s.heap.objs.size f cdv))→
   ∃t,zci (zd0 (CXE P w) P w K mg base N qual (zar st) f cdv A outer s H E).nox Z0 (zde st) t∧∀ds S Q ex,sd ds S Q ex→t { nx:=λ_ S'=>Q .non S',rt:=Q } (zeD N ds) S):zbc P w K mg base (CXE P w) (k+1) f fd ps (upF K sd):=by
 obtain⟨oc,od,kV,doc,pm,an,cdv,ct,osl,rfl,lk,hcd⟩:=F.ex
 refine zq4 lk hcd Sc (λvs H Q E h=>?_) λA outer s H vs Q E hr h=>?_
 ·obtain⟨ex,r,S,ds,Q',rel,p,q,ret⟩:=h
  rw[← p.1]
  exact len ds S Q' ex q
 ·obtain⟨ex,r,S,ds,Q',rel,p,q,ret⟩:=h
  obtain⟨t,ht,hq⟩:=hbody cdv A outer s H E hr
  have back:∀ {H':Hp} {r':List Addr} {S':Sto},Ext r r' H H'→Rel K Z0 r' S' H'→Rel K (Zc ex E) r' S' H':=λx rel'=>⟨rel'.b,rel.xw.ext x⟩
  refine⟨upS K Z0 t,ht.nox,r,zeD N ds,S,_,zrX p,⟨rel.b,λ_ _ _ _ _ _ _ _ _ z=>z.elim⟩,hq ds S Q' ex q,?_,?_,?_,?_⟩
  ·intro σ' H' r' dl' S' x _ rel' z
   exact ret .non H' r' .non S' x (back x rel') .non z
  ·intro σ' H' r' dl' S' x _ rel' z
   exact z
  ·intro σ' H' r' dl' S' x _ rel' z
   exact z
  ·intro v H' r' d S' x rel' p' z
   exact ret v H' r' d S' x (back x rel') p' z
end
open PySem
def Sz (n:Nat)(i:Int):Prop:=i.natAbs<2^n
theorem Sz.mono {m n:Nat}{i:Int}(h:Sz m i)(hn:m≤n):Sz n i:=Vax h (Nat.pow_le_pow_right (by decide) hn)
theorem Sz.bits {n:Nat}{i:Int}(h:Sz n i):Builtin.Int.intBits i≤n:=by
 unfold Builtin.Int.intBits
 split
 ·exact Vao _
 ·rename_i hz
  have hp:i.natAbs≠0:=by
   intro z
   have z2:i=0:=by omega
   simp[z2] at hz
  have:=(Nat.log2_lt hp).mpr h
  omega
theorem zaL {m n:Nat}{i j:Int}(hi:Sz m i)(hj:Sz n j)(hm:m≤1048576:=by decide)(hn:n≤1048576:=by decide):IntMulOk i j:=by
 have e20:(2:Nat)^20=1048576:=by decide
 exact IntMulOk.of_bits (VaE hi.bits (by omega)) (VaE hj.bits (by omega))
theorem Sz.of {n:Nat}{i:Int}(m:Nat)(h:i.natAbs≤m)(hm:m<2^n:=by decide):Sz n i:=VaZ h hm
theorem Sz.mul {m n:Nat}{i j:Int}(hi:Sz m i)(hj:Sz n j):Sz (m+n) (i*j):=by
 unfold Sz at *
 rw[Nat.pow_add,Int.natAbs_mul]
 exact Nat.mul_lt_mul'' hi hj
theorem Sz.add {m n:Nat}{i j:Int}(hi:Sz m i)(hj:Sz n j):Sz (max m n+1) (i+j):=by
 have h1:Sz (max m n) i:=hi.mono (Nat.le_max_left _ _)
 have h2:Sz (max m n) j:=hj.mono (Nat.le_max_right _ _)
 unfold Sz at *
 have e:(2:Nat)^(max m n+1)=2^max m n+2^max m n:=by rw[Nat.pow_succ]; omega
 rw[e]
 have:=Int.natAbs_add_le i j
 omega
theorem Sz.neg {m:Nat}{i:Int}(hi:Sz m i):Sz m (-i):=by
 unfold Sz at *
 rw[Int.natAbs_neg]; exact hi
theorem Sz.sub {m n:Nat}{i j:Int}(hi:Sz m i)(hj:Sz n j):Sz (max m n+1) (i-j):=by
 rw[Int.sub_eq_add_neg]; exact hi.add hj.neg
theorem Sz.log {n:Nat}{i:Int}(h:Sz n i)(hi:i≠0)(hn:n≤9000:=by decide):i.natAbs.log2<9000:=by
 have:=(Nat.log2_lt (by omega:i.natAbs≠0)).mpr h
 omega
theorem Sz.fd {n:Nat}{i:Int}(h:Sz n i)(hi:0<i)(hn:n≤9000:=by decide):0<i∧i.natAbs.log2<9000:=⟨hi,h.log (by omega) hn⟩
theorem zaW {a b:Int}(hb:0<b):0≤a%b∧a%b<b:=⟨Int.emod_nonneg _ (by omega),Int.emod_lt_of_pos _ hb⟩
theorem p40:((10:Int)^(40:Int).toNat)=10^40:=rfl
theorem p41:((10:Int)^(41:Int).toNat)=10^41:=rfl
theorem p20:((10:Int)^(20:Int).toNat)=10^20:=rfl
example (x:Int):-(10^40)≤x%(2*10^40+1)-10^40:=by omega
example (x:Int):x%(2*10^40+1)-10^40≤10^40:=by omega
example (x:Int) (h:-(10^40)≤x) (h2:x≤2*10^41):Sz 140 x:=Sz.of (2*10^41) (by omega)
theorem zvt (a b:Int):Int.gcd b (a%b)=Int.gcd a b:=by
 rw[Int.emod_def,show a-b*(a/b)=a-(a/b)*b by rw[Va0],Int.gcd_sub_mul_right_right,Int.gcd_comm]
def zdS (i:Int):Int:=if i<0 then -i else i
theorem zyS (i:Int):0≤zdS i:=by unfold zdS; split <;> omega
theorem ztc (a b:Int):Int.gcd (zdS a) (zdS b)=Int.gcd a b:=by
 have h:∀i:Int,(zdS i).natAbs=i.natAbs:=λi=>by unfold zdS; split <;> omega
 unfold Int.gcd
 rw[h,h]
theorem zyx {T B d:Int}(hB:B≠0)(hd:d=(if B<0 then -((Int.gcd T B:Nat):Int) else ((Int.gcd T B:Nat):Int))):
  d≠0∧T.fdiv d*d=T∧B.fdiv d*d=B∧1≤B.fdiv d∧Int.gcd (T.fdiv d) (B.fdiv d)=1∧T.fdiv d*B=T*B.fdiv d:=by
 have g0:0<Int.gcd T B:=Nat.pos_of_ne_zero λz=>hB (Int.gcd_eq_zero_iff.mp z).2
 have dT:((Int.gcd T B:Nat):Int) ∣ T:=Int.gcd_dvd_left T B
 have dB:((Int.gcd T B:Nat):Int) ∣ B:=Int.gcd_dvd_right T B
 have hne:d≠0:=by
  rw[hd]; split <;> omega
 have eT:d ∣ T:=by rw[hd]; split <;> first | exact Int.neg_dvd.mpr dT | exact dT
 have eB:d ∣ B:=by rw[hd]; split <;> first | exact Int.neg_dvd.mpr dB | exact dB
 have fT:T.fdiv d=T/d:=Int.fdiv_eq_ediv_of_dvd eT
 have fB:B.fdiv d=B/d:=Int.fdiv_eq_ediv_of_dvd eB
 have mT:T.fdiv d*d=T:=by rw[fT]; exact Int.ediv_mul_cancel eT
 have mB:B.fdiv d*d=B:=by rw[fB]; exact Int.ediv_mul_cancel eB
 have gg:Int.gcd (T.fdiv d) (B.fdiv d)=1:=by
  have z:=Int.gcd_ediv_gcd_ediv_gcd g0
  rw[fT,fB,hd]
  split
  ·rw[Int.ediv_neg,Int.ediv_neg,Int.neg_gcd,Int.gcd_neg]; exact z
  ·exact z
 have pos:1≤B.fdiv d:=by
  by_cases hb:B<0
  ·have dn:d<0:=by rw[hd,if_pos hb]; omega
   by_cases q:B.fdiv d≤0
   ·have:=Int.mul_nonneg_of_nonpos_of_nonpos q (VaB dn)
    omega
   ·omega
  ·have dp:0<d:=by rw[hd,if_neg hb]; omega
   by_cases q:B.fdiv d≤0
   ·have:=Vau (show 0≤-(B.fdiv d) by omega) (VaB dp)
    rw[Val] at this
    omega
   ·omega
 refine⟨hne,mT,mB,pos,gg,?_⟩
 calc T.fdiv d*B=T.fdiv d*(B.fdiv d*d):=by rw[mB]
  _=T.fdiv d*d*B.fdiv d:=by grind
  _=T*B.fdiv d:=by rw[mT]
theorem zqz {T d:Int}(hne:d≠0)(mT:T.fdiv d*d=T):(T.fdiv d).natAbs≤T.natAbs:=by
 have h:(T.fdiv d).natAbs*d.natAbs=T.natAbs:=by rw[← Int.natAbs_mul,mT]
 have hd:1≤d.natAbs:=by omega
 calc (T.fdiv d).natAbs=(T.fdiv d).natAbs*1:=by omega
  _≤(T.fdiv d).natAbs*d.natAbs:=Nat.mul_le_mul_left _ hd
  _=T.natAbs:=h
theorem zsb (m:Int){g:Int}(hg:0<g):m/g*g≤m∧m<(m/g+1)*g:=by
 have h1:=Int.emod_add_mul_ediv m g
 have h2:=Int.emod_nonneg m (show g≠0 by omega)
 have h3:=Int.emod_lt_of_pos m hg
 have e:(m/g+1)*g=g*(m/g)+g:=by grind
 have e2:m/g*g=g*(m/g):=Va0 _ _
 omega
section
variable {X:Cx}{Z:Zx}
def wIf (C:Int→Int→Bool)(g:Int→Int→D):W2:=λx y S Q=>match x,y with
 | .int i,.int j=>if C i j=true then Q (g i j) S else False
 | _,_=>False
theorem opIf {f:Value→Value→Sem Value}{C:Int→Int→Prop}{C':Int→Int→Bool}{g:Int→Int→D}(h:OpR X f (upO X.K Z (wI C g)))(hc:∀i j,C' i j=true→C i j):OpR X f (upO X.K Z (wIf C' g)):=
 zeq h λx y H Qv ⟨r,S,dx,dy,Q,rel,px,py,q,ret⟩=>⟨r,S,dx,dy,Q,rel,px,py,by
  unfold wIf at q
  split at q
  ·obtain⟨h1,h2⟩:=zns q
   exact⟨hc _ _ h1,h2⟩
  ·exact q.elim,ret⟩
def zhH (_ j:Int):Bool:=decide (0<j)&&decide (j<1073741824)
abbrev zyv:W2:=wIf zhH λi j=>.int (i/j)
abbrev wModL:W2:=wIf zhH λi j=>.int (i%j)
def powB (i j:Int):Bool:=decide (0≤j)&&decide (j≤1000)&&decide (-1000<i)&&decide (i<1000)
abbrev wPowL:W2:=wIf powB λi j=>.int (i^j.toNat)
theorem zpS {i j:Int}(h:zhH i j=true):0<j∧j<1073741824:=by
 unfold zhH at h
 simpa using h
theorem zbE:OpR X (binaryOp .FloorDiv) (upO X.K Z zyv):=opIf zbo λi j h=>by
 obtain⟨h1,h2⟩:=zpS h
 refine⟨h1,?_⟩
 have:j.natAbs.log2<30:=(Nat.log2_lt (by omega)).mpr (by omega)
 omega
theorem za1:OpR X (binaryOp .Mod) (upO X.K Z wModL):=opIf za2 λi j h=>(zpS h).1
theorem zcq:OpR X (binaryOp .Pow) (upO X.K Z wPowL):=opIf zvB λi j h=>by
 unfold powB at h
 simp at h
 refine⟨h.1.1.1,by have:=h.1.1.2; omega,?_⟩
 have h3:=h.1.2
 have h4:=h.2
 have big:(18446744073709551616:Nat)=2^64:=by decide
 omega
structure Df (K:PySem.W.Frag)(mg:Str→Option Value)(x:Str)(st:Stmt)(ps:List Str) where
 f:Addr
 fd:FuncData
 F:Fun K x x st f fd
 m:mg x=some (.ref f)
 b:zbz K fd ps []
structure Fk (P:Program)(w:World)(K:PySem.W.Frag)(mg:Str→Option Value)(base:Heap)(k:Nat)(x:Str)(ps:List Str)(sd:Sd) where
 f:Addr
 fd:FuncData
 ok:zbc P w K mg base (CXE P w) k f fd ps (upF K sd)
 m:mg x=some (.ref f)
 kp:PySem.W.keepIn K (.ref f)=true
 b:zbz K fd ps []
def Df.mk' {P:Program}{w:World}{K:PySem.W.Frag}{mg:Str→Option Value}{base:Heap}{k:Nat}{x:Str}{st:Stmt}{ps:List Str}{sd:Sd}(d:Df K mg x st ps)(h:zbc P w K mg base (CXE P w) k d.f d.fd ps (upF K sd)):Fk P w K mg base k x ps sd:=
 ⟨d.f,d.fd,h,d.m,d.F.kp,d.b⟩
theorem zob {x:Str}{p pos:Pos}{e:Expr}{es:List Expr}{t:TDA}{k:Nat}{ps:List Str}{sd:Sd}{ex:Ev→Addr→Sto→Prop}{W:St→XK}(G:Fk X.prog X.w X.K X.mg X.base k x ps sd)(hr:zaN k X.A)(hx:zc8 X W)(hg:Gl X x)(ha:PDA X ⟨ex,W⟩ (e::es) t)
  (hdb:(x==("__debug__":Str))=false:=by decide)(he:starEach (e::es) X.env=(false,eval e X.env)::starEach es X.env:=by rfl)(hpl:(backTo pos (starEach es X.env)).any (·.1)=false:=by rfl):
  PD X ⟨ex,W⟩ (.Call (.Name x p) (e::es) [] pos) (zlP ex sd t):=zxN G.ok hr hg G.m G.kp G.b hx ha hdb he hpl
theorem zyh {st:Stmt}:PDS X Z st (λ_ _ _=>False):=zbD ztN λF σ H ⟨_,_,_,_,_,_,h,_⟩=>h
end
def zeA:Sd:=λds S Q _=>∃ns:List Int,ds=[.ref 0]∧S=[.frz (ns.map D.int)]∧ns.length≤63∧∀S',Q (.bl true) S'
theorem ztT:∀ds S Q ex,zeA ds S Q ex→ds.length=1:=λds S Q ex h=>by
 obtain⟨ns,rfl,_⟩:=h
 rfl
theorem zwI {K:PySem.W.Frag}{H:Hp}{a:Addr}{xs:List V}(hO:zgI H)(h:SqL K H a xs):SqF K H a xs:=by
 rcases h with (h | ⟨o,h⟩) | h
 ·rcases hO a with z | ⟨o,ys,z⟩
  ·rw[h] at z; cases z
  ·rw[h] at z; cases z
 ·exact .inl ⟨o,h⟩
 ·exact .inr h
theorem zvx {r:List Addr}{H:Hp}(ns:List Int):Rps r H (ns.map D.int) (ns.map V.int):=by
 refine⟨by simp,λi d v h1 h2=>?_⟩
 rw[Vai] at h1 h2
 cases q:ns[i]? with
 | none=>rw[q] at h1; cases h1
 | some z=>
  rw[q] at h1 h2
  cases h1
  cases h2
  exact .int z
theorem zs9 {K:PySem.W.Frag}{H:Hp}{a:Addr}{ns:List Int}(hl:ns.length≤63)(hO:zgI H)(hS:SqL K H a (ns.map V.int)):upF K zeA [.ref a] H (λv _=>v=.bl true) λ_ _ _=>False:=by
 refine⟨λ_ _=>False,[a],[.frz (ns.map D.int)],[.ref 0],λd _=>d=.bl true,⟨⟨rfl,λn b o h1 h2=>?_,λn m b xs ys h1 h2 h3 h4 o1 o2=>?_⟩,λ_ _ _ _ _ _ _ _ _ z=>z.elim⟩,Rps.cons (.ref rfl) Rps.nil,⟨ns,rfl,rfl,hl,λ_=>rfl⟩,λv H' r' d S' e rel p q=>?_⟩
 ·cases n with
  | zero=>
   simp at h1 h2
   subst h1; subst h2
   exact⟨_,zwI hO hS,zvx ns⟩
  | succ n=>simp at h1
 ·cases n with
  | zero=>
   simp at h3
   subst h3
   cases o1
  | succ n=>simp at h1
 ·subst q
  cases p
  rfl
theorem zsz {l:PySem.W.OpenLaw}{q:Program}{loose:List Str}{XP:(Str→Option Value)→Heap→Prop}{YP:World→Heap→Prop}{d:DefRec}{K:Params→PySem.W.Frag}{x:Str}(k:Nat)(hn:l.most=some 63)(hdf:d.params.defaults=[])(hr:zaN k callerA)
  (hY:∀(w:World) (h:Heap),YP w h→(K w.params).In h)
  (F:∀(w:World) (mg:Str→Option Value) (fa:Addr) (h:Heap),(K w.params).In h→h.Ns mainGlobals mg→mg d.name=some (.ref fa)→
   ∃fd:FuncData,(∀(s:Shared) (u:Value),BindsTo s fd ⟨[u],[]⟩ [(x,u)])∧∀base:Heap,(K w.params).In base→base.Ns mainGlobals mg→zbc l.prog w (K w.params) mg base (CXE l.prog w) k fa fd [x] (upF (K w.params) zeA)):
  PySem.W.WalkO q loose XP YP l.row.toRowW d [] (λf vs=>PySem.call f vs):=
 L2.zyg (n:=63) (k:=k) (x:=x) (CX:=λw=>CXE l.prog w) (sp:=λw=>upF (K w.params) zeA) hn (by decide) hdf hr hY F (λ_ _ a ns hl hO hS=>zs9 hl hO hS) λ_ _ _ _ _ ⟨_,_,_,_,_,_,_,_,_,_,_,_,z⟩=>z
theorem znH (K:PySem.W.Frag)(T:String)(h:T∈["int","bool","tuple","str"]):Kit K T:=by
 intro t ht
 simp only[Vaf,Vay,or_false] at h ht
 rcases h with rfl | rfl | rfl | rfl <;> rcases ht with rfl | rfl | rfl | rfl | rfl <;> kernel_rfl
theorem ifF {c:Bool}{A B:Prop}(h:c=false)(b:B):if c=true then A else B:=by rw[h]; exact zbO b
theorem ifP {c A B:Prop} [Decidable c] (h:c)(a:A):if c then A else B:=by rw[if_pos h]; exact a
theorem ifD {c:Prop} [Decidable c] {A B:Prop}(h1:c→A)(h2:¬ c→B):if decide c=true then A else B:=by
 by_cases h:c
 ·rw[decide_eq_true h]; exact zcv (h1 h)
 ·rw[decide_eq_false h]; exact zbO (h2 h)
open PySem L2
open PySem L2
theorem Sz.pow {n:Nat}{i:Int}(h:Sz n i)(k:Nat):Sz (n*k+1) (i^k):=by
 unfold Sz at *
 rw[Int.natAbs_pow,Nat.pow_succ,Nat.pow_mul]
 have h1:i.natAbs^k≤(2^n)^k:=Nat.pow_le_pow_left (VaW h) k
 have h2:0<(2^n)^k:=Nat.pow_pos (Nat.pow_pos (by decide))
 omega
theorem ifN {c:Prop} [Decidable c] {A B:Prop}(h1:¬ c→A)(h2:c→B):if (!decide c)=true then A else B:=by
 by_cases h:c
 ·rw[decide_eq_true h]; exact L2.zbO (h2 h)
 ·rw[decide_eq_false h]; exact L2.zcv (h1 h)
section
variable {X:Cx}{Z:Zx}
abbrev Cx.held (X:Cx)(pins:List (Addr×Obj))(E:Value→Shared→Prop):Cx:={ X with pn:=X.pn++pins,xe:=E }
end
structure zd9 (k:Nat)(A:Around):Prop where
 dp:A.depth+3*k+5<recursionLimit
 un:A.units+16*k+200<cLine
theorem zd9.mono {j k:Nat}{A:Around}(r:zd9 k A)(h:j≤k):zd9 j A:=⟨by have:=r.dp; omega,by have:=r.un; omega⟩
theorem zd9.deeper {k:Nat}{A:Around}(r:zd9 (k+1) A)(env:Env):zd9 k (A.deeper env):=
 ⟨by have:=r.dp; show A.depth+1+3*k+5<_; omega,by have:=r.un; show A.units+3+16*k+200<_; omega⟩
structure FnOkN (P:Program)(w:World)(K:PySem.W.Frag)(mg:Str→Option Value)(base:Heap)(k:Nat)(f:Addr)(fd:FuncData)(ps:List Str)(sp:Sp):Prop where
 len:∀vs H Q E,sp vs H Q E→vs.length=ps.length
 run:∀(A:Around) (outer:List Env) (s:Shared) (H:Hp) (args:Args) (us:List Value) (vs:List V) (Q:VK) (E:XK),zd9 k A→zcB P w K mg base A outer s H→BindsTo s fd args (ps.zip us)→zaA vs us→sp vs H Q E→
  codeAny (model P w) A (.call (.ref f) args) (CR (CXE P w) outer P w H s Q E) s
section
variable {X:Cx}{k:Nat}{f:Addr}{fd:FuncData}{ps:List Str}{sp:Sp}{W:St→XK}{x:Str}{p pos:Pos}{e:Expr}{es:List Expr}{t:TA}
end
section
variable {X:Cx}{Z:Zx}{x:Str}{p pos:Pos}{e:Expr}{es:List Expr}{t:TDA}
end
section
variable {P:Program}{w:World}{K:PySem.W.Frag}{mg:Str→Option Value}{base:Heap}
end
structure FkN (P:Program)(w:World)(K:PySem.W.Frag)(mg:Str→Option Value)(base:Heap)(k:Nat)(x:Str)(ps:List Str)(sd:Sd) where
 f:Addr
 fd:FuncData
 ok:FnOkN P w K mg base k f fd ps (upF K sd)
 m:mg x=some (.ref f)
 kp:PySem.W.keepIn K (.ref f)=true
 b:zbz K fd ps []
section
variable {X:Cx}{Z:Zx}
theorem zuB {r:List Addr}{H:Hp}{a:Addr}{o:HO}(h:H a=none):Ext r r H (upd H a o):=⟨λ_ _ q=>q,λ_ _ q=>zdz h _ _ q,λ_ _ q=>zdz h _ _ q⟩
open PySem.W in
end
abbrev VE:List Value:=[.type "ValueError",.type "Exception",.type "BaseException",.type "object"]
structure Ec (K:PySem.W.Frag)(mg:Str→Option Value)(x:Str) where
 c:Addr
 xc:Xc K mg x c VE "ValueError.__new__"
theorem qt {Q:DK}{S:Sto}{b:Bool}(e:b=true)(h:Q (.bl true) S):Q (.bl b) S:=by rw[e]; exact h
theorem Sz.div {n:Nat}{i j:Int}(h:Sz n i)(hj:1≤j):Sz n (i/j):=by
 refine VaZ ?_ h
 obtain⟨h1,h2⟩:=zsb i (show 0<j by omega)
 by_cases q:0≤i/j
 ·have:=Int.mul_le_mul_of_nonneg_left hj q
  omega
 ·have:=Int.mul_le_mul_of_nonneg_left hj (show 0≤-(i/j+1) by omega)
  have e:-(i/j+1)*j=-((i/j+1)*j):=Val _ _
  omega
inductive Sco (n:Nat):D→Prop
 | non:Sco n .non
 | bl (b:Bool):Sco n (.bl b)
 | int (i:Int):Sco n (.int i)
 | str (x:Str):Sco n (.str x)
 | tup {ds:List D}:(∀d∈ds,Sco n d)→Sco n (.tup ds)
 | ref {m:Nat}:m<n→Sco n (.ref m)
 | exc (c:Addr):Sco n (.exc c)
theorem Rp.sco {r:List Addr}{H:Hp}{d:D}{v:V}(h:Rp r H d v):Sco r.length d:=by
 induction h with
 | non=>exact .non
 | bl b=>exact .bl b
 | int i=>exact .int i
 | str x=>exact .str x
 | @tup ds xs a _ l _ ih=>
  refine .tup λd hd=>?_
  obtain⟨i,hi,e⟩:=VaJ.mp hd
  exact ih i d xs[i] (by simp[hi,e]) (by simp[l ▸ hi])
 | ref h=>exact .ref (Vac.mp h).1
 | exc _=>exact .exc _
theorem Rp.low {r r':List Addr}{H:Hp}{d:D}{v:V}(h:Rp r' H d v)(low:∀m a,m<r.length→r'[m]?=some a→r[m]?=some a)(s:Sco r.length d):Rp r H d v:=by
 induction h with
 | non=>exact .non
 | bl b=>exact .bl b
 | int i=>exact .int i
 | str x=>exact .str x
 | tup e l f ih=>
  cases s with
  | tup s=>exact .tup e l λi d v h1 h2=>ih i d v h1 h2 (s d (Vat h1))
 | ref h=>
  cases s with
  | ref s=>exact .ref (low _ _ s h)
 | exc h=>exact .exc h
def Pre (S S':Sto):Prop:=∀(n:Nat) (o:Ob),S[n]?=some o→S'[n]?=some o
theorem Pre.refl {S:Sto}:Pre S S:=λ_ _ h=>h
theorem Pre.push {S S':Sto}{o:Ob}(h:Pre S S'):Pre S (S'++[o]):=λn u e=>by
 have z:=h n u e
 rw[Vak (Vac.mp z).1]; exact z
theorem Pre.trans {S S' S2:Sto}(h:Pre S S')(k:Pre S' S2):Pre S S2:=λn o e=>k n o (h n o e)
theorem zhv {r r':List Addr}{H H':Hp}(e:Ext r r' H H'):∀m a,m<r.length→r'[m]?=some a→r[m]?=some a:=λm a hm h=>by
 have z:r[m]?=some r[m]:=by simp[hm]
 rw[e.adr _ _ z] at h
 rw[z]; exact h
theorem za5.low {K:PySem.W.Frag}{r r':List Addr}{S S':Sto}{H H':Hp}(h:za5 K r S H)(e:Ext r r' H H')(h':za5 K r' S' H')(p:Pre S S'):za5 K r S H':=by
 have rl:∀ {ds:List D} {xs ys:List V},Rps r H ds xs→Rps r' H' ds ys→Rps r H' ds ys:=λ{ds xs ys} a b=>⟨b.1,λi d v h1 h2=>by
  obtain⟨v0,_,q⟩:=a.get h1
  exact(b.2 i d v h1 h2).low (zhv e) q.sco⟩
 refine⟨h.len,λn a o h1 h2=>?_,λn m a xs ys h1 h2 h3 h4 o1 o2=>h'.nd n m a xs ys (e.adr _ _ h1) (e.adr _ _ h2) (p _ _ h3) (p _ _ h4) o1 o2⟩
 have q:=h.ob n a o h1 h2
 have q':=h'.ob n a o (e.adr _ _ h1) (p _ _ h2)
 cases o with
 | lst ds=>
  obtain⟨xs,_,a1⟩:=q
  obtain⟨ys,b0,b1⟩:=q'
  exact⟨ys,b0,rl a1 b1⟩
 | frz ds=>
  obtain⟨xs,_,a1⟩:=q
  obtain⟨ys,b0,b1⟩:=q'
  exact⟨ys,b0,rl a1 b1⟩
 | ins C fs=>
  obtain⟨_,_,_,a1⟩:=q
  obtain⟨dx,fs',b0,b1⟩:=q'
  exact⟨dx,fs',b0,b1.1,rl a1.2 b1.2⟩
 | dct kvs=>
  obtain⟨_,_,a1⟩:=q
  obtain⟨ks,b0,b1⟩:=q'
  exact⟨ks,b0,b1.1,rl a1.2 b1.2⟩
def Gc (S:Sto)(Q:DK):DK:=λd S'=>Pre S S'∧Sco S.length d∧Q d S
def GcX (S:Sto)(ex:Addr→Sto→Prop):Addr→Sto→Prop:=λc S'=>Pre S S'∧ex c S
theorem Ret.gc {K:PySem.W.Frag}{Z Z':Zx}{r:List Addr}{S:Sto}{H:Hp}{Q:DK}{Qv:VK}(h:Ret K Z r H Q Qv)(rel:Rel K Z r S H):Ret K Z' r H (Gc S Q) Qv:=λv H' r' d S' e rel' p q=>by
 obtain⟨pre,sc,q⟩:=q
 have e':Ext r r H H':=⟨λ_ _ z=>z,e.tup,e.xc⟩
 rw[← rel.len] at sc
 exact h v H' r d S e' ⟨rel.b.low e rel'.b pre,rel.xw.ext e'⟩ (p.low (zhv e) sc) q
theorem zei.gc {K:PySem.W.Frag}{ex:Addr→Sto→Prop}{E:XK}{r:List Addr}{S:Sto}{H:Hp}(rel:Rel K (Zc ex E) r S H):zei K (Zc (GcX S ex) E) r H:=λdl σ c H' r' S' e _ rb q=>by
 obtain⟨pre,q⟩:=q
 have e':Ext r r H H':=⟨λ_ _ z=>z,e.tup,e.xc⟩
 exact rel.xw [] [] c H' r S e' ⟨rfl,λi d z=>by simp at z⟩ (rel.b.low e rb pre) q
section
variable {P:Program}{w:World}{K:PySem.W.Frag}{mg:Str→Option Value}{base:Heap}
def gcS (sd:Sd):Sd:=λds S Q ex=>∃Q0 ex0,Q=Gc S Q0∧ex=GcX S ex0∧sd ds S Q0 ex0
theorem zes {CX:CXT}{k:Nat}{f:Addr}{fd:FuncData}{ps:List Str}{sd:Sd}(h:zbc P w K mg base CX k f fd ps (upF K (gcS sd))):zbc P w K mg base CX k f fd ps (upF K sd):=by
 have imp:∀vs H Q E,upF K sd vs H Q E→upF K (gcS sd) vs H Q E:=λvs H Qv E ⟨ex,r,S,ds,Q,rel,p,q,ret⟩=>
  ⟨GcX S ex,r,S,ds,Gc S Q,⟨rel.b,zei.gc rel⟩,p,⟨Q,ex,rfl,rfl,q⟩,ret.gc rel⟩
 obtain⟨h1,h2⟩:=h
 exact⟨λvs H Q E q=>h1 vs H Q E (imp vs H Q E q),λA outer s H args us vs Q E hr e0 hb rv q=>h2 A outer s H args us vs Q E hr e0 hb rv (imp vs H Q E q)⟩
end
theorem zfP {sd:Sd}{n:Nat}(len:∀ds S Q ex,sd ds S Q ex→ds.length=n):∀ds S Q ex,gcS sd ds S Q ex→ds.length=n:=λds S Q ex h=>by
 obtain⟨Q0,ex0,_,_,h⟩:=h
 exact len _ _ _ _ h
structure zdR (sc around:Scope)(x:Str)(caps:List Str):Prop where
 kind:sc.kind=.function
 nocell:∀y∈sc.names,y.2≠.cell
 own:∀y∈sc.names,y.2=.local→sc.names.lookup y.1=some .local
 loc:sc.names.lookup x=some .local
 cap:∀y∈caps,sc.names.lookup y=some .free
 out:∀y∈sc.names,y.2=.free→around.names.lookup y.1=some .cell
theorem zoy {α:Type}{y:Str}{v:α}:∀ {l:List (Str×α)},l.lookup y=some v→(y,v)∈l
 | [],h=>by simp at h
 | (n,k)::r,h=>by
  cases e:y==n with
  | true=>
   rw[Vav,e] at h
   have z:k=v:=Option.some.inj h
   have z2:y=n:=by simpa using e
   rw[z,z2]; exact VaX
  | false=>
   rw[Vav,e] at h
   exact VaF _ (zoy h)
theorem zoo {env:Env}:∀(l:List (Str×NameKind)) (acc:List (Str×Addr)),(∀y∈l,y.2=.free→∃c,env.cells.lookup y.1=some c)→(∀x c,acc.lookup x=some c→env.cells.lookup x=some c)→
  ∃cl,(forIn l acc λx r=>(if (x.2==NameKind.free)=true then do let a ← cellOf env x.1; pure (ForInStep.yield ((x.1,a)::r)) else pure (ForInStep.yield r):Sem (ForInStep (List (Str×Addr)))))=pure cl∧
   (∀x c,cl.lookup x=some c→env.cells.lookup x=some c)∧(∀y∈l,y.2=.free→cl.lookup y.1=env.cells.lookup y.1)∧∀x c,acc.lookup x=some c→∃c',cl.lookup x=some c'
 | [],acc,_,ha=>⟨acc,by simp,ha,λy hy=>(by cases hy),λx c e=>⟨c,e⟩⟩
 | (n,k)::r,acc,h,ha=>by
  cases hk:(k==NameKind.free) with
  | false=>
   obtain⟨cl,h1,h2,h3,h4⟩:=zoo r acc (λy hy=>h y (VaF _ hy)) ha
   refine⟨cl,?_,h2,λy hy hf=>?_,h4⟩
   ·rw[List.forIn_cons]; simp[hk]; simpa using h1
   ·have hy':=Vaf.mp hy
    rcases hy' with rfl | hy
    ·rw[show k=NameKind.free from hf] at hk; exact absurd hk (by decide)
    ·exact h3 y hy hf
  | true=>
   have hf:k=NameKind.free:=by simpa using hk
   obtain⟨c,hc⟩:=h (n,k) VaX hf
   obtain⟨cl,h1,h2,h3,h4⟩:=zoo r ((n,c)::acc) (λy hy=>h y (VaF _ hy)) (λx c' e=>by
    cases q:x==n with
    | true=>
     rw[Vav,q] at e
     have z:x=n:=by simpa using q
     rw[z,hc]; exact e
    | false=>
     rw[Vav,q] at e
     exact ha x c' e)
   refine⟨cl,?_,h2,λy hy hf=>?_,λx c' e=>?_⟩
   ·have ec:cellOf env n=pure c:=by unfold cellOf; rw[hc]
    rw[List.forIn_cons]; simp[hk,ec]; simpa using h1
   ·have hy':=Vaf.mp hy
    rcases hy' with rfl | hy
    ·obtain⟨c',e⟩:=h4 n c (by simp)
     rw[e]; exact(h2 _ _ e).symm
    ·exact h3 y hy hf
   ·refine h4 x (if x==n then c else c') ?_
    cases q:x==n with
    | true=>simp[Vav,q]
    | false=>simp[Vav,q,e]
theorem zsI {sc:Scope}{env:Env}(h:∀y∈sc.names,y.2=.free→∃c,env.cells.lookup y.1=some c):
  ∃cl,closureFor sc env=pure cl∧(∀x c,cl.lookup x=some c→env.cells.lookup x=some c)∧∀y∈sc.names,y.2=.free→cl.lookup y.1=env.cells.lookup y.1:=by
 obtain⟨cl,h1,h2,h3,_⟩:=zoo sc.names [] h (λx c e=>by simp at e)
 refine⟨cl,?_,h2,h3⟩
 unfold closureFor
 simp only[bind_pure]
 exact h1
theorem zru {env:Env}:∀ {names:List (Str×NameKind)} {x:Str},names.lookup x=some .free→
  (names.map λ(n,k)=>if (k==NameKind.free&&env.scope.kind==.function&&env.kindOf n==some .cell) then (n,NameKind.cell) else (n,k)).lookup x=some .cell∨
  (names.map λ(n,k)=>if (k==NameKind.free&&env.scope.kind==.function&&env.kindOf n==some .cell) then (n,NameKind.cell) else (n,k)).lookup x=some .free
 | [],_,h=>by simp at h
 | (n,k)::r,x,h=>by
  have ih:=@zru env r x
  rw[Vas]
  cases hx:x==n with
  | true=>
   rw[Vav,hx] at h
   have hk:k=.free:=Option.some.inj h
   subst hk
   dsimp only
   split
   ·left; simp[Vav,hx]
   ·right; simp[Vav,hx]
  | false=>
   rw[Vav,hx] at h
   dsimp only
   split
   ·simp only[Vav,hx]; exact ih h
   ·simp only[Vav,hx]; exact ih h
theorem zpZ {env:Env}:∀ {names:List (Str×NameKind)} {x:Str},(∀y∈names,y.2≠.cell)→
  ((names.map λ(n,k)=>if (k==NameKind.free&&env.scope.kind==.function&&env.kindOf n==some .cell) then (n,NameKind.cell) else (n,k)).lookup x=some .cell∨
  (names.map λ(n,k)=>if (k==NameKind.free&&env.scope.kind==.function&&env.kindOf n==some .cell) then (n,NameKind.cell) else (n,k)).lookup x=some .free)→names.lookup x=some .free
 | [],_,_,h=>by simp at h
 | (n,k)::r,x,hc,h=>by
  have ih:=@zpZ env r x λy hy=>hc y (VaF _ hy)
  rw[Vas] at h
  cases hx:x==n with
  | true=>
   rw[Vav,hx]
   dsimp only at h
   split at h
   ·rename_i q
    simp only[Bool.and_eq_true] at q
    have hk:k=.free:=by simpa using q.1.1
    rw[hk]
   ·simp only[Vav,hx] at h
    rcases h with h | h
    ·exact absurd (Option.some.inj h) (hc (n,k) VaX)
    ·exact h
  | false=>
   rw[Vav,hx]
   dsimp only at h
   split at h
   ·simp only[Vav,hx] at h; exact ih h
   ·simp only[Vav,hx] at h; exact ih h
abbrev Cx.comp (X:Cx)(sc:Scope)(N:List Str)(cl:List (Str×Addr))(C:Addr)(s0:Shared)(H0:Hp)(fp:List Addr)(pn:List (Addr×Obj)):Cx:=
 { X with N:=N,env:=compEnvC sc cl C X.env,s₀:=s0,H₀:=H0,outer:=X.stack,stack:=X.stack,ex:=fp,fn:=λ_=>false,pn:=pn,xe:=λ_ _=>False }
def zbX (caps:List Nat)(σ:St):St:=caps.map λj=>(σ[j]?).join
def zcS (caps:List Nat)(dl:Ev):Ev:=caps.map λj=>(dl[j]?).join
def zgW (caps:List Nat)(wi:TI)(tc:TT)(te:TE):TE:=λσ H Q=>wi σ H λJ H1=>∀D,H1 D=none→∃W:Nat→Nat→Hp→Prop,(∃m,W 0 m (upd H1 D (.lst [])))∧∀i m H,W i m H→
 (J.stop i H∧Q (.ref D) H)∨(J.go i H∧∀x H',J.yld i H x H'→tc (some x::zbX caps σ) H' λb H2=>if b=true then te (some x::zbX caps σ) H2 λy H3=>∃ys,H3 D=some (.lst ys)∧ys.length<sizeLine∧∃m',m'<m∧W (i+1) m' (upd H3 D (.lst (ys++[y])))
  else ∃m',m'<m∧W (i+1) m' H2)
def PTs (Y:Cx)(ifs:List Expr)(tc:TT):Prop:=∀(pins:List (Addr×Obj)) (s:Shared) (σ:St) (H:Hp) (Q:Bool→Hp→Prop),Inv Y pins σ H s→tc σ H Q→
 wpAny (model Y.prog Y.w) Y.A (forIn ifs true λc r=>if r=true then do let ok ← isTrue c Y.env (eval c Y.env); pure (ForInStep.yield ok) else pure (ForInStep.yield r)) (TP Y pins σ Q) Y.xe s
theorem zsc {Y:Cx}:PTs Y [] (λ_ H Q=>Q true H):=λ_ _ _ H _ I h=>wpAny_tests_nil ⟨H,I,h⟩
section
variable {X:Cx}{pins:List (Addr×Obj)}{σ:St}{H:Hp}{s:Shared}
theorem zyC {sc:Scope}{x:Str}{N:List Str}{caps:List Nat}{cl:List (Str×Addr)}{fp:List Addr}{h1:Heap}{m:Str→Option Value}{tk:Nat}(I:Inv X pins σ H s)(cs:zdR sc X.env.scope x N)
  (hN:∀(j:Nat) (y:Str),N[j]?=some y→∃i,caps[j]?=some i∧X.N[i]?=some y)(hlen:caps.length=N.length)
  (c1:∀x c,cl.lookup x=some c→X.env.cells.lookup x=some c)(c2:∀y∈sc.names,y.2=.free→cl.lookup y.1=X.env.cells.lookup y.1)
  (hf:∀b∈fp,zch X pins H b)(hfo:∀b∈fp,b<s.heap.objs.size)(hns:h1.Ns s.heap.objs.size m)(hk:∀b o,s.heap.get? b=some o→h1.get? b=some o):
  Inv (Cx.comp X sc (x::N) cl s.heap.objs.size s H fp (X.pn++pins)) [] (none::zbX caps σ) H { s with heap:=h1,toks:=tk }:=by
 have stk:∀b∈frs X.stack,b=X.env.locals∨b∈X.fs:=λb hb=>Vaf.mp (I.stkSub b hb)
 refine⟨⟨I.ok.mod,cs.kind,I.ok.glob,I.ok.blt,Vab _,λa b c h1 h2=>I.ok.inj a b c (c1 _ _ h1) (c1 _ _ h2),λy hy=>?_,λ_ _ z=>Bool.noConfusion z,I.ok.hd,I.ok.frames,.inl rfl,λb hb=>⟨Var (hfo b hb),λy c e=>(hf b hb).2.2.2.2.1 y c (c1 _ _ e)⟩,
  I.bs,VaE I.ok.bsz I.sz,λb o e hb=>?_,λb hb z=>?_,I.stack,I.stkFree⟩,rfl,I.bare,Un.kept hk,⟨m,hns,λi y v e1 e2 e3=>?_⟩,λy c e=>?_,I.hok.fresh (Vab _),λy c e=>I.freeC y c (c1 _ _ e),λp hp=>?_,I.hok.kept hk,?_⟩
 ·have hfr:sc.names.lookup y=some .free:=zpZ cs.nocell hy
  have hm:=zoy hfr
  obtain⟨c,e⟩:=I.ok.has y (.inl (cs.out _ hm rfl))
  exact⟨c,(c2 _ hm rfl).trans e⟩
 ·rcases (hf b hb).2.2.2.1 with z | z
  ·exact I.ok.noex b o e z
  ·exact absurd (Vax (Heap.lt_size (I.ok.bs b o e).1) z) (VaM _)
 ·rcases stk b z with z | z
  ·exact(hf b hb).2.1 z
  ·exact(hf b hb).2.2.1 z
 ·cases i with
  | zero=>simp at e2
  | succ i=>
   have e1':N[i]?=some y:=by simpa using e1
   obtain⟨j,hj,hy⟩:=hN i y e1'
   have e2':σ[j]?=some (some v):=by
    simp only[List.getElem?_cons_succ,zbX,Vai,hj,Option.map_some,Option.some.injEq] at e2
    cases q:σ[j]? with
    | none=>rw[q] at e2; cases e2
    | some o=>rw[q] at e2; simp at e2; rw[e2]
   have hfr:sc.names.lookup y=some .free:=cs.cap y (Vat e1')
   have hm:=zoy hfr
   have hce:X.env.scope.names.lookup y=some .cell:=cs.out _ hm rfl
   obtain⟨m0,_,hl⟩:=I.loc
   obtain⟨u,r,l⟩:=hl j y v hy e2' (.inr (.inl hce))
   refine⟨u,r,.inr ⟨zru hfr,?_⟩⟩
   rcases l with ⟨k,_⟩ | ⟨_,c,ec,hcell⟩
   ·rw[show X.env.kindOf y=some .cell from hce] at k; cases k
   ·exact⟨c,(c2 _ hm rfl).trans ec,hcell.keeps hk⟩
 ·obtain⟨v,z⟩:=I.cell y c (c1 _ _ e)
  exact⟨v,z.keeps hk⟩
 ·have hp':p∈X.pn++pins:=by simpa using hp
  obtain⟨p1,p2,p3,p4,p5⟩:=I.pin p hp'
  refine⟨hk _ _ p1,p2,Var (Heap.lt_size p1),λz=>?_,p5⟩
  rcases stk _ z with z | z
  ·exact p3 z
  ·exact p4 z
 ·simp[zbX,hlen]
end
section
variable {X:Cx}{elt iter:Expr}{x:Str}{px pos:Pos}{ifs:List Expr}{sc:Scope}{N:List Str}{caps:List Nat}{wi:TI}{tc:TT}{te:TE}
structure ztV (X:Cx)(pins:List (Addr×Obj))(σ:St)(C:Addr)(Q:VK)(D:Addr)(s':Shared):Prop where
 q:∃H',Inv X pins σ H' s'∧Q (.ref D) H'∧H' C=none
 ns:∃m,s'.heap.Ns C m
 loc:C≠X.env.locals
 old:X.s₀.heap.objs.size≤C
 cell:∀x c,X.env.cells.lookup x=some c→c≠C
 pin:∀p∈X.pn++pins,p.1≠C
theorem zqX {use:Option (Value→Sem Unit)}{Qr:Value→Shared→Prop}(hc:X.calm=true)(cs:zdR sc X.env.scope x N)(hN:∀(j:Nat) (y:Str),N[j]?=some y→∃i,caps[j]?=some i∧X.N[i]?=some y)(hlen:caps.length=N.length)(hnd:(x::N).Nodup)
  (hi:PI X (.Name x px) iter wi)(ht:∀cl C s0 H0 fp pn,PTs (Cx.comp X sc (x::N) cl C s0 H0 fp pn) ifs tc)(he:∀cl C s0 H0 fp pn,PE (Cx.comp X sc (x::N) cl C s0 H0 fp pn) elt te)
  (hs:∀y,foldedSetIterable iter X.env y=pure y)
  {pins:List (Addr×Obj)}{s:Shared}{σ:St}{H:Hp}{Q:VK}{p2:Pos}(I:Inv X pins σ H s)(h:zgW caps wi tc te σ H Q)
  (fin:∀D C s',ztV X pins σ C Q D s'→compPost (model X.prog X.w) X.A X.xe use Qr (.ref D) C (.ok .next) s'):
  wpAny (model X.prog X.w) X.A (comprehension (.ListComp elt [⟨.Name x px,iter,ifs,0⟩] sc pos) sc X.env p2 (newList []) false (eval iter X.env) use) Qr X.xe s:=by
 obtain⟨cl,k1,k2,k3⟩:=zsI (sc:=sc) (env:=X.env) λy hy hf=>I.ok.has y.1 (.inl (cs.out y hy hf))
 refine wpAny_comprehension_free rfl hs k1 cs.kind cs.own (thn (hi pins s σ H _ I h) λv s1 h1=>thn h1 λitv s2 h2=>?_)
 obtain⟨it,fp,tn,J,H2,e,I2,T,st2,f2,body⟩:=h2
 subst e
 have hfo:∀b∈fp,b<s2.heap.objs.size:=λb hb=>by
  obtain⟨o,e,_⟩:=T.obj _ _ st2 b hb
  exact Heap.lt_size e
 have hD:H2 s2.heap.objs.size=none:=I2.hok.fresh (Vab _)
 obtain⟨W,⟨m0,w0⟩,turn⟩:=body _ hD
 refine wpAny_newObj_type ?_
 have I3:Inv X pins σ (upd H2 s2.heap.objs.size (.lst [])) { s2 with heap:=s2.heap.push { cls:=.type "list",dict:=none,data:=.seq ([]:List Value).toArray },toks:=s2.toks }:=
  I2.laid (t':=s2.toks) (λb u e=>Heap.get?_push_of_some _ e) (Vab _) ⟨Vao _,[],0,.nil,Heap.get?_push_size _ rfl⟩
 generalize hs3:({ s2 with heap:=s2.heap.push { cls:=.type "list",dict:=none,data:=.seq ([]:List Value).toArray },toks:=s2.toks }:Shared)=s3 at I3
 have es3:({ s2 with heap:=s2.heap.push { cls:=.type "list",dict:=none,data:=.seq ([]:List Value).toArray } }:Shared)=s3:=hs3
 try rw[es3]
 have f3:∀b∈fp,zch X pins (upd H2 s2.heap.objs.size (.lst [])) b:=λb hb=>⟨by rw[zbd (Var (hfo b hb))]; exact(f2 b hb).1,(f2 b hb).2⟩
 have up3:∀b o,s2.heap.get? b=some o→s3.heap.get? b=some o:=λb o e=>by rw[← hs3]; exact Heap.get?_push_of_some _ e
 have st3:tn 0 s3.heap:=T.keep _ _ _ st2 λb _ o e=>up3 b o e
 have hfo3:∀b∈fp,b<s3.heap.objs.size:=λb hb=>by
  obtain⟨o,e,_⟩:=T.obj _ _ st3 b hb
  exact Heap.lt_size e
 refine wpAny_newFunctionEnv cs.nocell (λy hy=>by simp at hy) (λh4 ns4 sb4=>?_) cs.kind
 have hk4:∀b o,s3.heap.get? b=some o→h4.get? b=some o:=λb o e=>(sb4.2 b (Var (Heap.lt_size e))).trans (Heap.get?_push_of_some _ e)
 have I4:=zyC (tk:=s3.toks+([]:List (Str×Value)).length) I3 cs hN hlen k2 k3 f3 hfo3 ns4 hk4
 generalize hs4:({ s3 with heap:=h4,toks:=s3.toks+([]:List (Str×Value)).length }:Shared)=s4 at I4 ⊢
 have eh4:s4.heap=h4:=by rw[← hs4]
 have st4:tn 0 s4.heap:=by rw[eh4]; exact T.keep _ _ _ st3 λb _ o e=>hk4 b o e
 have fY:∀ {H':Hp},(∀b∈fp,H' b=none)→∀b∈fp,zch (Cx.comp X sc (x::N) cl s3.heap.objs.size s3 (upd H2 s2.heap.objs.size (.lst [])) fp (X.pn++pins)) [] H' b:=λhn b hb=>by
  obtain⟨_,z2,z3,z4,z5,z6⟩:=f3 b hb
  refine⟨hn b hb,Var (hfo3 b hb),λz=>?_,.inl hb,λy c e=>z5 y c (k2 _ _ e),λp hp=>z6 p (by simpa using hp)⟩
  rcases Vaf.mp (I3.stkSub b z) with z | z
  ·exact z2 z
  ·exact z3 z
 have locY:(Cx.comp X sc (x::N) cl s3.heap.objs.size s3 (upd H2 s2.heap.objs.size (.lst [])) fp (X.pn++pins)).env.scope.names.lookup x=some .local:=lookup_relabel_local cs.loc
 have loop:codeAny (model X.prog X.w) X.A (.compLoop (.ListComp elt [⟨.Name x px,iter,ifs,0⟩] sc pos) 0 (.ref it) (.ref s2.heap.objs.size) (compEnvC sc cl s3.heap.objs.size X.env))
   (compPost (model X.prog X.w) X.A X.xe use Qr (.ref s2.heap.objs.size) s3.heap.objs.size) s4:=by
  refine codeAny_compLoop_tests (λn s'=>∃i o H',Inv (Cx.comp X sc (x::N) cl s3.heap.objs.size s3 (upd H2 s2.heap.objs.size (.lst [])) fp (X.pn++pins)) [] (o::zbX caps σ) H' s'∧tn i s'.heap∧(∀b∈fp,H' b=none)∧W i n H') ?_ m0
   ⟨0,none,_,I4,st4,λb hb=>(f3 b hb).1,w0⟩
  rintro n s5 ⟨i,o,H5,I5,st5,fr5,w5⟩
  rcases turn i n H5 w5 with ⟨stop,q⟩ | ⟨go,step⟩
  ·refine thn (T.done (Cx.comp X sc (x::N) cl s3.heap.objs.size s3 (upd H2 s2.heap.objs.size (.lst [])) fp (X.pn++pins)) rfl rfl rfl hc i [] s5 _ H5 _ I5 (fY fr5) st5 stop) λr s6 ⟨hr,I6⟩=>?_
   subst hr
   refine fin _ _ _ ⟨⟨H5,I3.call' I6.os I6.base I6.hok I6.bare (λb hb=>?_),q,I6.free⟩,?_,Nat.ne_of_gt I3.lt,I3.sz,λy c e z=>?_,λp hp z=>?_⟩
   ·obtain⟨_,z2,z3,z4,z5,z6⟩:=f3 b hb
    exact⟨z4,z2,z5,z6⟩
   ·obtain⟨m,hm,_⟩:=I6.loc
    exact⟨m,hm⟩
   ·obtain⟨v,hv⟩:=I3.cell y c e
    exact absurd (z ▸ hv.lt) (VaM _)
   ·exact absurd (z ▸ Heap.lt_size (I3.pin p hp).1) (VaM _)
  ·refine thn (T.item (Cx.comp X sc (x::N) cl s3.heap.objs.size s3 (upd H2 s2.heap.objs.size (.lst [])) fp (X.pn++pins)) rfl rfl rfl hc i [] s5 _ H5 _ I5 (fY fr5) st5 go) λr s6 ⟨u,hr,h6⟩=>?_
   subst hr
   show wpAny _ _ (letOwnedTupleGo (.Name x px) (.ref it) u >>= λ_=>assign (.Name x px) (compEnvC sc cl s3.heap.objs.size X.env) u) _ _ s6
   refine wpAny_bind (thn h6 λ_ s7 ⟨y,H7,I7,r7,y7,st7,fr7⟩=>?_)
   have I7':=I7.pinned (fY fr7) (T.obj _ _ st7)
   refine wpAny_mono (zeS (X:=Cx.comp X sc (x::N) cl s3.heap.objs.size s3 (upd H2 s2.heap.objs.size (.lst [])) fp (X.pn++pins)) (pos:=px) hnd (i:=0) rfl (.inl locY) (.inr locY) _ s7 _ H7 y u (λσ8 H8=>σ8=some y::zbX caps σ∧H8=H7) I7' r7 ⟨rfl,rfl⟩) (λ_ s8 ⟨σ8,H8,I8,e8,e8'⟩=>?_) λ_ _ z=>z.elim
   subst e8
   subst e8'
   have stay:∀ {H':Hp} {s':Shared},Inv (Cx.comp X sc (x::N) cl s3.heap.objs.size s3 (upd H2 s2.heap.objs.size (.lst [])) fp (X.pn++pins)) ([]++zh5 fp s7.heap) (some y::zbX caps σ) H' s'→∀m',m'<n→W (i+1) m' H'→
     ∃m,m<n∧∃i o H',Inv (Cx.comp X sc (x::N) cl s3.heap.objs.size s3 (upd H2 s2.heap.objs.size (.lst [])) fp (X.pn++pins)) [] (o::zbX caps σ) H' s'∧tn i s'.heap∧(∀b∈fp,H' b=none)∧W i m H':=λ{H' s'} J m' hm w'=>by
    refine⟨m',hm,i+1,some y,H',J.unpinned,T.keep _ _ _ st7 λb hb o e=>(J.pin (b,o) (VaI _ (VaI _ (zkY hb e)))).1,λb hb=>?_,w'⟩
    obtain⟨o,e,d⟩:=T.obj _ _ st7 b hb
    exact(J.pin (b,o) (VaI _ (VaI _ (zkY hb e)))).2.1
   refine wpAny_mono (ht _ _ _ _ _ _ _ s8 _ H8 _ I8 (step y H8 y7)) (λb s9 ⟨H9,I9,q9⟩=>?_) λ_ _ z=>z.elim
   cases b with
   | false=>
    rw[if_neg Vam] at q9 ⊢
    obtain⟨m',hm,w9⟩:=q9
    exact stay I9 m' hm w9
   | true=>
    rw[if_pos rfl] at q9 ⊢
    refine wpAny_mono (he _ _ _ _ _ _ _ s9 _ H9 _ I9 q9) (λu2 s10 ⟨z,H10,I10,r10,q10⟩=>?_) λ_ _ z=>z.elim
    obtain⟨ys,hD10,hlt,m',hm,w10⟩:=q10
    refine wpAny_mono (zpt (X:=(Cx.comp X sc (x::N) cl s3.heap.objs.size s3 (upd H2 s2.heap.objs.size (.lst [])) fp (X.pn++pins))) _ s10 _ H10 (.ref s2.heap.objs.size) [z] (.ref s2.heap.objs.size) [u2] (λ_ H'=>H'=upd H10 s2.heap.objs.size (.lst (ys++[z]))) I10 rfl (.cons r10 .nil) ⟨_,ys,z,rfl,rfl,hD10,hlt,rfl⟩) (λ_ s11 ⟨_,H11,I11,_,e11⟩=>?_) λ_ _ z=>z.elim
    subst e11
    exact stay I11 m' hm w10
 exact codeAny_compStart_list loop (T.self _ 0 s4 _ _ st4 loop)
theorem zkC {X:Cx}{caps:List Nat}{N:List Str}(h:caps.map (λi=>X.N[i]?)=N.map some):(∀(j:Nat) (y:Str),N[j]?=some y→∃i,caps[j]?=some i∧X.N[i]?=some y)∧caps.length=N.length:=by
 refine⟨λj y e=>?_,by simpa using congrArg List.length h⟩
 have z:(caps.map (λi=>X.N[i]?))[j]?=some (some y):=by rw[h,Vai,e]; rfl
 rw[Vai] at z
 cases q:caps[j]? with
 | none=>rw[q] at z; cases z
 | some i=>rw[q] at z; exact⟨i,rfl,by simpa using z⟩
theorem zv5 (hc:X.calm=true)(cs:zdR sc X.env.scope x N)(hN:caps.map (λi=>X.N[i]?)=N.map some)(hnd:(x::N).Nodup)
  (hi:PI X (.Name x px) iter wi)(ht:∀cl C s0 H0 fp pn,PTs (Cx.comp X sc (x::N) cl C s0 H0 fp pn) ifs tc)(he:∀cl C s0 H0 fp pn,PE (Cx.comp X sc (x::N) cl C s0 H0 fp pn) elt te)
  (hs:∀y,foldedSetIterable iter X.env y=pure y:=by intro _; rfl):PE X (.ListComp elt [⟨.Name x px,iter,ifs,0⟩] sc pos) (zgW caps wi tc te):=by
 intro pins s σ H Q I h
 rw[eval_ListComp]
 refine zqX (use:=none) hc cs (zkC hN).1 (zkC hN).2 hnd hi ht he hs I h λD C s' f=>?_
 obtain⟨⟨H',I',q,hC⟩,⟨m,ns⟩,l,o,c,p⟩:=f
 exact⟨m,ns,λh' sb=>⟨.ref D,H',I'.turned (t':=s'.toks) (λb ob hb e=>(sb.2 b hb).trans e) hC l (.inr o) c p,rfl,q⟩⟩
theorem zpU {i:Nat}{y:Str}{py spos:Pos}(hc:X.calm=true)(cs:zdR sc X.env.scope x N)(hN:caps.map (λi=>X.N[i]?)=N.map some)(hnd:(x::N).Nodup)
  (hi:PI X (.Name x px) iter wi)(ht:∀cl C s0 H0 fp pn,PTs (Cx.comp X sc (x::N) cl C s0 H0 fp pn) ifs tc)(he:∀cl C s0 H0 fp pn,PE (Cx.comp X sc (x::N) cl C s0 H0 fp pn) elt te)
  (hNd:X.N.Nodup)(hy:X.N[i]?=some y)(hl:X.env.scope.names.lookup y=some .local)
  (hsw:swapsWith (.ListComp elt [⟨.Name x px,iter,ifs,0⟩] sc pos) (some (.Name y py)) spos.line X.env=pure true)
  (hs:∀y,foldedSetIterable iter X.env y=pure y:=by intro _; rfl):PS X (.Assign [.Name y py] (.ListComp elt [⟨.Name x px,iter,ifs,0⟩] sc pos) spos) (λE σ H=>zgW caps wi tc te σ H λv H1=>E.nx (σ.set i (some v)) H1):=by
 intro pins s σ H E I h
 rw[exec_Assign_Name_used (hs:=hsw)]
 refine wpAny_bind (wpAny_standAt ?_); refine wpAny_bind ?_; show wpAny _ _ (comprehension _ sc X.env _ (newList []) false (eval iter X.env) (some (assign (.Name y py) X.env)) >>= λ_=>pure ()) _ _ s
 refine wpAny_bind (thn (zqX (use:=some (assign (.Name y py) X.env)) (Qr:=λ_ s'=>SP X pins E .next s') hc cs (zkC hN).1 (zkC hN).2 hnd hi ht he hs I h λD C s' f=>?_) λ_ s' hq=>wpAny_pure (wpAny_pure hq))
 obtain⟨⟨H',I',q,hC⟩,⟨m,ns⟩,l,o,c,p⟩:=f
 refine wpAny_assign_Name (zpB (v:=.ref D) I' hNd hy (.inl hl) rfl (λs'' I'' ⟨a,sb,ha⟩=>⟨m,ns.sameBut sb ?_,λh' sb'=>⟨_,H',I''.turned (t':=s''.toks) (λb ob hb e=>(sb'.2 b hb).trans e) hC l (.inr o) c p,q⟩⟩) (.inr hl))
 rcases ha with rfl | ha
 ·exact l
 ·exact Ne.symm (c _ _ ha)
end
section
variable {X:Cx}{Z:Zx}{elt iter:Expr}{x:Str}{px pos:Pos}{ifs:List Expr}{sc ar:Scope}{N:List Str}{caps:List Nat}
theorem zxh {r:List Addr}{H:Hp}{dl:Ev}{σ:St}{d:D}{v:V}(h:Rs r H dl σ)(p:Rp r H d v):Rs r H (some d::zcS caps dl) (some v::zbX caps σ):=by
 refine⟨by simp[zcS,zbX],λi e hi=>?_⟩
 cases i with
 | zero=>simp at hi; subst hi; exact⟨v,rfl,p⟩
 | succ i=>
  simp only[List.getElem?_cons_succ,zcS,Vai] at hi
  cases q:caps[i]? with
  | none=>rw[q] at hi; cases hi
  | some j=>
   rw[q] at hi
   simp only[Option.map_some,Option.some.injEq] at hi
   have hj:dl[j]?=some (some e):=by
    cases q2:dl[j]? with
    | none=>rw[q2] at hi; cases hi
    | some o=>rw[q2] at hi; simp at hi; rw[hi]
   obtain⟨w,h1,h2⟩:=h.2 j e hj
   refine⟨w,?_,h2⟩
   simp only[List.getElem?_cons_succ,zbX,Vai,q,Option.map_some,h1,Option.join_some]
def zli (Y:Cx)(ifs:List Expr)(t:TDT):Prop:=PTs Y ifs (upT Y.K Z0 t)
def zc1:TDT:=λ_ S Q=>Q true S
theorem zeQ {Y:Cx}:zli Y [] zc1:=λpins s σ H Qb I ⟨r,dl,S,Q,rs,rel,q,ret⟩=>zsc pins s σ H Qb I (ret true H r S Ext.refl rel q)
def zeg (caps:List Nat)(tc:TDT)(te:TDE)(k:Nat)(dl:Ev)(d:D)(S:Sto)(nx:Sto→Prop):Prop:=
 tc (some d::zcS caps dl) S λb S1=>if b=true then te (some d::zcS caps dl) S1 λy S2=>match S2[k]? with
  | some (.lst ys)=>ys.length<1000∧nx (S2.set k (.lst (ys++[y])))
  | _=>False
 else nx S1
@[irreducible] def zdp (caps:List Nat)(tl:TDE)(tc:TDT)(te:TDE):TDE:=λdl S Q=>tl dl S λd S1=>match d with
 | .ref n=>(lAt S1 n).isSome=true∧∃W:Nat→Nat→Sto→Prop,(∃m,W 0 m (S1++[.lst []]))∧∀k m S2,W k m S2→match lAt S2 n with
  | some o=>match (zaz o)[k]? with
   | some y=>zeg caps tc te S1.length dl y S2 λS3=>∃m',m'<m∧W (k+1) m' S3
   | none=>Q (.ref S1.length) S2
  | none=>False
 | _=>False
@[irreducible] def zd2 (caps:List Nat)(ta:TDA)(tc:TDT)(te:TDE):TDE:=λdl S Q=>ta dl S λds S1=>match ds with
 | [.int j]=>(-(2^62)≤j∧j<2^62)∧∃W:Nat→Sto→Prop,W 0 (S1++[.lst []])∧∀k S2,W k S2→
   if k<j.toNat then zeg caps tc te S1.length dl (.int k) S2 λS3=>W (k+1) S3 else Q (.ref S1.length) S2
 | _=>False
theorem zp5 {tc:TDT}{te:TDE}{r2:List Addr}{H2:Hp}{S1 S2:Sto}{dl:Ev}{σ:St}{D0:Addr}{d:D}{v:V}{nx:Sto→Prop}{Nx:Hp→Prop}(rs:Rs r2 H2 dl σ)(ha:r2[S1.length]?=some D0)(rb:za5 X.K r2 S2 H2)(p:Rp r2 H2 d v)
  (h:zeg caps tc te S1.length dl d S2 nx)(hn:∀r' S' H',Ext r2 r' H2 H'→za5 X.K r' S' H'→nx S'→Nx H'):
  upT X.K Z0 tc (some v::zbX caps σ) H2 λb H3=>if b=true then up X.K Z0 te (some v::zbX caps σ) H3 λy H4=>∃ys,H4 D0=some (.lst ys)∧ys.length<sizeLine∧Nx (upd H4 D0 (.lst (ys++[y]))) else Nx H3:=by
 have rsY:Rs r2 H2 (some d::zcS caps dl) (some v::zbX caps σ):=zxh rs p
 refine⟨r2,_,S2,_,rsY,⟨rb,λ_ _ _ _ _ _ _ _ _ z=>z.elim⟩,h,λb H3 r3 S3 x3 rel3 q3=>?_⟩
 cases b with
 | false=>rw[if_neg Vam] at q3 ⊢; exact hn r3 S3 H3 x3 rel3.b q3
 | true=>
  rw[if_pos rfl] at q3 ⊢
  refine⟨r3,_,S3,_,rsY.ext x3,rel3,q3,λz H4 r4 dz S4 x4 rel4 p4 q4=>?_⟩
  split at q4
  ·rename_i ys eys
   obtain⟨hl,q4⟩:=q4
   have ha4:r4[S1.length]?=some D0:=x4.adr _ _ (x3.adr _ _ ha)
   obtain⟨zs,hD4,pz⟩:=rel4.b.ob _ _ _ ha4 eys
   obtain⟨rel5,x5⟩:=rel4.b.set ha4 eys (pz.snoc p4)
   exact⟨zs,hD4,by rw[← pz.1]; exact zn8 (VaW hl),hn r4 _ _ (x3.trans (x4.trans x5)) rel5 q4⟩
  ·exact q4.elim
theorem znL {r:List Addr}{D0:Addr}{n:Nat}(h:r.length=n):(r++[D0])[n]?=some D0:=by subst h; simp
theorem zqv {tl:TDE}{tc:TDT}{te:TDE}{σ:St}{H:Hp}{Qv:VK}(h:up X.K Z (zdp caps tl tc te) σ H Qv):zgW caps (zqC X.K (up X.K Z tl)) (upT X.K Z0 tc) (up X.K Z0 te) σ H Qv:=by
 obtain⟨r,dl,S,Q,rs,rel,h,ret⟩:=h
 unfold zdp at h
 refine⟨r,dl,S,_,rs,rel,h,λv H1 r1 d S1 x1 rel1 p1 q1=>?_⟩
 cases p1 with
 | @ref n a hn=>
  obtain⟨hsome,W,⟨m0,w0⟩,turn⟩:=q1
  have sql:∀ {r':List Addr} {S':Sto} {H':Hp} {o:Ob},Ext r1 r' H1 H'→za5 X.K r' S' H'→lAt S' n=some o→∃xs,SqL X.K H' a xs∧Rps r' H' (zaz o) xs:=λ{r' S' H' o} x' rel' eo=>by
   obtain⟨eo,eL⟩:=zb3 eo
   obtain⟨a',ha,ob⟩:=rel'.at eo
   rw[x'.adr n a hn] at ha; cases ha
   exact ob.list eL
  obtain⟨o1,eo1⟩:=Option.isSome_iff_exists.mp hsome
  obtain⟨xs1,sq1,_⟩:=sql Ext.refl rel1.b eo1
  refine⟨a,rfl,⟨xs1,sq1⟩,λD0 hD=>?_⟩
  obtain⟨rel2,x2⟩:=rel1.b.push (ds:=[]) (xs:=[]) hD Rps.nil
  refine⟨λk m H'=>∃r' S',Ext (r1++[D0]) r' (upd H1 D0 (.lst [])) H'∧za5 X.K r' S' H'∧W k m S',⟨m0,_,_,Ext.refl,rel2,w0⟩,?_⟩
  rintro k m H2 ⟨r2,S2,x3,rb2,w2⟩
  have ha2:r2[S1.length]?=some D0:=x3.adr _ _ (znL rel1.len)
  have q:=turn k m S2 w2
  split at q
  ·rename_i o eo
   obtain⟨xs,sq,pr⟩:=sql (x2.trans x3) rb2 eo
   split at q
   ·rename_i y ey
    obtain⟨v,hv,pv⟩:=pr.get ey
    refine .inr ⟨⟨xs,v,sq,hv⟩,λv' H' y'=>?_⟩
    obtain⟨eH,y'⟩:=y'
    subst eH
    have ev:v'=v:=by
     have z:=y' xs sq
     rw[hv] at z; exact(Option.some.inj z).symm
    subst ev
    have z:=zp5 (Nx:=λH'=>∃m',m'<m∧∃r' S',Ext (r1++[D0]) r' (upd H1 D0 (.lst [])) H'∧za5 X.K r' S' H'∧W (k+1) m' S') (rs.ext (x1.trans (x2.trans x3))) ha2 rb2 pv q λr' S' H' x' rb' ⟨m',hm,w'⟩=>⟨m',hm,r',S',x3.trans x',rb',w'⟩
    exact z
   ·rename_i ey
    have hlen:(zaz o).length≤k:=VaL.mp ey
    exact .inl ⟨⟨xs,sq,by rw[← pr.1]; exact hlen⟩,ret _ H2 r2 _ S2 (x1.trans (x2.trans x3)) ⟨rb2,rel.xw.ext (x1.trans (x2.trans x3))⟩ (.ref ha2) q⟩
  ·exact q.elim
 | _=>exact(show False from q1).elim
theorem zvO {ta:TDA}{tc:TDT}{te:TDE}{σ:St}{H:Hp}{Qv:VK}(h:up X.K Z (zd2 caps ta tc te) σ H Qv):zgW caps (zql (upA X.K Z ta)) (upT X.K Z0 tc) (up X.K Z0 te) σ H Qv:=by
 obtain⟨r,dl,S,Q,rs,rel,h,ret⟩:=h
 unfold zd2 at h
 refine⟨r,dl,S,_,rs,rel,h,λvs H1 r1 ds S1 x1 rel1 p1 q1=>?_⟩
 split at q1
 ·rename_i j
  obtain⟨v,vs',rfl,p2,p3⟩:=p1.uncons
  have z:=p3.unnil
  subst z
  cases p2
  obtain⟨⟨b1,b2⟩,W,w0,turn⟩:=q1
  refine⟨j,rfl,b1,b2,λD0 hD=>?_⟩
  obtain⟨rel2,x2⟩:=rel1.b.push (ds:=[]) (xs:=[]) hD Rps.nil
  refine⟨λk m H'=>m=j.toNat-k∧∃r' S',Ext (r1++[D0]) r' (upd H1 D0 (.lst [])) H'∧za5 X.K r' S' H'∧W k S',⟨j.toNat,by simp,_,_,Ext.refl,rel2,w0⟩,?_⟩
  rintro k m H2 ⟨em,r2,S2,x3,rb2,w2⟩
  have ha2:r2[S1.length]?=some D0:=x3.adr _ _ (znL rel1.len)
  have q:=turn k S2 w2
  split at q
  ·rename_i hk
   refine .inr ⟨hk,λv' H' y'=>?_⟩
   obtain⟨eH,y'⟩:=y'
   subst eH
   subst y'
   have pk:Rp r2 H' (.int (k:Int)) (.int (0+(k:Int))):=by rw[Int.zero_add]; exact .int _
   have z:=zp5 (Nx:=λH'=>∃m',m'<m∧m'=j.toNat-(k+1)∧∃r' S',Ext (r1++[D0]) r' (upd H1 D0 (.lst [])) H'∧za5 X.K r' S' H'∧W (k+1) S') (rs.ext (x1.trans (x2.trans x3))) ha2 rb2 pk q
    λr' S' H' x' rb' w'=>⟨j.toNat-(k+1),by omega,rfl,r',S',x3.trans x',rb',w'⟩
   exact z
  ·rename_i hk
   exact .inl ⟨by show j.toNat≤k; omega,ret _ H2 r2 _ S2 (x1.trans (x2.trans x3)) ⟨rb2,rel.xw.ext (x1.trans (x2.trans x3))⟩ (.ref ha2) q⟩
 ·exact q1.elim
theorem zx8 {tl:TDE}{tc:TDT}{te:TDE}(har:X.env.scope=ar)(hc:X.calm=true)(cs:zdR sc ar x N)(hN:caps.map (λi=>X.N[i]?)=N.map some)(hnd:(x::N).Nodup)(hl:PD X Z iter tl)
  (ht:∀cl C s0 H0 fp pn,zli (Cx.comp X sc (x::N) cl C s0 H0 fp pn) ifs tc)(he:∀cl C s0 H0 fp pn,PD (Cx.comp X sc (x::N) cl C s0 H0 fp pn) Z0 elt te)
  (hs:∀y,foldedSetIterable iter X.env y=pure y:=by intro _; rfl):PD X Z (.ListComp elt [⟨.Name x px,iter,ifs,0⟩] sc pos) (zdp caps tl tc te):=by
 subst har
 exact zbf (zv5 hc cs hN hnd (tc:=upT X.K Z0 tc) (te:=up X.K Z0 te) (znU hl) ht he hs) λ_ _ _ h=>zqv h
theorem zrj {t:TE}{td:TDE}{i:Nat}{F:zcW}{σ:St}{H:Hp}(imp:∀Qv,up X.K Z td σ H Qv→t σ H Qv)(h:upS X.K Z (λE dl S=>td dl S λd S1=>E.nx (dl.set i (some d)) S1) F σ H):t σ H λv H1=>F.nx (σ.set i (some v)) H1:=by
 obtain⟨r,dl,S,E,rs,rel,h,ret⟩:=h
 exact imp _ ⟨r,dl,S,_,rs,rel,h,λv H1 r1 d S1 x rel1 p q=>ret.nx _ H1 r1 _ S1 x ((rs.ext x).set i p) rel1 q⟩
theorem zrx {tl:TDE}{tc:TDT}{te:TDE}{i:Nat}{y:Str}{py spos:Pos}(har:X.env.scope=ar)(hc:X.calm=true)(cs:zdR sc ar x N)(hN:caps.map (λi=>X.N[i]?)=N.map some)(hnd:(x::N).Nodup)(hNd:X.N.Nodup)(hy:X.N[i]?=some y)(hlo:ar.names.lookup y=some .local)
  (hl:PD X Z iter tl)(ht:∀cl C s0 H0 fp pn,zli (Cx.comp X sc (x::N) cl C s0 H0 fp pn) ifs tc)(he:∀cl C s0 H0 fp pn,PD (Cx.comp X sc (x::N) cl C s0 H0 fp pn) Z0 elt te)
  (hsw:swapsWith (.ListComp elt [⟨.Name x px,iter,ifs,0⟩] sc pos) (some (.Name y py)) spos.line X.env=pure true:=by rfl)
  (hs:∀y,foldedSetIterable iter X.env y=pure y:=by intro _; rfl):PDS X Z (.Assign [.Name y py] (.ListComp elt [⟨.Name x px,iter,ifs,0⟩] sc pos) spos) (zki i (zdp caps tl tc te)):=by
 subst har
 exact zbD (zpU hc cs hN hnd (tc:=upT X.K Z0 tc) (te:=up X.K Z0 te) (znU hl) ht he hNd hy hlo hsw hs) λF σ H h=>zrj (λ_ h=>zqv h) h
theorem zn1 {ta:TDA}{tc:TDT}{te:TDE}{a:Expr}{p pos2:Pos}{i:Nat}{y:Str}{py spos:Pos}(har:X.env.scope=ar)(hc:X.calm=true)(cs:zdR sc ar x N)(hN:caps.map (λi=>X.N[i]?)=N.map some)(hnd:(x::N).Nodup)(hNd:X.N.Nodup)(hy:X.N[i]?=some y)
  (hlo:ar.names.lookup y=some .local)(hg:Gl X "range")(hm:X.mg "range"=none)(ha:PDA X Z [a] ta)
  (ht:∀cl C s0 H0 fp pn,zli (Cx.comp X sc (x::N) cl C s0 H0 fp pn) ifs tc)(he:∀cl C s0 H0 fp pn,PD (Cx.comp X sc (x::N) cl C s0 H0 fp pn) Z0 elt te)
  (hsw:swapsWith (.ListComp elt [⟨.Name x px,.Call (.Name "range" p) [a] [] pos2,ifs,0⟩] sc pos) (some (.Name y py)) spos.line X.env=pure true:=by rfl)
  (hs:∀y,foldedSetIterable (.Call (.Name "range" p) [a] [] pos2) X.env y=pure y:=by intro _; rfl)(hst:starEach [a] X.env=[(false,eval a X.env)]:=by rfl):
  PDS X Z (.Assign [.Name y py] (.ListComp elt [⟨.Name x px,.Call (.Name "range" p) [a] [] pos2,ifs,0⟩] sc pos) spos) (zki i (zd2 caps ta tc te)):=by
 subst har
 exact zbD (zpU hc cs hN hnd (tc:=upT X.K Z0 tc) (te:=up X.K Z0 te) (zpX hg hm ha hst) ht he hNd hy hlo hsw hs) λF σ H h=>zrj (λ_ h=>zvO h) h
@[irreducible] def zdJ (to te:TDE):TDE:=λdl S Q=>to dl S λx S1=>match x with
 | .ref n=>match S1[n]? with
  | some (.lst _)=>te dl S1 λy S2=>match S2[n]? with
   | some (.lst xs)=>if xs.length<1000 then Q .non (S2.set n (.lst (xs++[y]))) else False
   | _=>False
  | _=>False
 | _=>False
theorem zbK {o e:Expr}{to te:TDE}{apos cpos:Pos}(ho:PD X Z o to)(he:PD X Z e te)(hbase:attributeBase o "append" X.env (eval o X.env)=eval o X.env:=by rfl)
  (hfew:((backTo cpos (starEach [e] X.env)).all (λx=>!x.1)&&(backToKw cpos (keywordEach [] X.env)).all (λx=>x.1.isSome)
  &&decide (([e]:List Expr).length+([]:List Keyword).length+(if ([]:List Keyword).isEmpty then 0 else 1)<30))=true:=by rfl)
  (hline:(apos.endLine==cpos.line)=true:=by rfl)(hst:starEach [e] X.env=[(false,eval e X.env)]:=by rfl):
  PD X Z (.Call (.Attribute o "append" apos) [e] [] cpos) (zdJ to te):=
 zbf (zpy PySem.F.plainAttrs_list PySem.F.slot_list_append PySem.F.type_list_append zpt ho (zfF he zjh hst) hbase hfew hline hst rfl) λσ H Qv h=>by
  obtain⟨r,dl,S,Q,rs,rel,h,ret⟩:=h
  unfold zdJ at h
  refine⟨r,dl,S,_,rs,rel,h,λv H1 r1 d S1 x1 rel1 p1 h1=>?_⟩
  cases p1 with
  | @ref n a hn=>
   dsimp only at h1
   split at h1
   ·rename_i xs0 e0
    obtain⟨a',ha,ob⟩:=rel1.at e0
    rw[hn] at ha; cases ha
    obtain⟨ys,hH,_⟩:=ob
    refine⟨.inl ⟨rfl,ys,SqL.of hH⟩,r1,dl,S1,_,rs.ext x1,rel1,h1,λv2 H2 r2 d2 S2 x2 rel2 p2 h2=>?_⟩
    split at h2
    ·rename_i xs1 e1
     obtain⟨hlt,h2⟩:=zns h2
     have ha2:=x2.adr n a hn
     obtain⟨zs,hH2,pz⟩:=rel2.b.ob n a _ ha2 e1
     obtain⟨rel3,x3⟩:=rel2.set ha2 e1 (pz.snoc p2)
     exact⟨a,zs,v2,rfl,rfl,hH2,by rw[← pz.1]; exact zn8 (VaW hlt),ret .non _ r2 .non _ (x1.trans (x2.trans x3)) rel3 .non h2⟩
    ·exact h2.elim
   ·exact h1.elim
  | _=>exact(show False from h1).elim
def zk9:WC:=λds S Q=>match ds with
 | [.tup xs]=>Q (.ref S.length) (S++[.lst xs])
 | [.ref n]=>match lAt S n with
  | some o=>Q (.ref S.length) (S++[.lst (zaz o)])
  | none=>False
 | _=>False
theorem zdH:zbm X (.type "list") (upC X.K Z zk9):=znD zuG λxs H Qv ⟨r,S,ds,Q,rel,ps,q,ret⟩=>by
 unfold zk9 at q
 split at q
 ·rename_i ys
  obtain⟨v,vs,rfl,p1,p2⟩:=ps.uncons
  have z:=p2.unnil
  subst z
  obtain⟨a,zs,rfl,h1,h2⟩:=p1.untup
  refine⟨a,zs,rfl,.inr (SqT.of h1),λl hl=>?_⟩
  obtain⟨rel2,x⟩:=rel.push hl h2
  exact ret _ _ _ (.ref S.length) _ x rel2 (zeF rel.len) q
 ·rename_i n
  obtain⟨v,vs,rfl,p1,p2⟩:=ps.uncons
  have z:=p2.unnil
  subst z
  split at q
  ·rename_i o eo
   obtain⟨eo,eL⟩:=zb3 eo
   obtain⟨a,ha,ob⟩:=rel.at eo
   cases p1 with
   | ref h1=>
    rw[h1] at ha; cases ha
    obtain⟨ys,sq,pr⟩:=ob.list eL
    refine⟨_,ys,rfl,.inl sq,λl hl=>?_⟩
    obtain⟨rel2,x⟩:=rel.push hl pr
    exact ret _ _ _ (.ref S.length) _ x rel2 (zeF rel.len) q
  ·exact q.elim
 ·exact q.elim
@[irreducible] def irr (w:WC):WC:=w
@[irreducible] def zcE (w:W2):W2:=w
theorem zin (w:WC):irr w=w:=by unfold irr; rfl
theorem zc9 (w:W2):zcE w=w:=by unfold zcE; rfl
theorem za7 {f:Value}{w:WC}(h:zbm X f (upC X.K Z w)):zbm X f (upC X.K Z (irr w)):=by rw[zin]; exact h
theorem zaG {a b:Expr}{ta tb:TDE}(ha:PD X Z a ta)(hb:PD X Z b tb)(hs:zpn b):PD X Z (.Subscript a b pos) (dOp (zcE wIx) ta tb):=by rw[zc9]; exact zad ha hb hs
theorem zaD (S:Sto)(o:Ob):(S++[o])[S.length]?=some o:=by simp
theorem znN {S:Sto}{o u:Ob}{n:Nat}(h:S[n]?=some o):(S++[u])[n]?=some o:=by
 rw[Vak (Vac.mp h).1]; exact h
theorem znh {tl te:TDE}{dl:Ev}{S S1:Sto}{Q:DK}{n:Nat}{o:Ob}(g:D→D)(htl:∀K:DK,K (.ref n) S1→tl dl S K)(h1:S1[n]?=some o)(hl:(zaz o).length≤1000)
  (ht:∀x∈zaz o,∀(S2:Sto) (K:DK),Pre S1 S2→K (g x) S2→te (some x::zcS caps dl) S2 K)(hq:Q (.ref S1.length) (S1++[.lst ((zaz o).map g)]))(hL:zb5 o=some o:=by rfl):zdp caps tl zc1 te dl S Q:=by
 unfold zdp
 refine htl _ ⟨by rw[zbg h1 hL]; rfl,λk m S2=>S2=S1++[.lst (((zaz o).take k).map g)]∧m+k=(zaz o).length,⟨(zaz o).length,by simp,by omega⟩,?_⟩
 rintro k m S2 ⟨rfl,hm⟩
 rw[zbg (znN h1) hL]
 dsimp only
 split
 ·rename_i x hx
  have hk:k<(zaz o).length:=(Vac.mp hx).1
  unfold zeg zc1
  simp only[if_true]
  refine ht x (Vat hx) _ _ Pre.refl.push ?_
  rw[zaD]
  refine⟨by simp; omega,m-1,by omega,?_,by omega⟩
  have e:(zaz o).take (k+1)=(zaz o).take k++[x]:=by rw[List.take_succ,hx]; rfl
  rw[e,Vaw,List.set_append_right _ _ (Vab _)]
  simp
 ·rename_i hx
  have hk:(zaz o).length≤k:=VaL.mp hx
  rw[List.take_of_length_le hk]
  exact hq
theorem ztW {o:Ob}{xs:List Int}(h:zdX (zaz o)=some xs):zb5 o=some o:=by
 cases o <;> first | rfl | cases h
theorem zbS {le:Int→Int→Prop}{two:Int→Int→Int}{n:Nat}{S:Sto}{o:Ob}{xs:List Int}{Q:DK}(h:S[n]?=some o)(hb:zdX (zaz o)=some xs)(hne:xs≠[])(hq:∀m,m∈xs→(∀y∈xs,le y m)→Q (.int m) S):irr (zd1 le two) [.ref n] S Q:=by
 rw[zin]
 unfold zd1
 simp only[zbg h (ztW hb),hb]
 exact⟨hne,hq⟩
theorem zdt {n:Nat}{S:Sto}{o:Ob}{Q:DK}(h:lAt S n=some o)(hq:Q (.ref S.length) (S++[.lst (zaz o)])):irr zk9 [.ref n] S Q:=by
 rw[zin]
 unfold zk9
 simp only[h]
 exact hq
theorem zb1 {to te:TDE}{dl:Ev}{S S1:Sto}{Q:DK}{n:Nat}{xs:List D}{y:D}(hto:∀K:DK,K (.ref n) S1→to dl S K)(h:S1[n]?=some (.lst xs))(hte:∀K:DK,K y S1→te dl S1 K)(hl:xs.length<1000)(hq:Q .non (S1.set n (.lst (xs++[y])))):zdJ to te dl S Q:=by
 unfold zdJ
 refine hto _ ?_
 simp only[h]
 refine hte _ ?_
 simp only[h]
 exact ifP hl hq
end
theorem zcf {n:Nat}{x y:Int}:Sco n (.tup [.int x,.int y]):=.tup λd hd=>by
 have z:d=.int x∨d=.int y:=by simpa using hd
 rcases z with rfl | rfl <;> exact .int _
open PySem PySem.Spec PyProof.Rows L2 PySem.W Builtin Builtin.ObjectAttr Builtin.Getset_descriptor
structure Nx (K:Frag)(D:Addr):Prop where
 ga:findIn K (.ref D) "__getattribute__"=some (some (.builtin "BaseException.__getattribute__"))
 hk:findIn K (.ref D) "__getattr__"=some none
 ha:findIn K (.ref D) "__class__"=some (some (.builtin "object.__class__"))
 hn:specialIn K (.builtin "object.__class__") "__get__"=some (some (.builtin "getset_descriptor.__get__"))
 ht:takesIn K (.builtin "object.__class__")=some true
 hm:mroIn K D (.type "object")=some true
 hb:mroIn K D (.type "BaseException")=some true
section
variable {X:Cx}{Z:Zx}
end
def eqN:Nat→D→D→Option Bool
 | 0=>eqF
 | k+1=>eqT (eqN k)
theorem zrJ:∀k,zfk (eqN k)
 | 0=>zfB
 | k+1=>zqt (zrJ k)
theorem zg3:∀k,zdN k (eqN k)
 | 0=>zmV 0
 | k+1=>zrD (zg3 k) (zrJ k)
def ziG (k:Nat)(S:Sto):D→D→Option Bool
 | .ref n,.ref m=>match lAt S n,lAt S m with
  | some o,some o'=>eqL (eqN k) (zaz o) (zaz o')
  | _,_=>none
 | x,y=>eqN (k+1) x y
def zed (k:Nat):W2:=λx y S Q=>match ziG k S x y with
 | some b=>Q (.bl b) S
 | none=>False
section
variable {X:Cx}{Z:Zx}
theorem ztK {k n m:Nat}{a a':Addr}{o o':Ob}{b:Bool}{pins:List (Addr×Obj)}{σ:St}{H:Hp}{s:Shared}{r:List Addr}{S:Sto}(I:Inv X pins σ H s)(rel:Rel X.K Z r S H)(hn:r[n]?=some a)(hm:r[m]?=some a')(eo:lAt S n=some o)(eo':lAt S m=some o')
  (e:eqL (eqN k) (zaz o) (zaz o')=some b)(hu:X.A.units+1+k<cLine):SeqAt.RcAt X.A s (.ref a) (.ref a') b:=by
 obtain⟨eo,eL⟩:=zb3 eo
 obtain⟨eo',eL'⟩:=zb3 eo'
 obtain⟨z,hz,ob⟩:=rel.at eo
 rw[hn] at hz; cases hz
 obtain⟨z,hz,ob'⟩:=rel.at eo'
 rw[hm] at hz; cases hz
 obtain⟨xs,sq,pr⟩:=ob.list eL
 obtain⟨ys,sq',pr'⟩:=ob'.list eL'
 obtain⟨is,ri,pl,_⟩:=I.list sq
 obtain⟨js,rj,pl',_⟩:=I.list sq'
 obtain⟨g1,g2⟩:=zlp (A:=X.A.in1) (zg3 k) I (by show X.A.units+1+k<_; omega) pr pr' ri rj e
 by_cases hs:is.toArray.size=js.toArray.size
 ·have q:=SeqAt.RcAt.lists (A:=X.A) pl.isList pl'.isList hs (by omega) g1
  have e2:(List.range is.toArray.size).all (zcA (eqN k) (zaz o) (zaz o'))=b:=by
   rw[← g2,← hs,Nat.min_self]; simp
  rw[e2] at q
  exact q
 ·have q:=SeqAt.RcAt.lists_lengths (A:=X.A) pl.isList pl'.isList (by simpa using hs) (by omega)
  have e2:b=false:=by
   rw[← g2,show (is.toArray.size==js.toArray.size)=false by simpa using hs,Bool.and_false]
  rw[e2]
  exact q
theorem zwH (k:Nat){j:Nat}(hr:zaN j X.A)(hu:X.A.units+1+k<cLine):OpR X (compareOp .Eq) (upO X.K Z (zed k)):=by
 intro pins s σ H x y v u Qv I rx ry h
 obtain⟨r,S,dx,dy,Q,rel,px,py,q,ret⟩:=h
 have zbb:∀ {dx dy:D} {x y:V},Rp r H dx x→Rp r H dy y→zay x v→zay y u→ziG k S dx dy=eqN (k+1) dx dy→zed k dx dy S Q→wpAny (model X.prog X.w) X.A (compareOp .Eq v u) (EP X pins σ Qv) X.xe s:=λpx py rx ry e q=>by
  refine zkn (Z:=Z) (zg3 k) hu pins s σ H _ _ v u Qv I rx ry ⟨r,S,_,_,Q,rel,px,py,?_,ret⟩
  unfold zed at q
  rw[e] at q
  exact q
 cases px with
 | @ref n a hn=>
  cases py with
  | @ref m a' hm=>
   cases rx
   cases ry
   unfold zed ziG at q
   dsimp only at q
   split at q
   ·rename_i b e
    split at e
    ·rename_i o o' eo eo'
     exact ztK I rel hn hm eo eo' e hu X.prog X.w X.xe _ ⟨.bl b,H,I,rfl,ret _ _ _ _ _ Ext.refl rel (.bl b) q⟩
    ·cases e
   ·exact q.elim
  | non=>exact zbb (.ref hn) .non rx ry rfl q
  | bl i=>exact zbb (.ref hn) (.bl i) rx ry rfl q
  | int i=>exact zbb (.ref hn) (.int i) rx ry rfl q
  | str i=>exact zbb (.ref hn) (.str i) rx ry rfl q
  | tup a b c=>exact zbb (.ref hn) (.tup a b c) rx ry rfl q
  | exc a=>exact zbb (.ref hn) (.exc a) rx ry rfl q
 | non=>exact zbb .non py rx ry rfl q
 | bl i=>exact zbb (.bl i) py rx ry rfl q
 | int i=>exact zbb (.int i) py rx ry rfl q
 | str i=>exact zbb (.str i) py rx ry rfl q
 | tup a b c=>exact zbb (.tup a b c) py rx ry rfl q
 | exc a=>exact zbb (.exc a) py rx ry rfl q
def zbW (f:D→D→Option Bool):List D→D→Option Bool
 | [],_=>some false
 | y::ys,x=>match f y x,zbW f ys x with
  | some b,some c=>some (b||c)
  | _,_=>none
def wIn (k:Nat)(neg:Bool):W2:=λx y S Q=>match y with
 | .ref n=>match lAt S n with
  | some o=>match zbW (eqN k) (zaz o) x with
   | some b=>Q (.bl (if neg then !b else b)) S
   | none=>False
  | none=>False
 | _=>False
theorem zq1 {v v':V}{u:Value}(h:zay v u)(h':zay v' u):v=v':=by
 cases v <;> cases v' <;> simp[L2.zay] at h h' <;> first
  | rfl
  | (subst h; simp at h'; subst h'; rfl)
  | (obtain⟨t,rfl⟩:=h; simp at h'; subst h'; rfl)
  | (obtain⟨t,rfl⟩:=h; simp at h')
  | (subst h; simp at h')
  | skip
theorem zhg {r:List Addr}{H:Hp}{d d' x:D}{v:V}{b b':Bool}(p:Rp r H d v)(p':Rp r H d' v)(e:eqF d x=some b)(e':eqF d' x=some b'):b=b':=by
 have z:d=d':=by
  cases p <;> cases p' <;> first
   | rfl
   | (cases x <;> simp[eqF] at e)
   | (cases x <;> simp[eqF] at e')
 subst z
 rw[e] at e'
 exact Option.some.inj e'
theorem zpD {f:D→D→Option Bool}{r:List Addr}{H:Hp}(hf:∀(d d' x:D) (v:V) (b b':Bool),Rp r H d v→Rp r H d' v→f d x=some b→f d' x=some b'→b=b'):
  ∀ {ds ds' zs:List D} {vs:List V} {b b':Bool},Rps r H ds vs→Rps r H ds' vs→eqL f ds zs=some b→eqL f ds' zs=some b'→b=b'
 | [],ds',zs,vs,b,b',p,p',e,e'=>by
  have z:=p.unnil
  subst z
  cases ds' with
  | nil=>rw[e] at e'; exact Option.some.inj e'
  | cons y ys=>exact absurd p'.1 (by simp)
 | d::ds,ds',zs,vs,b,b',p,p',e,e'=>by
  obtain⟨v,vs',rfl,p1,p2⟩:=p.uncons
  cases ds' with
  | nil=>exact absurd p'.1 (by simp)
  | cons d' ds'=>
   obtain⟨q1,q2⟩:=p'.tail
   cases zs with
   | nil=>
    simp only[eqL,Option.some.injEq] at e e'
    exact e.symm.trans e'
   | cons z zs=>
    unfold eqL at e e'
    split at e
    ·rename_i b1 c1 a1 a2
     split at e'
     ·rename_i b2 c2 a3 a4
      have h1:=hf d d' z v b1 b2 p1 q1 a1 a3
      have h2:=zpD hf p2 q2 a2 a4
      subst h1 h2
      simp only[Option.some.injEq] at e e'
      exact e.symm.trans e'
     ·cases e'
    ·cases e
theorem znB:∀(k:Nat) {r:List Addr} {H:Hp} (d d' x:D) (v:V) (b b':Bool),Rp r H d v→Rp r H d' v→eqN k d x=some b→eqN k d' x=some b'→b=b'
 | 0,r,H,d,d',x,v,b,b',p,p',e,e'=>zhg p p' e e'
 | k+1,r,H,d,d',x,v,b,b',p,p',e,e'=>by
  cases p with
  | tup h1 l1 f1=>
   cases p' with
   | tup h2 l2 f2=>
    rw[h1] at h2; cases h2
    cases x with
    | tup zs=>exact zpD (λd d' x v b b'=>znB k d d' x v b b') ⟨l1,f1⟩ ⟨l2,f2⟩ e e'
    | _=>simp[eqN,eqT,eqF] at e
   | ref h=>cases x <;> simp[eqN,eqT,eqF] at e'
   | exc h=>cases x <;> simp[eqN,eqT,eqF] at e'
  | non=>exact zhg (x:=x) .non p' (by cases x <;> exact e) (by cases p' <;> cases x <;> exact e')
  | bl i=>exact zhg (x:=x) (.bl i) p' (by cases x <;> exact e) (by cases p' <;> cases x <;> exact e')
  | int i=>exact zhg (x:=x) (.int i) p' (by cases x <;> exact e) (by cases p' <;> cases x <;> exact e')
  | str i=>exact zhg (x:=x) (.str i) p' (by cases x <;> exact e) (by cases p' <;> cases x <;> exact e')
  | ref h=>cases x <;> simp[eqN,eqT,eqF] at e
  | exc h=>cases x <;> simp[eqN,eqT,eqF] at e
theorem zqx {f:D→D→Option Bool}{x:D}:∀ {ys:List D} {b:Bool},zbW f ys x=some b→(∀y∈ys,∃c,f y x=some c)∧(b=true↔∃y∈ys,f y x=some true)
 | [],b,e=>by
  simp only[zbW,Option.some.injEq] at e
  subst e
  simp
 | y::ys,b,e=>by
  unfold zbW at e
  split at e
  ·rename_i b1 c1 e1 e2
   obtain⟨h1,h2⟩:=zqx e2
   simp only[Option.some.injEq] at e
   subst e
   refine⟨λz hz=>?_,?_⟩
   ·rcases Vaf.mp hz with rfl | hz'
    ·exact⟨b1,e1⟩
    ·exact h1 z hz'
   ·rw[Bool.or_eq_true,h2]
    refine⟨λq=>?_,λ⟨z,hz,q⟩=>?_⟩
    ·rcases q with q | ⟨z,hz,q⟩
     ·exact⟨y,VaX,by rw[e1,q]⟩
     ·exact⟨z,VaF _ hz,q⟩
    ·rcases Vaf.mp hz with rfl | hz'
     ·left
      rw[e1] at q
      exact Option.some.inj q
     ·exact .inr ⟨z,hz',q⟩
  ·cases e
theorem zwG {k:Nat}{pins:List (Addr×Obj)}{σ:St}{H:Hp}{s:Shared}{r:List Addr}{A:Around}{ds:List D}{vs:List V}{us:List Value}{dx:D}{x:V}{u:Value}{b:Bool}(I:Inv X pins σ H s)(hu:A.units+k<cLine)
  (p:Rps r H ds vs)(rv:zaA vs us)(px:Rp r H dx x)(rx:zay x u)(e:zbW (eqN k) ds dx=some b):∃g:Value→Bool,(∀y,y∈us.toArray→SeqAt.EqAt A s y u (g y))∧us.toArray.any g=b:=by
 obtain⟨h1,h2⟩:=zqx e
 have at_:∀y∈us,∃d v,d∈ds∧Rp r H d v∧zay v y:=λy hy=>by
  obtain⟨j,hj,ej⟩:=VaJ.mp hy
  have hv:j<vs.length:=by rw[rv.length]; exact hj
  have gv:vs[j]?=some vs[j]:=by simp[hv]
  obtain⟨w,gw,rw'⟩:=rv.get gv
  obtain⟨d,gd,pd⟩:=p.get' gv
  have ew:w=y:=by
   rw[Vag hj,ej] at gw
   exact(Option.some.inj gw).symm
  subst ew
  exact⟨d,_,Vat gd,pd,rw'⟩
 classical
 refine⟨λy=>decide (∃d v,d∈ds∧Rp r H d v∧zay v y∧eqN k d dx=some true),λy hy=>?_,?_⟩
 ·obtain⟨d,v,hd,pd,rd⟩:=at_ y (by simpa using hy)
  obtain⟨c,hc⟩:=h1 d hd
  have same:decide (∃d v,d∈ds∧Rp r H d v∧zay v y∧eqN k d dx=some true)=c:=by
   cases c with
   | true=>exact decide_eq_true ⟨d,v,hd,pd,rd,hc⟩
   | false=>
    refine decide_eq_false λ⟨d',v',_,pd',rd',hc'⟩=>?_
    have ev:=zq1 rd rd'
    subst ev
    exact absurd (znB k d d' dx v false true pd pd' hc hc') (by decide)
  show SeqAt.EqAt A s y u (decide _)
  rw[same]
  exact zg3 k X pins σ H s r A d dx v x y u c I hu pd px rd rx hc
 ·rw[Bool.eq_iff_iff,h2,List.any_toArray,List.any_eq_true]
  refine⟨λ⟨y,hy,q⟩=>?_,λ⟨d,hd,q⟩=>?_⟩
  ·obtain⟨d,v,hd,_,_,q'⟩:=of_decide_eq_true q
   exact⟨d,hd,q'⟩
  ·obtain⟨j,hj,ej⟩:=VaJ.mp hd
   have gd:ds[j]?=some d:=by simp[hj,ej]
   obtain⟨v,gv,pv⟩:=p.get gd
   obtain⟨w,gw,rw'⟩:=rv.get gv
   exact⟨w,Vat gw,decide_eq_true ⟨d,v,hd,pv,rw',q⟩⟩
theorem zvU (k:Nat)(hu:X.A.units+1+k<cLine):OpR X (compareOp .NotIn) (upO X.K Z (wIn k true)):=by
 intro pins s σ H x y v u Qv I rx ry h
 obtain⟨r,S,dx,dy,Q,rel,px,py,q,ret⟩:=h
 cases py with
 | @ref n a hn=>
  unfold wIn at q
  dsimp only at q
  split at q
  ·rename_i o eo
   split at q
   ·rename_i b eb
    cases ry
    obtain⟨eo,eL⟩:=zb3 eo
    obtain⟨a',ha,ob⟩:=rel.at eo
    rw[hn] at ha; cases ha
    obtain⟨ys,sq,pr⟩:=ob.list eL
    obtain⟨us,ru,pl,_⟩:=I.list sq
    obtain⟨g,g1,g2⟩:=zwG (A:=X.A.in1) I (by show X.A.units+1+k<_; omega) pr ru px rx eb
    refine SeqAt.notIn_listAt g pl.isList g1 ?_
    rw[g2]
    exact⟨.bl (!b),H,I,rfl,ret _ _ _ _ _ Ext.refl rel (.bl (!b)) q⟩
   ·exact q.elim
  ·exact q.elim
 | _=>exact(show False from q).elim
end
section
variable {X:Cx}{Z:Zx}{pos:Pos}
def dForT (i:Nat)(tl:TDE)(tb:TDS):TDS:=λE dl S=>tl dl S λd S1=>match d with
 | .tup xs=>∃W:Nat→Ev→Sto→Prop,W 0 dl S1∧∀k dl S,W k dl S→match xs[k]? with
  | some x=>tb { nx:=λdl' S'=>W (k+1) dl' S',rt:=E.rt,bk:=E.nx,ct:=λdl' S'=>W (k+1) dl' S' } (dl.set i (some x)) S
  | none=>E.nx dl S
 | _=>False
theorem zt7 {i:Nat}{x:Str}{pos':Pos}{iter:Expr}{body:List Stmt}{tl:TDE}{tb:TDS}(hp:PassesOwn (model X.prog X.w) X.A X.env X.xe)(hc:X.calm=true)(hN:X.N.Nodup)(hi:X.N[i]?=some x)(hx:Loc X.env.scope x)
  (hl:PD X Z iter tl)(hb:zci X Z body tb)(hf:X.fn x=true∨X.env.scope.names.lookup x=some .local:=by first | exact .inl rfl | exact .inr rfl | assumption)
  (hs:∀y,foldedSetIterable iter X.env y=pure y:=by intro _; rfl):PDS X Z (.For (.Name x pos') iter body [] pos) (dForT i tl tb):=
 zbD (zgx hp hc (zyP hl) (zeS hN hi hx hf) hb hs) λF σ H ⟨r,dl,S,E,rs,rel,h,ret⟩=>by
  refine⟨r,dl,S,_,rs,rel,h,λv H1 r1 d S1 x1 rel1 p1 q1=>?_⟩
  cases p1 with
  | @tup ds xs a e1 l1 f1=>
   obtain⟨W,w0,turn⟩:=q1
   have sq:∀ {r':List Addr} {H':Hp},Ext r1 r' H1 H'→SqT X.K H' a xs:=λ{r' H'} x'=>SqT.of (x'.tup _ _ e1)
   refine⟨a,rfl,⟨xs,sq Ext.refl⟩,λk m σ' H'=>m+k=xs.length∧∃r' dl' S',Ext r1 r' H1 H'∧Rs r' H' dl' σ'∧Rel X.K Z r' S' H'∧W k dl' S',⟨xs.length,by omega,r1,dl,S1,Ext.refl,rs.ext x1,rel1,w0⟩,?_⟩
   rintro k m σ2 H2 ⟨em,r2,dl2,S2,x2,rs2,rel2,w2⟩
   have q:=turn k dl2 S2 w2
   split at q
   ·rename_i y ey
    have hk:k<ds.length:=(Vac.mp ey).1
    have hkx:k<xs.length:=by rw[← l1]; exact hk
    have pv:Rp r2 H2 y xs[k]:=(f1 k y xs[k] ey (by simp[hkx])).ext x2
    have go:∀σ' H' r' dl' S',Ext r2 r' H2 H'→Rs r' H' dl' σ'→Rel X.K Z r' S' H'→W (k+1) dl' S'→∃r' dl' S',Ext r1 r' H1 H'∧Rs r' H' dl' σ'∧Rel X.K Z r' S' H'∧W (k+1) dl' S':=
     λσ' H' r' dl' S' x rs' rel' w'=>⟨r',dl',S',x2.trans x,rs',rel',w'⟩
    refine .inr ⟨⟨xs,xs[k],sq x2,by simp[hkx]⟩,λσ' H'=>∃r' dl' S',Ext r1 r' H1 H'∧Rs r' H' dl' σ'∧Rel X.K Z r' S' H'∧W (k+1) dl' S',λσ' H' z=>⟨m-1,by omega,by omega,z⟩,λv' H' y'=>?_⟩
    obtain⟨eH,y'⟩:=y'
    subst eH
    have ev:v'=xs[k]:=by
     have z:=y' xs (sq x2)
     rw[Vag hkx] at z; exact(Option.some.inj z).symm
    subst ev
    exact⟨r2,_,S2,_,rs2.set i pv,rel2,q,go,λσ' H' r' dl' S' x rs' rel' z=>ret.nx σ' H' r' dl' S' (x1.trans (x2.trans x)) rs' rel' z,go,ret.rt.ext (x1.trans x2)⟩
   ·rename_i ey
    have hlen:ds.length≤k:=VaL.mp ey
    exact .inl ⟨⟨xs,sq x2,by rw[← l1]; exact hlen⟩,ret.nx σ2 H2 r2 dl2 S2 (x1.trans x2) rs2 rel2 q⟩
  | _=>exact(show False from q1).elim
def ze1:List Nat→List D→Ev→Ev
 | i::is,d::ds,dl=>ze1 is ds (dl.set i (some d))
 | _,_,dl=>dl
def zmt:List Nat→List V→St→St
 | i::is,v::vs,σ=>zmt is vs (σ.set i (some v))
 | _,_,σ=>σ
theorem zoH {r:List Addr}{H:Hp}:∀ {is:List Nat} {ds:List D} {vs:List V} {dl:Ev} {σ:St},Rs r H dl σ→Rps r H ds vs→Rs r H (ze1 is ds dl) (zmt is vs σ)
 | [],ds,vs,dl,σ,h,p=>by cases ds <;> cases vs <;> exact h
 | i::is,[],vs,dl,σ,h,p=>by
  have z:=p.unnil
  subst z
  exact h
 | i::is,d::ds,vs,dl,σ,h,p=>by
  obtain⟨v,vs',rfl,p1,p2⟩:=p.uncons
  show Rs r H (ze1 is ds (dl.set i (some d))) (zmt is vs' (σ.set i (some v)))
  exact zoH (Rs.set i h p1) p2
inductive Nms (X:Cx):List Expr→List Nat→Prop
 | nil:Nms X [] []
 | cons {x:Str} {p:Pos} {i:Nat} {es:List Expr} {is:List Nat}:X.N[i]?=some x→Loc X.env.scope x→(X.fn x=true∨X.env.scope.names.lookup x=some .local)→Nms X es is→Nms X (.Name x p::es) (i::is)
def gAll (is:List Nat):TGs:=λvs σ H Q=>vs.length=is.length∧Q (zmt is vs σ) H
theorem znP (hN:X.N.Nodup):∀ {es:List Expr} {is:List Nat},Nms X es is→PGs X es (gAll is)
 | _,_,.nil=>λpins s σ H vs us Q I r h=>by
  obtain⟨e,h⟩:=h
  have z:vs=[]:=by simpa using e
  subst z
  exact zw2 pins s σ H [] us Q I r ⟨rfl,h⟩
 | _,_,.cons (x:=x) (p:=p) (es:=es) (is:=is) h1 h2 h3 t=>λpins s σ H vs us Q I r h=>by
  obtain⟨e,h⟩:=h
  cases vs with
  | nil=>simp at e
  | cons v vs=>exact zsP (zeS hN h1 h2 h3) (znP hN t) rfl pins s σ H (v::vs) us Q I r ⟨v,vs,rfl,by simpa using e,h⟩
def dSetT (is:List Nat)(te:TDE):TDS:=λE dl S=>te dl S λd S1=>match d with
 | .tup xs=>xs.length=is.length∧E.nx (ze1 is xs dl) S1
 | _=>False
theorem zua {es:List Expr}{e:Expr}{te:TDE}{k:Nat}{p:Pos}{is:List Nat}(hc:X.calm=true)(hN:X.N.Nodup)(hn:Nms X es is)(he:PD X Z e te)(hlen:(assignEach es X.env).length=is.length:=by rfl)(hst:(assignEach es X.env).findIdx? (·.1)=none:=by rfl)
  (hs:swapsWithSole [.Tuple es k p] e pos.line X.env=pure false:=by rfl)(hw:swappedStores [.Tuple es k p] e X.env=pure none:=by rfl)
  (h1:(assignEach [.Tuple es k p] X.env).map (·.2)=[assign (.Tuple es k p) X.env]:=by rfl):PDS X Z (.Assign [.Tuple es k p] e pos) (dSetT is te):=
 zbD (zrg he (zqp hc (znP hN hn) hlen hst) hs hw h1) λF σ H ⟨r,dl,S,E,rs,rel,h,ret⟩=>by
  refine⟨r,dl,S,_,rs,rel,h,λv H1 r1 d S1 x1 rel1 p1 q1=>?_⟩
  cases p1 with
  | @tup ds xs a e1 l1 f1=>
   obtain⟨hl,q⟩:=q1
   exact⟨a,xs,rfl,SqT.of e1,by rw[← l1]; exact hl,by rw[← l1]; exact hl,ret.nx _ H1 r1 _ S1 x1 (zoH (rs.ext x1) ⟨l1,f1⟩) rel1 q⟩
  | _=>exact(show False from q1).elim
end
open PySem L2
theorem zoF (S:Sto)(o u:Ob):(S++[o]).set S.length u=S++[u]:=by simp
section
variable {X:Cx}{Z:Zx}
abbrev wShl:W2:=wI zmp λi j=>.int (i*2^j.toNat)
theorem zsH:OpR X (binaryOp .LShift) (upO X.K Z wShl):=opD zus λ_ _ _ _=>.int _
def dBits (to:TDE):TDE:=λdl S Q=>to dl S λd S1=>match d with
 | .int i=>Q (.int (Builtin.Int.intBits i)) S1
 | _=>False
theorem ztJ:MtR X "int.bit_length" (λx xs H Q=>∃i,x=.int i∧xs=[]∧Q (.int (Builtin.Int.intBits i)) H):=by
 intro pins s σ H x xs v us Q I rx rv h
 obtain⟨i,rfl,rfl,q⟩:=h
 obtain⟨t,rfl⟩:=rx
 cases rv
 exact call_int_bit_length ⟨.int _,H,I.tok _,⟨_,rfl⟩,q⟩
theorem zut {o:Expr}{to:TDE}{apos cpos:Pos}(ho:PD X Z o to)(hbase:attributeBase o "bit_length" X.env (eval o X.env)=eval o X.env:=by rfl)(hline:(apos.endLine==cpos.line)=true:=by rfl):
  PD X Z (.Call (.Attribute o "bit_length" apos) [] [] cpos) (dBits to):=
 zbf (zyK (T:="int") ⟨⟨_,ga_int,canon_ga_int⟩,no_getattr_int⟩ slot_int_bit_length type_int_bit_length ztJ ho hbase hline) λσ H Qv ⟨r,dl,S,Q,rs,rel,h,ret⟩=>⟨r,dl,S,_,rs,rel,h,λv H1 r1 d S1 e1 rel1 p1 q1=>by
  cases p1 with
  | int i=>exact⟨rfl,i,rfl,rfl,ret _ H1 r1 (.int _) S1 e1 rel1 (.int _) q1⟩
  | _=>exact(show False from q1).elim⟩
end
def zrv:Sd:=λ_ _ _ _=>False
def Df.never {P:Program}{w:World}{K:PySem.W.Frag}{mg:Str→Option Value}{base:Heap}{x:Str}{st:Stmt}{ps:List Str}(k:Nat)(d:Df K mg x st ps):Fk P w K mg base k x ps zrv:=
 ⟨d.f,d.fd,⟨λ_ _ _ _ ⟨_,_,_,_,_,_,_,z,_⟩=>z.elim,λ_ _ _ _ _ _ _ _ _ _ _ _ _ ⟨_,_,_,_,_,_,_,z,_⟩=>z.elim⟩,d.m,d.F.kp,d.b⟩
section
variable {X:Cx}{Z:Zx}{pos:Pos}
end
section
variable {X:Cx}{Z:Zx}{elt iter:Expr}{x:Str}{px pos:Pos}{ifs:List Expr}{sc ar:Scope}{N:List Str}{caps:List Nat}
theorem zuF {ta:TDA}{te:TDE}{dl:Ev}{S S1:Sto}{Q:DK}{j:Int}(g:Nat→D)(hta:∀K:List D→Sto→Prop,K [.int j] S1→ta dl S K)(hj:0≤j∧j≤1000)
  (ht:∀k:Nat,k<j.toNat→∀(S2:Sto) (K:DK),Pre S1 S2→K (g k) S2→te (some (.int k)::zcS caps dl) S2 K)(hq:Q (.ref S1.length) (S1++[.lst ((List.range j.toNat).map g)])):zd2 caps ta zc1 te dl S Q:=by
 unfold zd2
 refine hta _ ⟨⟨by omega,by omega⟩,λk S2=>S2=S1++[.lst ((List.range k).map g)]∧k≤j.toNat,⟨by simp,by omega⟩,?_⟩
 rintro k S2 ⟨rfl,hk⟩
 split
 ·rename_i hk'
  unfold zeg zc1
  simp only[if_true]
  refine ht k hk' _ _ Pre.refl.push ?_
  rw[zaD]
  refine⟨by simp; omega,?_,by omega⟩
  rw[List.range_succ,Vaw,List.set_append_right _ _ (Vab _)]
  simp
 ·have e:k=j.toNat:=by omega
  subst e
  exact hq
end
section
variable {X:Cx}{Z:Zx}{pos:Pos}
def zbb (zs:List Str):Str:=⟨(zs.flatMap λz=>z.cps.toList).toArray⟩
abbrev TDO:=Ev→Sto→(Option Int→Sto→Prop)→Prop
def upP (K:PySem.W.Frag)(Z:Zx)(t:TDO):TO:=λσ H Q=>∃(r:List Addr) (dl:Ev) (S:Sto) (Q':Option Int→Sto→Prop),Rs r H dl σ∧Rel K Z r S H∧t dl S Q'∧∀o H' r' S',Ext r r' H H'→Rel K Z r' S' H'→Q' o S'→Q o H'
def PDO (X:Cx)(Z:Zx)(e:Option Expr)(t:TDO):Prop:=PO X e (upP X.K Z t)
def zxR:TDO:=λ_ S Q=>Q none S
def dPart (t:TDE):TDO:=λdl S Q=>t dl S λd S1=>match d with
 | .int i=>Q (some i) S1
 | _=>False
theorem zqo {e:Option Expr}{t t':TO}(h:PO X e t)(g:∀σ H Q,t' σ H Q→t σ H Q):PO X e t':=λpins s σ H Q I q=>h pins s σ H Q I (g σ H Q q)
theorem zeV:PDO X Z none zxR:=zqo zrQ λσ H Q ⟨r,dl,S,Q',rs,rel,h,ret⟩=>ret none H r S Ext.refl rel h
theorem zcO {e:Expr}{t:TDE}(he:PD X Z e t):PDO X Z (some e) (dPart t):=zqo (zsS he) λσ H Q ⟨r,dl,S,Q',rs,rel,h,ret⟩=>⟨r,dl,S,_,rs,rel,h,λv H1 r1 d S1 e1 rel1 p1 q1=>by
 cases p1 with
 | int i=>exact⟨i,rfl,ret (some i) H1 r1 S1 e1 rel1 q1⟩
 | _=>exact(show False from q1).elim⟩
end
section
variable {X:Cx}{Z:Zx}
end
section
variable {X:Cx}{Z:Zx}
end
theorem zaB {n:Nat}{S:Sto}{o:Ob}{Q:DK}{i:Int}{d:D}(ho:S[n]?=some o)(hd:atI (zaz o) i=some d)(hq:Q d S)(hL:zb5 o=some o:=by rfl):zcE wIx (.ref n) (.int i) S Q:=by
 rw[zc9]
 unfold wIx
 simp only[zbg ho hL,hd]
 exact hq
def ze8 (f:Str)(v:D):List (Str×D)→List (Str×D)
 | []=>[(f,v)]
 | p::r=>if p.1=f then (f,v)::r else p::ze8 f v r
theorem FR.lookup {r:List Addr}{H:Hp}{f:Str}:∀ {fs:List (Str×D)} {fs':List (Str×V)},FR r H fs fs'→(∀d,fs.lookup f=some d→∃v,fs'.lookup f=some v∧Rp r H d v)∧(fs.lookup f=none→fs'.lookup f=none)
 | [],fs',h=>by
  have e:fs'=[]:=by
   have:=h.1
   simpa using this.symm
  subst e
  exact⟨λd z=>by simp at z,λ_=>rfl⟩
 | p::fs,[],h=>by
  have:=h.1
  simp at this
 | p::fs,q::fs',h=>by
  obtain⟨h1,h2⟩:=h
  simp only[Vas,List.cons.injEq] at h1
  obtain⟨p1,p2⟩:=h2.tail
  obtain⟨i1,i2⟩:=FR.lookup (f:=f) (fs:=fs) (fs':=fs') ⟨h1.2,p2⟩
  obtain⟨pk,pv⟩:=p
  obtain⟨qk,qv⟩:=q
  have ek:pk=qk:=h1.1
  subst ek
  by_cases z:f=pk
  ·subst z
   simp only[List.lookup_cons_self]
   exact⟨λd hd=>⟨qv,rfl,by cases hd; exact p1⟩,λhd=>by cases hd⟩
  ·have zb:(f==pk)=false:=by simpa using z
   simp only[Vav,zb]
   exact⟨i1,i2⟩
theorem FR.put {r:List Addr}{H:Hp}{f:Str}{d:D}{v:V}(q:Rp r H d v):∀ {fs:List (Str×D)} {fs':List (Str×V)},FR r H fs fs'→FR r H (ze8 f d fs) (zbs f v fs')
 | [],fs',h=>by
  have e:fs'=[]:=by
   have:=h.1
   simpa using this.symm
  subst e
  exact⟨rfl,Rps.cons q Rps.nil⟩
 | p::fs,[],h=>by
  have:=h.1
  simp at this
 | p::fs,p'::fs',h=>by
  obtain⟨h1,h2⟩:=h
  simp only[Vas,List.cons.injEq] at h1
  obtain⟨p1,p2⟩:=h2.tail
  have ih:=FR.put (f:=f) q (fs:=fs) (fs':=fs') ⟨h1.2,p2⟩
  obtain⟨pk,pv⟩:=p
  obtain⟨qk,qv⟩:=p'
  have ek:pk=qk:=h1.1
  subst ek
  unfold ze8 zbs
  by_cases z:pk=f
  ·rw[if_pos z,if_pos z]
   exact⟨by simp[h1.2,z],Rps.cons q p2⟩
  ·rw[if_neg z,if_neg z]
   exact⟨by simp[ih.1],Rps.cons p1 ih.2⟩
section
variable {X:Cx}{Z:Zx}{pos:Pos}
def zcM (C:Addr)(S:Sto):D→Option (Nat×List (Str×D))
 | .ref n=>match S[n]? with
  | some (.ins C' fs)=>if C'=C then some (n,fs) else none
  | _=>none
 | _=>none
theorem znZ {C:Addr}{S:Sto}{d:D}{n:Nat}{fs:List (Str×D)}(h:zcM C S d=some (n,fs)):d=.ref n∧S[n]?=some (.ins C fs):=by
 unfold zcM at h
 split at h
 ·split at h
  ·rename_i m _ C' fs' e
   split at h
   ·rename_i ec
    subst ec
    simp only[Option.some.injEq,Prod.mk.injEq] at h
    obtain⟨rfl,rfl⟩:=h
    exact⟨rfl,e⟩
   ·cases h
  ·cases h
 ·cases h
@[irreducible] def zkF (C:Addr)(f:Str)(to:TDE):TDE:=λdl S Q=>to dl S λd S1=>match zcM C S1 d with
 | some (_,fs)=>match fs.lookup f with
  | some v=>Q v S1
  | none=>False
 | none=>False
theorem zaY {C:Addr}{f:Str}{o:Expr}{to:TDE}(c:Cls X.K C)(n:zbu X.K C f)(ho:PD X Z o to)(hb:attributeBase o f X.env (eval o X.env)=eval o X.env:=by rfl):PD X Z (.Attribute o f pos) (zkF C f to):=
 zbf (zrS ho hb) λσ H Qv ⟨r,dl,S,Q,rs,rel,h,ret⟩=>by unfold zkF at h; exact⟨r,dl,S,_,rs,rel,h,λv H1 r1 d S1 e1 rel1 p1 q1=>by
  split at q1
  ·rename_i m fs ei
   obtain⟨rfl,eS⟩:=znZ ei
   split at q1
   ·rename_i w ew
    obtain⟨a,ha,ob⟩:=rel1.at eS
    obtain⟨dx,fs',eH,fr⟩:=ob
    cases p1 with
    | ref hr=>
     rw[hr] at ha; cases ha
     obtain⟨u,hu,pu⟩:=fr.lookup.1 w ew
     exact⟨a,C,dx,fs',u,rfl,eH,c,n,hu,ret u H1 r1 w S1 e1 rel1 pu q1⟩
   ·exact q1.elim
  ·exact q1.elim⟩
@[irreducible] def ziU (C:Addr)(f:Str)(to te:TDE):TDS:=λE dl S=>te dl S λv S1=>to dl S1 λd S2=>match zcM C S2 d with
 | some (n,fs)=>fs.length<1000∧E.nx dl (S2.set n (.ins C (ze8 f v fs)))
 | none=>False
theorem zcD {C:Addr}{f:Str}{o e:Expr}{to te:TDE}{p2:Pos}(c:Cls X.K C)(n:zbu X.K C f)(ho:PD X Z o to)(he:PD X Z e te)
  (hs:swapsWith e (some (.Attribute o f p2)) pos.line X.env=pure false:=by rfl):PDS X Z (.Assign [.Attribute o f p2] e pos) (ziU C f to te):=
 zbD (zwv ho he hs) λF σ H ⟨r,dl,S,E,rs,rel,h,ret⟩=>by unfold ziU at h; exact⟨r,dl,S,_,rs,rel,h,λv H1 r1 dv S1 e1 rel1 p1 q1=>⟨r1,dl,S1,_,rs.ext e1,rel1,q1,λw H2 r2 d S2 e2 rel2 p2' q2=>by
  split at q2
  ·rename_i m fs ei
   obtain⟨rfl,eS⟩:=znZ ei
   obtain⟨hl,q2⟩:=q2
   obtain⟨a,ha,ob⟩:=rel2.at eS
   obtain⟨dx,fs',eH,fr⟩:=id ob
   cases p2' with
   | ref hr=>
    rw[hr] at ha; cases ha
    have hlen:fs'.length=fs.length:=by
     have:=congrArg List.length fr.1
     simpa using this.symm
    obtain⟨rb,x⟩:=rel2.b.setO (o':=.ins C (ze8 f dv fs)) (u:=.ins C dx (zbs f v fs')) hr eS rfl rfl λx=>⟨dx,_,zcL,(fr.put (p1.ext e2)).ext x⟩
    exact⟨a,C,dx,fs',rfl,eH,c,n,by omega,ret.nx _ _ r2 _ _ (e1.trans (e2.trans x)) (rs.ext (e1.trans (e2.trans x))) ⟨rb,rel2.xw.ext x⟩ q2⟩
  ·exact q2.elim⟩⟩
@[irreducible] def zjv (C:Addr)(m:Str)(ex:Ev→Addr→Sto→Prop)(sd:Sd)(to:TDE)(t:TDA):TDE:=λdl S Q=>to dl S λd S1=>match zcM C S1 d with
 | some (_,fs)=>fs.lookup m=none∧t dl S1 λds S2=>sd (d::ds) S2 Q (ex dl)
 | none=>False
theorem zuN {C:Addr}{m:Str}{f:Addr}{fd:FuncData}{k:Nat}{ps:List Str}{sp:Sp}{W:St→XK}{o e:Expr}{es:List Expr}{ta:TE}{t:TA}{apos:Pos}{pl:Sem Bool}(he:PE X o ta)(c:Cls X.K C)(hm:zfx X.K C m f)
  (F:zbc X.prog X.w X.K X.mg X.base (CXE X.prog X.w) k f fd ps sp)(hr:zaN k X.A)(hb:zbz X.K fd ps [])(hx:zc8 X W)(ha:PA X (e::es) t)(hst:starEach (e::es) X.env=(false,eval e X.env)::starEach es X.env)(hpl:(backTo pos (starEach es X.env)).any (·.1)=false)
  (ht:eval (.Call (.Attribute o m apos) (e::es) [] pos) X.env=(do
   let ov ← eval o X.env
   standAt apos.atName
   let (f,first) ← holding [ov] (getMethod ov m pl)
   callWith pos f first (backTo pos (starEach (e::es) X.env)) (backToKw pos (keywordEach [] X.env)))):
  PE X (.Call (.Attribute o m apos) (e::es) [] pos) (λσ H Q=>ta σ H λx H1=>∃a dx fs,x=.ref a∧H1 a=some (.ins C dx fs)∧fs.lookup m=none∧t σ H1 λvs H2=>sp (x::vs) H2 Q (W σ)):=by
 intro pins s σ H Q I h
 refine PySem.W.methodCall_KW (pl:=pl) (thn (he pins s σ H _ I h) λu s1 ⟨x,H1,I1,rx,a,dx,fs,ex,ea,l,q⟩=>?_) ht
 subst ex
 obtain rfl:u=Value.ref a:=rx
 refine zrw I1 ea c hm l ?_
 exact PySem.W.callWith_K (first:=[.ref a]) (h₀:=X.base) I.ok.mod.kin hm.kp (thn (ha pos pins s1 σ H1 _ I1 q) λus s2 ⟨vs,H2,I2,r,q2⟩=>⟨I2.kIn,znX (us:=.ref a::us) (vs:=.ref a::vs) F hr hb hx I2 (.cons rfl r) q2⟩) hst hpl
theorem zpW {C:Addr}{r:List Addr}{S:Sto}{H:Hp}{d:D}{v:V}{n:Nat}{fs:List (Str×D)}(rel:za5 X.K r S H)(p:Rp r H d v)(h:zcM C S d=some (n,fs)):∃a dx fs',v=.ref a∧r[n]?=some a∧H a=some (.ins C dx fs')∧FR r H fs fs':=by
 obtain⟨rfl,eS⟩:=znZ h
 obtain⟨a,ha,dx,fs',eH,fr⟩:=rel.at eS
 cases p with
 | ref hr=>
  rw[hr] at ha; cases ha
  exact⟨a,dx,fs',rfl,hr,eH,fr⟩
theorem zey {C:Addr}{m:Str}{f:Addr}{fd:FuncData}{k:Nat}{ps:List Str}{sd:Sd}{o e:Expr}{es:List Expr}{to:TDE}{t:TDA}{apos:Pos}{pl:Sem Bool}{ex:Ev→Addr→Sto→Prop}{W:St→XK}(ho:PD X ⟨ex,W⟩ o to)(c:Cls X.K C)(hm:zfx X.K C m f)
  (F:zbc X.prog X.w X.K X.mg X.base (CXE X.prog X.w) k f fd ps (upF X.K sd))(hr:zaN k X.A)(hb:zbz X.K fd ps [])(hx:zc8 X W)(ha:PDA X ⟨ex,W⟩ (e::es) t)
  (hst:starEach (e::es) X.env=(false,eval e X.env)::starEach es X.env:=by rfl)(hpl:(backTo pos (starEach es X.env)).any (·.1)=false:=by rfl)
  (ht:eval (.Call (.Attribute o m apos) (e::es) [] pos) X.env=(do
   let ov ← eval o X.env
   standAt apos.atName
   let (f,first) ← holding [ov] (getMethod ov m pl)
   callWith pos f first (backTo pos (starEach (e::es) X.env)) (backToKw pos (keywordEach [] X.env))):=by rfl):PD X ⟨ex,W⟩ (.Call (.Attribute o m apos) (e::es) [] pos) (zjv C m ex sd to t):=
 zbf (zuN ho c hm F hr hb hx ha hst hpl ht) λσ H Qv ⟨r,dl,S,Q,rs,rel,h,ret⟩=>by unfold zjv at h; exact⟨r,dl,S,_,rs,rel,h,λv H1 r1 d S1 e1 rel1 p1 q1=>by
  split at q1
  ·rename_i n fs ei
   obtain⟨hl,q1⟩:=q1
   obtain⟨a,dx,fs',rfl,hr1,eH,fr⟩:=zpW rel1.b p1 ei
   exact⟨a,dx,fs',rfl,eH,fr.lookup.2 hl,r1,dl,S1,_,rs.ext e1,rel1,q1,λvs H2 r2 ds S2 e2 rel2 p2 q2=>znG (Z:=⟨ex,W⟩) (rs.ext (e1.trans e2)) rel2 (Rps.cons (p1.ext e2) p2) q2 (ret.ext (e1.trans e2))⟩
  ·exact q1.elim⟩
def dMake (C:Addr)(ex:Addr→Sto→Prop)(sd:Sd)(t:TDA):TDE:=λdl S Q=>t dl S λds S1=>sd (.ref S1.length::ds) (S1++[.ins C []]) (λd S2=>d=.non∧Q (.ref S1.length) S2) ex
theorem zuQ {C x dx:Addr}{r:List Addr}{S:Sto}{H:Hp}(rel:Rel X.K Z r S H)(h1:H x=none)(h2:H dx=none)(h3:dx≠x):
  Rel X.K Z (r++[x]) (S++[.ins C []]) (upd (upd H dx (.own x)) x (.ins C dx []))∧Ext r (r++[x]) H (upd (upd H dx (.own x)) x (.ins C dx [])):=by
 obtain⟨rb,e⟩:=rel.b.pushO (o:=.ins C []) (H':=upd (upd H dx (.own x)) x (.ins C dx [])) h1 (λb u q=>by rw[zbd (zdL q h1),zbd (zdL q h2)]; exact q) λ_=>⟨dx,[],zcL,FR.nil⟩
 exact⟨⟨rb,rel.xw.ext e⟩,e⟩
theorem zxD {C x:Addr}{r r':List Addr}{n:Nat}{H H':Hp}{Z:Zx}{K:PySem.W.Frag}{Q:DK}{Qv:VK}(ret:Ret K Z r H Q Qv)(e:Ext r r' H H')(hx:r'[n]?=some x):
  Ret K Z r' H' (λd S2=>d=.non∧Q (.ref n) S2) (λv H2=>v=.non∧Qv (.ref x) H2):=λv H2 r2 d S2 e2 rel2 p2 q2=>by
 obtain⟨rfl,q2⟩:=q2
 cases p2
 exact⟨rfl,ret _ H2 r2 (.ref n) S2 (e.trans e2) rel2 (.ref (e2.adr _ _ hx)) q2⟩
theorem ze0 {C f:Addr}{fd:FuncData}{k:Nat}{ps:List Str}{sd:Sd}{ex:Addr→Sto→Prop}{W:XK}{x:Str}{p:Pos}{e:Expr}{es:List Expr}{t:TDA}(M:Mk X.K C f)
  (F:zbc X.prog X.w X.K X.mg X.base (CXE X.prog X.w) k f fd ps (upF X.K sd))(hr:zaN (k+1) X.A)(hg:Gl X x)(hm:X.mg x=some (.ref C))(hb:zbz X.K fd ps [])(hx:zlz (CXE X.prog X.w) X W)(ha:PDA X (Zc ex W) (e::es) t)
  (hdb:(x==("__debug__":Str))=false:=by decide)(he:starEach (e::es) X.env=(false,eval e X.env)::starEach es X.env:=by rfl)(hpl:(backTo pos (starEach es X.env)).any (·.1)=false:=by rfl):
  PD X (Zc ex W) (.Call (.Name x p) (e::es) [] pos) (dMake C ex sd t):=
 zbf (zvy M F hr hg hm hb .nil hx ha hdb he hpl) λσ H Qv ⟨r,dl,S,Q,rs,rel,h,ret⟩=>⟨r,dl,S,_,rs,rel,h,λvs H1 r1 ds S1 e1 rel1 p1 q1=>λx dx n1 n2 n3=>by
  obtain⟨rel2,e2⟩:=zuQ (C:=C) rel1 n1 n2 n3
  show upF X.K sd (.ref x::(vs++[])) _ _ W
  rw[Va1]
  exact⟨ex,_,_,.ref S1.length::ds,_,rel2,Rps.cons (zeF rel1.len) (p1.ext e2),q1,zxD (C:=C) ret (e1.trans e2) (znL rel1.len)⟩⟩
end
section
variable {κ:Type} [DecidableEq κ]
def zd7 (kvs:List (κ×D))(k:κ):Option D:=(kvs.find? λkv=>decide (kv.1=k)).map (·.2)
def zqL (kvs:List (κ×D))(k:κ)(v:D):List (κ×D):=
 if (kvs.any λkv=>decide (kv.1=k))=true then kvs.map (λkv=>if kv.1=k then (kv.1,v) else kv) else kvs++[(k,v)]
theorem FR.split {r:List Addr}{H:Hp}{p:κ×D}{fs:List (κ×D)}{gs:List (κ×V)}(h:FR r H (p::fs) gs):∃q gs',gs=q::gs'∧p.1=q.1∧Rp r H p.2 q.2∧FR r H fs gs':=by
 cases gs with
 | nil=>
  have:=h.1
  simp at this
 | cons q gs'=>
  obtain⟨h1,h2⟩:=h
  simp only[Vas,List.cons.injEq] at h1
  obtain⟨p1,p2⟩:=h2.tail
  exact⟨q,gs',rfl,h1.1,p1,h1.2,p2⟩
theorem FR.unnil {r:List Addr}{H:Hp}{gs:List (κ×V)}(h:FR r H ([]:List (κ×D)) gs):gs=[]:=by
 have:=h.1
 simpa using this.symm
theorem FR.cons {r:List Addr}{H:Hp}{k:κ}{d:D}{v:V}{fs:List (κ×D)}{gs:List (κ×V)}(p:Rp r H d v)(h:FR r H fs gs):FR r H ((k,d)::fs) ((k,v)::gs):=⟨by simp[h.1],Rps.cons p h.2⟩
theorem FR.val {r:List Addr}{H:Hp}{k:κ}:∀ {fs:List (κ×D)} {gs:List (κ×V)},FR r H fs gs→(∀d,zd7 fs k=some d→∃v,zb0 gs k=some v∧Rp r H d v)∧(zd7 fs k=none→zb0 gs k=none)
 | [],gs,h=>by
  have z:=h.unnil
  subst z
  exact⟨(λd e=>by cases e),λ_=>rfl⟩
 | p::fs,gs,h=>by
  obtain⟨q,gs',rfl,e,pr,t⟩:=h.split
  obtain⟨i1,i2⟩:=FR.val (k:=k) t
  by_cases z:p.1=k
  ·have z':q.1=k:=e.symm.trans z
   rw[zla z']
   have zd:zd7 (p::fs) k=some p.2:=by simp[zd7,VaS,z]
   rw[zd]
   exact⟨λd hd=>⟨q.2,rfl,by cases hd; exact pr⟩,λhd=>by cases hd⟩
  ·have z':¬ q.1=k:=λy=>z (e.trans y)
   rw[zkD z']
   have zd:zd7 (p::fs) k=zd7 fs k:=by simp[zd7,VaS,z]
   rw[zd]
   exact⟨i1,i2⟩
theorem FR.putK {r:List Addr}{H:Hp}{k:κ}{d:D}{v:V}{fs:List (κ×D)}{gs:List (κ×V)}(p:Rp r H d v)(h:FR r H fs gs):FR r H (zqL fs k d) (putK gs k v):=by
 have any:∀ {fs:List (κ×D)} {gs:List (κ×V)},FR r H fs gs→(fs.any λkv=>decide (kv.1=k))=(gs.any λkv=>decide (kv.1=k)):=by
  intro fs
  induction fs with
  | nil=>intro gs h; have z:=h.unnil; subst z; rfl
  | cons q fs ih=>
   intro gs h
   obtain⟨q',gs',rfl,e,_,t⟩:=h.split
   rw[List.any_cons,List.any_cons,ih t,e]
 have mp:∀ {fs:List (κ×D)} {gs:List (κ×V)},FR r H fs gs→FR r H (fs.map λkv=>if kv.1=k then (kv.1,d) else kv) (gs.map λkv=>if kv.1=k then (kv.1,v) else kv):=by
  intro fs
  induction fs with
  | nil=>intro gs h; have z:=h.unnil; subst z; exact FR.nil
  | cons q fs ih=>
   intro gs h
   obtain⟨q',gs',rfl,e,pr,t⟩:=h.split
   rw[Vas,Vas]
   obtain⟨qk,qd⟩:=q
   obtain⟨qk',qv⟩:=q'
   have e':qk=qk':=e
   subst e'
   by_cases z:qk=k
   ·rw[if_pos z,if_pos z]; exact FR.cons p (ih t)
   ·rw[if_neg z,if_neg z]; exact FR.cons pr (ih t)
 have ap:∀ {fs:List (κ×D)} {gs:List (κ×V)},FR r H fs gs→FR r H (fs++[(k,d)]) (gs++[(k,v)]):=by
  intro fs
  induction fs with
  | nil=>intro gs h; have z:=h.unnil; subst z; exact FR.cons p FR.nil
  | cons q fs ih=>
   intro gs h
   obtain⟨q',gs',rfl,e,pr,t⟩:=h.split
   obtain⟨qk,qd⟩:=q
   obtain⟨qk',qv⟩:=q'
   have e':qk=qk':=e
   subst e'
   exact FR.cons pr (ih t)
 unfold zqL L2.putK
 rw[any h]
 split
 ·exact mp h
 ·exact ap h
end
section
variable {X:Cx}{Z:Zx}{pos:Pos}
end
section
variable {X:Cx}{Z:Zx}{pos:Pos}
def zaZ (xs:List D)(lo hi:Option Int):List D:=(xs.drop (HT.sIx xs.length 0 lo)).take (HT.sIx xs.length xs.length hi-HT.sIx xs.length 0 lo)
theorem Rps.drop {r:List Addr}{H:Hp}{ds:List D}{vs:List V}(h:Rps r H ds vs)(k:Nat):Rps r H (ds.drop k) (vs.drop k):=
 ⟨by simp[h.1],λi d v h1 h2=>h.2 (k+i) d v (by simpa using h1) (by simpa using h2)⟩
theorem Rps.take {r:List Addr}{H:Hp}{ds:List D}{vs:List V}(h:Rps r H ds vs)(k:Nat):Rps r H (ds.take k) (vs.take k):=by
 refine⟨by simp[h.1],λi d v h1 h2=>?_⟩
 rw[List.getElem?_take] at h1 h2
 split at h1
 ·rw[if_pos (by assumption)] at h2
  exact h.2 i d v h1 h2
 ·cases h1
theorem Rps.cut {r:List Addr}{H:Hp}{ds:List D}{vs:List V}(h:Rps r H ds vs)(lo hi:Option Int):Rps r H (zaZ ds lo hi) (zfG vs lo hi):=by
 unfold zaZ zfG
 rw[h.1]
 exact(h.drop _).take _
@[irreducible] def znf (te:TDE)(tl th:TDO):TDE:=λdl S Q=>te dl S λd S1=>tl dl S1 λl S2=>th dl S2 λu S3=>match d with
 | .ref n=>match lAt S3 n with
  | some o=>Q (.ref S3.length) (S3++[.lst (zaZ (zaz o) l u)])
  | none=>False
 | _=>False
theorem zdK {e:Expr}{te:TDE}{lo hi:Option Expr}{tl th:TDO}{p2:Pos}(he:PD X Z e te)(hl:PDO X Z lo tl)(hu:PDO X Z hi th):PD X Z (.Subscript e (.Slice lo hi none p2) pos) (znf te tl th):=
 zbf (zr4 zrZ he hl hu) λσ H Qv ⟨r,dl,S,Q,rs,rel,h,ret⟩=>by
  unfold znf at h
  refine⟨r,dl,S,_,rs,rel,h,λv H1 r1 d S1 e1 rel1 p1 q1=>⟨r1,dl,S1,_,rs.ext e1,rel1,q1,λl H2 r2 S2 e2 rel2 q2=>⟨r2,dl,S2,_,rs.ext (e1.trans e2),rel2,q2,λu H3 r3 S3 e3 rel3 q3=>?_⟩⟩⟩
  cases p1 with
  | @ref n a hn=>
   dsimp only at q3
   split at q3
   ·rename_i o eo
    obtain⟨eo,eL⟩:=zb3 eo
    obtain⟨a',ha,ob⟩:=rel3.at eo
    rw[e3.adr _ _ (e2.adr _ _ hn)] at ha; cases ha
    obtain⟨xs,sq,pr⟩:=ob.list eL
    refine⟨a,xs,rfl,sq,λp hp=>?_⟩
    obtain⟨rel4,x⟩:=rel3.push hp (pr.cut l u)
    exact ret _ _ _ (.ref S3.length) _ (e1.trans (e2.trans (e3.trans x))) rel4 (zeF rel3.len) q3
   ·exact q3.elim
  | _=>exact(show False from q3).elim
theorem zds {te:TDE}{tl th:TDO}{dl:Ev}{S S3:Sto}{Q:DK}{n:Nat}{o:Ob}{lo hi:Option Int}(h:∀K:DK,K (.ref n) S3→te dl S K)(hl:∀K:Option Int→Sto→Prop,K lo S3→tl dl S3 K)(hh:∀K:Option Int→Sto→Prop,K hi S3→th dl S3 K)(ho:S3[n]?=some o)
  (hq:Q (.ref S3.length) (S3++[.lst (zaZ (zaz o) lo hi)]))(hL:zb5 o=some o:=by rfl):znf te tl th dl S Q:=by
 unfold znf
 refine h _ (hl _ (hh _ ?_))
 simp only[zbg ho hL]
 exact hq
end
section
variable {X:Cx}{Z:Zx}{pos:Pos}
theorem Rps.put {r:List Addr}{H:Hp}{ds:List D}{vs:List V}{d:D}{v:V}(h:Rps r H ds vs)(p:Rp r H d v)(j:Nat):Rps r H (ds.set j d) (vs.set j v):=by
 refine⟨by simp[h.1],λi x y h1 h2=>?_⟩
 by_cases z:j=i
 ·subst z
  have hl:j<ds.length:=by
   have:=(Vac.mp h1).1
   simpa using this
  rw[VaY hl] at h1
  rw[VaY (by rw[← h.1]; exact hl)] at h2
  cases h1
  cases h2
  exact p
 ·rw[VaN z] at h1 h2
  exact h.2 i x y h1 h2
@[irreducible] def zkj (to ti te:TDE):TDS:=λE dl S=>te dl S λv S1=>to dl S1 λd S2=>ti dl S2 λi S3=>match d,i with
 | .ref n,.int k=>match S3[n]? with
  | some (.lst xs)=>match ixN xs.length k with
   | some j=>E.nx dl (S3.set n (.lst (xs.set j v)))
   | none=>False
  | _=>False
 | _,_=>False
theorem zdO {o i e:Expr}{to ti te:TDE}{p2:Pos}(ho:PD X Z o to)(hi:PD X Z i ti)(he:PD X Z e te)
  (hs:swapsWithSole [.Subscript o i p2] e pos.line X.env=pure false:=by rfl)(hw:swappedStores [.Subscript o i p2] e X.env=pure none:=by rfl)(h1:(assignEach [.Subscript o i p2] X.env).map (·.2)=[assign (.Subscript o i p2) X.env]:=by rfl)
  (ha:∀v,assign (.Subscript o i p2) X.env v=(do let ov ← holding [v] (eval o X.env); let iv ← holding [v,ov] (eval i X.env); standAt p2; holding [v,ov,iv] (setItem ov iv v); release [v,ov,iv] []):=by intro _; rfl):PDS X Z (.Assign [.Subscript o i p2] e pos) (zkj to ti te):=
 zbD (zrg he (zuK ho hi ztY ha) hs hw h1) λF σ H ⟨r,dl,S,E,rs,rel,h,ret⟩=>by
  unfold zkj at h
  refine⟨r,dl,S,_,rs,rel,h,λv H1 r1 dv S1 e1 rel1 p1 q1=>⟨r1,dl,S1,_,rs.ext e1,rel1,q1,λx H2 r2 d S2 e2 rel2 pd q2=>⟨r2,dl,S2,_,rs.ext (e1.trans e2),rel2,q2,λy H3 r3 di S3 e3 rel3 pi q3=>?_⟩⟩⟩
  cases pd with
  | @ref n a hn=>
   cases pi with
   | int k=>
    dsimp only at q3
    split at q3
    ·rename_i xs eS
     split at q3
     ·rename_i j ej
      have hn3:=e3.adr _ _ hn
      obtain⟨ys,eH,pr⟩:=rel3.b.ob n a _ hn3 eS
      obtain⟨rel4,x4⟩:=rel3.set hn3 eS (pr.put (p1.ext (e2.trans e3)) j)
      exact⟨a,ys,k,j,rfl,rfl,eH,by rw[← pr.1]; exact ej,ret.nx _ _ r3 _ _ (e1.trans (e2.trans (e3.trans x4))) (rs.ext (e1.trans (e2.trans (e3.trans x4)))) rel4 q3⟩
     ·exact q3.elim
    ·exact q3.elim
   | _=>exact(show False from q3).elim
  | _=>exact(show False from q3).elim
def zcU (f:D→D→Option Bool):List D→D→Option (Option Nat)
 | [],_=>some none
 | y::ys,x=>match f y x,zcU f ys x with
  | some true,some _=>some (some 0)
  | some false,some o=>some (o.map (·+1))
  | _,_=>none
theorem zpf {f:D→D→Option Bool}{x:D}:∀ {ys:List D} {o:Option Nat},zcU f ys x=some o→(∀y∈ys,∃c,f y x=some c)∧∀j,o=some j→(∃y,ys[j]?=some y∧f y x=some true)∧∀m y,m<j→ys[m]?=some y→f y x=some false
 | [],o,e=>by
  have h:=Option.some.inj e
  subst h
  exact⟨(λy hy=>by cases hy),λj z=>by cases z⟩
 | y::ys,o,e=>by
  unfold zcU at e
  split at e
  ·rename_i o1 e1 e2
   have h:=Option.some.inj e
   subst h
   obtain⟨h1,_⟩:=zpf e2
   refine⟨λz hz=>?_,λj hj=>?_⟩
   ·rcases Vaf.mp hz with rfl | hz
    ·exact⟨true,e1⟩
    ·exact h1 z hz
   ·cases hj
    exact⟨⟨y,rfl,e1⟩,λm z hm=>by omega⟩
  ·rename_i o1 e1 e2
   have h:=Option.some.inj e
   subst h
   obtain⟨h1,h2⟩:=zpf e2
   refine⟨λz hz=>?_,λj hj=>?_⟩
   ·rcases Vaf.mp hz with rfl | hz
    ·exact⟨false,e1⟩
    ·exact h1 z hz
   ·obtain⟨k,rfl,rfl⟩:=Vaq.mp hj
    obtain⟨⟨z,hz1,hz2⟩,h3⟩:=h2 k rfl
    refine⟨⟨z,by simpa using hz1,hz2⟩,λm w hm hw=>?_⟩
    cases m with
    | zero=>
     have:w=y:=by simpa using hw.symm
     rw[this]; exact e1
    | succ m=>exact h3 m w (by omega) (by simpa using hw)
  ·cases e
theorem zr5 {k:Nat}{pins:List (Addr×Obj)}{σ:St}{H:Hp}{s:Shared}{r:List Addr}{A:Around}{ds:List D}{vs:List V}{us:List Value}{dx:D}{x:V}{u:Value}{j:Nat}(I:Inv X pins σ H s)(hu:A.units+k<cLine)
  (p:Rps r H ds vs)(rv:zaA vs us)(px:Rp r H dx x)(rx:zay x u)(e:zcU (eqN k) ds dx=some (some j)):
  ∃g:Value→Bool,(∀y,y∈us.toArray→SeqAt.EqAt A s y u (g y))∧∃hj:j<us.toArray.size,g us.toArray[j]=true∧∀m (hm:m<us.toArray.size),m<j→g us.toArray[m]=false:=by
 obtain⟨h1,h2⟩:=zpf e
 obtain⟨⟨yj,hyj,htj⟩,hno⟩:=h2 j rfl
 classical
 have at_:∀(m:Nat) (hm:m<us.length),∃d v,ds[m]?=some d∧Rp r H d v∧zay v us[m]:=λm hm=>by
  have hv:m<vs.length:=by rw[rv.length]; exact hm
  have gv:vs[m]?=some vs[m]:=by simp[hv]
  obtain⟨w,gw,rw'⟩:=rv.get gv
  obtain⟨d,gd,pd⟩:=p.get' gv
  have ew:w=us[m]:=by
   rw[Vag hm] at gw
   exact(Option.some.inj gw).symm
  subst ew
  exact⟨d,_,gd,pd,rw'⟩
 have val:∀(m:Nat) (hm:m<us.length) (d:D) (c:Bool),ds[m]?=some d→eqN k d dx=some c→decide (∃d v,d∈ds∧Rp r H d v∧zay v us[m]∧eqN k d dx=some true)=c:=λm hm d c hd hc=>by
  obtain⟨d',v',gd,pd,rd⟩:=at_ m hm
  rw[hd] at gd; cases gd
  cases c with
  | true=>exact decide_eq_true ⟨d,v',Vat hd,pd,rd,hc⟩
  | false=>
   refine decide_eq_false λ⟨d2,v2,_,pd2,rd2,hc2⟩=>?_
   have ev:=zq1 rd rd2
   subst ev
   exact absurd (znB k d d2 dx v' false true pd pd2 hc hc2) (by decide)
 refine⟨λy=>decide (∃d v,d∈ds∧Rp r H d v∧zay v y∧eqN k d dx=some true),λy hy=>?_,?_⟩
 ·have hy':y∈us:=by simpa using hy
  obtain⟨m,hm,rfl⟩:=VaJ.mp hy'
  obtain⟨d,v,gd,pd,rd⟩:=at_ m hm
  obtain⟨c,hc⟩:=h1 d (Vat gd)
  show SeqAt.EqAt A s us[m] u (decide _)
  rw[val m hm d c gd hc]
  exact zg3 k X pins σ H s r A d dx v x _ u c I hu pd px rd rx hc
 ·have hjl:j<us.length:=by
   have:=(Vac.mp hyj).1
   rw[p.1,rv.length] at this
   exact this
  refine⟨by simpa using hjl,?_,λm hm hmj=>?_⟩
  ·have z:=val j hjl yj true hyj htj
   simpa using z
  ·have hm':m<us.length:=by simpa using hm
   obtain⟨d,v,gd,pd,rd⟩:=at_ m hm'
   have z:=val m hm' d false gd (hno m d hmj gd)
   simpa using z
def zm8 (k:Nat)(d y:D)(S:Sto)(Q:DK):Prop:=match d with
 | .ref n=>match lAt S n with
  | some o=>match zcU (eqN k) (zaz o) y with
   | some (some j)=>Q (.int (j:Int)) S
   | _=>False
  | none=>False
 | _=>False
@[irreducible] def zlA (k:Nat)(to:TDE)(t:TDA):TDE:=λdl S Q=>to dl S λd S1=>(match d with
 | .ref n=>(lAt S1 n).isSome=true∧t dl S1 λds S2=>match ds with
  | [y]=>zm8 k d y S2 Q
  | _=>False
 | _=>False)
theorem zyA {k j:Nat}(hr:zaN j X.A)(hk:k≤3):MtR X "list.index" (λx xs H Qv=>∃(r:List Addr) (S:Sto) (d y:D) (v:V) (Q:DK),Rel X.K Z r S H∧Rp r H d x∧xs=[v]∧Rp r H y v∧zm8 k d y S Q∧Ret X.K Z r H Q Qv):=by
 intro pins s σ H x xs v us Qv I rx rv h
 obtain⟨r,S,d,y,v1,Q,rel,pd,rfl,py,q,ret⟩:=h
 obtain⟨u,rfl,ru⟩:=zeL rv
 unfold zm8 at q
 split at q
 ·rename_i n
  split at q
  ·rename_i o eo
   obtain⟨eo,eL⟩:=zb3 eo
   split at q
   ·rename_i i ei
    cases pd with
    | @ref n a hn=>
     cases rx
     obtain⟨a',ha,ob⟩:=rel.at eo
     rw[hn] at ha; cases ha
     obtain⟨ys,sq,pr⟩:=ob.list eL
     obtain⟨its,ri,pl,hz⟩:=I.list sq
     have hun:=hr.un
     obtain⟨g,g1,hj,g2,g3⟩:=zr5 (A:=X.A.in1) I (by show X.A.units+1+k<_; omega) pr ri py ru ei
     obtain⟨ob2,m,e,c,hd,hdat⟩:=pl
     obtain⟨oc,od,odat,osl⟩:=ob2
     have c':oc=.type "list":=c
     have hdat':odat=.seq its.toArray m:=hdat
     subst c' hdat'
     refine call_meets PySem.F.slot_list_index ⟨_,e,rfl⟩ PySem.F.entry_list_index (PySem.F.args_list_index_2 _ _) (PySem.SeqAt.list_indexAt a its.toArray m od osl u g i hj (by
      have:its.toArray.size≤sizeLine:=by rw[Vaj,← ri.length]; exact hz
      have h2:=zgU
      omega) g2 λm hm h2=>g3 m hm h2) ⟨e,g1,?_⟩
     exact⟨.int (i:Int),H,I.tok _,⟨_,rfl⟩,ret _ H r (.int _) S Ext.refl rel (.int _) q⟩
   ·exact q.elim
  ·exact q.elim
 ·exact q.elim
theorem zxQ {k j:Nat}{o e:Expr}{to:TDE}{t:TDA}{apos cpos:Pos}(hr:zaN j X.A)(hk:k≤3)(ho:PD X Z o to)(ha:PDA X Z [e] t)(hbase:attributeBase o "index" X.env (eval o X.env)=eval o X.env:=by rfl)
  (hfew:((backTo cpos (starEach [e] X.env)).all (λx=>!x.1)&&(backToKw cpos (keywordEach [] X.env)).all (λx=>x.1.isSome)
  &&decide ([e].length+([]:List Keyword).length+(if ([]:List Keyword).isEmpty then 0 else 1)<30))=true:=by rfl)
  (hline:(apos.endLine==cpos.line)=true:=by rfl)(hs:starEach [e] X.env=(false,eval e X.env)::starEach [] X.env:=by rfl)(hplain:(backTo cpos (starEach [] X.env)).any (·.1)=false:=by rfl):
  PD X Z (.Call (.Attribute o "index" apos) [e] [] cpos) (zlA k to t):=
 zbf (zpy (T:="list") PySem.F.plainAttrs_list PySem.F.slot_list_index PySem.F.type_list_index (zyA (Z:=Z) hr hk) ho ha hbase hfew hline hs hplain) λσ H Qv ⟨r,dl,S,Q,rs,rel,h,ret⟩=>by
  unfold zlA at h
  refine⟨r,dl,S,_,rs,rel,h,λv H1 r1 d S1 e1 rel1 p1 q1=>?_⟩
  cases p1 with
  | @ref n a hn=>
   obtain⟨hsome,q1⟩:=q1
   obtain⟨o1,eo⟩:=Option.isSome_iff_exists.mp hsome
   obtain⟨eo,eL⟩:=zb3 eo
   obtain⟨a',ha',ob⟩:=rel1.at eo
   rw[hn] at ha'; cases ha'
   obtain⟨xs,sq,_⟩:=ob.list eL
   refine⟨.inl ⟨rfl,xs,sq⟩,r1,dl,S1,_,rs.ext e1,rel1,q1,λvs H2 r2 ds S2 e2 rel2 p2 q2=>?_⟩
   split at q2
   ·rename_i y
    obtain⟨v2,vs',rfl,p3,p4⟩:=p2.uncons
    have z:=p4.unnil
    subst z
    exact⟨r2,S2,.ref n,y,v2,Q,rel2,.ref (e2.adr _ _ hn),rfl,p3,q2,ret.ext (e1.trans e2)⟩
   ·exact q2.elim
  | _=>exact(show False from q1).elim
end
section
variable {X:Cx}{pins:List (Addr×Obj)}{σ:St}{H:Hp}{s:Shared}{h':Heap}
theorem zxl {t':Nat}{ch:List Addr}{T:Addr}{xs:List V}{vals:Array Value}(I:Inv X pins σ H s)(k:∀b o,b ∉ ch→s.heap.get? b=some o→h'.get? b=some o)(hch:∀b∈ch,zch X pins H b)
  (hT:s.heap.objs.size≤T)(ht:h'.IsTuple T vals)(rv:zaA xs vals.toList)(hl:xs.length≤sizeLine):Inv X pins σ (upd H T (.tup xs)) { s with heap:=h',toks:=t' }:=by
 have hTn:H T=none:=I.hok.fresh hT
 have old:∀ {b:Addr} {o:Obj},s.heap.get? b=some o→b≠T:=λ{b o} e z=>absurd (Vax (Heap.lt_size e) hT) (by rw[z]; exact VaM _)
 have trk:∀b u,H b=some u→b ∉ ch:=λb u e z=>by
  rw[(hch b z).1] at e; cases e
 have up:∀b u,H b=some u→(upd H T (.tup xs)) b=some u:=zdz hTn
 refine I.step (g':=s.gens) (d':=s.drawn) (ch:=ch) (λb hb=>?_) (λb o _ _ hc e _=>k b o hc e) (λb o _ _ hc e _=>⟨o.slots,k b o hc e⟩) (λb o _ e n=>by rw[zbd (old e)]; exact n)
  (λb o hc e=>⟨o,k b o hc e⟩) (λb ys e=>up _ _ e) (λb o u e=>up _ _ e) (λb ps e=>⟨#[],by rw[up _ _ e]; simp⟩) (λm hm=>?_) (λb u e=>?_) I.bare
 ·obtain⟨_,f1,_,f3,f4,f5⟩:=hch b hb
  exact⟨f3,f1,f4,f5⟩
 ·obtain⟨o,es,ep,ho,r⟩:=hm
  exact⟨o,es,ep,k _ o (λz=>(hch _ z).2.1 rfl) ho,r⟩
 ·by_cases hb:b=T
  ·subst hb
   rw[zcL] at e
   cases e
   exact⟨hl,vals.toList,rv,by rw[Array.toArray_toList]; exact ht⟩
  ·rw[zbd hb] at e
   refine(I.hok b u e).stay (λc v hc q=>k c v ?_ q) (λd z=>up _ _ z) λd ys z=>up _ _ z
   rcases hc with z | z
   ·rw[z]; exact trk b u e
   ·exact trk c _ z
theorem zrq {t':Nat}{ch:List Addr}(I:Inv X pins σ H s)(k:∀b o,b ∉ ch→s.heap.get? b=some o→h'.get? b=some o)(hch:∀b∈ch,zch X pins H b):Inv X pins σ H { s with heap:=h',toks:=t' }:=by
 have trk:∀b u,H b=some u→b ∉ ch:=λb u e z=>by
  rw[(hch b z).1] at e; cases e
 refine I.step (g':=s.gens) (d':=s.drawn) (ch:=ch) (λb hb=>?_) (λb o _ _ hc e _=>k b o hc e) (λb o _ _ hc e _=>⟨o.slots,k b o hc e⟩) (λb o _ e n=>n)
  (λb o hc e=>⟨o,k b o hc e⟩) (λb ys e=>e) (λb o u e=>e) (λb ps e=>⟨#[],by rw[e]; simp⟩) (λm hm=>?_) (λb u e=>?_) I.bare
 ·obtain⟨_,f1,_,f3,f4,f5⟩:=hch b hb
  exact⟨f3,f1,f4,f5⟩
 ·obtain⟨o,es,ep,ho,r⟩:=hm
  exact⟨o,es,ep,k _ o (λz=>(hch _ z).2.1 rfl) ho,r⟩
 ·refine(I.hok b u e).stay (λc v hc q=>k c v ?_ q) (λd z=>z) λd ys z=>z
  rcases hc with z | z
  ·rw[z]; exact trk b u e
  ·exact trk c _ z
end
def Ite (K:PySem.W.Frag)(a:Addr):It:=
 ⟨λi H=>∃xs x,SqL K H a xs∧xs[i]?=some x,λi H x H'=>∃T v,x=.ref T∧H T=none∧H'=upd H T (.tup [.int (i:Int),v])∧∀xs,SqL K H a xs→xs[i]?=some v,λi H=>∃xs,SqL K H a xs∧xs.length=i⟩
theorem zw5 {P:Program}{w:World}{K:PySem.W.Frag}{elts:List Expr}{kk:Nat}{tp:Pos}(a e it:Addr)(hei:e≠it)(hae:a≠e)(hai:a≠it):
  zeW P w K (.Tuple elts kk tp) (Ite K a) [e,it] e (λi h=>(∃old,IsEnum h e it i old)∧h.IsListIter it a i) where
 mem:=by simp
 obj:=λi h st b hb=>by
  obtain⟨⟨old,he⟩,o,e1,c,d⟩:=st
  have hb':b=e∨b=it:=by simpa using hb
  rcases hb' with rfl | rfl
  ·exact⟨_,he,λv z=>by cases z⟩
  ·exact⟨o,e1,λv z=>by rw[d] at z; cases z⟩
 keep:=λi h h' st k=>by
  obtain⟨⟨old,he⟩,hit⟩:=st
  exact⟨⟨old,k e (by simp) _ he⟩,hit.at λo x=>k it (by simp) o x⟩
 item:=by
  intro X hP hw hK hc i pins s σ H E I hf st hg
  subst hP hw hK
  obtain⟨xs,x,hq,hx⟩:=hg
  obtain⟨its,rv,p,hz⟩:=I.list hq
  obtain⟨u,hu,ru⟩:=rv.get hx
  have hi:i<its.toArray.size:=by
   have:=(Vac.mp hu).1
   simpa using this
  have W:=WalksT.enumerate (prog:=X.prog) (w:=X.w) (A:=X.A) (I.ok.hd hc) e it a hei hae hai its.toArray
  refine W.item i s _ _ hi ⟨st.1,st.2,p.isList⟩ λT vals h' tk hP hT ht mid k1=>?_
  obtain⟨t,y,hy,rfl⟩:=hP
  have ey:y=u:=by
   have z:its[i]?=some y:=by simpa using hy
   rw[hu] at z; exact(Option.some.inj z).symm
  subst ey
  have hw:∀b∈[e,it],zch X pins H b:=hf
  have I1:Inv X pins σ (upd H T (.tup [.int (i:Int),x])) { s with heap:=h',toks:=tk }:=zxl I k1 hw hT ht (.cons ⟨t,rfl⟩ (.cons ru .nil)) (show 2≤sizeLine from zja (by decide))
  have neT:∀b∈[e,it],b≠T:=λb hb z=>W.apart i T h' mid (z ▸ hb)
  have hf1:∀b∈[e,it],zch X pins (upd H T (.tup [.int (i:Int),x])) b:=λb hb=>⟨by rw[zbd (neT b hb)]; exact(hf b hb).1,(hf b hb).2⟩
  refine⟨.ref T,rfl,W.go elts kk tp i T _ _ _ mid λh2 st2 k2=>?_⟩
  have I2:Inv X pins σ (upd H T (.tup [.int (i:Int),x])) { s with heap:=h2,toks:=tk }:=zrq (s:={ s with heap:=h',toks:=tk }) (t':=tk) I1 k2 hf1
  exact⟨.ref T,_,I2,rfl,⟨T,x,rfl,I.hok.fresh hT,rfl,λys hy=>by rw[I.list_inj hy hq]; exact hx⟩,⟨st2.1,st2.2.1⟩,λb hb=>(hf1 b hb).1⟩
 done:=by
  intro X hP hw hK hc i pins s σ H E I hf st hg
  subst hP hw hK
  obtain⟨xs,hq,hx⟩:=hg
  obtain⟨its,rv,p,hz⟩:=I.list hq
  have W:=WalksT.enumerate (prog:=X.prog) (w:=X.w) (A:=X.A) (I.ok.hd hc) e it a hei hae hai its.toArray
  have hi:i=its.toArray.size:=by rw[Vaj,← rv.length]; exact hx.symm
  subst hi
  exact W.done s _ _ ⟨st.1,st.2,p.isList⟩ λh' tk k1=>⟨rfl,zrq (t':=tk) I k1 hf⟩
 self:=λA i s Q E st h=>by
  obtain⟨⟨old,he⟩,_⟩:=st
  exact wpAny_pyIter_enum he h
section
variable {X:Cx}
def iEnum (K:PySem.W.Frag)(ta:TA):TI:=λσ H R=>ta σ H λvs H1=>∃a,vs=[.ref a]∧(∃xs,SqL K H1 a xs)∧R (Ite K a) H1
theorem zvE {a:Expr}{ta:TA}{p pos tp:Pos}{elts:List Expr}{kk:Nat}(hg:Gl X "enumerate")(hm:X.mg "enumerate"=none)(hv:bootBuiltins "enumerate"=some (.type "enumerate"))(ha:PA X [a] ta)(hs:starEach [a] X.env=[(false,eval a X.env)]:=by rfl):
  PI X (.Tuple elts kk tp) (.Call (.Name "enumerate" p) [a] [] pos) (iEnum X.K ta):=by
 intro pins s σ H R I h
 refine Call_ (zfr I hg hm hv (PyProof.Rows.callWith_type1 (thn (ha pos pins s σ H _ I h) λus s1 ⟨vs,H1,I1,r1,q1⟩=>?_) hs rfl))
 obtain⟨l,e,⟨xs,hq⟩,q⟩:=q1
 subst e
 cases r1 with
 | cons r rr=>
  cases rr
  cases r
  obtain⟨its,rv,pl,hz⟩:=I1.list hq
  have hll:l<s1.heap.objs.size:=by
   obtain⟨o,e,_⟩:=pl.isList
   exact Heap.lt_size e
  refine call_enumerate_list pl.isList λh' he hit hsz hk=>?_
  have I2:Inv X pins σ H1 { s1 with heap:=h' }:=I1.kept (t':=s1.toks) hk
  refine wpAny_pyIter_enum he ⟨s1.heap.objs.size+1,[s1.heap.objs.size+1,s1.heap.objs.size],_,_,H1,rfl,I2,zw5 l _ _ (Nat.succ_ne_self _) (Var (Nat.lt_succ_of_lt hll)) (Var hll),⟨⟨_,he⟩,hit⟩,λb hb=>?_,q⟩
  have hb':b=s1.heap.objs.size+1∨b=s1.heap.objs.size:=by simpa using hb
  rcases hb' with rfl | rfl
  ·exact I1.fpOk (Nat.le_succ _) (I1.hok.fresh (Nat.le_succ _))
  ·exact I1.fpOk (Vab _) (I1.hok.fresh (Vab _))
end
section
variable {X:Cx}
end
section
variable {X:Cx}{Z:Zx}{pos:Pos}
@[irreducible] def zkV (is:List Nat)(ta:TDA)(tb:TDS):TDS:=λE dl S=>ta dl S λds S1=>match ds with
 | [.ref n]=>(lAt S1 n).isSome=true∧∃W:Nat→Nat→Ev→Sto→Prop,(∃m,W 0 m dl S1)∧∀k m dl S,W k m dl S→match lAt S n with
  | some o=>match (zaz o)[k]? with
   | some x=>tb { nx:=λdl' S'=>∃m',m'<m∧W (k+1) m' dl' S',rt:=E.rt,bk:=E.nx,ct:=λdl' S'=>∃m',m'<m∧W (k+1) m' dl' S' } (ze1 is [.int (k:Int),x] dl) S
   | none=>k=(zaz o).length∧E.nx dl S
  | none=>False
 | _=>False
theorem zqs {r r':List Addr}{S':Sto}{H':Hp}{n:Nat}{a:Addr}{o:Ob}(hn:r'[n]?=some a)(rel:za5 X.K r' S' H')(eo:lAt S' n=some o):∃xs,SqL X.K H' a xs∧Rps r' H' (zaz o) xs:=by
 obtain⟨eo,eL⟩:=zb3 eo
 obtain⟨a',ha,ob⟩:=rel.at eo
 rw[hn] at ha; cases ha
 exact ob.list eL
theorem zqk {iter:Expr}{body:List Stmt}{es:List Expr}{kk:Nat}{tp p pos2:Pos}{is:List Nat}{ta:TDA}{tb:TDS}(hp:PassesOwn (model X.prog X.w) X.A X.env X.xe)(hc:X.calm=true)(hN:X.N.Nodup)(hn:Nms X es is)(h2:is.length=2)
  (hg:Gl X "enumerate")(hm:X.mg "enumerate"=none)(hv:bootBuiltins "enumerate"=some (.type "enumerate"))(ha:PDA X Z [iter] ta)(hb:zci X Z body tb)
  (hlen:(assignEach es X.env).length=is.length:=by rfl)(hst:(assignEach es X.env).findIdx? (·.1)=none:=by rfl)(hse:starEach [iter] X.env=[(false,eval iter X.env)]:=by rfl)
  (hs:∀y,foldedSetIterable (.Call (.Name "enumerate" p) [iter] [] pos2) X.env y=pure y:=by intro _; rfl):PDS X Z (.For (.Tuple es kk tp) (.Call (.Name "enumerate" p) [iter] [] pos2) body [] pos) (zkV is ta tb):=
 zbD (zgx hp hc (zvE hg hm hv ha hse) (zqp hc (znP hN hn) hlen hst) hb hs) λF σ H ⟨r,dl,S,E,rs,rel,h,ret⟩=>by
  unfold zkV at h
  refine⟨r,dl,S,_,rs,rel,h,λvs H1 r1 ds S1 x1 rel1 p1 q1=>?_⟩
  split at q1
  ·rename_i n
   obtain⟨v,vs',rfl,p2,p3⟩:=p1.uncons
   have z:=p3.unnil
   subst z
   cases p2 with
   | @ref n a hr=>
    obtain⟨hsome,W,⟨m0,w0⟩,turn⟩:=q1
    obtain⟨o1,eo1⟩:=Option.isSome_iff_exists.mp hsome
    obtain⟨xs1,sq1,_⟩:=zqs (r:=r1) hr rel1.b eo1
    refine⟨a,rfl,⟨xs1,sq1⟩,λk m σ' H'=>∃r' dl' S',Ext r1 r' H1 H'∧Rs r' H' dl' σ'∧Rel X.K Z r' S' H'∧W k m dl' S',⟨m0,r1,dl,S1,Ext.refl,rs.ext x1,rel1,w0⟩,?_⟩
    rintro k m σ2 H2 ⟨r2,dl2,S2,x2,rs2,rel2,w2⟩
    have q:=turn k m dl2 S2 w2
    split at q
    ·rename_i o eo
     obtain⟨xs,sq,pr⟩:=zqs (r:=r2) (x2.adr _ _ hr) rel2.b eo
     split at q
     ·rename_i y ey
      obtain⟨v,hvv,pv⟩:=pr.get ey
      refine .inr ⟨⟨xs,v,sq,hvv⟩,λσ' H'=>∃m',m'<m∧∃r' dl' S',Ext r1 r' H1 H'∧Rs r' H' dl' σ'∧Rel X.K Z r' S' H'∧W (k+1) m' dl' S',λ_ _ z=>z,λv' H' y'=>?_⟩
      obtain⟨T,w,rfl,hT,rfl,hw⟩:=y'
      have ew:w=v:=by
       have z:=hw xs sq
       rw[hvv] at z; exact(Option.some.inj z).symm
      subst ew
      have x3:Ext r2 r2 H2 (upd H2 T (.tup [.int (k:Int),w])):=zuB hT
      have pp:Rps r2 (upd H2 T (.tup [.int (k:Int),w])) [.int (k:Int),y] [.int (k:Int),w]:=Rps.cons (.int _) (Rps.cons (pv.ext x3) Rps.nil)
      have rel3:=rel2.same (zdz (o:=.tup [.int (k:Int),w]) hT)
      have go:∀σ' H' r' dl' S',Ext r2 r' (upd H2 T (.tup [.int (k:Int),w])) H'→Rs r' H' dl' σ'→Rel X.K Z r' S' H'→(∃m',m'<m∧W (k+1) m' dl' S')→∃m',m'<m∧∃r' dl' S',Ext r1 r' H1 H'∧Rs r' H' dl' σ'∧Rel X.K Z r' S' H'∧W (k+1) m' dl' S':=
       λσ' H' r' dl' S' x rs' rel' ⟨m',hm,w'⟩=>⟨m',hm,r',dl',S',x2.trans (x3.trans x),rs',rel',w'⟩
      refine⟨T,[.int (k:Int),w],rfl,SqT.of zcL,by rw[h2]; rfl,by rw[h2]; rfl,r2,_,S2,_,zoH (rs2.ext x3) pp,rel3,q,⟨go,λσ' H' r' dl' S' x rs' rel' z=>ret.nx σ' H' r' dl' S' (x1.trans (x2.trans (x3.trans x))) rs' rel' z,go,ret.rt.ext (x1.trans (x2.trans x3))⟩⟩
     ·obtain⟨hk,q⟩:=q
      exact .inl ⟨⟨xs,sq,by rw[← pr.1]; exact hk.symm⟩,ret.nx σ2 H2 r2 dl2 S2 (x1.trans x2) rs2 rel2 q⟩
    ·exact q.elim
  ·exact q1.elim
end
section
variable {X:Cx}{Z:Zx}{pos:Pos}
@[irreducible] def zjC (T:String)(te:TDE):TDE:=λdl S Q=>te dl S λd S1=>match d with
 | .ref n=>match S1[n]? with
  | some (.lst _)=>Q (.bl (zc7 "list" T)) S1
  | _=>False
 | _=>False
theorem zrL {T:String}{e:Expr}{te:TDE}{y:Str}{p p2:Pos}(KT:PySem.W.kitOne X.K (.type "list") (.type T)=some (zc7 "list" T))(hg:Gl X "isinstance")(hm:X.mg "isinstance"=none)(hg2:Gl X y)(hm2:X.mg y=none)(hv2:bootBuiltins y=some (.type T))(ha:PD X Z e te)
  (hv:bootBuiltins "isinstance"=some (.builtin "isinstance"):=by exact PyProof.Rows.Boot.«isinstance»)
  (hn2:y≠"__name__":=by decide)(hd2:(y==("__debug__":Str))=false:=by decide)(he2:starEach [e,.Name y p2] X.env=(false,eval e X.env)::starEach [.Name y p2] X.env:=by rfl)
  (he3:starEach [.Name y p2] X.env=(false,eval (.Name y p2) X.env)::starEach [] X.env:=by rfl)(hpl:(backTo pos (starEach [.Name y p2] X.env)).any (·.1)=false:=by rfl):
  PD X Z (.Call (.Name "isinstance" p) [e,.Name y p2] [] pos) (zjC T te):=
 zbf (znW zqY hg hm hv (zfF ha (zfF (zqM (v:=.ty T) hg2 hm2 hv2 rfl hn2 hd2) zjh he3) he2) (by decide) (by decide) he2 hpl) λσ H Qv ⟨r,dl,S,Q,rs,rel,h,ret⟩=>
  by unfold zjC at h; exact⟨r,dl,S,_,rs,rel,h,λv H1 r1 d S1 e1 rel1 p1 h1=>by
   cases p1 with
   | @ref n a hr=>
    dsimp only at h1
    split at h1
    ·rename_i xs eS
     obtain⟨ys,eH,_⟩:=rel1.b.ob n a _ hr eS
     exact⟨_,T,_,_,rfl,.lst eH,KT,ret _ _ _ _ _ e1 rel1 (.bl _) h1⟩
    ·exact h1.elim
   | _=>exact(show False from h1).elim⟩
end
theorem zqw (K:PySem.W.Frag):PySem.W.kitOne K (.type "list") (.type "list")=some (zc7 "list" "list"):=by kernel_rfl
structure Dm (K:PySem.W.Frag)(C:Addr)(m qual:Str)(st:Stmt)(ps:List Str) where
 f:Addr
 fd:FuncData
 F:Fun K m qual st f fd
 m:zfx K C m f
 b:zbz K fd ps []
structure Fm (P:Program)(w:World)(K:PySem.W.Frag)(mg:Str→Option Value)(base:Heap)(k:Nat)(C:Addr)(x:Str)(ps:List Str)(sd:Sd) where
 f:Addr
 fd:FuncData
 ok:zbc P w K mg base (CXE P w) k f fd ps (upF K sd)
 m:zfx K C x f
 b:zbz K fd ps []
def Dm.mk' {P:Program}{w:World}{K:PySem.W.Frag}{mg:Str→Option Value}{base:Heap}{k:Nat}{C:Addr}{x qual:Str}{st:Stmt}{ps:List Str}{sd:Sd}(d:Dm K C x qual st ps)(h:zbc P w K mg base (CXE P w) k d.f d.fd ps (upF K sd)):Fm P w K mg base k C x ps sd:=
 ⟨d.f,d.fd,h,d.m,d.b⟩
theorem zfq {P:Program}{w:World}{X:Cx}:zlz (CXE P w) X (λ_ _ _=>False):=λ_ _ _ _ _ _ _ h=>by
 obtain⟨_,_,_,_,_,_,_,_,_,_,_,_,q⟩:=h
 exact q.elim
section
variable {X:Cx}{Z:Zx}
theorem zoV {k:Nat}(hr:zaN k X.A):OpR X (compareOp .NotIn) (upO X.K Z (zcE (wIn 1 true))):=by rw[zc9]; exact zvU 1 (by have:=hr.un; omega)
theorem zq3 {k:Nat}(hr:zaN k X.A):OpR X (compareOp .Eq) (upO X.K Z (zcE (zed 1))):=by rw[zc9]; exact zwH 1 hr (by have:=hr.un; omega)
end
section
variable {X:Cx}{Z:Zx}{pos:Pos}
def zji:W2:=λx y S Q=>match x,y with
 | .ref n,.ref m=>match S[n]?,S[m]? with
  | some (.lst xs),some (.lst ys)=>xs.length+ys.length≤1000∧Q (.ref S.length) (S++[.lst (xs++ys)])
  | _,_=>False
 | _,_=>False
theorem Rps.app {r:List Addr}{H:Hp}:∀ {ds es:List D} {xs ys:List V},Rps r H ds xs→Rps r H es ys→Rps r H (ds++es) (xs++ys)
 | [],es,xs,ys,p,q=>by
  have z:=p.unnil
  subst z
  exact q
 | d::ds,es,xs,ys,p,q=>by
  obtain⟨v,vs,rfl,p1,p2⟩:=p.uncons
  exact Rps.cons p1 (p2.app q)
theorem znR:OpR X (binaryOp .Add) (upO X.K Z (zcE zji)):=by
 rw[zc9]
 exact zeq zxg λx y H Qv ⟨r,S,dx,dy,Q,rel,px,py,q,ret⟩=>by
  unfold zji at q
  split at q
  ·rename_i n m
   split at q
   ·rename_i xs ys e1 e2
    obtain⟨hl,q⟩:=q
    cases px with
    | @ref _ a hn=>
     cases py with
     | @ref _ a' hm=>
      obtain⟨z,hz,ob⟩:=rel.at e1
      rw[hn] at hz; cases hz
      obtain⟨z,hz,ob'⟩:=rel.at e2
      rw[hm] at hz; cases hz
      obtain⟨us,h1,p1⟩:=ob
      obtain⟨vs,h2,p2⟩:=ob'
      refine⟨a,a',us,vs,rfl,rfl,h1,h2,?_,λp hp=>?_⟩
      ·rw[← p1.1,← p2.1]; exact zja hl
      ·obtain⟨rel4,x⟩:=rel.push hp (p1.app p2)
       exact ret _ _ _ (.ref S.length) _ x rel4 (zeF rel.len) q
   ·exact q.elim
  ·exact q.elim
theorem zoL {n m:Nat}{S:Sto}{Q:DK}{xs ys:List D}(h1:S[n]?=some (.lst xs))(h2:S[m]?=some (.lst ys))(hl:xs.length+ys.length≤1000)(hq:Q (.ref S.length) (S++[.lst (xs++ys)])):zcE zji (.ref n) (.ref m) S Q:=by
 rw[zc9]
 unfold zji
 simp only[h1,h2]
 exact⟨hl,hq⟩
def MT (X:Cx)(m:Str)(tbl:List (Addr×Sd)):Prop:=∀C sd,(C,sd)∈tbl→Cls X.K C∧∃(f:Addr) (fd:FuncData) (k:Nat) (ps:List Str),zfx X.K C m f∧zbc X.prog X.w X.K X.mg X.base (CXE X.prog X.w) k f fd ps (upF X.K sd)∧zaN k X.A∧zbz X.K fd ps []
theorem zqD {m:Str}:MT X m []:=λ_ _ h=>by cases h
theorem zcw {C:Addr}{m:Str}{k:Nat}{ps:List Str}{sd:Sd}{tbl:List (Addr×Sd)}(c:Cls X.K C)(G:Fm X.prog X.w X.K X.mg X.base k C m ps sd)(hr:zaN k X.A)(h:MT X m tbl):MT X m ((C,sd)::tbl):=λC' sd' hm=>by
 rcases Vaf.mp hm with e | e
 ·cases e
  exact⟨c,G.f,G.fd,k,ps,G.m,G.ok,hr,G.b⟩
 ·exact h C' sd' e
theorem zwU {m:Str}{W:St→XK}{o e:Expr}{es:List Expr}{ta:TE}{t:TA}{apos:Pos}{pl:Sem Bool}{tbl:List (Addr×Sd)}(he:PE X o ta)(M:MT X m tbl)(hx:zc8 X W)(ha:PA X (e::es) t)(hst:starEach (e::es) X.env=(false,eval e X.env)::starEach es X.env)(hpl:(backTo pos (starEach es X.env)).any (·.1)=false)
  (ht:eval (.Call (.Attribute o m apos) (e::es) [] pos) X.env=(do
   let ov ← eval o X.env
   standAt apos.atName
   let (f,first) ← holding [ov] (getMethod ov m pl)
   callWith pos f first (backTo pos (starEach (e::es) X.env)) (backToKw pos (keywordEach [] X.env)))):
  PE X (.Call (.Attribute o m apos) (e::es) [] pos) (λσ H Q=>ta σ H λx H1=>∃a C dx fs sd,x=.ref a∧H1 a=some (.ins C dx fs)∧(C,sd)∈tbl∧fs.lookup m=none∧t σ H1 λvs H2=>upF X.K sd (x::vs) H2 Q (W σ)):=by
 intro pins s σ H Q I h
 refine PySem.W.methodCall_KW (pl:=pl) (thn (he pins s σ H _ I h) λu s1 ⟨x,H1,I1,rx,a,C,dx,fs,sd,ex,ea,hm',l,q⟩=>?_) ht
 subst ex
 obtain rfl:u=Value.ref a:=rx
 obtain⟨c,f,fd,k,ps,hm,F,hr,hb⟩:=M C sd hm'
 refine zrw I1 ea c hm l ?_
 exact PySem.W.callWith_K (first:=[.ref a]) (h₀:=X.base) I.ok.mod.kin hm.kp (thn (ha pos pins s1 σ H1 _ I1 q) λus s2 ⟨vs,H2,I2,r,q2⟩=>⟨I2.kIn,znX (us:=.ref a::us) (vs:=.ref a::vs) F hr hb hx I2 (.cons rfl r) q2⟩) hst hpl
@[irreducible] def zjV (tbl:List (Addr×Sd))(m:Str)(ex:Ev→Addr→Sto→Prop)(to:TDE)(t:TDA):TDE:=λdl S Q=>to dl S λd S1=>∃n C fs sd,d=.ref n∧S1[n]?=some (.ins C fs)∧(C,sd)∈tbl∧fs.lookup m=none∧t dl S1 λds S2=>sd (d::ds) S2 Q (ex dl)
theorem zq0 {m:Str}{o e:Expr}{es:List Expr}{to:TDE}{t:TDA}{apos:Pos}{pl:Sem Bool}{ex:Ev→Addr→Sto→Prop}{W:St→XK}{tbl:List (Addr×Sd)}(ho:PD X ⟨ex,W⟩ o to)(M:MT X m tbl)(hx:zc8 X W)(ha:PDA X ⟨ex,W⟩ (e::es) t)
  (hst:starEach (e::es) X.env=(false,eval e X.env)::starEach es X.env:=by rfl)(hpl:(backTo pos (starEach es X.env)).any (·.1)=false:=by rfl)
  (ht:eval (.Call (.Attribute o m apos) (e::es) [] pos) X.env=(do
   let ov ← eval o X.env
   standAt apos.atName
   let (f,first) ← holding [ov] (getMethod ov m pl)
   callWith pos f first (backTo pos (starEach (e::es) X.env)) (backToKw pos (keywordEach [] X.env))):=by rfl):PD X ⟨ex,W⟩ (.Call (.Attribute o m apos) (e::es) [] pos) (zjV tbl m ex to t):=
 zbf (zwU ho M hx ha hst hpl ht) λσ H Qv ⟨r,dl,S,Q,rs,rel,h,ret⟩=>by
  unfold zjV at h
  refine⟨r,dl,S,_,rs,rel,h,λv H1 r1 d S1 e1 rel1 p1 q1=>?_⟩
  obtain⟨n,C,fs,sd,rfl,eS,hm,hl,q1⟩:=q1
  obtain⟨a,dx,fs',rfl,hr1,eH,fr⟩:=zpW (C:=C) (n:=n) (fs:=fs) rel1.b p1 (by simp only[zcM,eS,if_pos])
  exact⟨a,C,dx,fs',sd,rfl,eH,hm,fr.lookup.2 hl,r1,dl,S1,_,rs.ext e1,rel1,q1,λvs H2 r2 ds S2 e2 rel2 p2 q2=>znG (Z:=⟨ex,W⟩) (rs.ext (e1.trans e2)) rel2 (Rps.cons (p1.ext e2) p2) q2 (ret.ext (e1.trans e2))⟩
theorem zrM {tbl:List (Addr×Sd)}{C:Addr}{m:Str}{ex:Ev→Addr→Sto→Prop}{sd:Sd}{to:TDE}{t:TDA}{dl:Ev}{S S1:Sto}{Q:DK}{n:Nat}{fs:List (Str×D)}(hto:∀K:DK,K (.ref n) S1→to dl S K)(h:S1[n]?=some (.ins C fs))(hm:(C,sd)∈tbl)(hf:fs.lookup m=none)(hq:t dl S1 λds S2=>sd (.ref n::ds) S2 Q (ex dl)):zjV tbl m ex to t dl S Q:=by
 unfold zjV
 exact hto _ ⟨n,C,fs,sd,rfl,h,hm,hf,hq⟩
structure Kx (K:PySem.W.Frag)(C:Addr):Prop where
 cl:Cls K C
 ha:PySem.W.findIn K (.ref C) "__class__"=some (some (.builtin "object.__class__"))
 hn:PySem.W.specialIn K (.builtin "object.__class__") "__get__"=some (some (.builtin "getset_descriptor.__get__"))
 ht:PySem.W.takesIn K (.builtin "object.__class__")=some true
 hm:PySem.W.mroIn K C (.type "object")=some true
def KT (K:PySem.W.Frag)(cv:Value)(ans:List (Addr×Bool)):Prop:=∀C b,(C,b)∈ans→PySem.W.kitOne K (.ref C) cv=some b∧Kx K C
end
section
variable {X:Cx}{Z:Zx}
end
section
variable {n:Nat}{I:Addr}{fp wr:List Addr}{P:Nat→Value→Prop}{St:Nat→Shared→Prop}{prog:Program}{w:World}{A:Around}{s:Shared}{E:Value→Shared→Prop}{G:Array GenState→Array GenState→Prop}
end
section
variable {X:Cx}{Z:Zx}
end
structure CompScG (sc around:Scope)(own caps:List Str):Prop where
 kind:sc.kind=.function
 nocell:∀y∈sc.names,y.2≠.cell
 own:∀y∈sc.names,y.2=.local→sc.names.lookup y.1=some .local
 cap:∀y∈caps,sc.names.lookup y=some .free
 out:∀y∈sc.names,y.2=.free→around.names.lookup y.1=some .cell
section
variable {X:Cx}{pins:List (Addr×Obj)}{σ:St}{H:Hp}{s:Shared}
end
section
variable {X:Cx}{elt iter:Expr}{elts:List Expr}{kk:Nat}{tp:Pos}{pos:Pos}{sc:Scope}{own N:List Str}{caps:List Nat}{wi:TI}{gt:TG}{te:TE}
end
section
variable {X:Cx}{Z:Zx}{elt:Expr}{pos:Pos}{sc ar:Scope}{N:List Str}{caps:List Nat}
end
section
variable {X:Cx}{Z:Zx}{pos:Pos}
end
section
variable {X:Cx}{Z:Zx}
end
section
variable {X:Cx}{Z:Zx}{pos:Pos}
theorem zmR:∀ {us:List Value} {ms:List Int},IntsAre us ms→zaA (ms.map V.int) us
 | _,_,.nil=>.nil
 | _,_,.cons n t h=>.cons ⟨t,rfl⟩ (zmR h)
end
section
variable {X:Cx}{Z:Zx}{elt:Expr}{pos:Pos}{sc ar:Scope}{N:List Str}{caps:List Nat}
end
section
variable {X:Cx}{Z:Zx}{pos:Pos}
end
section
variable {n:Nat}{I:Addr}{fp wr:List Addr}{P:Nat→Value→Prop}{St:Nat→Shared→Prop}{prog:Program}{w:World}{A:Around}{s:Shared}{E:Value→Shared→Prop}{G:Array GenState→Array GenState→Prop}
end
section
variable {X:Cx}{Z:Zx}{pos:Pos}
end
section
variable {X:Cx}{Z:Zx}{pos:Pos}
theorem Rps.ins {r:List Addr}{H:Hp}{y:D}{w:V}(hy:Rp r H y w):∀ {ds:List D} {xs:List V} (k:Nat),Rps r H ds xs→Rps r H (ds.take k++y::ds.drop k) (xs.take k++w::xs.drop k)
 | [],xs,k,h=>by
  have z:=h.unnil
  subst z
  simpa using Rps.cons hy h
 | d::ds,xs,0,h=>Rps.cons hy h
 | d::ds,xs,k+1,h=>by
  obtain⟨v,vs,rfl,p1,p2⟩:=h.uncons
  exact Rps.cons p1 (Rps.ins hy k p2)
theorem ziW {P:Sto→D→D→Prop}{A:Around}{H:Hp}{s:Shared}{r:List Addr}{S:Sto}{ds es:List D}{xs ys:List V}{is js:List Value}(f:∀ {d e:D} {v1 v2:V} {u1 u2:Value},P S d e→Rp r H d v1→Rp r H e v2→zay v1 u1→zay v2 u2→SeqAt.EqAt A s u1 u2 true)(pr:Rps r H ds xs)(pr':Rps r H es ys)(ri:zaA xs is)(rj:zaA ys js)(hall:∀(k:Nat) (d e:D),ds[k]?=some d→es[k]?=some e→P S d e):
  ∀(k:Nat) (h1:k<is.toArray.size) (h2:k<js.toArray.size),SeqAt.EqAt A s is.toArray[k] js.toArray[k] true:=λk h1 h2=>by
 have l3:=ri.length
 have l4:=rj.length
 have k1:k<is.length:=by simpa using h1
 have k2:k<js.length:=by simpa using h2
 obtain⟨d,hd,pd⟩:=pr.get' (Vag (l:=xs) (i:=k) (by omega))
 obtain⟨e,he,pe⟩:=pr'.get' (Vag (l:=ys) (i:=k) (by omega))
 obtain⟨u1,hu1,ru1⟩:=ri.get (Vag (l:=xs) (i:=k) (by omega))
 obtain⟨u2,hu2,ru2⟩:=rj.get (Vag (l:=ys) (i:=k) (by omega))
 have z1:is.toArray[k]=u1:=by
  rw[Vag k1] at hu1
  simpa using Option.some.inj hu1
 have z2:js.toArray[k]=u2:=by
  rw[Vag k2] at hu2
  simpa using Option.some.inj hu2
 rw[z1,z2]
 exact f (hall k d e hd he) pd pe ru1 ru2
end
section
variable {X:Cx}{Z:Zx}{elt iter:Expr}{elts:List Expr}{kk:Nat}{tp pos:Pos}{sc ar:Scope}{own N:List Str}{caps:List Nat}{wi:TI}{gt:TG}
end
section
variable {X:Cx}{Z:Zx}
end
section
variable {X:Cx}{Z:Zx}{pos:Pos}
end
end L3
namespace L2
open PySem PySem.Spec PyProof.Rows
def Itd (lo:Int)(n:Nat):It:=⟨λi _=>i<n,λi H x H'=>H'=H∧x=.int (lo-i),λi _=>n≤i⟩
theorem zxv {P:Program}{w:World}{K:PySem.W.Frag}{tg:Expr}(it:Addr)(lo:Int)(n:Nat):zeW P w K tg (Itd lo n) [it] it (λi h=>IsRangeIter h it (lo+(i:Nat)*(-1)) ((n:Int)-(i:Nat)) (-1)) where
 mem:=VaP.mpr rfl
 obj:=λi h st b hb=>by
  cases VaP.mp hb
  refine⟨_,st,λv z=>?_⟩
  have z':Data.fields _=Data.cell v:=z
  cases z'
 keep:=λi h h' st k=>k it (VaP.mpr rfl) _ st
 item:=by
  intro X hP hw hK hc i pins s σ H E I hf st hg
  subst hP hw hK
  obtain⟨f0,f1,f2,f3,f4,f5⟩:=hf it (VaP.mpr rfl)
  have W:=Walks.range (prog:=X.prog) (w:=X.w) (I.ok.hd hc) it lo (-1) n
  refine W.item i s _ _ hg st λv h' tk hv st' kk=>?_
  obtain⟨t,rfl⟩:=hv
  have I1:Inv X pins σ H { s with heap:=h',toks:=tk }:=I.turned (λb o hb e=>kk b o (λz=>hb (VaP.mp z)) e) f0 f1 f3 f4 f5
  have ev:lo+(i:Int)*(-1)=lo-(i:Int):=by omega
  exact⟨_,rfl,ziX (s:={ s with heap:=h',toks:=tk }) (n:="range_iterator") st' rfl rfl (by decide) ⟨.int (lo-i),H,I1,⟨t,by rw[ev]⟩,⟨rfl,rfl⟩,st',λb hb=>(hf b hb).1⟩⟩
 done:=by
  intro X hP hw hK hc i pins s σ H E I hf st hg
  subst hP hw hK
  obtain⟨f0,f1,f2,f3,f4,f5⟩:=hf it (VaP.mpr rfl)
  have hg':n≤i:=hg
  exact wpAny_pyNext_range_end (I.ok.hd hc) st (by omega) λh' eb=>⟨rfl,I.turned (t':=s.toks) (λb o hb e=>eb b o hb e) f0 f1 f3 f4 f5⟩
 self:=λ_ _ _ _ _ st h=>wpAny_pyIter_rangeiter st h
section
variable {X:Cx}{tg:Expr}
theorem zxc {pins:List (Addr×Obj)}{σ:St}{H:Hp}{s:Shared}{R:It→Hp→Prop}{E:Value→Shared→Prop}{lo hi:Int}{t u v:Tok}{tk:Nat}(I:Inv X pins σ H s)(h1:-(2^62)≤lo)(h2:lo<2^62)(h3:-(2^62)≤hi)(h4:hi<2^62)
  (q:R (Itd lo (lo-hi).toNat) H):wpAny (model X.prog X.w) X.A (pyIter (.ref s.heap.objs.size)) (PIE X pins σ tg R) E { s with heap:=s.heap.push { cls:=.type "range",data:=.fields #[.int lo t,.int hi u,.int (-1) v] },toks:=tk }:=by
 have I1:Inv X pins σ H { s with heap:=s.heap.push { cls:=.type "range",data:=.fields #[.int lo t,.int hi u,.int (-1) v] },toks:=tk }:=I.kept λb o e=>Heap.get?_push_of_some _ e
 refine wpAny_pyIter_range (IsRange.new ..) (PySem.W.small_down h1 h2 h3 h4) ?_
 refine⟨(s.heap.push { cls:=.type "range",data:=.fields #[.int lo t,.int hi u,.int (-1) v] }).objs.size,[(s.heap.push { cls:=.type "range",data:=.fields #[.int lo t,.int hi u,.int (-1) v] }).objs.size],_,_,H,rfl,
  I1.kept (t':=tk) λb o e=>Heap.get?_push_of_some _ e,zxv _ lo (lo-hi).toNat,?_,λb hb=>?_,q⟩
 ·show IsRangeIter _ _ (lo+((0:Nat):Int)*(-1)) ((((lo-hi).toNat:Nat):Int)-((0:Nat):Int)) (-1)
  rw[show lo+((0:Nat):Int)*(-1)=lo by simp,show (((lo-hi).toNat:Nat):Int)-((0:Nat):Int)=Builtin.Range.rangeSize lo hi (-1) by rw[PySem.W.rangeSize_downNat]; simp]
  exact Heap.get?_push_size _ rfl
 ·cases VaP.mp hb
  exact I1.fpOk (Vab _) (I1.hok.fresh (Vab _))
def iRngD (ta:TA):TI:=λσ H R=>ta σ H λvs H1=>∃i j:Int,vs=[.int i,.int j,.int (-1)]∧(-(2^62)≤i∧i<2^62∧-(2^62)≤j∧j<2^62)∧R (Itd i (i-j).toNat) H1
theorem zvh {a b c:Expr}{ta:TA}{p pos:Pos}(hg:Gl X "range")(hm:X.mg "range"=none)(ha:PA X [a,b,c] ta)(hs:starEach [a,b,c] X.env=[(false,eval a X.env),(false,eval b X.env),(false,eval c X.env)]:=by rfl)(hs2:starEach [b,c] X.env=[(false,eval b X.env),(false,eval c X.env)]:=by rfl):
  PI X tg (.Call (.Name "range" p) [a,b,c] [] pos) (iRngD ta):=by
 intro pins s σ H R I h
 refine Call_ (zfr I hg hm boot_range (PyProof.Rows.callWith_type1 (thn (ha pos pins s σ H _ I h) λus s1 ⟨vs,H1,I1,r1,q1⟩=>?_) (by rw[hs,hs2]) (by rw[hs2]; rfl)))
 obtain⟨i,j,e,⟨q1,q2,q3,q4⟩,q⟩:=q1
 subst e
 cases r1 with
 | cons r rr=>
  cases rr with
  | cons r' rr=>
   cases rr with
   | cons r2 rr=>
    cases rr
    obtain⟨t,rfl⟩:=r
    obtain⟨t',rfl⟩:=r'
    obtain⟨t2,rfl⟩:=r2
    exact call_range_3 (by decide) (zxc I1 q1 q2 q3 q4 q) (.inl (PyProof.noPylong_small (by omega)))
end
end L2
namespace L3
open PySem PySem.Spec PyProof.Rows L2
section
variable {X:Cx}{Z:Zx}{pos:Pos}
def zuP (i:Nat)(ta:TDA)(tb:TDS):TDS:=λE dl S=>ta dl S λds S1=>match ds with
 | [.int lo,.int hi,.int st]=>st=-1∧(-(2^62)≤lo∧lo<2^62∧-(2^62)≤hi∧hi<2^62)∧∃W:Nat→Ev→Sto→Prop,W 0 dl S1∧∀k dl S,W k dl S→
   if k<(lo-hi).toNat then tb { nx:=λdl' S'=>W (k+1) dl' S',rt:=E.rt,bk:=E.nx,ct:=λdl' S'=>W (k+1) dl' S' } (dl.set i (some (.int (lo-k)))) S else E.nx dl S
 | _=>False
theorem zsn {i:Nat}{x:Str}{pos2 pos' p:Pos}{a b c:Expr}{body:List Stmt}{ta:TDA}{tb:TDS}(hp:PassesOwn (model X.prog X.w) X.A X.env X.xe)(hc:X.calm=true)(hN:X.N.Nodup)(hi:X.N[i]?=some x)(hx:Loc X.env.scope x)
  (hg:Gl X "range")(hm:X.mg "range"=none)(ha:PDA X Z [a,b,c] ta)(hb:zci X Z body tb)(hf:X.fn x=true∨X.env.scope.names.lookup x=some .local:=by first | exact .inl rfl | exact .inr rfl | assumption)
  (hs:∀y,foldedSetIterable (.Call (.Name "range" p) [a,b,c] [] pos) X.env y=pure y:=by intro _; rfl)(hst:starEach [a,b,c] X.env=[(false,eval a X.env),(false,eval b X.env),(false,eval c X.env)]:=by rfl)(hst2:starEach [b,c] X.env=[(false,eval b X.env),(false,eval c X.env)]:=by rfl):
  PDS X Z (.For (.Name x pos') (.Call (.Name "range" p) [a,b,c] [] pos) body [] pos2) (zuP i ta tb):=
 zbD (zgx hp hc (zvh hg hm ha hst hst2) (zeS hN hi hx hf) hb hs) λF σ H ⟨r,dl,S,E,rs,rel,h,ret⟩=>by
  refine⟨r,dl,S,_,rs,rel,h,λvs H1 r1 ds S1 x1 rel1 p1 q1=>?_⟩
  split at q1
  ·rename_i lo hi st
   obtain⟨v,vs',rfl,p2,p3⟩:=p1.uncons
   obtain⟨v2,vs2,rfl,p4,p5⟩:=p3.uncons
   obtain⟨v3,vs3,rfl,p6,p7⟩:=p5.uncons
   have z:=p7.unnil
   subst z
   cases p2
   cases p4
   cases p6
   obtain⟨e3,bds,W,w0,turn⟩:=q1
   subst e3
   refine⟨lo,hi,rfl,bds,λk m σ' H'=>m=(lo-hi).toNat-k∧∃r' dl' S',Ext r1 r' H1 H'∧Rs r' H' dl' σ'∧Rel X.K Z r' S' H'∧W k dl' S',⟨(lo-hi).toNat,by simp,r1,dl,S1,Ext.refl,rs.ext x1,rel1,w0⟩,?_⟩
   rintro k m σ2 H2 ⟨em,r2,dl2,S2,x2,rs2,rel2,w2⟩
   have q:=turn k dl2 S2 w2
   split at q
   ·rename_i hk
    have go:∀σ' H' r' dl' S',Ext r2 r' H2 H'→Rs r' H' dl' σ'→Rel X.K Z r' S' H'→W (k+1) dl' S'→∃r' dl' S',Ext r1 r' H1 H'∧Rs r' H' dl' σ'∧Rel X.K Z r' S' H'∧W (k+1) dl' S':=
     λσ' H' r' dl' S' x rs' rel' w'=>⟨r',dl',S',x2.trans x,rs',rel',w'⟩
    have pk:Rp r2 H2 (.int (lo-(k:Int))) (.int (lo-(k:Int))):=.int _
    refine .inr ⟨hk,λσ' H'=>∃r' dl' S',Ext r1 r' H1 H'∧Rs r' H' dl' σ'∧Rel X.K Z r' S' H'∧W (k+1) dl' S',λσ' H' z=>⟨(lo-hi).toNat-(k+1),by omega,rfl,z⟩,λv' H' y'=>?_⟩
    obtain⟨eH,y'⟩:=y'
    subst eH
    subst y'
    exact⟨r2,_,S2,_,rs2.set i pk,rel2,q,go,λσ' H' r' dl' S' x rs' rel' z=>ret.nx σ' H' r' dl' S' (x1.trans (x2.trans x)) rs' rel' z,go,ret.rt.ext (x1.trans x2)⟩
   ·rename_i hk
    exact .inl ⟨by show (lo-hi).toNat≤k; omega,ret.nx σ2 H2 r2 dl2 S2 (x1.trans x2) rs2 rel2 q⟩
  ·exact q1.elim
end
end L3
set_option Elab.async false
set_option linter.all false
set_option maxRecDepth 100000
set_option maxHeartbeats 40000000
namespace Mine
open PySem PySem.Spec PyProof.Rows L2 L3
theorem fsc {N P:List Str}{sc:Scope}(a:sc.kind=.function:=by rfl)(b:sc.isCoroutine=false:=by rfl)(c:sc.isGenerator=false:=by rfl)(d:N.Nodup:=by decide +kernel)(e:N.take P.length=P:=by rfl)(f:∀x∈P,sc.names.lookup x=some .local∨sc.names.lookup x=some .cell:=by decide +kernel)(g:∀y∈sc.names,y.2≠.free:=by decide +kernel):zau N P sc:=⟨a,b,c,d,e,f,g⟩
theorem csc {sc ar:Scope}{x:Str}{caps:List Str}(a:sc.kind=.function:=by rfl)(b:∀y∈sc.names,y.2≠.cell:=by decide +kernel)(c:∀y∈sc.names,y.2=.local→sc.names.lookup y.1=some .local:=by decide +kernel)(d:sc.names.lookup x=some .local:=by rfl)(e:∀y∈caps,sc.names.lookup y=some .free:=by decide +kernel)(f:∀y∈sc.names,y.2=.free→ar.names.lookup y.1=some .cell:=by decide +kernel):zdR sc ar x caps:=⟨a,b,c,d,e,f⟩
abbrev Ln (sp:Sd)(n:Nat):Prop:=∀ds S Q ex,sp ds S Q ex→ds.length=n
theorem zan {X:Cx}{x:Str}{p pos:Pos}{e:Expr}{es:List Expr}{t:TDA}{k j:Nat}{ps:List Str}{sd:Sd}{ex:Ev→Addr→Sto→Prop}(G:Fk X.prog X.w X.K X.mg X.base k x ps sd)(hr:zaN j X.A)(ha:PDA X ⟨ex,Z0.w⟩ (e::es) t)(hk:k≤j:=by decide)(hg:Gl X x:=by rfl)
  (hdb:(x==("__debug__":Str))=false:=by decide)(he:starEach (e::es) X.env=(false,eval e X.env)::starEach es X.env:=by rfl)(hpl:(backTo pos (starEach es X.env)).any (·.1)=false:=by rfl):PD X ⟨ex,Z0.w⟩ (.Call (.Name x p) (e::es) [] pos) (zlP ex sd t):=zob G (hr.mono hk) zcF hg ha hdb he hpl
abbrev zme:Stmt:=top 59
abbrev zia:List Str:=["_law_cell_here"]
theorem zqK:zau ["_law_cell_here","_law_c"] zia (zar zme):=fsc
abbrev zlt:Stmt:=top 57
abbrev zgz:List Str:=["_law_a","_law_b"]
theorem zi7:zau ["_law_a","_law_b","_law_rest"] zgz (zar zlt):=fsc
abbrev zkH:Stmt:=top 58
abbrev zdw:List Str:=["_law_top","_law_bottom"]
theorem zrm:zau ["_law_top","_law_bottom","_law_shared"] zdw (zar zkH):=fsc
abbrev zmk:Stmt:=top 68
abbrev zh4:List Str:=["_law_box","_law_grid_here","_law_cell_here"]
theorem zdq:zau ["_law_box","_law_grid_here","_law_cell_here","_law_point_here","_law_c","_law_span_here","_law_whole_here","_law_part"] zh4 (zar zmk):=fsc
abbrev zjR:Stmt:=top 62
abbrev zho:List Str:=["_law_cell_here"]
theorem zk2:zau ["_law_cell_here","_law_c","_law_made"] zho (zar zjR):=fsc
abbrev zkP:Stmt:=top 63
abbrev zhI:List Str:=["_law_cell_here","_law_size","_law_many"]
theorem zen:zau ["_law_cell_here","_law_size","_law_many","_law_c","_law_kind","_law_one"] zhI (zar zkP):=fsc
abbrev zkc:Stmt:=top 64
abbrev zfb:List Str:=["_law_node_here","_law_weights"]
theorem zym:zau ["_law_node_here","_law_weights"] zfb (zar zkc):=fsc
abbrev ze2:Stmt:=top 65
abbrev zhW:List Str:=["_law_cells","_law_many","_law_ahead","_law_heavy","_law_most"]
theorem zeh:zau ["_law_cells","_law_many","_law_ahead","_law_heavy","_law_most","_law_nodes","_law_weights","_law_cell_here","_law_node_here","_law_weight_here"] zhW (zar ze2):=fsc
abbrev zl1:Stmt:=top 69
abbrev zhS:List Str:=["_law_nodes","_law_node_here"]
theorem zse:zau ["_law_nodes","_law_node_here"] zhS (zar zl1):=fsc
abbrev zlH:Stmt:=top 61
abbrev zfe:List Str:=["_law_a","_law_many"]
theorem zkm:zau ["_law_a","_law_many","_law_found","_law_turn"] zfe (zar zlH):=fsc
abbrev znj:Stmt:=top 66
abbrev zfZ:List Str:=["_law_node_here","_law_values","_law_point_here"]
theorem zpe:zau ["_law_node_here","_law_values","_law_point_here","_law_a","_law_b"] zfZ (zar znj):=fsc
abbrev zlx:Stmt:=top 67
abbrev zhc:List Str:=["_law_nodes","_law_point_here"]
theorem znV:zau ["_law_nodes","_law_point_here","_law_values","_law_node_here"] zhc (zar zlx):=fsc
abbrev zkS:Stmt:=top 70
abbrev zhL:List Str:=["_law_nodes","_law_point_here","_law_at","_law_cell_here"]
theorem zdg:zau ["_law_nodes","_law_point_here","_law_at","_law_cell_here","_law_c","_law_k","_law_a","_law_one","_law_far","_law_number_here"] zhL (zar zkS):=fsc
abbrev zld:Stmt:=top 71
abbrev zgM:List Str:=["_law_nodes","_law_point_here","_law_first","_law_cell_here"]
theorem zrl:zau ["_law_nodes","_law_point_here","_law_first","_law_cell_here","_law_at"] zgM (zar zld):=fsc
abbrev znm:Stmt:=top 78
abbrev zhD:List Str:=["_law_c"]
theorem zqb:zau ["_law_c","_law_low"] zhD (zar znm):=fsc
abbrev zkK:Stmt:=top 79
abbrev zge:List Str:=["_law_c","_law_size","_law_many"]
theorem zl0:zau ["_law_c","_law_size","_law_many","_law_kind","_law_made"] zge (zar zkK):=fsc
abbrev zfK:Stmt:=top 80
abbrev zgj:List Str:=["_law_script"]
theorem zcQ:zau ["_law_script","_law_some","_law_many","_law_box","_law_nodes","_law_weights","_law_c","_law_node_here","_law_weight_here","_law_row"] zgj (zar zfK):=fsc
abbrev zjo:Stmt:=top 53
abbrev zih:List Str:=["_law_script","_law_k"]
theorem zyI:zau ["_law_script","_law_k"] zih (zar zjo):=fsc
abbrev zmH:Stmt:=top 60
abbrev zgm:List Str:=["_law_cell_here"]
theorem zdC:zau ["_law_cell_here","_law_c","_law_way","_law_low","_law_wide"] zgm (zar zmH):=fsc
abbrev zgT:Stmt:=top 81
abbrev zic:List Str:=["_law_script"]
theorem zdY:zau ["_law_script","_law_grid_here","_law_first","_law_many","_law_box","_law_point_here","_law_nodes","_law_row"] zic (zar zgT):=fsc
abbrev zi8:Stmt:=top 6
abbrev zif:List Str:=["a","b"]
theorem zw8:zau ["a","b"] zif (zar zi8):=fsc
abbrev zlX:Stmt:=top 8
abbrev zdP:List Str:=["top","bottom"]
theorem zuo:zau ["top","bottom"] zdP (zar zlX):=fsc
abbrev zjr:Stmt:=top 9
abbrev zgF:List Str:=["low","high","grid"]
theorem zvF:zau ["low","high","grid"] zgF (zar zjr):=fsc
abbrev zll:Stmt:=zaO (top 30) 2
abbrev zh0:List Str:=["self","spans","box","grid"]
theorem zpE:zau ["self","spans","box","grid","number"] zh0 (zar zll):=fsc
abbrev zl7:Stmt:=zaO (top 31) 2
abbrev zhj:List Str:=["self","spans","box","grid"]
theorem zuM:zau ["self","spans","box","grid"] zhj (zar zl7):=fsc
abbrev zl3:Stmt:=top 10
abbrev ze3:List Str:=["a","b"]
theorem zvT:zau ["a","b"] ze3 (zar zl3):=fsc
abbrev zmu:Stmt:=zaO (top 33) 1
abbrev zh3:List Str:=["self","spans","box","grid"]
theorem zst:zau ["self","spans","box","grid"] zh3 (zar zmu):=fsc
abbrev zkg:Stmt:=top 11
abbrev zdE:List Str:=["a","b"]
theorem zx0:zau ["a","b"] zdE (zar zkg):=fsc
abbrev zkL:Stmt:=zaO (top 34) 1
abbrev zhX:List Str:=["self","spans","box","grid"]
theorem zwE:zau ["self","spans","box","grid"] zhX (zar zkL):=fsc
abbrev zlI:Stmt:=top 12
abbrev zhT:List Str:=["a","b","grid"]
theorem zrb:zau ["a","b","grid","products"] zhT (zar zlI):=fsc
abbrev znl:Stmt:=zaO (top 35) 1
abbrev zgb:List Str:=["self","spans","box","grid"]
theorem zvq:zau ["self","spans","box","grid"] zgb (zar znl):=fsc
abbrev zmN:Stmt:=top 5
abbrev zdl:List Str:=["number","many"]
theorem ziZ:zau ["number","many","worth","step"] zdl (zar zmN):=fsc
abbrev zgC:Stmt:=top 13
abbrev zij:List Str:=["a","many","grid"]
theorem zml:zau ["a","many","grid","places","powers","bottom"] zij (zar zgC):=fsc
abbrev zlQ:Stmt:=zaO (top 36) 2
abbrev zg7:List Str:=["self","spans","box","grid"]
theorem zsC:zau ["self","spans","box","grid"] zg7 (zar zlQ):=fsc
abbrev zmD:Stmt:=zaO (top 36) 0
abbrev zgO:List Str:=["self","one","many"]
theorem zvm:zau ["self","one","many"] zgO (zar zmD):=fsc
abbrev zjq:Stmt:=zaO (top 30) 0
abbrev zhY:List Str:=["self","top","bottom"]
theorem ztH:zau ["self","top","bottom"] zhY (zar zjq):=fsc
abbrev zj0:Stmt:=zaO (top 31) 0
abbrev zgY:List Str:=["self","place"]
theorem zx2:zau ["self","place"] zgY (zar zj0):=fsc
abbrev zmq:Stmt:=zaO (top 32) 0
abbrev zhq:List Str:=["self","one","other"]
theorem zsD:zau ["self","one","other"] zhq (zar zmq):=fsc
abbrev ziH:Stmt:=zaO (top 32) 0
abbrev zil:List Str:=["self","one","other"]
theorem zs6:zau ["self","one","other"] zil (zar ziH):=fsc
abbrev zkR:Stmt:=zaO (top 32) 0
abbrev zf3:List Str:=["self","one","other"]
theorem zr8:zau ["self","one","other"] zf3 (zar zkR):=fsc
abbrev zjA:Stmt:=top 37
abbrev zfw:List Str:=["node"]
theorem zxA:zau ["node"] zfw (zar zjA):=fsc
abbrev zlZ:Stmt:=top 39
abbrev zfs:List Str:=["nodes","box","grid"]
theorem znw:zau ["nodes","box","grid","found","node"] zfs (zar zlZ):=fsc
abbrev zlF:Stmt:=top 14
abbrev zcY:List Str:=["a","b"]
theorem zpl:zau ["a","b","low","high"] zcY (zar zlF):=fsc
abbrev zjB:Stmt:=top 42
abbrev ziu:List Str:=["word","span"]
theorem zwt:zau ["word","span"] ziu (zar zjB):=fsc
abbrev zlv:Stmt:=zaO (top 30) 3
abbrev zhh:List Str:=["self","spans","here","grid"]
theorem zrO:zau ["self","spans","here","grid"] zhh (zar zlv):=fsc
abbrev zlu:Stmt:=zaO (top 31) 3
abbrev zg6:List Str:=["self","spans","here","grid"]
theorem zvi:zau ["self","spans","here","grid"] zg6 (zar zlu):=fsc
abbrev zjy:Stmt:=zaO (top 33) 2
abbrev zgN:List Str:=["self","here","x","y","grid"]
theorem zxe:zau ["self","here","x","y","grid"] zgN (zar zjy):=fsc
abbrev zl5:Stmt:=zaO (top 33) 3
abbrev zh1:List Str:=["self","here","x","y","grid"]
theorem zwx:zau ["self","here","x","y","grid"] zh1 (zar zl5):=fsc
abbrev zje:Stmt:=zaO (top 32) 1
abbrev zgc:List Str:=["self","spans","here","grid"]
theorem zlY:zau ["self","spans","here","grid","x","y"] zgc (zar zje):=fsc
abbrev zjJ:Stmt:=zaO (top 34) 2
abbrev zfX:List Str:=["self","here","x","y","grid"]
theorem zxx:zau ["self","here","x","y","grid"] zfX (zar zjJ):=fsc
abbrev zj1:Stmt:=zaO (top 34) 3
abbrev zf1:List Str:=["self","here","x","y","grid"]
theorem zwJ:zau ["self","here","x","y","grid"] zf1 (zar zj1):=fsc
abbrev ziV:Stmt:=zaO (top 32) 1
abbrev zir:List Str:=["self","spans","here","grid"]
theorem ziF:zau ["self","spans","here","grid","x","y"] zir (zar ziV):=fsc
abbrev znn:Stmt:=top 17
abbrev zgR:List Str:=["span"]
theorem zsL:zau ["span"] zgR (zar znn):=fsc
abbrev znb:Stmt:=top 20
abbrev zfC:List Str:=["x","low","high"]
theorem zvK:zau ["x","low","high"] zfC (zar znb):=fsc
abbrev ziT:Stmt:=top 21
abbrev zgQ:List Str:=["top","bottom"]
theorem zsu:zau ["top","bottom"] zgQ (zar ziT):=fsc
abbrev zmm:Stmt:=top 22
abbrev zh7:List Str:=["products","x","y"]
theorem zg4:zau ["products","x","y","low_by","high_by","low","high"] zh7 (zar zmm):=fsc
abbrev zjk:Stmt:=top 15
abbrev zh2:List Str:=["a","b"]
theorem zvn:zau ["a","b"] zh2 (zar zjk):=fsc
abbrev zmI:Stmt:=top 19
abbrev zeO:List Str:=["one","other"]
theorem zyf:zau ["one","other"] zeO (zar zmI):=fsc
abbrev zk1:Stmt:=top 18
abbrev zdI:List Str:=["pair"]
theorem zwi:zau ["pair"] zdI (zar zk1):=fsc
abbrev zl6:Stmt:=top 23
abbrev zfR:List Str:=["z","x","y","grid"]
theorem zeN:zau ["z","x","y","grid","products","left","turned"] zfR (zar zl6):=fsc
abbrev zjO:Stmt:=zaO (top 35) 2
abbrev zfV:List Str:=["self","here","x","y","grid"]
theorem zwN:zau ["self","here","x","y","grid"] zfV (zar zjO):=fsc
abbrev zlK:Stmt:=zaO (top 35) 3
abbrev zgS:List Str:=["self","here","x","y","grid"]
theorem zwb:zau ["self","here","x","y","grid"] zgS (zar zlK):=fsc
abbrev ziI:Stmt:=zaO (top 32) 1
abbrev zgi:List Str:=["self","spans","here","grid"]
theorem zkv:zau ["self","spans","here","grid","x","y"] zgi (zar ziI):=fsc
abbrev zjZ:Stmt:=top 25
abbrev zgJ:List Str:=["guess","number","many"]
theorem zxH:zau ["guess","number","many"] zgJ (zar zjZ):=fsc
abbrev zmJ:Stmt:=top 24
abbrev zfL:List Str:=["number","many"]
theorem zis:zau ["number","many","guess","better"] zfL (zar zmJ):=fsc
abbrev zhE:Stmt:=top 26
abbrev zcX:List Str:=["number","many"]
theorem zkN:zau ["number","many","below"] zcX (zar zhE):=fsc
abbrev zmG:Stmt:=top 27
abbrev zhe:List Str:=["z","x","many","grid"]
theorem zhb:zau ["z","x","many","grid","scale","powers","low","high"] zhe (zar zmG):=fsc
abbrev zlN:Stmt:=zaO (top 36) 3
abbrev zit:List Str:=["self","spans","here","grid"]
theorem zqS:zau ["self","spans","here","grid","x"] zit (zar zlN):=fsc
abbrev ziD:Stmt:=top 43
abbrev zgt:List Str:=["nodes","row","box","grid"]
theorem zef:zau ["nodes","row","box","grid","at","spans","wished","number","left","part"] zgt (zar ziD):=fsc
abbrev ziw:Stmt:=top 44
abbrev zeY:List Str:=["nodes","row","box","grid"]
theorem zhM:zau ["nodes","row","box","grid","spans","left","number","span","node"] zeY (zar ziw):=fsc
abbrev zmx:Stmt:=top 72
abbrev zgs:List Str:=["_law_node_here","_law_spans","_law_box","_law_grid_here"]
theorem zdD:zau ["_law_node_here","_law_spans","_law_box","_law_grid_here","_law_a","_law_share","_law_ends","_law_low","_law_b"] zgs (zar zmx):=fsc
abbrev zlh:Stmt:=top 73
abbrev zhZ:List Str:=["_law_nodes","_law_box","_law_grid_here"]
theorem zny:zau ["_law_nodes","_law_box","_law_grid_here","_law_spans","_law_node_here"] zhZ (zar zlh):=fsc
abbrev zlj:Stmt:=top 74
abbrev zh6:List Str:=["_law_nodes","_law_row","_law_box","_law_grid_here"]
theorem zpR:zau ["_law_nodes","_law_row","_law_box","_law_grid_here","_law_span_here"] zh6 (zar zlj):=fsc
abbrev ziY:Stmt:=top 75
abbrev zhU:List Str:=["_law_box","_law_k","_law_span_here"]
theorem zpH:zau ["_law_box","_law_k","_law_span_here","_law_found"] zhU (zar ziY):=fsc
abbrev ziR:Stmt:=top 76
abbrev zfU:List Str:=["_law_nodes","_law_row","_law_box","_law_grid_here","_law_close"]
theorem zdB:zau ["_law_nodes","_law_row","_law_box","_law_grid_here","_law_close","_law_cuts","_law_left","_law_k","_law_place","_law_part"] zfU (zar ziR):=fsc
abbrev zm9:Stmt:=top 40
abbrev zg0:List Str:=["word","span"]
theorem zsK:zau ["word","span"] zg0 (zar zm9):=fsc
abbrev zjw:Stmt:=top 47
abbrev zfm:List Str:=["nodes","row","box","grid"]
theorem zpw:zau ["nodes","row","box","grid","at"] zfm (zar zjw):=fsc
abbrev ziJ:Stmt:=top 46
abbrev zhw:List Str:=["box","k","span"]
theorem zxk:zau ["box","k","span"] zhw (zar ziJ):=fsc
abbrev zma:Stmt:=top 48
abbrev zgq:List Str:=["span","cut"]
theorem zyL:zau ["span","cut"] zgq (zar zma):=fsc
abbrev zlC:Stmt:=top 50
abbrev zh8:List Str:=["nodes","row","box","grid","cut"]
theorem zn5:zau ["nodes","row","box","grid","cut","k","span"] zh8 (zar zlC):=fsc
abbrev zmS:Stmt:=top 49
abbrev zgf:List Str:=["span","cut"]
theorem zr3:zau ["span","cut"] zgf (zar zmS):=fsc
abbrev zlS:Stmt:=top 51
abbrev zhr:List Str:=["nodes","row","box","grid"]
theorem zeR:zau ["nodes","row","box","grid","left","wished","cuts","k","span","cut"] zhr (zar zlS):=fsc
abbrev zna:Stmt:=top 54
abbrev zel:List Str:=["_law_found"]
theorem zs8:zau ["_law_found"] zel (zar zna):=fsc
abbrev zm4:Stmt:=top 55
abbrev zhK:List Str:=["_law_found"]
theorem ztD:zau ["_law_found"] zhK (zar zm4):=fsc
abbrev zlR:Stmt:=top 56
abbrev zfp:List Str:=["_law_found","_law_many"]
theorem zrh:zau ["_law_found","_law_many","_law_span_here"] zfp (zar zlR):=fsc
abbrev zmg:Stmt:=top 77
abbrev zhn:List Str:=["_law_found","_law_many"]
theorem zp2:zau ["_law_found","_law_many","_law_cut"] zhn (zar zmg):=fsc
abbrev zec:Stmt:=top 82
abbrev zjb:List Str:=["_law_script"]
theorem zdM:zau ["_law_script","_law_grid_here","_law_box","_law_nodes","_law_row","_law_many","_law_handed","_law_other","_law_close","_law_due","_law_found"] zjb (zar zec):=fsc
theorem kfo {K:PySem.W.Frag}{f c:Addr}{m:Value}{n q:Str}{st:Stmt}(l:K.lookup f=some (fo n q st m c)):PySem.W.keepIn K (.ref f)=true:=by
 unfold PySem.W.keepIn
 simp only[l]
theorem ifo {K:PySem.W.Frag}{f c:Addr}{m:Value}{n q:Str}{st:Stmt}(l:K.lookup f=some (fo n q st m c)):PySem.W.isFn K (.ref f)=true:=by
 unfold PySem.W.isFn PySem.W.typeIn
 simp only[l]
 rfl
theorem ln1 {P:List Value→Prop}(h:∀a,P [a]):∀us:List Value,us.length=1→P us
 | [a],_=>h a
theorem ln2 {P:List Value→Prop}(h:∀a b,P [a,b]):∀us:List Value,us.length=2→P us
 | [a,b],_=>h a b
theorem ln3 {P:List Value→Prop}(h:∀a b c,P [a,b,c]):∀us:List Value,us.length=3→P us
 | [a,b,c],_=>h a b c
theorem ln4 {P:List Value→Prop}(h:∀a b c d,P [a,b,c,d]):∀us:List Value,us.length=4→P us
 | [a,b,c,d],_=>h a b c d
theorem ln5 {P:List Value→Prop}(h:∀a b c d e,P [a,b,c,d,e]):∀us:List Value,us.length=5→P us
 | [a,b,c,d,e],_=>h a b c d e
abbrev Bn (n q:Str)(st:Stmt)(ps:List Str):Prop:=∀(kV doc pm:Value) (an:Option Addr) (cdv ct:Value) (us:List Value),us.length=ps.length→bindArgs (PySem.W.fnOf n q (zd3 st) (zde st) (zar st) .none kV doc pm an cdv ct) ⟨us,[]⟩=pure (ps.zip us)
def dfo {K:PySem.W.Frag}{mg:Str→Option Value}{h:Heap}(X:K.In h)(G:h.Ns mainGlobals mg){n:Str}{st:Stmt}{f c:Addr}{m:Value}{ps:List Str}(a:PySem.W.nsIn K mainGlobals n=some (some (.ref f)))(l:K.lookup f=some (fo n n st m c))(e:PySem.W.codeIn K (.ref c) n=true)(b:Bn n n st ps):Df K mg n st ps:=⟨_,_,zl8 (st:=st) l e (kfo l),PySem.W.mg_of X G a,(zl8 (st:=st) l e (kfo l)).binds b⟩
def dmo {K:PySem.W.Frag}{C:Addr}{n q:Str}{st:Stmt}{f c:Addr}{m:Value}{ps:List Str}(a:PySem.W.findIn K (.ref C) n=some (some (.ref f)))(l:K.lookup f=some (fo n q st m c))(e:PySem.W.codeIn K (.ref c) q=true)(b:Bn n q st ps):Dm K C n q st ps:=⟨_,_,zl8 (st:=st) l e (kfo l),⟨a,ifo l,kfo l⟩,(zl8 (st:=st) l e (kfo l)).binds b⟩
abbrev nsA (K:PySem.W.Frag)(n:Str)(f:Addr):Prop:=PySem.W.nsIn K mainGlobals n=some (some (.ref f))
abbrev fdA (K:PySem.W.Frag)(C:Addr)(n:Str)(f:Addr):Prop:=PySem.W.findIn K (.ref C) n=some (some (.ref f))
abbrev lkA (K:PySem.W.Frag)(f:Addr)(n q:Str)(st:Stmt)(m:Value)(c:Addr):Prop:=K.lookup f=some (fo n q st m c)
abbrev cdA (K:PySem.W.Frag)(c:Addr)(q:Str):Prop:=PySem.W.codeIn K (.ref c) q=true
theorem zaQ {C:Addr}{f:Str}{to:TDE}{dl:Ev}{S S1:Sto}{Q:DK}{n:Nat}{fs:List (Str×D)}{v:D}(hto:∀K:DK,K (.ref n) S1→to dl S K)(h:S1[n]?=some (.ins C fs))(hf:fs.lookup f=some v)(hq:Q v S1):zkF C f to dl S Q:=by
 unfold zkF
 refine hto _ ?_
 simp only[zcM,h,if_pos,hf]
 exact hq
theorem zcC {C:Addr}{f:Str}{to te:TDE}{dl:Ev}{S S1 S2:Sto}{E:zcl}{n:Nat}{fs:List (Str×D)}{v:D}(hte:∀K:DK,K v S1→te dl S K)(hto:∀K:DK,K (.ref n) S2→to dl S1 K)(h:S2[n]?=some (.ins C fs))(hl:fs.length<1000)(hq:E.nx dl (S2.set n (.ins C (ze8 f v fs)))):ziU C f to te E dl S:=by
 unfold ziU
 refine hte _ (hto _ ?_)
 simp only[zcM,h,if_pos]
 exact⟨hl,hq⟩
theorem zdd {C:Addr}{m:Str}{ex:Ev→Addr→Sto→Prop}{sd:Sd}{to:TDE}{t:TDA}{dl:Ev}{S S1:Sto}{Q:DK}{n:Nat}{fs:List (Str×D)}(hto:∀K:DK,K (.ref n) S1→to dl S K)(h:S1[n]?=some (.ins C fs))(hf:fs.lookup m=none)(hq:t dl S1 λds S2=>sd (.ref n::ds) S2 Q (ex dl)):zjv C m ex sd to t dl S Q:=by
 unfold zjv
 refine hto _ ?_
 simp only[zcM,h,if_pos]
 exact⟨hf,hq⟩
theorem zpu {te:TDE}{dl:Ev}{S:Sto}{Q:DK}{n:Nat}{xs:List D}(ht:∀K:DK,K (.ref n) S→te dl S K)(h:S[n]?=some (.lst xs))(hq:Q (.bl true) S):zjC "list" te dl S Q:=by
 unfold zjC
 refine ht _ ?_
 simp only[h]
 exact hq
theorem zdc {to ti te:TDE}{dl:Ev}{S:Sto}{E:zcl}{n j:Nat}{k:Int}{xs:List D}{v:D}(hte:∀K:DK,K v S→te dl S K)(hto:∀K:DK,K (.ref n) S→to dl S K)(hti:∀K:DK,K (.int k) S→ti dl S K)(h:S[n]?=some (.lst xs))(hj:ixN xs.length k=some j)(hq:E.nx dl (S.set n (.lst (xs.set j v)))):zkj to ti te E dl S:=by
 unfold zkj
 refine hte _ (hto _ (hti _ ?_))
 simp only[h,hj]
 exact hq
theorem zck {n:Nat}{S:Sto}{Q:DK}{xs:List D}(h:S[n]?=some (.lst xs))(hq:Q (.int (xs.length:Nat)) S):irr ze6 [.ref n] S Q:=by
 rw[zin]
 unfold ze6
 simp only[zbg h rfl]
 exact hq
theorem zaU {S:Sto}{n a:Nat}{o u:Ob}(h:S[n]?=some o)(hn:a≠n):(S.set a u)[n]?=some o:=by rw[VaN hn]; exact h
theorem zbk {S:Sto}{n:Nat}{o u:Ob}(h:S[n]?=some o):(S.set n u)[n]?=some u:=by
 have hk:=(Vac.mp h).1
 simp[hk]
theorem zaC {S:Sto}{n:Nat}{o:Ob}{T:Sto}(h:S[n]?=some o):(S++T)[n]?=some o:=by
 have hk:=(Vac.mp h).1
 rw[Vak hk]
 exact h
theorem zcI (T R:Sto)(u:Ob):(T++u::R)[T.length]?=some u:=by simp
theorem zcH (T R:Sto)(u v:Ob):(T++u::R).set T.length v=T++v::R:=by simp
theorem zbQ {S:Sto}{n:Nat}{o:Ob}(h:S[n]?=some o):n<S.length:=(Vac.mp h).1
theorem zrd {n m:Nat}{S:Sto}{Q:DK}{xs ys:List D}{b:Bool}(h1:S[n]?=some (.lst xs))(h2:S[m]?=some (.lst ys))(e:eqL (eqN 1) xs ys=some b)(hq:Q (.bl b) S):zcE (zed 1) (.ref n) (.ref m) S Q:=by
 rw[zc9]
 unfold zed
 simp only[ziG,zbg h1 rfl,zbg h2 rfl,zaz,e]
 exact hq
theorem zwO {xs:List Int}{lo hi:Option Int}{k:Nat}{x:D}(h:(zaZ (xs.map D.int) lo hi)[k]?=some x):∃c:Int,x=.int c:=by
 have m:=Vat h
 unfold L3.zaZ at m
 obtain⟨c,_,rfl⟩:=List.mem_map.mp (List.mem_of_mem_drop (List.mem_of_mem_take m))
 exact⟨c,rfl⟩
theorem zc6 {i n:Nat}{tb:TDS}{E:zcl}{dl:Ev}{S:Sto}{o:Ob}(W:Nat→Ev→Sto→Prop)(h0:W 0 dl S)(hk:∀k dl' S',W k dl' S'→S'[n]?=some o)
  (ht:∀(k:Nat) (x:D) (dl':Ev) (S':Sto) (nx ct:Ev→Sto→Prop),(zaz o)[k]?=some x→W k dl' S'→(∀dl2 S2,W (k+1) dl2 S2→nx dl2 S2)→tb { nx:=nx,rt:=E.rt,bk:=E.nx,ct:=ct } (dl'.set i (some x)) S')(he:∀dl' S',W (zaz o).length dl' S'→E.nx dl' S')(hL:zb5 o=some o:=by rfl):
  (lAt S n).isSome=true∧∃W:Nat→Nat→Ev→Sto→Prop,(∃m,W 0 m dl S)∧∀k m dl S,W k m dl S→match lAt S n with
  | some o=>match (zaz o)[k]? with
   | some x=>tb { nx:=λdl' S'=>∃m',m'<m∧W (k+1) m' dl' S',rt:=E.rt,bk:=E.nx,ct:=λdl' S'=>∃m',m'<m∧W (k+1) m' dl' S' } (dl.set i (some x)) S
   | none=>E.nx dl S
  | none=>False:=by
 refine⟨by rw[zbg (hk _ _ _ h0) hL]; rfl,λk m dl' S'=>m+k=(zaz o).length∧W k dl' S',⟨(zaz o).length,by omega,h0⟩,?_⟩
 rintro k m dl' S' ⟨hm,w⟩
 rw[zbg (hk _ _ _ w) hL]
 show (match (zaz o)[k]? with
   | some x=>tb { nx:=λdl' S''=>∃m',m'<m∧(m'+(k+1)=(zaz o).length∧W (k+1) dl' S''),rt:=E.rt,bk:=E.nx,ct:=λdl' S''=>∃m',m'<m∧(m'+(k+1)=(zaz o).length∧W (k+1) dl' S'') } (dl'.set i (some x)) S'
   | none=>E.nx dl' S')
 split
 ·rename_i x hx
  have hk:k<(zaz o).length:=(Vac.mp hx).1
  exact ht k x dl' S' _ _ hx w λdl2 S2 w2=>⟨m-1,by omega,by omega,w2⟩
 ·rename_i hx
  have hk:k=(zaz o).length:=by
   have:=VaL.mp hx
   omega
  exact he dl' S' (hk ▸ w)
inductive Nd where
 | number (t b:Int) | unknown (k:Int) | plus (i j:Int) | minus (i j:Int) | times (i j:Int) | power (i n:Int)
def Nd.d:Nd→D
 | .number t b=>.tup [.str "number",.int t,.int b]
 | .unknown k=>.tup [.str "unknown",.int k]
 | .plus i j=>.tup [.str "plus",.int i,.int j]
 | .minus i j=>.tup [.str "minus",.int i,.int j]
 | .times i j=>.tup [.str "times",.int i,.int j]
 | .power i n=>.tup [.str "power",.int i,.int n]
def Nd.ob (cN cU cP cM cT cW:Addr):Nd→Ob
 | .number t b=>.ins cN [("top",.int t),("bottom",.int b)]
 | .unknown k=>.ins cU [("place",.int k)]
 | .plus i j=>.ins cP [("one",.int i),("other",.int j)]
 | .minus i j=>.ins cM [("one",.int i),("other",.int j)]
 | .times i j=>.ins cT [("one",.int i),("other",.int j)]
 | .power i n=>.ins cW [("one",.int i),("many",.int n)]
def inR (m i:Int):Prop:=0≤i∧i<m
def Nd.ok (m q:Int):Nd→Prop
 | .number t b=>(1≤b∧b≤10^9)∧Int.gcd t b=1∧t.natAbs≤10^9
 | .unknown k=>inR q k
 | .plus i j=>inR m i∧inR m j
 | .minus i j=>inR m i∧inR m j
 | .times i j=>inR m i∧inR m j
 | .power i n=>inR m i∧2≤n∧n≤6
def frD (p:Int×Int):D:=.tup [.int p.1,.int p.2]
abbrev gt (vs:List (Int×Int))(i:Int):Int×Int:=vs.getD i.toNat (0,1)
theorem zpd {vs:List (Int×Int)}{i:Int}(h:inR vs.length i):gt vs i∈vs:=by
 obtain⟨h0,h1⟩:=h
 have hk:i.toNat<vs.length:=by omega
 have e:gt vs i=vs[i.toNat]:=by simp[gt,hk]
 rw[e]
 exact List.getElem_mem hk
theorem zaK {vs:List (Int×Int)}{i:Int}(h:inR vs.length i):atI (vs.map frD) i=some (frD (gt vs i)):=by
 obtain⟨h0,h1⟩:=h
 have hk:i.toNat<vs.length:=by omega
 have z:=zhP (xs:=vs.map frD) (j:=i.toNat) (v:=frD (gt vs i)) (by rw[Vai,Vag hk]; simp[gt,hk])
 rw[show ((i.toNat:Nat):Int)=i by omega] at z
 exact z
theorem fr_eq (p q:Int×Int):eqN 1 (frD p) (frD q)=some (decide (p.1=q.1)&&(decide (p.2=q.2)&&true)):=by simp[frD,eqN,L3.eqT,eqL,eqF]
theorem zqH:∀vs:List (Int×Int),eqL (eqN 1) (vs.map frD) (vs.map frD)=some true
 | []=>rfl
 | u::us=>by
  show (match eqN 1 (frD u) (frD u),eqL (eqN 1) (us.map frD) (us.map frD) with | some b,some c=>some (b&&c) | _,_=>none)=_
  rw[fr_eq,zqH us]
  simp
theorem zoA {G:Int×Int→Prop}:∀xs:List D,(∀(k:Nat) (d:D),xs[k]?=some d→∃p,d=frD p∧G p)→∃vs:List (Int×Int),xs=vs.map frD∧∀p∈vs,G p
 | [],_=>⟨[],rfl,λp h=>by cases h⟩
 | x::xs,h=>by
  obtain⟨p,rfl,hp⟩:=h 0 x rfl
  obtain⟨vs,rfl,hv⟩:=zoA xs λk d hd=>h (k+1) d hd
  exact⟨p::vs,rfl,λq hq=>by
   rcases Vaf.mp hq with e | e
   ·subst e; exact hp
   ·exact hv q e⟩
theorem zpC {xs:List D}{d e:D}{i:Nat}{P:Nat→D→Prop}(h:(xs++[d])[i]?=some e)(hp:∀i d,xs[i]?=some d→P i d)(hd:P xs.length d):P i e:=by
 by_cases hi:i<xs.length
 ·rw[Vak hi] at h
  exact hp i e h
 ·have hk:=(Vac.mp h).1
  simp only[Van,VaC,VaT] at hk
  have e1:i=xs.length:=by omega
  subst e1
  simp at h
  subst h
  exact hd
theorem zqd {caps:List Nat}{ta:TDA}{te:TDE}{dl:Ev}{S S1:Sto}{Q:DK}{j:Int}(P:Nat→D→Prop)(hta:∀K:List D→Sto→Prop,K [.int j] S1→ta dl S K)(hj:0≤j∧j≤1000)
  (ht:∀k:Nat,k<j.toNat→∀(S2:Sto) (K:DK),Pre S1 S2→(∀d,P k d→K d S2)→te (some (.int k)::zcS caps dl) S2 K)(hq:∀xs:List D,xs.length=j.toNat→(∀k d,xs[k]?=some d→P k d)→Q (.ref S1.length) (S1++[.lst xs])):zd2 caps ta zc1 te dl S Q:=by
 unfold zd2
 refine hta _ ⟨⟨by omega,by omega⟩,λk S2=>(∃xs:List D,S2=S1++[.lst xs]∧xs.length=k∧∀i d,xs[i]?=some d→P i d)∧k≤j.toNat,⟨⟨[],rfl,rfl,λi d h=>by simp at h⟩,by omega⟩,?_⟩
 rintro k S2 ⟨⟨xs,rfl,hx,hp⟩,hk⟩
 split
 ·rename_i hk'
  unfold zeg zc1
  simp only[if_true]
  refine ht k hk' _ _ Pre.refl.push λd hd=>?_
  rw[zaD]
  refine⟨by omega,⟨xs++[d],zoF _ _ _,by simp[hx],λi e he=>zpC he hp (hx ▸ hd)⟩,by omega⟩
 ·have e:k=j.toNat:=by omega
  subst e
  exact hq xs hx hp
theorem zx7 {caps:List Nat}{tl te:TDE}{dl:Ev}{S S1:Sto}{Q:DK}{n:Nat}{o:Ob}(P:Nat→D→Prop)(htl:∀K:DK,K (.ref n) S1→tl dl S K)(h1:S1[n]?=some o)(hl:(zaz o).length≤1000)
  (ht:∀(k:Nat) (x:D),(zaz o)[k]?=some x→∀(S2:Sto) (K:DK),Pre S1 S2→(∀d,P k d→K d S2)→te (some x::zcS caps dl) S2 K)(hq:∀xs:List D,xs.length=(zaz o).length→(∀k d,xs[k]?=some d→P k d)→Q (.ref S1.length) (S1++[.lst xs]))(hL:zb5 o=some o:=by rfl):zdp caps tl zc1 te dl S Q:=by
 unfold zdp
 refine htl _ ⟨by rw[zbg h1 hL]; rfl,λk m S2=>(∃xs:List D,S2=S1++[.lst xs]∧xs.length=k∧∀i d,xs[i]?=some d→P i d)∧m+k=(zaz o).length,⟨(zaz o).length,⟨[],rfl,rfl,λi d h=>by simp at h⟩,by omega⟩,?_⟩
 rintro k m S2 ⟨⟨xs,rfl,hx,hp⟩,hm⟩
 rw[zbg (znN h1) hL]
 dsimp only
 split
 ·rename_i x hk
  have hk':k<(zaz o).length:=(Vac.mp hk).1
  unfold zeg zc1
  simp only[if_true]
  refine ht k x hk _ _ Pre.refl.push λd hd=>?_
  rw[zaD]
  refine⟨by omega,m-1,by omega,⟨xs++[d],zoF _ _ _,by simp[hx],λi e he=>zpC he hp (hx ▸ hd)⟩,by omega⟩
 ·rename_i hk
  have hk':=VaL.mp hk
  exact hq xs (by omega) hp
theorem zoT {α:Type}{xs:List D}{lo hi:Option Int}:(zaZ xs lo hi).length≤xs.length:=by
 unfold L3.zaZ
 rw[Vah,List.length_drop]
 omega
theorem zup {S T:Sto}(h:Pre S T){n:Nat}{o:Ob}(e:S[n]?=some o):T[n]?=some o:=h n o e
structure zej (a b c d mn mx:Int):Prop where
 lo:mn=a*c∨mn=a*d∨mn=b*c∨mn=b*d
 l1:mn≤a*c
 l2:mn≤a*d
 l3:mn≤b*c
 l4:mn≤b*d
 hi:mx=a*c∨mx=a*d∨mx=b*c∨mx=b*d
 h1:a*c≤mx
 h2:a*d≤mx
 h3:b*c≤mx
 h4:b*d≤mx
theorem zej.of {a b c d mn mx:Int}(m1:mn∈[a*c,a*d,b*c,b*d])(m2:∀y∈[a*c,a*d,b*c,b*d],mn≤y)(x1:mx∈[a*c,a*d,b*c,b*d])(x2:∀y∈[a*c,a*d,b*c,b*d],y≤mx):zej a b c d mn mx:=by
 simp only[Vaf,Vay,or_false] at m1 x1
 exact⟨m1,m2 _ (by simp),m2 _ (by simp),m2 _ (by simp),m2 _ (by simp),x1,x2 _ (by simp),x2 _ (by simp),x2 _ (by simp),x2 _ (by simp)⟩
structure zcR (a b:Int)(n:Nat)(m M:Int):Prop where
 lo:m=a^n∨m=b^n∨(a<0∧0<b∧m=0)
 l1:m≤a^n
 l2:m≤b^n
 l3:a<0→0<b→m≤0
 hi:M=a^n∨M=b^n
 h1:a^n≤M
 h2:b^n≤M
theorem zpow {n:Nat}(h:1≤n):(0:Int)^n=0:=by
 cases n with
 | zero=>omega
 | succ k=>rw[Vae,VaU]
theorem zq7 (n:Nat):(∀x:Int,(-x)^n=x^n)∨(∀x:Int,(-x)^n=-(x^n)):=by
 induction n with
 | zero=>left; intro x; rw[VaQ,VaQ]
 | succ k ih=>
  rcases ih with e | e
  ·right; intro x; rw[Vae,Vae,e,Int.mul_neg]
  ·left; intro x; rw[Vae,Vae,e,Int.neg_mul_neg]
theorem zeM {x y:Int}(h0:0≤x)(h:x≤y)(n:Nat):x^n≤y^n:=by
 induction n with
 | zero=>rw[VaQ,VaQ]; exact VaD _
 | succ k ih=>
  rw[Vae,Vae]
  exact Int.mul_le_mul ih h h0 (VaG (by omega))
theorem zx6 {y z x m M:Int}{n:Nat}(hn:1≤n)(h1:y≤x)(h2:x≤z)(m1:m≤y^n)(m2:m≤z^n)(m3:y<0→0<z→m≤0)(M1:y^n≤M)(M2:z^n≤M):m≤x^n∧x^n≤M:=by
 by_cases hy:0≤y
 ·have e1:=zeM hy h1 n
  have e2:=zeM (show 0≤x by omega) h2 n
  omega
 ·by_cases hz:z≤0
  ·have e1:=zeM (show 0≤-z by omega) (show -z≤-x by omega) n
   have e2:=zeM (show 0≤-x by omega) (show -x≤-y by omega) n
   rcases zq7 n with p | p <;> rw[p,p] at e1 e2 <;> omega
  ·have m3':=m3 (by omega) (by omega)
   have z0:(0:Int)≤z^n:=VaG (by omega)
   by_cases hx:0≤x
   ·have e1:(0:Int)≤x^n:=VaG hx
    have e2:=zeM hx h2 n
    omega
   ·have e1:(0:Int)≤(-x)^n:=VaG (by omega)
    have e2:=zeM (show 0≤-x by omega) (show -x≤-y by omega) n
    rcases zq7 n with p | p
    ·rw[p] at e1
     rw[p,p] at e2
     omega
    ·rw[p] at e1
     rw[p,p] at e2
     omega
theorem zcR.scale {a b:Int}{n:Nat}{m M:Int}(h:zcR a b n m M)(hn:1≤n){p x:Int}(hp:1≤p)(h1:a*p≤x)(h2:x≤b*p):m*p^n≤x^n∧x^n≤M*p^n:=by
 have pp:(0:Int)≤p^n:=VaG (by omega)
 refine zx6 hn h1 h2 ?_ ?_ ?_ ?_ ?_
 ·rw[Int.mul_pow]; exact VaH h.l1 pp
 ·rw[Int.mul_pow]; exact VaH h.l2 pp
 ·intro y1 y2
  have a1:a<0:=by
   by_cases q:a<0
   ·exact q
   ·have:=Vau (show 0≤a by omega) (show 0≤p by omega)
    omega
  have b1:0<b:=by
   by_cases q:0<b
   ·exact q
   ·have:=Vau (show 0≤-b by omega) (show 0≤p by omega)
    rw[Val] at this
    omega
  have:=Vau (show 0≤-m by have:=h.l3 a1 b1; omega) pp
  rw[Val] at this
  omega
 ·rw[Int.mul_pow]; exact VaH h.h1 pp
 ·rw[Int.mul_pow]; exact VaH h.h2 pp
theorem zcR.of {a b g mn mx:Int}{n:Nat}(hg:1≤g){l:List Int}(hl:l=[a^n*g,b^n*g]∧¬ (a<0∧0<b)∨l=[a^n*g,b^n*g,0^n*g]∧a<0∧0<b)(hn:1≤n)(m1:mn∈l)(m2:∀y∈l,mn≤y)(x1:mx∈l)(x2:∀y∈l,y≤mx):
  ∃m M,zcR a b n m M∧mn=m*g∧mx=M*g:=by
 have can:∀ {x y:Int},x*g≤y*g→x≤y:=λ{x y} h=>Int.le_of_mul_le_mul_right h (by omega)
 rcases hl with ⟨rfl,hz⟩ | ⟨rfl,hz1,hz2⟩
 ·simp only[Vaf,Vay,or_false] at m1 x1
  have a1:=m2 (a^n*g) (by simp)
  have a2:=m2 (b^n*g) (by simp)
  have b1:=x2 (a^n*g) (by simp)
  have b2:=x2 (b^n*g) (by simp)
  obtain⟨m,hm,em⟩:∃m,(m=a^n∨m=b^n)∧mn=m*g:=by
   rcases m1 with e | e
   ·exact⟨_,.inl rfl,e⟩
   ·exact⟨_,.inr rfl,e⟩
  obtain⟨M,hM,eM⟩:∃m,(m=a^n∨m=b^n)∧mx=m*g:=by
   rcases x1 with e | e
   ·exact⟨_,.inl rfl,e⟩
   ·exact⟨_,.inr rfl,e⟩
  subst em eM
  exact⟨m,M,⟨hm.elim .inl λe=>.inr (.inl e),can a1,can a2,λc1 c2=>absurd ⟨c1,c2⟩ hz,hM,can b1,can b2⟩,rfl,rfl⟩
 ·rw[zpow hn,Int.zero_mul] at m1 m2 x1 x2
  simp only[Vaf,Vay,or_false] at m1 x1
  have a1:=m2 (a^n*g) (by simp)
  have a2:=m2 (b^n*g) (by simp)
  have a3:=m2 0 (by simp)
  have b1:=x2 (a^n*g) (by simp)
  have b2:=x2 (b^n*g) (by simp)
  have b3:=x2 0 (by simp)
  obtain⟨m,hm,em⟩:∃m,(m=a^n∨m=b^n∨m=0)∧mn=m*g:=by
   rcases m1 with e | e | e
   ·exact⟨_,.inl rfl,e⟩
   ·exact⟨_,.inr (.inl rfl),e⟩
   ·exact⟨0,.inr (.inr rfl),by rw[e,Int.zero_mul]⟩
  have bp:(0:Int)≤b^n:=VaG (by omega)
  have bg:=Vau bp (show 0≤g by omega)
  obtain⟨M,hM,eM⟩:∃m,(m=a^n∨m=b^n)∧mx=m*g:=by
   rcases x1 with e | e | e
   ·exact⟨_,.inl rfl,e⟩
   ·exact⟨_,.inr rfl,e⟩
   ·exact⟨_,.inr rfl,by omega⟩
  subst em eM
  refine⟨m,M,⟨?_,can a1,can a2,λ_ _=>can (by rw[Int.zero_mul]; exact a3),hM,can b1,can b2⟩,rfl,rfl⟩
  rcases hm with e | e | e
  ·exact .inl e
  ·exact .inr (.inl e)
  ·exact .inr (.inr ⟨hz1,hz2,e⟩)
theorem zfv {m g:Int}{n:Nat}(hg:1≤g)(hn:1≤n):m*g/g^n=m/g^(n-1):=by
 obtain⟨k,rfl⟩:∃k,n=k+1:=⟨n-1,by omega⟩
 rw[Vae,Nat.add_sub_cancel,Int.mul_ediv_mul_of_pos_left _ _ (by omega)]
def mn4 (a b c d:Int):Int:=min (min (a*c) (a*d)) (min (b*c) (b*d))
def mx4 (a b c d:Int):Int:=max (max (a*c) (a*d)) (max (b*c) (b*d))
theorem zej.eq {a b c d mn mx:Int}(h:zej a b c d mn mx):mn=mn4 a b c d∧mx=mx4 a b c d:=by
 obtain⟨h0,h1,h2,h3,h4,h5,h6,h7,h8,h9⟩:=h
 unfold mn4 mx4
 omega
def zcu (a b:Int)(n:Nat):Int:=if n%2=0∧a≤0∧0≤b then 0 else min (a^n) (b^n)
def zcT (a b:Int)(n:Nat):Int:=max (a^n) (b^n)
theorem zi4 {n:Nat}(h:n%2=0)(x:Int):0≤x^n:=by
 obtain⟨k,rfl⟩:∃k,n=k+k:=⟨n/2,by omega⟩
 rw[Int.pow_add]
 by_cases c:0≤x^k
 ·exact Vau c c
 ·have:=Vau (show 0≤-(x^k) by omega) (show 0≤-(x^k) by omega)
  rw[Int.neg_mul_neg] at this
  exact this
theorem zvD {n:Nat}(h:n%2=1){x:Int}(hx:x<0):x^n<0:=by
 obtain⟨k,rfl⟩:∃k,n=k+1:=⟨n-1,by omega⟩
 have z:=zi4 (n:=k) (by omega) x
 have nz:∀k:Nat,x^k≠0:=λk=>by
  induction k with
  | zero=>rw[VaQ]; decide
  | succ k ih=>rw[Vae]; exact Int.mul_ne_zero ih (by omega)
 have nz:=nz k
 have:=VaV (show 0<x^k by omega) (show 0 < -x by omega)
 rw[Int.mul_neg] at this
 rw[Vae]
 omega
theorem zcR.eq {a b m M:Int}{n:Nat}(h:zcR a b n m M)(hn:1≤n):m=zcu a b n∧M=zcT a b n:=by
 obtain⟨h0,h1,h2,h3,h4,h5,h6⟩:=h
 refine⟨?_,by unfold zcT; omega⟩
 unfold zcu
 split
 ·rename_i c
  obtain⟨c1,c2,c3⟩:=c
  have e1:=zi4 c1 a
  have e2:=zi4 c1 b
  by_cases z:a<0∧0<b
  ·have:=h3 z.1 z.2
   omega
  ·have z':a=0∨b=0:=by omega
   rcases z' with rfl | rfl
   ·rw[zpow hn] at h1
    omega
   ·rw[zpow hn] at h2
    omega
 ·rename_i c
  have hz:a<0→0<b→m≠0:=λa1 b1 e=>by
   by_cases p:n%2=0
   ·exact c ⟨p,by omega,by omega⟩
   ·have:=zvD (n:=n) (by omega) a1
    omega
  omega
def Nd.fw (vs bs:List (Int×Int))(g:Int):Nd→Int×Int
 | .number t b=>(t*g/b,-(-(t*g)/b))
 | .unknown k=>gt bs k
 | .plus i j=>((gt vs i).1+(gt vs j).1,(gt vs i).2+(gt vs j).2)
 | .minus i j=>((gt vs i).1-(gt vs j).2,(gt vs i).2-(gt vs j).1)
 | .times i j=>(mn4 (gt vs i).1 (gt vs i).2 (gt vs j).1 (gt vs j).2/g,-(-mx4 (gt vs i).1 (gt vs i).2 (gt vs j).1 (gt vs j).2/g))
 | .power i n=>(zcu (gt vs i).1 (gt vs i).2 n.toNat/g^(n.toNat-1),-(-zcT (gt vs i).1 (gt vs i).2 n.toNat/g^(n.toNat-1)))
def Spn (B:Nat)(vs:List (Int×Int)):Prop:=∀p∈vs,p.1≤p.2∧Sz B p.1∧Sz B p.2
theorem Spn.at {B:Nat}{vs:List (Int×Int)}(h:Spn B vs){i:Int}(hi:inR vs.length i):(gt vs i).1≤(gt vs i).2∧Sz B (gt vs i).1∧Sz B (gt vs i).2:=h _ (zpd hi)
theorem Spn.mono {B C:Nat}{vs:List (Int×Int)}(h:Spn B vs)(hc:B≤C):Spn C vs:=λp hp=>⟨(h p hp).1,(h p hp).2.1.mono hc,(h p hp).2.2.mono hc⟩
theorem zoe {m M g:Int}(hg:1≤g)(h:m≤M):m/g≤-(-M/g):=by
 have h1:=Int.ediv_mul_le m (show g≠0 by omega)
 have h2:=Int.ediv_mul_le (-M) (show g≠0 by omega)
 have:m/g*g≤-(-M/g)*g:=by rw[Val]; omega
 exact Int.le_of_mul_le_mul_right this (by omega)
theorem zyn (a b:Int)(n:Nat):zcu a b n≤zcT a b n:=by
 unfold zcu zcT
 split
 ·rename_i c
  have:=zi4 c.1 a
  omega
 ·omega
theorem zsh (a b c d:Int):mn4 a b c d≤mx4 a b c d:=by unfold mn4 mx4; omega
theorem Nd.fw_le {vs bs:List (Int×Int)}{g:Int}{B:Nat}(h1:Spn B vs)(h2:Spn B bs)(hg:1≤g):∀v:Nd,v.ok vs.length bs.length→(v.fw vs bs g).1≤(v.fw vs bs g).2
 | .number t b,ok=>zoe ok.1.1 (VaD _)
 | .unknown k,ok=>(h2.at ok).1
 | .plus i j,ok=>by
  have a:=(h1.at ok.1).1
  have b:=(h1.at ok.2).1
  show (gt vs i).1+(gt vs j).1≤(gt vs i).2+(gt vs j).2
  omega
 | .minus i j,ok=>by
  have a:=(h1.at ok.1).1
  have b:=(h1.at ok.2).1
  show (gt vs i).1-(gt vs j).2≤(gt vs i).2-(gt vs j).1
  omega
 | .times i j,ok=>zoe hg (zsh _ _ _ _)
 | .power i n,ok=>zoe (Vaz (by omega)) (zyn _ _ _)
theorem zdu {n:Nat}(v:Nd):Sco n v.d:=by
 cases v <;> exact .tup λd hd=>by
  simp only[Vaf,Vay,or_false] at hd
  rcases hd with rfl | rfl | rfl <;> first | exact .str _ | exact .int _
theorem zxV {n:Nat}(p:Int×Int):Sco n (frD p):=zcf
def za6 (p q:Int×Int):Option (Int×Int):=if (if q.2<p.2 then q.2 else p.2)<(if q.1 > p.1 then q.1 else p.1) then none else some (if q.1 > p.1 then q.1 else p.1,if q.2<p.2 then q.2 else p.2)
theorem zxY {p q r:Int×Int}(h:za6 p q=some r):r.1≤r.2:=by
 have go:∀lo hi:Int,(if hi<lo then none else some (lo,hi))=some r→r.1≤r.2:=λlo hi e=>by
  split at e
  ·cases e
  ·rename_i c
   cases e
   exact Int.not_lt.mp c
 exact go _ _ h
def ptD (q:Int×(Int×Int)):D:=.tup [.int q.1,.tup [.int q.2.1,.int q.2.2]]
theorem zjx {a b:TDS}{E:zcl}{dl:Ev}{S:Sto}(W:Ev→Sto→Prop)(ha:∀nx:Ev→Sto→Prop,(∀dl' S',W dl' S'→nx dl' S')→a { nx:=nx,rt:=E.rt,bk:=E.bk,ct:=E.ct } dl S)(hb:∀dl' S',W dl' S'→b E dl' S'):zby a b E dl S:=ha _ hb
theorem zrB {S:Sto}{Q:DK}{xs:List D}(hq:Q (.int (xs.length:Nat)) S):irr ze6 [.tup xs] S Q:=by
 rw[zin]
 exact hq
theorem zn3 {a b c:TDS}{E:zcl}{dl:Ev}{S:Sto}(W:Ev→Sto→Prop)(ha:∀nx:Ev→Sto→Prop,(∀dl' S',W dl' S'→nx dl' S')→zby a b { nx:=nx,rt:=E.rt,bk:=E.bk,ct:=E.ct } dl S)(hb:∀dl' S',W dl' S'→c E dl' S'):zby a (zby b c) E dl S:=ha _ hb
theorem zoO {n:Nat}{m g:Int}(h:Sz n m)(hg:1≤g):Sz n (-(-m/g)):=(h.neg.div hg).neg
theorem zky {n:Nat}{a b:Int}(ha:Sz n a)(hb:Sz n b):Sz n (min a b):=by unfold Sz at *; omega
theorem zj5 {n:Nat}{a b:Int}(ha:Sz n a)(hb:Sz n b):Sz n (max a b):=by unfold Sz at *; omega
theorem Spn.set {B:Nat}{vs:List (Int×Int)}(h:Spn B vs){k:Nat}{u:Int}(hu:Sz B u):Spn B (vs.set k (u,u)):=λp hp=>by
 rcases List.mem_or_eq_of_mem_set hp with e | e
 ·exact h p e
 ·subst e; exact⟨VaD _,hu,hu⟩
theorem zdy (vs:List (Int×Int))(k:Nat)(p:Int×Int):(vs.map frD).set k (frD p)=(vs.set k p).map frD:=(List.map_set).symm
theorem zc3 {n:Nat}{i:Int}(h:inR n i):ixN n i=some i.toNat:=by
 obtain⟨h0,h1⟩:=h
 unfold ixN
 split <;> first | omega | rfl | (split <;> first | omega | rfl)
def Nd.wt (ws:List Nat):Nd→Nat
 | .number _ _=>1
 | .unknown _=>1
 | .plus i j=>ws.getD i.toNat 0+ws.getD j.toNat 0
 | .minus i j=>ws.getD i.toNat 0+ws.getD j.toNat 0
 | .times i j=>ws.getD i.toNat 0+ws.getD j.toNat 0
 | .power i n=>n.toNat*ws.getD i.toNat 0
structure zaF (q:Int)(ns:List Nd)(ws:List Nat):Prop where
 len:ws.length=ns.length
 ok:∀(k:Nat) (v:Nd),ns[k]?=some v→v.ok k q∧ws.getD k 0=v.wt ws∧1≤v.wt ws∧v.wt ws≤16
theorem zaF.nil (q:Int):zaF q [] []:=⟨rfl,λk v h=>by simp at h⟩
theorem zaF.w1 {q:Int}{ns:List Nd}{ws:List Nat}(h:zaF q ns ws){i:Int}(hi:inR ns.length i):1≤ws.getD i.toNat 0∧ws.getD i.toNat 0≤16:=by
 obtain⟨h0,h1⟩:=hi
 have hk:i.toNat<ns.length:=(by omega)
 obtain⟨_,e,a,b⟩:=h.ok i.toNat _ (Vag hk)
 omega
theorem zaF.w2 {q:Int}{ns:List Nd}{ws:List Nat}(h:zaF q ns ws):∀v:Nd,v.ok ns.length q→1≤v.wt ws∧v.wt ws≤96
 | .number _ _,_=>⟨Vab 1,show 1≤96 by decide⟩
 | .unknown _,_=>⟨Vab 1,show 1≤96 by decide⟩
 | .plus i j,ok=>by have a:=h.w1 ok.1; have b:=h.w1 ok.2; simp only[Nd.wt]; omega
 | .minus i j,ok=>by have a:=h.w1 ok.1; have b:=h.w1 ok.2; simp only[Nd.wt]; omega
 | .times i j,ok=>by have a:=h.w1 ok.1; have b:=h.w1 ok.2; simp only[Nd.wt]; omega
 | .power i n,ok=>by
  have a:=h.w1 ok.1
  have n2:=ok.2.1
  have n6:=ok.2.2
  have m1:=Nat.mul_le_mul (show 1≤n.toNat by omega) a.1
  have m2:=Nat.mul_le_mul (show n.toNat≤6 by omega) a.2
  simp only[Nd.wt]
  omega
theorem znE {ws:List Nat}{w:Nat}{k:Nat}(h:k<ws.length):(ws++[w]).getD k 0=ws.getD k 0:=by
 rw[Vap,Vap,Vak h]
theorem zpY {ws:List Nat}{w:Nat}{q:Int}{k:Nat}(hk:k≤ws.length):∀v:Nd,v.ok k q→v.wt (ws++[w])=v.wt ws:=by
 have e:∀i:Int,inR k i→(ws++[w]).getD i.toNat 0=ws.getD i.toNat 0:=λi hi=>znE (by have a:=hi.1; have b:=hi.2; omega)
 intro v ok
 cases v with
 | number _ _=>rfl
 | unknown _=>rfl
 | plus i j=>show _+_=_+_; rw[e i ok.1,e j ok.2]
 | minus i j=>show _+_=_+_; rw[e i ok.1,e j ok.2]
 | times i j=>show _+_=_+_; rw[e i ok.1,e j ok.2]
 | power i n=>show _*_=_*_; rw[e i ok.1]
theorem zaF.snoc {q:Int}{ns:List Nd}{ws:List Nat}(h:zaF q ns ws){v:Nd}(ok:v.ok ns.length q)(h16:v.wt ws≤16):zaF q (ns++[v]) (ws++[v.wt ws]):=by
 refine⟨by simp[h.len],λk u hu=>?_⟩
 by_cases hk:k<ns.length
 ·rw[Vak hk] at hu
  obtain⟨a,b,c,d⟩:=h.ok k u hu
  have e:=zpY (w:=v.wt ws) (q:=q) (k:=k) (by rw[h.len]; omega) u a
  rw[e,znE (by rw[h.len]; exact hk)]
  exact⟨a,b,c,d⟩
 ·have hl:=(Vac.mp hu).1
  simp only[Van,VaC,VaT] at hl
  have ek:k=ns.length:=by omega
  subst ek
  simp at hu
  subst hu
  have e:=zpY (w:=v.wt ws) (q:=q) (k:=ns.length) (by rw[h.len]; omega) v ok
  rw[e]
  refine⟨ok,?_,(h.w2 v ok).1,h16⟩
  rw[← h.len]
  simp
theorem zaF.take {q:Int}{ns:List Nd}{ws:List Nat}(h:zaF q ns ws)(n:Nat):zaF q (ns.take n) (ws.take n):=by
 have e:∀k:Nat,k<n→(ws.take n).getD k 0=ws.getD k 0:=λk hk=>by
  rw[Vap,Vap,List.getElem?_take_of_lt hk]
 refine⟨by simp[h.len],λk u hu=>?_⟩
 have hl:=(Vac.mp hu).1
 rw[Vah] at hl
 have hk:k<n:=by omega
 rw[List.getElem?_take_of_lt hk] at hu
 obtain⟨a,b,c,d⟩:=h.ok k u hu
 have e2:u.wt (ws.take n)=u.wt ws:=by
  have f:∀i:Int,inR k i→(ws.take n).getD i.toNat 0=ws.getD i.toNat 0:=λi hi=>e _ (by have:=hi.1; have:=hi.2; omega)
  cases u with
  | number _ _=>rfl
  | unknown _=>rfl
  | plus i j=>show _+_=_+_; rw[f i a.1,f j a.2]
  | minus i j=>show _+_=_+_; rw[f i a.1,f j a.2]
  | times i j=>show _+_=_+_; rw[f i a.1,f j a.2]
  | power i m=>show _*_=_*_; rw[f i a.1]
 rw[e2,e k hk]
 exact⟨a,b,c,d⟩
def zaE (bs:List (Int×Int))(g:Int)(ns:List Nd):List (Int×Int):=ns.foldl (λacc v=>acc++[v.fw acc bs g]) []
theorem zff (bs:List (Int×Int))(g:Int)(ns:List Nd)(v:Nd):zaE bs g (ns++[v])=zaE bs g ns++[v.fw (zaE bs g ns) bs g]:=by
 unfold zaE
 rw[List.foldl_append]
 rfl
theorem zce {α:Type}{xs:List α}{k:Nat}{x:α}(h:xs[k]?=some x):xs.take (k+1)=xs.take k++[x]:=by rw[List.take_succ,h]; rfl
theorem zcd (bs:List (Int×Int))(g:Int)(ns:List Nd):(zaE bs g ns).length=ns.length:=by
 have z:∀k,k≤ns.length→(zaE bs g (ns.take k)).length=k:=λk=>by
  induction k with
  | zero=>intro _; rfl
  | succ k ih=>
   intro hk
   rw[zce (Vag (show k<ns.length by omega)),zff]
   simp[ih (by omega)]
 have:=z ns.length (Vab _)
 rwa [VaK] at this
theorem zvu (bs:List (Int×Int))(g:Int)(ns:List Nd)(k:Nat):k≤ns.length→(zaE bs g ns).take k=zaE bs g (ns.take k):=by
 have z:∀m,k≤m→m≤ns.length→(zaE bs g (ns.take m)).take k=zaE bs g (ns.take k):=λm=>by
  induction m with
  | zero=>
   intro h1 _
   have:k=0:=by omega
   subst this
   rfl
  | succ m ih=>
   intro h1 h2
   by_cases e:k=m+1
   ·subst e
    rw[List.take_of_length_le (by rw[zcd,Vah]; omega)]
   ·rw[zce (Vag (show m<ns.length by omega)),zff,List.take_append_of_le_length (by rw[zcd,Vah]; omega)]
    exact ih (by omega) (by omega)
 intro hk
 have:=z ns.length hk (Vab _)
 rwa [VaK] at this
def SzW (ws:List Nat)(vs:List (Int×Int)):Prop:=∀(k:Nat) (p:Int×Int),vs[k]?=some p→p.1≤p.2∧Sz (60*ws.getD k 0-1) p.1∧Sz (60*ws.getD k 0-1) p.2
theorem SzW.at {ws:List Nat}{vs:List (Int×Int)}(h:SzW ws vs){i:Int}(hi:inR vs.length i):(gt vs i).1≤(gt vs i).2∧Sz (60*ws.getD i.toNat 0-1) (gt vs i).1∧Sz (60*ws.getD i.toNat 0-1) (gt vs i).2:=by
 obtain⟨h0,h1⟩:=hi
 have hk:i.toNat<vs.length:=by omega
 have e:gt vs i=vs[i.toNat]:=by simp[gt,hk]
 rw[e]
 exact h _ _ (Vag hk)
theorem fw_w {ws:List Nat}{vs bs:List (Int×Int)}{g:Int}(hs:SzW ws vs)(hb:Spn 51 bs)(hg:1≤g∧g≤1000000)(hw:∀i:Int,inR vs.length i→1≤ws.getD i.toNat 0):∀v:Nd,v.ok vs.length bs.length→Sz (60*v.wt ws-1) (v.fw vs bs g).1∧Sz (60*v.wt ws-1) (v.fw vs bs g).2
 | .number t b,ok=>by
  have z:Sz 52 (t*g):=(Sz.of (n:=31) (10^9) ok.2.2).mul (Sz.of (n:=21) (10^6) (show g.natAbs≤_ by omega))
  exact⟨(z.div ok.1.1).mono (show 52≤60*1-1 by decide),(zoO z ok.1.1).mono (show 52≤60*1-1 by decide)⟩
 | .unknown k,ok=>⟨(hb.at ok).2.1.mono (show 51≤60*1-1 by decide),(hb.at ok).2.2.mono (show 51≤60*1-1 by decide)⟩
 | .plus i j,ok=>by
  have a:=hs.at ok.1
  have b:=hs.at ok.2
  have p:=hw i ok.1
  have q:=hw j ok.2
  exact⟨(a.2.1.add b.2.1).mono (by simp only[Nd.wt]; omega),(a.2.2.add b.2.2).mono (by simp only[Nd.wt]; omega)⟩
 | .minus i j,ok=>by
  have a:=hs.at ok.1
  have b:=hs.at ok.2
  have p:=hw i ok.1
  have q:=hw j ok.2
  exact⟨(a.2.1.sub b.2.2).mono (by simp only[Nd.wt]; omega),(a.2.2.sub b.2.1).mono (by simp only[Nd.wt]; omega)⟩
 | .times i j,ok=>by
  have a:=hs.at ok.1
  have b:=hs.at ok.2
  have p:=hw i ok.1
  have q:=hw j ok.2
  have le:∀ {x y:Int},Sz (60*ws.getD i.toNat 0-1) x→Sz (60*ws.getD j.toNat 0-1) y→Sz (60*Nd.wt ws (.times i j)-1) (x*y):=λh1 h2=>(h1.mul h2).mono (by simp only[Nd.wt]; omega)
  have l:=zky (zky (le a.2.1 b.2.1) (le a.2.1 b.2.2)) (zky (le a.2.2 b.2.1) (le a.2.2 b.2.2))
  have u:=zj5 (zj5 (le a.2.1 b.2.1) (le a.2.1 b.2.2)) (zj5 (le a.2.2 b.2.1) (le a.2.2 b.2.2))
  exact⟨l.div hg.1,zoO u hg.1⟩
 | .power i n,ok=>by
  have a:=hs.at ok.1
  have p:=hw i ok.1
  have n2:=ok.2.1
  have gp:(1:Int)≤g^(n.toNat-1):=Vaz (by omega)
  have hn:(60*ws.getD i.toNat 0-1)*n.toNat+1≤60*Nd.wt ws (.power i n)-1:=by
   simp only[Nd.wt]
   rw[Nat.sub_mul,Nat.one_mul]
   have e:60*ws.getD i.toNat 0*n.toNat=60*(n.toNat*ws.getD i.toNat 0):=by rw[Nat.mul_assoc,Nat.mul_comm (ws.getD i.toNat 0)]
   have m1:=Nat.mul_le_mul (Vab n.toNat) p
   omega
  have p1:Sz (60*Nd.wt ws (.power i n)-1) ((gt vs i).1^n.toNat):=(a.2.1.pow _).mono hn
  have p2:Sz (60*Nd.wt ws (.power i n)-1) ((gt vs i).2^n.toNat):=(a.2.2.pow _).mono hn
  have l:Sz (60*Nd.wt ws (.power i n)-1) (zcu (gt vs i).1 (gt vs i).2 n.toNat):=by
   unfold zcu
   split
   ·exact(Sz.of (n:=1) 0 (by decide)).mono (by have:=Nat.mul_le_mul (show 1≤n.toNat by omega) p; simp only[Nd.wt]; omega)
   ·exact zky p1 p2
  exact⟨l.div gp,zoO (zj5 p1 p2) gp⟩
theorem Spn.of_w {ws:List Nat}{vs:List (Int×Int)}(h:SzW ws vs)(hw:∀k:Nat,k<vs.length→ws.getD k 0≤16):Spn 1000 vs:=λp hp=>by
 obtain⟨k,hk,e⟩:=VaJ.mp hp
 obtain⟨a,b,c⟩:=h k p (by rw[Vag hk,e])
 have:=hw k hk
 exact⟨a,b.mono (by omega),c.mono (by omega)⟩
theorem zts {q:Int}{ns:List Nd}{ws:List Nat}{bs:List (Int×Int)}{g:Int}(h:zaF q ns ws)(hq:q=bs.length)(hb:Spn 51 bs)(hg:1≤g∧g≤1000000):∀k,k≤ns.length→SzW ws (zaE bs g (ns.take k)):=λk=>by
 induction k with
 | zero=>intro _ i p hp; simp[zaE] at hp
 | succ k ih=>
  intro hk
  have hv:=Vag (show k<ns.length by omega)
  have s:=ih (by omega)
  have ln:(zaE bs g (ns.take k)).length=k:=by rw[zcd,Vah]; omega
  obtain⟨ok,e,_,_⟩:=h.ok k _ hv
  rw[zce hv,zff]
  have okv:(ns[k]).ok (zaE bs g (ns.take k)).length bs.length:=by rw[ln,← hq]; exact ok
  have w1:∀i:Int,inR (zaE bs g (ns.take k)).length i→1≤ws.getD i.toNat 0:=λi hi=>(h.w1 (i:=i) (by rw[ln] at hi; exact⟨hi.1,by have:=hi.2; omega⟩)).1
  have z:=fw_w s hb hg w1 ns[k] okv
  have l:((ns[k]).fw (zaE bs g (ns.take k)) bs g).1≤((ns[k]).fw (zaE bs g (ns.take k)) bs g).2:=by
   refine Nd.fw_le (B:=6000) ?_ (hb.mono (by decide)) hg.1 _ okv
   intro p hp
   obtain⟨i,hi,ei⟩:=VaJ.mp hp
   obtain⟨a,b,c⟩:=s i p (by rw[Vag hi,ei])
   have:=(h.w1 (i:=i) ⟨by omega,by rw[ln] at hi; omega⟩).2
   rw[Vad] at this
   exact⟨a,b.mono (by omega),c.mono (by omega)⟩
  intro i p hp
  by_cases hi:i<k
  ·rw[Vak (by rw[ln]; exact hi)] at hp
   exact s i p hp
  ·have hl:=(Vac.mp hp).1
   simp only[Van,VaC,VaT,ln] at hl
   have ei:i=k:=by omega
   subst ei
   rw[VaO (by rw[ln]; exact Vab _),ln,Nat.sub_self] at hp
   simp at hp
   subst hp
   rw[e]
   exact⟨l,z⟩
theorem zex {q:Int}{ns:List Nd}{ws:List Nat}{bs:List (Int×Int)}{g:Int}(h:zaF q ns ws)(hq:q=bs.length)(hb:Spn 51 bs)(hg:1≤g∧g≤1000000)(k:Nat)(hk:k≤ns.length):Spn 1000 (zaE bs g (ns.take k)):=
 Spn.of_w (zts h hq hb hg k hk) λi hi=>by
  rw[zcd,Vah] at hi
  have:=(h.w1 (i:=i) ⟨by omega,by omega⟩).2
  rwa [Vad] at this
theorem zbn {S T:Sto}{n:Nat}{o:Ob}(h:Pre S T)(hn:S.length≤n):Pre S (T.set n o):=λk u e=>by
 have hk:=(Vac.mp e).1
 rw[VaN (by omega)]
 exact h k u e
theorem zc2 {S T:Sto}(h:Pre S T)(U:Sto):Pre S (T++U):=λk u e=>zaC (h k u e)
theorem zp1 {to te:TDE}{dl:Ev}{S S1 S2:Sto}{Q:DK}{n:Nat}{xs:List D}{y:D}(hto:∀K:DK,K (.ref n) S1→to dl S K)(h:S1[n]?=some (.lst xs))(hte:∀K:DK,K y S2→te dl S1 K)(h2:S2[n]?=some (.lst xs))(hl:xs.length<1000)(hq:Q .non (S2.set n (.lst (xs++[y])))):zdJ to te dl S Q:=by
 unfold zdJ
 refine hto _ ?_
 simp only[h]
 refine hte _ ?_
 simp only[h2,if_pos hl]
 exact hq
theorem zoa (u v:Nd):∃b,eqN 1 u.d v.d=some b:=by cases u <;> cases v <;> exact⟨_,rfl⟩
theorem zqU (u:Nd):eqN 1 u.d u.d=some true:=by cases u <;> simp[Nd.d,eqN,L3.eqT,eqL,eqF]
theorem ziz (v:Nd):∀ns:List Nd,∃b,zbW (eqN 1) (ns.map Nd.d) v.d=some b
 | []=>⟨false,rfl⟩
 | u::us=>by
  obtain⟨b,e⟩:=zoa u v
  obtain⟨c,e2⟩:=ziz v us
  refine⟨b||c,?_⟩
  show (match eqN 1 u.d v.d,zbW (eqN 1) (us.map Nd.d) v.d with | some b,some c=>some (b||c) | _,_=>none)=_
  rw[e,e2]
theorem zqe:∀ns:List Nd,eqL (eqN 1) (ns.map Nd.d) (ns.map Nd.d)=some true
 | []=>rfl
 | u::us=>by
  show (match eqN 1 u.d u.d,eqL (eqN 1) (us.map Nd.d) (us.map Nd.d) with | some b,some c=>some (b&&c) | _,_=>none)=_
  rw[zqU,zqe us]
  rfl
theorem zqO {v:Nd}{ns:List Nd}{n:Nat}{S:Sto}{Q:DK}(h:S[n]?=some (.lst (ns.map Nd.d)))(hq:∀b:Bool,Q (.bl b) S):zcE (wIn 1 true) v.d (.ref n) S Q:=by
 obtain⟨b,e⟩:=ziz v ns
 rw[zc9]
 unfold wIn
 simp only[zbg h rfl,zaz,e]
 exact hq _
def wtD (w:Nat):D:=.int (w:Int)
theorem zek {ws:List Nat}{i:Int}(h:inR ws.length i):atI (ws.map wtD) i=some (.int ((ws.getD i.toNat 0:Nat):Int)):=by
 obtain⟨h0,h1⟩:=h
 have hk:i.toNat<ws.length:=by omega
 have z:=zhP (xs:=ws.map wtD) (j:=i.toNat) (v:=wtD (ws.getD i.toNat 0)) (by rw[Vai,Vag hk]; simp[hk])
 rw[show ((i.toNat:Nat):Int)=i by omega] at z
 exact z
theorem ztu (q:Nat):zaF q ((List.range q).map λ(k:Nat)=>Nd.unknown (k:Int)) ((List.range q).map λ_=>1):=by
 refine⟨by simp,λk v hv=>?_⟩
 have hl:=(Vac.mp hv).1
 simp only[Vaa,List.length_range] at hl
 rw[Vai,List.getElem?_range hl] at hv
 cases hv
 refine⟨⟨by omega,by omega⟩,?_,Vab _,show 1≤16 by decide⟩
 simp[Nd.wt,hl]
theorem zxf {u v:Nd}(h:eqN 1 u.d v.d=some true):u=v:=by
 cases u <;> cases v <;> simp[Nd.d,eqN,L3.eqT,eqL,eqF] at h
 all_goals first | (obtain⟨rfl,rfl⟩:=h; rfl) | (subst h; rfl) | exact absurd h.1 (by decide)
theorem zoY (v:Nd):∀ns:List Nd,∃o:Option Nat,zcU (eqN 1) (ns.map Nd.d) v.d=some o∧zbW (eqN 1) (ns.map Nd.d) v.d=some o.isSome∧∀j,o=some j→ns[j]?=some v
 | []=>⟨none,rfl,rfl,λj h=>by cases h⟩
 | u::us=>by
  obtain⟨b,e⟩:=zoa u v
  obtain⟨o,h1,h2,h3⟩:=zoY v us
  have f1:zcU (eqN 1) ((u::us).map Nd.d) v.d=(match eqN 1 u.d v.d,zcU (eqN 1) (us.map Nd.d) v.d with | some true,some _=>some (some 0) | some false,some o=>some (o.map (·+1)) | _,_=>none):=rfl
  have f2:zbW (eqN 1) ((u::us).map Nd.d) v.d=(match eqN 1 u.d v.d,zbW (eqN 1) (us.map Nd.d) v.d with | some b,some c=>some (b||c) | _,_=>none):=rfl
  rw[f1,f2,e,h1,h2]
  cases b with
  | true=>exact⟨some 0,rfl,rfl,λj hj=>by
    cases hj
    rw[zxf e]
    rfl⟩
  | false=>exact⟨o.map (·+1),rfl,by cases o <;> rfl,λj hj=>by
    cases o with
    | none=>cases hj
    | some i=>
     cases hj
     exact h3 i rfl⟩
theorem zp9 {v:Nd}{ns:List Nd}{n j:Nat}{to:TDE}{t:TDA}{dl:Ev}{S:Sto}{Q:DK}(hto:∀K:DK,K (.ref n) S→to dl S K)(ht:∀K:List D→Sto→Prop,K [v.d] S→t dl S K)(h:S[n]?=some (.lst (ns.map Nd.d)))(e:zcU (eqN 1) (ns.map Nd.d) v.d=some (some j))(hq:Q (.int (j:Int)) S):zlA 1 to t dl S Q:=by
 unfold zlA
 refine hto _ ⟨by rw[zbg h rfl]; rfl,ht _ ?_⟩
 unfold zm8
 simp only[zbg h rfl,zaz,e]
 exact hq
theorem zog {k m q:Int}(h:k≤m):∀ {v:Nd},v.ok k q→v.ok m q:=λ{v} ok=>by
 have z:∀i:Int,inR k i→inR m i:=λi hi=>⟨hi.1,by have:=hi.2; omega⟩
 cases v with
 | number _ _=>exact ok
 | unknown _=>exact ok
 | plus i j=>exact⟨z _ ok.1,z _ ok.2⟩
 | minus i j=>exact⟨z _ ok.1,z _ ok.2⟩
 | times i j=>exact⟨z _ ok.1,z _ ok.2⟩
 | power i n=>exact⟨z _ ok.1,ok.2⟩
theorem zxZ {vs:List (Int×Int)}{k:Nat}{i:Int}(h:inR k i):gt (vs.take k) i=gt vs i:=by
 have:=h.1
 have:=h.2
 unfold gt
 rw[Vap,Vap,List.getElem?_take_of_lt (by omega)]
theorem zv8 {vs us:List (Int×Int)}{k:Nat}{i:Int}(h:inR k i)(hk:k≤vs.length):gt (vs++us) i=gt vs i:=by
 have:=h.1
 have:=h.2
 unfold gt
 rw[Vap,Vap,Vak (by omega)]
theorem gt_at {vs:List (Int×Int)}{k:Nat}{p:Int×Int}(h:vs[k]?=some p):gt vs (k:Int)=p:=by
 unfold gt
 rw[Vap,Vad,h]
 rfl
theorem SzW.spn {ws:List Nat}{vs:List (Int×Int)}(h:SzW ws vs)(hw:∀k:Nat,k<vs.length→ws.getD k 0≤16):Spn 1000 vs:=Spn.of_w h hw
theorem SzW.snoc {ws:List Nat}{vs:List (Int×Int)}{p:Int×Int}(h:SzW ws vs)(h1:p.1≤p.2)(h2:Sz (60*ws.getD vs.length 0-1) p.1)(h3:Sz (60*ws.getD vs.length 0-1) p.2):SzW ws (vs++[p]):=λk q hq=>by
 by_cases hk:k<vs.length
 ·rw[Vak hk] at hq
  exact h k q hq
 ·have hl:=(Vac.mp hq).1
  simp only[Van,VaC,VaT] at hl
  have ek:k=vs.length:=by omega
  subst ek
  simp at hq
  subst hq
  exact⟨h1,h2,h3⟩
theorem zqT {vs:List (Int×Int)}{p:Int×Int}{i:Int}(h:inR vs.length i):gt (vs++[p]) i=gt vs i:=by
 have hk:i.toNat<vs.length:=by
  have:=h.1
  have:=h.2
  omega
 simp only[gt,Vap,Vak hk]
theorem zk3 {vs:List (Int×Int)}{p:Int×Int}{k:Nat}(h:vs.length=k):gt (vs++[p]) (k:Int)=p:=by
 subst h
 simp[gt]
def Gd (B:Nat)(vs:List (Int×Int)):Prop:=∀p∈vs,1≤p.2∧Int.gcd p.1 p.2=1∧Sz B p.1∧Sz B p.2
theorem Gd.at {B:Nat}{vs:List (Int×Int)}(h:Gd B vs){i:Int}(hi:inR vs.length i):1≤(gt vs i).2∧Int.gcd (gt vs i).1 (gt vs i).2=1∧Sz B (gt vs i).1∧Sz B (gt vs i).2:=h _ (zpd hi)
theorem Gd.mono {B C:Nat}{vs:List (Int×Int)}(h:Gd B vs)(hc:B≤C):Gd C vs:=λp hp=>⟨(h p hp).1,(h p hp).2.1,(h p hp).2.2.1.mono hc,(h p hp).2.2.2.mono hc⟩
def Pz (B:Nat)(vs:List (Int×Int)):Prop:=∀p∈vs,1≤p.2∧Sz B p.1∧Sz B p.2
theorem Pz.at {B:Nat}{vs:List (Int×Int)}(h:Pz B vs){i:Int}(hi:inR vs.length i):1≤(gt vs i).2∧Sz B (gt vs i).1∧Sz B (gt vs i).2:=h _ (zpd hi)
def Nd.due (vs ps:List (Int×Int)):Nd→Int×Int
 | .number t b=>(t,b)
 | .unknown k=>gt ps k
 | .plus i j=>((gt vs i).1*(gt vs j).2+(gt vs j).1*(gt vs i).2,(gt vs i).2*(gt vs j).2)
 | .minus i j=>((gt vs i).1*(gt vs j).2-(gt vs j).1*(gt vs i).2,(gt vs i).2*(gt vs j).2)
 | .times i j=>((gt vs i).1*(gt vs j).1,(gt vs i).2*(gt vs j).2)
 | .power i n=>((gt vs i).1^n.toNat,(gt vs i).2^n.toNat)
def PzW (ws:List Nat)(vs:List (Int×Int)):Prop:=∀(k:Nat) (p:Int×Int),vs[k]?=some p→1≤p.2∧Sz (112*ws.getD k 0-2) p.1∧Sz (112*ws.getD k 0-2) p.2
theorem PzW.at {ws:List Nat}{vs:List (Int×Int)}(h:PzW ws vs){i:Int}(hi:inR vs.length i):1≤(gt vs i).2∧Sz (112*ws.getD i.toNat 0-2) (gt vs i).1∧Sz (112*ws.getD i.toNat 0-2) (gt vs i).2:=by
 obtain⟨h0,h1⟩:=hi
 have hk:i.toNat<vs.length:=by omega
 have e:gt vs i=vs[i.toNat]:=by simp[gt,hk]
 rw[e]
 exact h _ _ (Vag hk)
theorem due_w {ws:List Nat}{vs ps:List (Int×Int)}(hs:PzW ws vs)(hp:Pz 110 ps)(hw:∀i:Int,inR vs.length i→1≤ws.getD i.toNat 0):∀v:Nd,v.ok vs.length ps.length→1≤(v.due vs ps).2∧Sz (112*v.wt ws-2) (v.due vs ps).1∧Sz (112*v.wt ws-2) (v.due vs ps).2
 | .number t b,ok=>⟨ok.1.1,(Sz.of (n:=31) (10^9) ok.2.2).mono (show 31≤112*1-2 by decide),(Sz.of (n:=31) (10^9) (by have:=ok.1; show b.natAbs≤_; omega)).mono (show 31≤112*1-2 by decide)⟩
 | .unknown k,ok=>⟨(hp.at ok).1,(hp.at ok).2.1.mono (show 110≤112*1-2 by decide),(hp.at ok).2.2.mono (show 110≤112*1-2 by decide)⟩
 | .plus i j,ok=>by
  have a:=hs.at ok.1
  have b:=hs.at ok.2
  have p:=hw i ok.1
  have q:=hw j ok.2
  exact⟨VaV (show 0<_ by omega) (show 0<_ by omega),((a.2.1.mul b.2.2).add (b.2.1.mul a.2.2)).mono (by simp only[Nd.wt]; omega),(a.2.2.mul b.2.2).mono (by simp only[Nd.wt]; omega)⟩
 | .minus i j,ok=>by
  have a:=hs.at ok.1
  have b:=hs.at ok.2
  have p:=hw i ok.1
  have q:=hw j ok.2
  exact⟨VaV (show 0<_ by omega) (show 0<_ by omega),((a.2.1.mul b.2.2).sub (b.2.1.mul a.2.2)).mono (by simp only[Nd.wt]; omega),(a.2.2.mul b.2.2).mono (by simp only[Nd.wt]; omega)⟩
 | .times i j,ok=>by
  have a:=hs.at ok.1
  have b:=hs.at ok.2
  have p:=hw i ok.1
  have q:=hw j ok.2
  exact⟨VaV (show 0<_ by omega) (show 0<_ by omega),(a.2.1.mul b.2.1).mono (by simp only[Nd.wt]; omega),(a.2.2.mul b.2.2).mono (by simp only[Nd.wt]; omega)⟩
 | .power i n,ok=>by
  have a:=hs.at ok.1
  have p:=hw i ok.1
  have n2:=ok.2.1
  have hn:(112*ws.getD i.toNat 0-2)*n.toNat+1≤112*Nd.wt ws (.power i n)-2:=by
   simp only[Nd.wt]
   rw[Nat.sub_mul]
   have e:112*ws.getD i.toNat 0*n.toNat=112*(n.toNat*ws.getD i.toNat 0):=by rw[Nat.mul_assoc,Nat.mul_comm (ws.getD i.toNat 0)]
   have m1:=Nat.mul_le_mul (Vab n.toNat) p
   omega
  exact⟨Vaz (show 0<_ by omega),(a.2.1.pow _).mono hn,(a.2.2.pow _).mono hn⟩
def zaV (ps:List (Int×Int))(ns:List Nd):List (Int×Int):=ns.foldl (λacc v=>acc++[v.due acc ps]) []
theorem zg5 (ps:List (Int×Int))(ns:List Nd)(v:Nd):zaV ps (ns++[v])=zaV ps ns++[v.due (zaV ps ns) ps]:=by
 unfold zaV
 rw[List.foldl_append]
 rfl
theorem zg8 (ps:List (Int×Int))(ns:List Nd):(zaV ps ns).length=ns.length:=by
 have z:∀k,k≤ns.length→(zaV ps (ns.take k)).length=k:=λk=>by
  induction k with
  | zero=>intro _; rfl
  | succ k ih=>
   intro hk
   rw[zce (Vag (show k<ns.length by omega)),zg5]
   simp[ih (by omega)]
 have y:=z ns.length (Vab _)
 rwa [VaK] at y
theorem ztL {ws:List Nat}{vs:List (Int×Int)}{p:Int×Int}{k:Nat}(h:PzW ws vs)(lk:vs.length=k)(hp:1≤p.2∧Sz (112*ws.getD k 0-2) p.1∧Sz (112*ws.getD k 0-2) p.2):PzW ws (vs++[p]):=λi q hq=>by
 by_cases hi:i<k
 ·rw[Vak (by omega)] at hq
  exact h i q hq
 ·have hl:=(Vac.mp hq).1
  simp only[Van,VaC,VaT,lk] at hl
  have ei:i=k:=by omega
  subst ei
  rw[VaO (by omega),lk,Nat.sub_self] at hq
  simp at hq
  subst hq
  exact hp
theorem zyE {q:Int}{ns:List Nd}{ws:List Nat}(h:zaF q ns ws){k:Nat}{vs:List (Int×Int)}(hk:k≤ns.length)(lv:vs.length=k):∀i:Int,inR vs.length i→1≤ws.getD i.toNat 0:=λi hi=>(h.w1 (i:=i) ⟨hi.1,by have:=hi.2; omega⟩).1
theorem zp7 {q:Int}{ns:List Nd}{ws:List Nat}{ps:List (Int×Int)}(h:zaF q ns ws)(hq:q=ps.length)(hp:Pz 110 ps):∀k,k≤ns.length→PzW ws (zaV ps (ns.take k)):=by
 intro k
 induction k with
 | zero=>intro _ i p hp; simp[zaV] at hp
 | succ k ih=>
  intro hk
  have hv:=Vag (show k<ns.length by omega)
  have s:=ih (by omega)
  have ln:(zaV ps (ns.take k)).length=k:=by rw[zg8,Vah]; omega
  obtain⟨ok,e,_,_⟩:=h.ok k _ hv
  rw[zce hv,zg5]
  refine ztL s ln ?_
  rw[e]
  exact due_w s hp (zyE h (by omega) ln) _ (by rw[ln,← hq]; exact ok)
theorem Pz.of_w {ws:List Nat}{vs:List (Int×Int)}(h:PzW ws vs)(hw:∀k:Nat,k<vs.length→ws.getD k 0≤16):Pz 1800 vs:=λp hp=>by
 obtain⟨k,hk,e⟩:=VaJ.mp hp
 obtain⟨a,b,c⟩:=h k p (by rw[Vag hk,e])
 have:=hw k hk
 exact⟨a,b.mono (by omega),c.mono (by omega)⟩
theorem zqq {to te:TDE}{dl:Ev}{S S1:Sto}{Q:DK}{n:Nat}{xs:List D}(hto:∀K:DK,K (.ref n) S1→to dl S K)(h1:S1[n]?=some (.lst xs))(hte:te dl S1 λy S2=>match S2[n]? with
   | some (.lst xs)=>if xs.length<1000 then Q .non (S2.set n (.lst (xs++[y]))) else False
   | _=>False):zdJ to te dl S Q:=by
 unfold zdJ
 refine hto _ ?_
 simp only[h1]
 exact hte
theorem zpM {S2:Sto}{n:Nat}{xs:List D}{P:List D→Prop}(h:S2[n]?=some (.lst xs))(hl:xs.length<1000)(hq:P xs):match S2[n]? with
   | some (.lst xs)=>if xs.length<1000 then P xs else False
   | _=>False:=by
 rw[h]
 simp only[if_pos hl]
 exact hq
theorem zqJ {lo hi w p g t b:Int}(h:lo≤hi)(hw:1≤w)(hg:1≤g)(p0:0≤p)(p1:p≤w)(hb:1≤b)(e:t*(g*w)=(lo*w+(hi-lo)*p)*b):lo*b≤t*g∧t*g≤hi*b:=by
 have a1:=Vau (show 0≤hi-lo by omega) p0
 have a2:=Int.mul_le_mul_of_nonneg_left p1 (show 0≤hi-lo by omega)
 have b1:=VaH (show lo*w≤lo*w+(hi-lo)*p by omega) (show 0≤b by omega)
 have e2:(hi-lo)*w=hi*w-lo*w:=by grind
 have b2:=VaH (show lo*w+(hi-lo)*p≤hi*w by omega) (show 0≤b by omega)
 rw[← e] at b1 b2
 have c1:lo*w*b=lo*b*w:=by grind
 have c2:hi*w*b=hi*b*w:=by grind
 have c3:t*(g*w)=t*g*w:=by grind
 rw[c1,c3] at b1
 rw[c2,c3] at b2
 exact⟨Int.le_of_mul_le_mul_right b1 (by omega),Int.le_of_mul_le_mul_right b2 (by omega)⟩
theorem zqW {lo hi w p:Int}(h:lo≤hi)(s1:Sz 51 lo)(s2:Sz 51 hi)(hw:1≤w∧w≤1000000000)(p0:0≤p)(p1:p≤w):IntMulOk lo w∧IntMulOk (hi-lo) p∧Sz 84 (lo*w+(hi-lo)*p):=by
 have sw:Sz 30 w:=Sz.of 1000000000 (by omega)
 have sp:Sz 30 p:=Sz.of 1000000000 (by omega)
 have sd:Sz 52 (hi-lo):=s2.sub s1
 exact⟨zaL s1 sw,zaL sd sp,((s1.mul sw).add (sd.mul sp)).mono (by decide)⟩
def InW (g:Int)(vs ds:List (Int×Int)):Prop:=∀i:Int,inR ds.length i→(gt vs i).1*(gt ds i).2≤(gt ds i).1*g∧(gt ds i).1*g≤(gt vs i).2*(gt ds i).2
theorem zv4 {v:Nd}{ns:List Nd}{n:Nat}{S:Sto}{Q:DK}{o:Option Nat}(h:S[n]?=some (.lst (ns.map Nd.d)))(e:zbW (eqN 1) (ns.map Nd.d) v.d=some o.isSome)(hq:Q (.bl (!o.isSome)) S):zcE (wIn 1 true) v.d (.ref n) S Q:=by
 rw[zc9]
 unfold wIn
 simp only[zbg h rfl,zaz,e]
 exact hq
theorem any_some {v:Nd}:∀ {ns:List Nd} {k:Nat},ns[k]?=some v→zbW (eqN 1) (ns.map Nd.d) v.d≠some (none:Option Nat).isSome
 | [],k,h=>by simp at h
 | u::us,0,h=>by
  have e:u=v:=by simpa using h
  subst e
  show (match eqN 1 u.d u.d,zbW (eqN 1) (us.map Nd.d) u.d with | some b,some c=>some (b||c) | _,_=>none)≠_
  obtain⟨c,hc⟩:=ziz u us
  rw[zqU,hc]
  simp
 | u::us,k+1,h=>by
  have ih:=any_some (ns:=us) (k:=k) (by simpa using h)
  show (match eqN 1 u.d v.d,zbW (eqN 1) (us.map Nd.d) v.d with | some b,some c=>some (b||c) | _,_=>none)≠_
  obtain⟨b,hb⟩:=zoa u v
  obtain⟨c,hc⟩:=ziz v us
  rw[hc] at ih
  rw[hb,hc]
  cases c
  ·exact absurd rfl ih
  ·simp
theorem zqZ {vs us ps:List (Int×Int)}{k:Nat}{q:Int}(h:∀i:Int,inR k i→gt vs i=gt us i):∀v:Nd,v.ok k q→v.due vs ps=v.due us ps
 | .number _ _,_=>rfl
 | .unknown _,_=>rfl
 | .plus i j,ok=>by simp only[Nd.due,h i ok.1,h j ok.2]
 | .minus i j,ok=>by simp only[Nd.due,h i ok.1,h j ok.2]
 | .times i j,ok=>by simp only[Nd.due,h i ok.1,h j ok.2]
 | .power i n,ok=>by simp only[Nd.due,h i ok.1]
theorem zpv (P:List (Int×Int))(ns:List Nd):∀ms:List Nd,∃r,zaV P (ns++ms)=zaV P ns++r
 | []=>⟨[],by rw[Va1,Va1]⟩
 | v::ms=>by
  obtain⟨r,e⟩:=zpv P (ns++[v]) ms
  rw[List.append_assoc] at e
  refine⟨v.due (zaV P ns) P::r,?_⟩
  rw[show ns++v::ms=ns++([v]++ms) from rfl,e,zg5,List.append_assoc]
  rfl
theorem znI {P:List (Int×Int)}{ns ms:List Nd}{i:Int}(h:inR ns.length i):gt (zaV P (ns++ms)) i=gt (zaV P ns) i:=by
 obtain⟨r,e⟩:=zpv P ns ms
 rw[e]
 exact zv8 (k:=ns.length) h (by rw[zg8]; exact Vab _)
theorem zwe {P:List (Int×Int)}{ns:List Nd}{ws:List Nat}{q:Int}{j:Nat}{v:Nd}(net:zaF q ns ws)(h:ns[j]?=some v):gt (zaV P ns) (j:Int)=v.due (zaV P ns) P:=by
 have hj:=(Vac.mp h).1
 have e:ns=ns.take (j+1)++ns.drop (j+1):=(List.take_append_drop _ _).symm
 have e2:ns=ns.take j++ns.drop j:=(List.take_append_drop _ _).symm
 have l:(ns.take (j+1)).length=j+1:=by rw[Vah]; omega
 have lj:(ns.take j).length=j:=by rw[Vah]; omega
 have g1:gt (zaV P ns) (j:Int)=gt (zaV P (ns.take (j+1))) (j:Int):=by
  have z:=znI (P:=P) (ns:=ns.take (j+1)) (ms:=ns.drop (j+1)) (i:=(j:Int)) ⟨by omega,by rw[l]; omega⟩
  rw[← e] at z
  exact z
 rw[g1,zce h,zg5,zk3 (by rw[zg8,lj])]
 refine zqZ (k:=j) (q:=q) (λi hi=>?_) v (net.ok j v h).1
 have z:=znI (P:=P) (ns:=ns.take j) (ms:=ns.drop j) (i:=i) (by rw[lj]; exact hi)
 rw[← e2] at z
 exact z.symm
theorem zyO {ws us:List Nat}{i:Nat}(h:i<ws.length):(ws++us).getD i 0=ws.getD i 0:=by rw[Vap,Vap,Vak h]
structure Gr (q a c:Nat)(S:Sto)(ns:List Nd)(ws:List Nat)(T:Sto)(ns':List Nd)(ws':List Nat):Prop where
 net:zaF q ns' ws'
 pn:∃ms,ns'=ns++ms∧ms.length≤c
 pw:∃us,ws'=ws++us
 nd:T[a]?=some (.lst (ns'.map Nd.d))
 len:S.length≤T.length
 kp:∀(x:Nat) (o:Ob),x≠a→S[x]?=some o→T[x]?=some o
theorem Gr.refl {q a:Nat}{S:Sto}{ns:List Nd}{ws:List Nat}(net:zaF q ns ws)(h:S[a]?=some (.lst (ns.map Nd.d))):Gr q a 0 S ns ws S ns ws:=⟨net,⟨[],by simp,by simp⟩,⟨[],by simp⟩,h,Vab _,λ_ _ _ e=>e⟩
theorem Gr.trans {q a c d:Nat}{S T U:Sto}{ns ns' ns2:List Nd}{ws ws' ws2:List Nat}(h:Gr q a c S ns ws T ns' ws')(k:Gr q a d T ns' ws' U ns2 ws2):Gr q a (c+d) S ns ws U ns2 ws2:=by
 obtain⟨n1,⟨ms,rfl,l1⟩,⟨us,rfl⟩,a1,e1,k1⟩:=h
 obtain⟨n2,⟨ms2,rfl,l2⟩,⟨us2,rfl⟩,a2,e2,k2⟩:=k
 exact⟨n2,⟨ms++ms2,by rw[List.append_assoc],by rw[Van]; omega⟩,⟨us++us2,by rw[List.append_assoc]⟩,a2,by omega,λx o hx e=>k2 x o hx (k1 x o hx e)⟩
theorem Gr.mono {q a c d:Nat}{S T:Sto}{ns ns':List Nd}{ws ws':List Nat}(h:Gr q a c S ns ws T ns' ws')(l:c≤d):Gr q a d S ns ws T ns' ws':=by
 obtain⟨n1,⟨ms,e,l1⟩,u,a1,e1,k1⟩:=h
 exact⟨n1,⟨ms,e,by omega⟩,u,a1,e1,k1⟩
theorem Gr.ln {q a c:Nat}{S T:Sto}{ns ns':List Nd}{ws ws':List Nat}(h:Gr q a c S ns ws T ns' ws'):ns.length≤ns'.length∧ns'.length≤ns.length+c:=by
 obtain⟨n1,⟨ms,rfl,l1⟩,_⟩:=h
 rw[Van]
 omega
theorem Gr.wt {q a c:Nat}{S T:Sto}{ns ns':List Nd}{ws ws':List Nat}(h:Gr q a c S ns ws T ns' ws')(net:zaF q ns ws){i:Nat}(hi:i<ns.length):ws'.getD i 0=ws.getD i 0:=by
 obtain⟨us,rfl⟩:=h.pw
 exact zyO (by rw[net.len]; exact hi)
theorem Gr.due {q a c:Nat}{S T:Sto}{ns ns':List Nd}{ws ws':List Nat}(h:Gr q a c S ns ws T ns' ws')(P:List (Int×Int)){i:Nat}(hi:i<ns.length):gt (zaV P ns') (i:Int)=gt (zaV P ns) (i:Int):=by
 obtain⟨ms,rfl,_⟩:=h.pn
 exact znI ⟨by omega,by omega⟩
theorem Gr.push {q a:Nat}{S:Sto}{ns:List Nd}{ws:List Nat}(net:zaF q ns ws)(h:S[a]?=some (.lst (ns.map Nd.d)))(U:Sto):Gr q a 0 S ns ws (S++U) ns ws:=⟨net,⟨[],by simp,by simp⟩,⟨[],by simp⟩,zaC h,by simp,λ_ _ _ e=>zaC e⟩
structure Zr (P:List (Int×Int))(ns:List Nd)(ws:List Nat)(w i:Nat):Prop where
 lt:i<ns.length
 wt:ws.getD i 0≤w
 due:(gt (zaV P ns) (i:Int)).1=0
theorem Zr.up {P:List (Int×Int)}{q a c w i:Nat}{S T:Sto}{ns ns':List Nd}{ws ws':List Nat}(z:Zr P ns ws w i)(h:Gr q a c S ns ws T ns' ws')(net:zaF q ns ws):Zr P ns' ws' w i:=⟨by have:=h.ln; have:=z.lt; omega,by rw[h.wt net z.lt]; exact z.wt,by rw[h.due P z.lt]; exact z.due⟩
theorem zrW {q a c:Nat}{S T:Sto}{ns ns':List Nd}{ws ws':List Nat}(h:Gr q a c S ns ws T ns' ws')(net:zaF q ns ws){v:Nd}(ok:v.ok ns.length q):v.wt ws'=v.wt ws:=by
 have z:∀i:Int,inR (ns.length:Nat) i→ws'.getD i.toNat 0=ws.getD i.toNat 0:=λi hi=>by
  have h0:=hi.1
  have h1:=hi.2
  exact h.wt net (by omega)
 cases v with
 | number _ _=>rfl
 | unknown _=>rfl
 | plus i j=>show ws'.getD i.toNat 0+ws'.getD j.toNat 0=ws.getD i.toNat 0+ws.getD j.toNat 0; rw[z i ok.1,z j ok.2]
 | minus i j=>show ws'.getD i.toNat 0+ws'.getD j.toNat 0=ws.getD i.toNat 0+ws.getD j.toNat 0; rw[z i ok.1,z j ok.2]
 | times i j=>show ws'.getD i.toNat 0+ws'.getD j.toNat 0=ws.getD i.toNat 0+ws.getD j.toNat 0; rw[z i ok.1,z j ok.2]
 | power i n=>show n.toNat*ws'.getD i.toNat 0=n.toNat*ws.getD i.toNat 0; rw[z i ok.1]
theorem zv9 {q a c j:Nat}{S T:Sto}{ns ns':List Nd}{ws ws':List Nat}(h:Gr q a c S ns ws T ns' ws'){v:Nd}(ok:v.ok ns.length q)(hj:ns'[j]?=some v)(P:List (Int×Int)):gt (zaV P ns') (j:Int)=v.due (zaV P ns) P:=by
 rw[zwe (P:=P) h.net hj]
 refine zqZ (k:=ns.length) (q:=q) (λi hi=>?_) v ok
 have h0:=hi.1
 have h1:=hi.2
 have z:=h.due P (i:=i.toNat) (by omega)
 rw[show ((i.toNat:Nat):Int)=i by omega] at z
 exact z
def Ans (lo hi y0 y1 p q:Int):Prop:=(p*y0≤hi*q∨p*y1≤hi*q)∧(lo*q≤p*y0∨lo*q≤p*y1)
structure zbe (x0 x1:Int)(V Sp:Int→Int→Prop)(L U:Int):Prop where
 all:∀p q,0<q→x0*q≤p→p≤x1*q→V p q→L*q≤p∧p≤U*q
 lo:∃p q,Sp p q∧0<q∧x0*q≤p∧p≤x1*q∧V p q∧p<(L+1)*q
 hi:∃p q,Sp p q∧0<q∧x0*q≤p∧p≤x1*q∧V p q∧(U-1)*q<p
theorem dl (m:Int){g:Int}(hg:0<g):m/g*g≤m∧m<(m/g+1)*g:=by
 have h1:=Int.emod_add_mul_ediv m g
 have h2:=Int.emod_nonneg m (show g≠0 by omega)
 have h3:=Int.emod_lt_of_pos m hg
 have e:(m/g+1)*g=g*(m/g)+g:=by grind
 have e2:m/g*g=g*(m/g):=Va0 _ _
 omega
theorem dh (m:Int){g:Int}(hg:0<g):m≤-(-m/g)*g∧(-(-m/g)-1)*g<m:=by
 obtain⟨h1,h2⟩:=dl (-m) hg
 have e1:-(-m/g)*g=-(-m/g*g):=by rw[Val]
 have e2:(-(-m/g)-1)*g=-((-m/g+1)*g):=by grind
 omega
theorem mlr {a b c:Int}(h:a≤b)(hc:0≤c):a*c≤b*c:=VaH h hc
theorem mll {a b c:Int}(h:a≤b)(hc:0≤c):c*a≤c*b:=Int.mul_le_mul_of_nonneg_left h hc
theorem can {a b c:Int}(h:a*c≤b*c)(hc:0<c):a≤b:=Int.le_of_mul_le_mul_right h hc
structure Low (x0 x1 lo hi lb hb L:Int):Prop where
 all:∀p q,0<q→x0*q≤p→lo*q≤p*lb→L*q≤p
 ex:∃p q,(p=x0∧q=1∨p=lo∧q=lb)∧0<q∧x0*q≤p∧p≤x1*q∧(lo*q≤p*lb∧p*hb≤hi*q)∧p<(L+1)*q
theorem zhv {x0 x1 lo hi lb hb L f:Int}(hx:x0≤x1)(hl:0≤lb)(hh:0≤hb)(l0:lb=0→lo≤0)(h0:hb=0→0≤hi)(cr:lo*hb≤hi*lb)(ef:lb≠0→f=lo/lb)(hc:lb≠0→-(-lo/lb)≤x1)(hr:hb≠0→x0≤hi/hb)
  (eL:L=x0∧(lb=0∨f≤x0)∨lb≠0∧L=f∧x0≤f):Low x0 x1 lo hi lb hb L:=by
 have xh:x0*hb≤hi:=by
  by_cases z:hb=0
  ·subst z; rw[VaU]; exact h0 rfl
  ·exact Va2 (mlr (hr z) hh) (dl hi (by omega)).1
 refine⟨λp q hq h1 h2=>?_,?_⟩
 ·rcases eL with ⟨rfl,_⟩ | ⟨z,rfl,_⟩
  ·exact h1
  ·have e:=ef z
   subst e
   have d:=mlr (dl lo (show 0<lb by omega)).1 (VaB hq)
   have e:lo/lb*lb*q=lo/lb*q*lb:=by grind
   exact can (show lo/lb*q*lb≤p*lb by omega) (by omega)
 ·by_cases z:lb=0
  ·refine⟨x0,1,.inl ⟨rfl,rfl⟩,by omega,by omega,by omega,⟨?_,by omega⟩,?_⟩
   ·have:=l0 z
    subst z; rw[VaU]; omega
   ·rcases eL with ⟨rfl,_⟩ | ⟨z',_⟩
    ·omega
    ·exact absurd z z'
  ·have lp:0<lb:=by omega
   obtain⟨d1,d2⟩:=dl lo lp
   have e:=ef z
   subst e
   have hL:lo/lb≤L∧x0≤L:=by
    rcases eL with ⟨rfl,z' | z'⟩ | ⟨_,rfl,z'⟩ <;> omega
   by_cases c:lo≤x0*lb
   ·exact⟨x0,1,.inl ⟨rfl,rfl⟩,by omega,by omega,by omega,⟨by omega,by omega⟩,by omega⟩
   ·refine⟨lo,lb,.inr ⟨rfl,rfl⟩,lp,by omega,?_,⟨VaD _,cr⟩,?_⟩
    ·exact Va2 (dh lo lp).1 (mlr (hc z) hl)
    ·exact Int.lt_of_lt_of_le d2 (mlr (by omega) hl)
theorem zrs {x1 lo lb p q:Int}(hq:0<q)(lp:0<lb)(h:x1 < -(-lo/lb))(hp:p≤x1*q)(hv:lo*q≤p*lb):False:=by
 have d:=(dh lo lp).2
 have h1:x1*lb≤(-(-lo/lb)-1)*lb:=mlr (by omega) (VaB lp)
 have h2:p*lb≤x1*q*lb:=mlr hp (VaB lp)
 have h3:x1*lb*q<lo*q:=Int.mul_lt_mul_of_pos_right (by omega) hq
 have e:x1*lb*q=x1*q*lb:=by grind
 omega
theorem zga {lo hi c d p q:Int}(h0:0≤c)(hcd:c≤d)(hd:0<d)(hq:0<q):Ans lo hi c d p q↔lo*q≤p*(if lo > 0 then d else c)∧p*(if hi<0 then d else c)≤hi*q:=by
 unfold Ans
 have sl:lo > 0→0<lo*q:=λh=>VaV h hq
 have sl':¬ lo > 0→lo*q≤0:=λh=>by
  have:=mlr (show lo≤0 by omega) (VaB hq)
  omega
 have sh:hi<0→hi*q<0:=λh=>by
  have:=Int.mul_lt_mul_of_pos_right h hq
  omega
 have sh':¬ hi<0→0≤hi*q:=λh=>Vau (by omega) (VaB hq)
 by_cases z:0≤p
 ·have a1:=mll hcd z
  have a2:=Vau z h0
  split <;> split <;> omega
 ·have b1:=mll hcd (show 0≤-p by omega)
  have b2:=Vau (show 0≤-p by omega) h0
  simp only[Val] at b1 b2
  split <;> split <;> omega
structure zbZ (lo hi x0 x1 c d:Int):Prop where
 hz:lo≤hi
 hx:x0≤x1
 h0:0≤c
 hcd:c≤d
 hd:0<d
abbrev za4 (lo c d:Int):Int:=if lo > 0 then d else c
abbrev zaX (hi c d:Int):Int:=if hi<0 then d else c
section
variable {lo hi x0 x1 c d:Int}
theorem zbZ.cross (h:zbZ lo hi x0 x1 c d):lo*zaX hi c d≤hi*za4 lo c d:=by
 obtain⟨hz,hx,h0,hcd,hd⟩:=h
 unfold zaX za4
 split <;> split
 ·omega
 ·have a1:=mlr hz h0
  have a2:=mll hcd (show 0≤-lo by omega)
  simp only[Val] at a2
  omega
 ·have a1:=mlr hz h0
  have a2:=mll hcd (show 0≤hi by omega)
  omega
 ·exact mlr hz h0
theorem zbZ.l (h:zbZ lo hi x0 x1 c d):0≤za4 lo c d∧(za4 lo c d=0→lo≤0):=by
 obtain⟨hz,hx,h0,hcd,hd⟩:=h
 unfold za4
 split <;> omega
theorem zbZ.h (h:zbZ lo hi x0 x1 c d):0≤zaX hi c d∧(zaX hi c d=0→0≤hi):=by
 obtain⟨hz,hx,h0,hcd,hd⟩:=h
 unfold zaX
 split <;> omega
theorem zbZ.none1 (h:zbZ lo hi x0 x1 c d)(n:za4 lo c d≠0)(e:x1 < -(-lo/za4 lo c d)):∀p q,0<q→x0*q≤p→p≤x1*q→¬ Ans lo hi c d p q:=λp q hq _ h2 hv=>
 zrs hq (by have:=h.l.1; omega) e h2 ((zga h.h0 h.hcd h.hd hq).mp hv).1
theorem zbZ.none2 (h:zbZ lo hi x0 x1 c d)(n:zaX hi c d≠0)(e:hi/zaX hi c d<x0):∀p q,0<q→x0*q≤p→p≤x1*q→¬ Ans lo hi c d p q:=λp q hq h1 _ hv=>by
 have v:=((zga h.h0 h.hcd h.hd hq).mp hv).2
 refine zrs (x1:=-x0) (lo:=-hi) (lb:=zaX hi c d) (p:=-p) hq (by have:=h.h.1; omega) (by rw[Int.neg_neg]; omega) (by rw[Val]; omega) ?_
 show -hi*q≤-p*zaX hi c d
 rw[Val,Val]
 exact Int.neg_le_neg v
def zcg (lo hi x0 x1 c d p q:Int):Prop:=(p=x0∧q=1)∨(p=x1∧q=1)∨((p=lo∨p=hi)∧(q=c∨q=d))
theorem zbZ.some (h:zbZ lo hi x0 x1 c d){L U:Int}(hc:za4 lo c d≠0→-(-lo/za4 lo c d)≤x1)(hr:zaX hi c d≠0→x0≤hi/zaX hi c d)
  (eL:L=x0∧(za4 lo c d=0∨lo/za4 lo c d≤x0)∨za4 lo c d≠0∧L=lo/za4 lo c d∧x0≤lo/za4 lo c d)
  (eU:U=x1∧(zaX hi c d=0∨x1≤-(-hi/zaX hi c d))∨zaX hi c d≠0∧U=-(-hi/zaX hi c d)∧-(-hi/zaX hi c d)≤x1):zbe x0 x1 (Ans lo hi c d) (zcg lo hi x0 x1 c d) L U:=by
 obtain⟨l1,l2⟩:=h.l
 obtain⟨h1,h2⟩:=h.h
 have cr:=h.cross
 have A:=zhv h.hx l1 h1 l2 h2 cr (λ_=>rfl) hc hr eL
 have B:=zhv (x0:=-x1) (x1:=-x0) (lo:=-hi) (hi:=-lo) (lb:=zaX hi c d) (hb:=za4 lo c d) (L:=-U) (f:=-hi/zaX hi c d) (by have:=h.hx; omega) h1 l1 (λz=>by have:=h2 z; omega) (λz=>by have:=l2 z; omega)
  (by rw[Val,Val]; exact Int.neg_le_neg cr) (λ_=>rfl) (λz=>by have:=hr z; rw[Int.neg_neg]; omega) (λz=>by have:=hc z; omega) (by omega)
 refine⟨λp q hq p1 p2 hv=>?_,?_,?_⟩
 ·obtain⟨v1,v2⟩:=(zga h.h0 h.hcd h.hd hq).mp hv
  refine⟨A.all p q hq p1 v1,?_⟩
  have:=B.all (-p) q hq (by rw[Val]; omega) (by rw[Val,Val]; exact Int.neg_le_neg v2)
  rw[Val] at this
  omega
 ·obtain⟨p,q,hs,hq,p1,p2,hv,t⟩:=A.ex
  refine⟨p,q,?_,hq,p1,p2,(zga h.h0 h.hcd h.hd hq).mpr hv,t⟩
  unfold zcg
  unfold za4 at hs
  split at hs <;> omega
 ·obtain⟨p,q,hs,hq,p1,p2,hv,t⟩:=B.ex
  rw[Val] at p1 p2
  have hv':lo*q≤-p*za4 lo c d∧-p*zaX hi c d≤hi*q:=by
   simp only[Val] at hv ⊢
   exact⟨by omega,by omega⟩
  refine⟨-p,q,?_,hq,by omega,by omega,(zga h.h0 h.hcd h.hd hq).mpr hv',?_⟩
  ·unfold zcg
   unfold zaX at hs
   split at hs <;> omega
  ·have e:(U-1)*q=-((-U+1)*q):=by grind
   omega
end
theorem zbe.mono {x0 x1 L U:Int}{V V' Sp Sp':Int→Int→Prop}(h:zbe x0 x1 V Sp L U)(hv:∀p q,0<q→(V p q↔V' p q))(hs:∀p q,0<q→Sp p q→Sp' p q):zbe x0 x1 V' Sp' L U:=by
 refine⟨λp q hq h1 h2 v=>h.all p q hq h1 h2 ((hv p q hq).mpr v),?_,?_⟩
 ·obtain⟨p,q,s,hq,h1,h2,v,t⟩:=h.lo
  exact⟨p,q,hs p q hq s,hq,h1,h2,(hv p q hq).mp v,t⟩
 ·obtain⟨p,q,s,hq,h1,h2,v,t⟩:=h.hi
  exact⟨p,q,hs p q hq s,hq,h1,h2,(hv p q hq).mp v,t⟩
abbrev NoV (x0 x1:Int)(V:Int→Int→Prop):Prop:=∀p q,0<q→x0*q≤p→p≤x1*q→¬ V p q
theorem zbe.left {x0 x1 L U:Int}{V V' Sp:Int→Int→Prop}(h:zbe x0 x1 V Sp L U)(n:NoV x0 x1 V'):zbe x0 x1 (λp q=>V p q∨V' p q) Sp L U:=by
 refine⟨λp q hq h1 h2 v=>h.all p q hq h1 h2 (v.resolve_right (n p q hq h1 h2)),?_,?_⟩
 ·obtain⟨p,q,s,hq,h1,h2,v,t⟩:=h.lo
  exact⟨p,q,s,hq,h1,h2,.inl v,t⟩
 ·obtain⟨p,q,s,hq,h1,h2,v,t⟩:=h.hi
  exact⟨p,q,s,hq,h1,h2,.inl v,t⟩
theorem zbe.right {x0 x1 L U:Int}{V V' Sp:Int→Int→Prop}(h:zbe x0 x1 V' Sp L U)(n:NoV x0 x1 V):zbe x0 x1 (λp q=>V p q∨V' p q) Sp L U:=by
 refine⟨λp q hq h1 h2 v=>h.all p q hq h1 h2 (v.resolve_left (n p q hq h1 h2)),?_,?_⟩
 ·obtain⟨p,q,s,hq,h1,h2,v,t⟩:=h.lo
  exact⟨p,q,s,hq,h1,h2,.inr v,t⟩
 ·obtain⟨p,q,s,hq,h1,h2,v,t⟩:=h.hi
  exact⟨p,q,s,hq,h1,h2,.inr v,t⟩
theorem zbe.both {x0 x1 L U L' U' l u:Int}{V V' Sp Sp':Int→Int→Prop}(h:zbe x0 x1 V Sp L U)(h':zbe x0 x1 V' Sp' L' U')(el:l=L∧L≤L'∨l=L'∧L'≤L)(eu:u=U∧U'≤U∨u=U'∧U≤U'):zbe x0 x1 (λp q=>V p q∨V' p q) (λp q=>Sp p q∨Sp' p q) l u:=by
 refine⟨λp q hq h1 h2 v=>?_,?_,?_⟩
 ·have hq':=VaB hq
  rcases v with v | v
  ·obtain⟨a,b⟩:=h.all p q hq h1 h2 v
   exact⟨Va2 (mlr (by omega) hq') a,Va2 b (mlr (by omega) hq')⟩
  ·obtain⟨a,b⟩:=h'.all p q hq h1 h2 v
   exact⟨Va2 (mlr (by omega) hq') a,Va2 b (mlr (by omega) hq')⟩
 ·rcases el with ⟨rfl,_⟩ | ⟨rfl,_⟩
  ·obtain⟨p,q,s,hq,h1,h2,v,t⟩:=h.lo
   exact⟨p,q,.inl s,hq,h1,h2,.inl v,t⟩
  ·obtain⟨p,q,s,hq,h1,h2,v,t⟩:=h'.lo
   exact⟨p,q,.inr s,hq,h1,h2,.inr v,t⟩
 ·rcases eu with ⟨rfl,_⟩ | ⟨rfl,_⟩
  ·obtain⟨p,q,s,hq,h1,h2,v,t⟩:=h.hi
   exact⟨p,q,.inl s,hq,h1,h2,.inl v,t⟩
  ·obtain⟨p,q,s,hq,h1,h2,v,t⟩:=h'.hi
   exact⟨p,q,.inr s,hq,h1,h2,.inr v,t⟩
theorem zbe.le {x0 x1 L U:Int}{V Sp:Int→Int→Prop}(h:zbe x0 x1 V Sp L U):L≤U:=by
 obtain⟨p,q,s,hq,h1,h2,v,t⟩:=h.lo
 obtain⟨a,b⟩:=h.all p q hq h1 h2 v
 exact can (show L*q≤U*q by omega) hq
theorem zbe.within {x0 x1 L U:Int}{V Sp:Int→Int→Prop}(h:zbe x0 x1 V Sp L U):x0≤L∧U≤x1:=by
 constructor
 ·obtain⟨p,q,s,hq,h1,h2,v,t⟩:=h.lo
  have:=Int.lt_of_mul_lt_mul_right (show x0*q<(L+1)*q by omega) (VaB hq)
  omega
 ·obtain⟨p,q,s,hq,h1,h2,v,t⟩:=h.hi
  have:=Int.lt_of_mul_lt_mul_right (show (U-1)*q<x1*q by omega) (VaB hq)
  omega
abbrev tur (t e:Int):Int×Int:=(if e<0 then -t else t,if e<0 then -e else e)
def zeH (lo hi e:Int):List (Int×Int):=if e=0 then [] else [tur lo e,tur hi e]
def zoE (lo hi x0 x1 y0 y1:Int):List (Int×Int):=[(x0,1),(x1,1)]++zeH lo hi y0++zeH lo hi y1
abbrev SpY (lo hi x0 x1 y0 y1 p q:Int):Prop:=(p,q)∈zoE lo hi x0 x1 y0 y1
theorem zk6 {lo hi e p q:Int}:(p,q)∈zeH lo hi e↔e≠0∧((p,q)=tur lo e∨(p,q)=tur hi e):=by
 unfold zeH
 split
 ·simp[*]
 ·rename_i h
  simp[h]
theorem zi6 {lo hi x0 x1 y0 y1 p q:Int}:(p,q)∈zoE lo hi x0 x1 y0 y1↔(p=x0∧q=1)∨(p=x1∧q=1)∨(p,q)∈zeH lo hi y0∨(p,q)∈zeH lo hi y1:=by
 unfold zoE
 simp[VaR,or_assoc]
abbrev mx0 (a:Int):Int:=if 0 > a then 0 else a
theorem zd4 {lo hi y0 y1 p q:Int}(hz:lo≤hi)(hy:y0≤y1)(nb:¬ ((y0≤0∧0≤y1)∧lo≤0∧0≤hi))(hq:0<q):
  Ans lo hi y0 y1 p q↔(y1 > 0∧Ans lo hi (mx0 y0) y1 p q)∨(y0<0∧Ans (-hi) (-lo) (mx0 (-y1)) (-y0) p q):=by
 unfold Ans mx0
 have sl:lo > 0→0<lo*q:=λh=>VaV h hq
 have sl':¬ lo > 0→lo*q≤0:=λh=>by
  have:=mlr (show lo≤0 by omega) (VaB hq)
  omega
 have sh:hi<0→hi*q<0:=λh=>by
  have:=Int.mul_lt_mul_of_pos_right h hq
  omega
 have sh':¬ hi<0→0≤hi*q:=λh=>Vau (by omega) (VaB hq)
 have zz:=mlr hz (VaB hq)
 have f:∀y:Int,(0≤p→0≤y→0≤p*y)∧(0≤p→y≤0→p*y≤0)∧(p≤0→0≤y→p*y≤0)∧(p≤0→y≤0→0≤p*y):=λy=>
  ⟨Vau,Int.mul_nonpos_of_nonneg_of_nonpos,Int.mul_nonpos_of_nonpos_of_nonneg,Int.mul_nonneg_of_nonpos_of_nonpos⟩
 obtain⟨f1,f2,f3,f4⟩:=f y0
 obtain⟨g1,g2,g3,g4⟩:=f y1
 simp only[Int.mul_neg,Val]
 by_cases c1:0 > y0
 ·by_cases c2:0 > -y1
  ·rw[if_pos c1,if_pos c2,VaU]
   omega
  ·rw[if_pos c1,if_neg c2,VaU,Int.mul_neg]
   omega
 ·by_cases c2:0 > -y1
  ·rw[if_neg c1,if_pos c2,VaU]
   omega
  ·rw[if_neg c1,if_neg c2,Int.mul_neg]
   have e0:y0=0:=by omega
   have e1:y1=0:=by omega
   subst e0 e1
   simp only[VaU]
   omega
theorem zos {lo hi x0 x1 y0 y1 p q:Int}(hy:y0≤y1)(hq:0<q)(h:zcg lo hi x0 x1 (mx0 y0) y1 p q):SpY lo hi x0 x1 y0 y1 p q:=by
 unfold SpY
 rw[zi6,zk6,zk6]
 simp only[tur,Prod.mk.injEq]
 rcases h with h | h | ⟨h1,h2⟩
 ·exact .inl h
 ·exact .inr (.inl h)
 ·rcases h2 with e | e
  ·have c:¬ 0 > y0:=λc=>by rw[mx0,if_pos c] at e; omega
   rw[mx0,if_neg c] at e
   subst e
   refine .inr (.inr (.inl ⟨by omega,?_⟩))
   rw[if_neg (by omega),if_neg (by omega),if_neg (by omega)]
   omega
  ·subst e
   refine .inr (.inr (.inr ⟨by omega,?_⟩))
   rw[if_neg (by omega),if_neg (by omega),if_neg (by omega)]
   omega
theorem zph {lo hi x0 x1 y0 y1 p q:Int}(hy:y0≤y1)(hq:0<q)(h:zcg (-hi) (-lo) x0 x1 (mx0 (-y1)) (-y0) p q):SpY lo hi x0 x1 y0 y1 p q:=by
 unfold SpY
 rw[zi6,zk6,zk6]
 simp only[tur,Prod.mk.injEq]
 rcases h with h | h | ⟨h1,h2⟩
 ·exact .inl h
 ·exact .inr (.inl h)
 ·rcases h2 with e | e
  ·have c:¬ 0 > -y1:=λc=>by rw[mx0,if_pos c] at e; omega
   rw[mx0,if_neg c] at e
   subst e
   refine .inr (.inr (.inr ⟨by omega,?_⟩))
   rw[if_pos (by omega),if_pos (by omega),if_pos (by omega)]
   omega
  ·subst e
   refine .inr (.inr (.inl ⟨by omega,?_⟩))
   rw[if_pos (by omega),if_pos (by omega),if_pos (by omega)]
   omega
abbrev zd5 (lo hi x0 x1 y0 y1 L U:Int):Prop:=zbe x0 x1 (Ans lo hi y0 y1) (SpY lo hi x0 x1 y0 y1) L U
section
variable {lo hi x0 x1 y0 y1 L U L' U' l u:Int}
theorem zvf (hx:x0≤x1)(hy:y0≤0∧0≤y1)(hz:lo≤0∧0≤hi):zd5 lo hi x0 x1 y0 y1 x0 x1:=by
 have v:∀p:Int,Ans lo hi y0 y1 p 1:=λp=>by
  unfold Ans
  by_cases c:0≤p
  ·have:=Int.mul_nonpos_of_nonneg_of_nonpos c hy.1
   have:=Vau c hy.2
   omega
  ·have:=Int.mul_nonneg_of_nonpos_of_nonpos (show p≤0 by omega) hy.1
   have:=Int.mul_nonpos_of_nonpos_of_nonneg (show p≤0 by omega) hy.2
   omega
 refine⟨λp q hq h1 h2 _=>⟨h1,h2⟩,⟨x0,1,zi6.mpr (.inl ⟨rfl,rfl⟩),by omega,by omega,by omega,v _,by omega⟩,⟨x1,1,zi6.mpr (.inr (.inl ⟨rfl,rfl⟩)),by omega,by omega,by omega,v _,by omega⟩⟩
variable (hz:lo≤hi)(hy:y0≤y1)(nb:¬ ((y0≤0∧0≤y1)∧lo≤0∧0≤hi))
abbrev zee (lo hi y0 y1:Int):Int→Int→Prop:=Ans lo hi (mx0 y0) y1
abbrev zea (lo hi y0 y1:Int):Int→Int→Prop:=Ans (-hi) (-lo) (mx0 (-y1)) (-y0)
include hz hy nb
theorem zyN (c1:¬ y1 > 0)(c2:¬ y0<0):NoV x0 x1 (Ans lo hi y0 y1):=λp q hq _ _ v=>by
 rcases (zd4 hz hy nb hq).mp v with ⟨h,_⟩ | ⟨h,_⟩
 ·exact c1 h
 ·exact c2 h
theorem zyk (h:NoV x0 x1 (zee lo hi y0 y1))(c2:¬ y0<0):NoV x0 x1 (Ans lo hi y0 y1):=λp q hq h1 h2 v=>by
 rcases (zd4 hz hy nb hq).mp v with ⟨_,z⟩ | ⟨z,_⟩
 ·exact h p q hq h1 h2 z
 ·exact c2 z
theorem zu6 (c1:¬ y1 > 0)(h:NoV x0 x1 (zea lo hi y0 y1)):NoV x0 x1 (Ans lo hi y0 y1):=λp q hq h1 h2 v=>by
 rcases (zd4 hz hy nb hq).mp v with ⟨z,_⟩ | ⟨_,z⟩
 ·exact c1 z
 ·exact h p q hq h1 h2 z
theorem zwc (h1:NoV x0 x1 (zee lo hi y0 y1))(h2:NoV x0 x1 (zea lo hi y0 y1)):NoV x0 x1 (Ans lo hi y0 y1):=λp q hq a b v=>by
 rcases (zd4 hz hy nb hq).mp v with ⟨_,z⟩ | ⟨_,z⟩
 ·exact h1 p q hq a b z
 ·exact h2 p q hq a b z
theorem zsX (c1:y1 > 0)(c2:¬ y0<0)(h:zbe x0 x1 (zee lo hi y0 y1) (zcg lo hi x0 x1 (mx0 y0) y1) L U):zd5 lo hi x0 x1 y0 y1 L U:=
 h.mono (λp q hq=>by rw[zd4 hz hy nb hq]; exact⟨λz=>.inl ⟨c1,z⟩,λz=>z.elim (λz=>z.2) λz=>absurd z.1 c2⟩) λp q hq s=>zos hy hq s
theorem zvp (c1:¬ y1 > 0)(c2:y0<0)(h:zbe x0 x1 (zea lo hi y0 y1) (zcg (-hi) (-lo) x0 x1 (mx0 (-y1)) (-y0)) L U):zd5 lo hi x0 x1 y0 y1 L U:=
 h.mono (λp q hq=>by rw[zd4 hz hy nb hq]; exact⟨λz=>.inr ⟨c2,z⟩,λz=>z.elim (λz=>absurd z.1 c1) λz=>z.2⟩) λp q hq s=>zph hy hq s
theorem zpk (c1:y1 > 0)(c2:y0<0):∀p q,0<q→(zee lo hi y0 y1 p q∨zea lo hi y0 y1 p q↔Ans lo hi y0 y1 p q):=λp q hq=>by
 rw[zd4 hz hy nb hq]
 exact⟨λz=>z.elim (λz=>.inl ⟨c1,z⟩) λz=>.inr ⟨c2,z⟩,λz=>z.elim (λz=>.inl z.2) λz=>.inr z.2⟩
theorem zw4 (c1:y1 > 0)(c2:y0<0)(h:zbe x0 x1 (zee lo hi y0 y1) (zcg lo hi x0 x1 (mx0 y0) y1) L U)(n:NoV x0 x1 (zea lo hi y0 y1)):zd5 lo hi x0 x1 y0 y1 L U:=
 (h.left n).mono (zpk hz hy nb c1 c2) λp q hq s=>zos hy hq s
theorem zrT (c1:y1 > 0)(c2:y0<0)(n:NoV x0 x1 (zee lo hi y0 y1))(h:zbe x0 x1 (zea lo hi y0 y1) (zcg (-hi) (-lo) x0 x1 (mx0 (-y1)) (-y0)) L U):zd5 lo hi x0 x1 y0 y1 L U:=
 (h.right n).mono (zpk hz hy nb c1 c2) λp q hq s=>zph hy hq s
theorem ztP (c1:y1 > 0)(c2:y0<0)(h:zbe x0 x1 (zee lo hi y0 y1) (zcg lo hi x0 x1 (mx0 y0) y1) L U)(h':zbe x0 x1 (zea lo hi y0 y1) (zcg (-hi) (-lo) x0 x1 (mx0 (-y1)) (-y0)) L' U'):zd5 lo hi x0 x1 y0 y1 (if L'<L then L' else L) (if U' > U then U' else U):=
 (h.both h' (by split <;> omega) (by split <;> omega)).mono (zpk hz hy nb c1 c2) λp q hq s=>s.elim (zos hy hq) (zph hy hq)
end
theorem zso {lo hi x0 x1 c d l0 l1 h0 h1:Int}(h:zbZ lo hi x0 x1 c d)(hl:za4 lo c d=0∧l0=x0∧l1=x0∨za4 lo c d≠0∧l0=lo/za4 lo c d∧l1=-(-lo/za4 lo c d))
  (hh:zaX hi c d=0∧h0=x1∧h1=x1∨zaX hi c d≠0∧h0=hi/zaX hi c d∧h1=-(-hi/zaX hi c d)):
  (l1 > x1∨h0<x0→NoV x0 x1 (Ans lo hi c d))∧(¬ l1 > x1→¬ h0<x0→zbe x0 x1 (Ans lo hi c d) (zcg lo hi x0 x1 c d) (if x0 > l0 then x0 else l0) (if x1<h1 then x1 else h1)):=by
 have hx:=h.hx
 refine⟨λz=>?_,λz1 z2=>h.some (λn=>?_) (λn=>?_) ?_ ?_⟩
 ·rcases z with z | z
  ·rcases hl with ⟨_,_,rfl⟩ | ⟨n,_,rfl⟩
   ·omega
   ·exact h.none1 n z
  ·rcases hh with ⟨_,rfl,_⟩ | ⟨n,rfl,_⟩
   ·omega
   ·exact h.none2 n z
 ·rcases hl with ⟨z,_⟩ | ⟨_,_,rfl⟩
  ·exact absurd z n
  ·omega
 ·rcases hh with ⟨z,_⟩ | ⟨_,rfl,_⟩
  ·exact absurd z n
  ·omega
 ·rcases hl with ⟨z,rfl,_⟩ | ⟨n,rfl,_⟩
  ·refine .inl ⟨by split <;> omega,.inl z⟩
  ·split <;> omega
 ·rcases hh with ⟨z,_,rfl⟩ | ⟨n,_,rfl⟩
  ·refine .inl ⟨by split <;> omega,.inl z⟩
  ·split <;> omega
theorem if2 {a b:Prop} [Decidable a] [Decidable b] {A B:Prop}(h1:a→b→A)(h2:¬ (a∧b)→B):if (decide a&&decide b)=true then A else B:=by
 by_cases z:a∧b
 ·rw[decide_eq_true z.1,decide_eq_true z.2]; exact zcv (h1 z.1 z.2)
 ·have e:(decide a&&decide b)=false:=by
   simp only[Bool.and_eq_false_iff,decide_eq_false_iff_not]
   by_cases y:a
   ·exact .inr λy2=>z ⟨y,y2⟩
   ·exact .inl y
  rw[e]; exact zbO (h2 z)
theorem and2 {a b:Prop} [Decidable a] [Decidable b] {Q:DK}{S:Sto}(h:Q (.bl (decide a&&decide b)) S):if decide a=true then Q (.bl (decide b)) S else Q (.bl false) S:=
 ifD (λe=>by rw[decide_eq_true e,Bool.true_and] at h; exact h) (λe=>by rw[decide_eq_false e,Bool.false_and] at h; exact h)
theorem zb4 (a:Int):0≤mx0 a:=by unfold mx0; split <;> omega
theorem zk8 {a b:Int}(h:a≤b)(h0:0≤b):mx0 a≤b:=by unfold mx0; split <;> omega
theorem zdv {a:Int}(h:Sz 1400 a):Sz 1400 (mx0 a):=by
 unfold mx0
 split
 ·exact Sz.of 0 (by decide)
 ·exact h
theorem cut {a b c t2:TDS}{E:zcl}{dl:Ev}{S:Sto}{α:Type}(G:α→Ev)(P:α→Prop)(h:(∀a,P a→t2 E (G a) S)→zby a (zby b (zby c t2)) E dl S)(main:∀a,P a→t2 E (G a) S):zby a (zby b (zby c t2)) E dl S:=h main
theorem zdx {a b:Int}{n:Nat}(ha:0≤a)(h:a≤b):a^n≤b^n:=by
 induction n with
 | zero=>simp
 | succ n ih=>
  rw[Vae,Vae]
  exact Int.mul_le_mul ih h ha (VaG (by omega))
theorem zgP {a b:Int}{n:Nat}(ha:0≤a)(h:a<b)(hn:1≤n):a^n<b^n:=by
 obtain⟨k,rfl⟩:∃k,n=k+1:=⟨n-1,by omega⟩
 rw[Vae,Vae]
 have h1:a^k*a≤b^k*a:=VaH (zdx ha (by omega)) ha
 have h2:b^k*a<b^k*b:=Int.mul_lt_mul_of_pos_left h (Vaz (by omega))
 omega
theorem plt {a b:Int}{n:Nat}(hb:0≤b)(h:a^n<b^n):a<b:=by
 by_cases c:a<b
 ·exact c
 ·have:=zdx (n:=n) hb (show b≤a by omega)
  omega
theorem zq9 {r g:Int}(hr:0≤r)(hg:0≤g):∀k:Nat,((k:Int)+1)*g^k*r-(k:Int)*(g^k*g)≤r^k*r
 | 0=>by simp
 | k+1=>by
  have ih:=zq9 hr hg k
  have m:=VaH ih hr
  have sq:0≤((k:Int)+1)*g^k*((r-g)*(r-g)):=by
   refine Vau (Vau (by omega) (VaG hg)) ?_
   by_cases c:0≤r-g
   ·exact Vau c c
   ·exact Int.mul_nonneg_of_nonpos_of_nonpos (by omega) (by omega)
  rw[Vae,Vae]
  have e:((k:Int)+1+1)*(g^k*g)*r-((k:Int)+1)*(g^k*g*g)=(((k:Int)+1)*g^k*r-(k:Int)*(g^k*g))*r-((k:Int)+1)*g^k*((r-g)*(r-g)):=by
   grind
  have e2:(((k+1:Nat):Int)+1)*(g^k*g)*r-((k+1:Nat):Int)*(g^k*g*g)=((k:Int)+1+1)*(g^k*g)*r-((k:Int)+1)*(g^k*g*g):=by
   rw[Int.natCast_add]; rfl
  rw[e2,e]
  omega
theorem zwn {r g N:Int}{n:Nat}(hn:1≤n)(hr:0≤r)(hg:0<g)(h:r^n≤N):r≤(((n:Int)-1)*g+N/g^(n-1))/n:=by
 obtain⟨k,rfl⟩:∃k,n=k+1:=⟨n-1,by omega⟩
 have t:=zq9 hr (VaB hg) k
 rw[Vae] at h
 have gp:0<g^k:=Vaz hg
 have e0:(((k+1:Nat):Int)-1)=k:=by omega
 rw[e0,Nat.add_sub_cancel]
 have q:((k:Int)+1)*r-k*g≤N/g^k:=by
  refine(Int.le_ediv_iff_mul_le gp).mpr ?_
  have e:(((k:Int)+1)*r-k*g)*g^k=((k:Int)+1)*g^k*r-(k:Int)*(g^k*g):=by grind
  omega
 refine(Int.le_ediv_iff_mul_le (by omega)).mpr ?_
 have e:r*((k+1:Nat):Int)=((k:Int)+1)*r:=by rw[Va0]; rfl
 omega
theorem zxC {g N:Int}{n:Nat}(hn:1≤n)(hg:0<g)(h:N<g^n):(((n:Int)-1)*g+N/g^(n-1))/n<g:=by
 obtain⟨k,rfl⟩:∃k,n=k+1:=⟨n-1,by omega⟩
 have gp:0<g^k:=Vaz hg
 rw[Vae] at h
 have e0:(((k+1:Nat):Int)-1)=k:=by omega
 rw[e0,Nat.add_sub_cancel]
 have q:N/g^k<g:=(Int.ediv_lt_iff_lt_mul gp).mpr (by rw[Va0 g]; exact h)
 refine(Int.ediv_lt_iff_lt_mul (by omega)).mpr ?_
 have e:g*((k+1:Nat):Int)=(k:Int)*g+g:=by
  rw[Va0,Int.natCast_add,Int.add_mul]
  simp
 omega
theorem zdV {n:Nat}(h:n%2=1)(a:Int):(-a)^n=-(a^n):=by
 obtain⟨k,rfl⟩:∃k,n=2*k+1:=⟨n/2,by omega⟩
 rw[Vae,Vae,Int.pow_mul,Int.pow_mul]
 have e:(-a)^2=a^2:=by rw[Vae,Vae,Vae,Vae]; grind
 rw[e]
 grind
theorem zn4 {n:Nat}(h:n%2=0)(a:Int):(-a)^n=a^n:=by
 obtain⟨k,rfl⟩:∃k,n=2*k:=⟨n/2,by omega⟩
 rw[Int.pow_mul,Int.pow_mul]
 have e:(-a)^2=a^2:=by rw[Vae,Vae,Vae,Vae]; grind
 rw[e]
theorem zj6 {n:Nat}(h:n%2=1){a b:Int}(hab:a≤b):a^n≤b^n:=by
 by_cases c:0≤a
 ·exact zdx c hab
 ·by_cases d:0≤b
  ·have h1:a^n=-((-a)^n):=by rw[zdV h,Int.neg_neg]
   have h2:(0:Int)≤(-a)^n:=VaG (by omega)
   have h3:(0:Int)≤b^n:=VaG d
   omega
  ·have h1:=zdx (n:=n) (show 0≤-b by omega) (show -b≤-a by omega)
   rw[zdV h,zdV h] at h1
   omega
theorem zow {n:Nat}(h:n%2=1){a b:Int}(hab:a<b):a^n<b^n:=by
 by_cases c:0≤a
 ·exact zgP c hab (by omega)
 ·by_cases d:0≤b
  ·have h1:a^n=-((-a)^n):=by rw[zdV h,Int.neg_neg]
   have h2:(0:Int)<(-a)^n:=Vaz (by omega)
   have h3:(0:Int)≤b^n:=VaG d
   omega
  ·have h1:=zgP (n:=n) (show 0≤-b by omega) (show -b < -a by omega) (by omega)
   rw[zdV h,zdV h] at h1
   omega
def Mt (n:Nat)(lo hi l h:Int):Prop:=((n%2=0∧l<0∧0<h)∧0≤hi∨¬ (n%2=0∧l<0∧0<h)∧(l^n≤hi∨h^n≤hi))∧(lo≤l^n∨lo≤h^n)
def zbG (n:Nat)(N a b:Int):Prop:=b=a∧a^n=N∨b=a+1∧a^n<N∧N<b^n
structure Rts (n:Nat)(lo hi al bl ah bh:Int):Prop where
 hz:lo≤hi
 hn:1≤n
 nn:n%2=0→0≤al∧0≤ah
 up:∀t:Int,n%2=1∨0≤t→(t^n≤hi↔t≤ah)
 dn:∀t:Int,n%2=1∨0≤t→(lo≤t^n↔bl≤t)
 el:bl=al∧(bl^n=lo∨bl=0∧n%2=0)∨bl=al+1∧bl^n≠lo
 eh:bh=ah∧ah^n=hi∨bh=ah+1∧ah^n≠hi
theorem zbG.le {n:Nat}{N a b:Int}(hn:1≤n)(h:zbG n N a b)(ok:n%2=1∨0≤a){t:Int}(ht:n%2=1∨0≤t):t^n≤N↔t≤a:=by
 have mono:t≤a→t^n≤a^n:=λz=>by
  rcases ht with o | o
  ·exact zj6 o z
  ·exact zdx o z
 have strict:a+1≤t→(a+1)^n≤t^n:=λz=>by
  rcases ok with o | o
  ·exact zj6 o z
  ·exact zdx (by omega) z
 have s1:a^n<(a+1)^n:=by
  rcases ok with o | o
  ·exact zow o (by omega)
  ·exact zgP o (by omega) hn
 constructor
 ·intro q
  by_cases c:t≤a
  ·exact c
  ·have:=strict (by omega)
   rcases h with ⟨rfl,e⟩ | ⟨rfl,e1,e2⟩ <;> omega
 ·intro q
  have:=mono q
  rcases h with ⟨rfl,e⟩ | ⟨rfl,e1,e2⟩ <;> omega
theorem zbG.ge {n:Nat}{N a b:Int}(hn:1≤n)(h:zbG n N a b)(ok:n%2=1∨0≤a){t:Int}(ht:n%2=1∨0≤t):N≤t^n↔b≤t:=by
 have okb:n%2=1∨0≤b:=by
  rcases ok with o | o
  ·exact .inl o
  ·right
   rcases h with ⟨rfl,_⟩ | ⟨rfl,_⟩ <;> omega
 have mono:b≤t→b^n≤t^n:=λz=>by
  rcases okb with o | o
  ·exact zj6 o z
  ·exact zdx o z
 have strict:t<b→t^n<b^n:=λz=>by
  rcases ht with o | o
  ·exact zow o z
  ·exact zgP o z hn
 have down:t≤a→t^n≤a^n:=λz=>by
  rcases ht with o | o
  ·exact zj6 o z
  ·exact zdx o z
 constructor
 ·intro q
  by_cases c:b≤t
  ·exact c
  ·have:=strict (by omega)
   rcases h with ⟨rfl,e⟩ | ⟨rfl,e1,e2⟩
   ·omega
   ·have:=down (by omega)
    omega
 ·intro q
  have:=mono q
  rcases h with ⟨rfl,e⟩ | ⟨rfl,e1,e2⟩ <;> omega
theorem zpo {n:Nat}(hn:1≤n):(0:Int)^n=0:=by
 obtain⟨k,rfl⟩:∃k,n=k+1:=⟨n-1,by omega⟩
 rw[Vae,VaU]
def Mp (n:Nat)(bl ah l h:Int):Prop:=l≤ah∧bl≤h∨n%2=0∧-ah≤h∧l≤-bl
section
variable {n:Nat}{lo hi al bl ah bh:Int}
theorem Rts.b0 (R:Rts n lo hi al bl ah bh)(he:n%2=0):0≤bl:=by
 have:=(R.nn he).1
 rcases R.el with ⟨e,_⟩ | ⟨e,_⟩ <;> omega
theorem Rts.hi0 (R:Rts n lo hi al bl ah bh)(he:n%2=0):0≤hi:=by
 have h:=(R.up 0 (.inr (by omega))).mpr (R.nn he).2
 rw[zpo R.hn] at h
 exact h
theorem Rts.up' (R:Rts n lo hi al bl ah bh)(t:Int)(he:n%2=0)(ht:t≤0):t^n≤hi↔-t≤ah:=by
 rw[← R.up (-t) (.inr (by omega)),zn4 he]
theorem Rts.dn' (R:Rts n lo hi al bl ah bh)(t:Int)(he:n%2=0)(ht:t≤0):lo≤t^n↔bl≤-t:=by
 rw[← R.dn (-t) (.inr (by omega)),zn4 he]
theorem Rts.meets (R:Rts n lo hi al bl ah bh){l h:Int}(hlh:l≤h):Mt n lo hi l h↔Mp n bl ah l h:=by
 unfold Mt Mp
 rcases Va3 n with he | ho
 ·have b0:=R.b0 he
  have a0:=(R.nn he).2
  have h0:=R.hi0 he
  rcases Int.le_total 0 l with c | c
  ·have u1:=R.up l (.inr c)
   have u2:=R.up h (.inr (by omega))
   have d1:=R.dn l (.inr c)
   have d2:=R.dn h (.inr (by omega))
   rw[u1,u2,d1,d2]
   omega
  ·have u1:=R.up' l he c
   have d1:=R.dn' l he c
   rcases Int.le_total 0 h with d | d
   ·have u2:=R.up h (.inr d)
    have d2:=R.dn h (.inr d)
    rw[u1,u2,d1,d2]
    omega
   ·have u2:=R.up' h he d
    have d2:=R.dn' h he d
    rw[u1,u2,d1,d2]
    omega
 ·have u1:=R.up l (.inl ho)
  have u2:=R.up h (.inl ho)
  have d1:=R.dn l (.inl ho)
  have d2:=R.dn h (.inl ho)
  rw[u1,u2,d1,d2]
  omega
structure Least (n:Nat)(lo hi x0 x1 m:Int):Prop where
 a:x0≤m
 b:m≤x1
 c:Mt n lo hi x0 m
 d:∀k,x0≤k→k<m→¬ Mt n lo hi x0 k
def zmw (n:Nat)(lo hi x0 x1 v:Int):Prop:=∃m,Least n lo hi x0 x1 m∧(m=x0∧v=x0∨m≠x0∧(((m-1)^n<lo∧m^n=lo∨(m-1)^n > hi∧m^n=hi)∧v=m∨¬ ((m-1)^n<lo∧m^n=lo∨(m-1)^n > hi∧m^n=hi)∧v=m-1))
def zxM (n:Nat)(al bl ah bh x0 x1 v:Int):Prop:=
 (x0≤ah∧bl≤x1)∧¬ (n%2=0∧-ah≤x1∧x0≤-bl)∧v=(if x0 > al then x0 else al)∨
 (n%2=0∧-ah≤x1∧x0≤-bl)∧v=(if x0 > -bh then x0 else -bh)
theorem Rts.first (R:Rts n lo hi al bl ah bh){x0 x1 v w:Int}(F:zmw n lo hi x0 x1 v)(L:zxM n al bl ah bh x0 x1 w):v=w:=by
 obtain⟨m,⟨a,b,c,d⟩,e⟩:=F
 rw[R.meets a] at c
 have d':∀k,x0≤k→k<m→¬ Mp n bl ah x0 k:=λk h1 h2=>by
  rw[← R.meets h1]
  exact d k h1 h2
 unfold Mp at c d'
 have hz:=R.hz
 have el:=R.el
 have eh:=R.eh
 rcases L with ⟨⟨p1,p2⟩,p3,rfl⟩ | ⟨⟨q0,q1,q2⟩,rfl⟩
 ·have c':bl≤m:=by omega
  by_cases z:m=x0
  ·subst z
   split <;> omega
  ·have z2:m≤bl:=by
    have:=d' (m-1) (by omega) (by omega)
    omega
   have em:m=bl:=by omega
   subst em
   rcases Va3 n with he | ho
   ·have b0:=R.b0 he
    have a0:=(R.nn he).2
    have m1:¬ (lo≤(m-1)^n):=λz=>by
     have:=(R.dn (m-1) (.inr (by omega))).mp z
     omega
    split <;> omega
   ·have m1:¬ (lo≤(m-1)^n):=λz=>by
     have:=(R.dn (m-1) (.inl ho)).mp z
     omega
    split <;> omega
 ·have b0:=R.b0 q0
  have a0:=(R.nn q0).2
  have c':-ah≤m:=by omega
  by_cases z:m=x0
  ·subst z
   split <;> omega
  ·have z2:m≤-ah:=by
    have:=d' (m-1) (by omega) (by omega)
    omega
   have em:m=-ah:=by omega
   subst em
   have m1:¬ ((-ah-1)^n≤hi):=λz=>by
    have:=(R.up' (-ah-1) q0 (by omega)).mp z
    omega
   have m2:(-ah)^n=ah^n:=zn4 q0 ah
   rw[m2] at e
   split <;> omega
theorem Rts.has (R:Rts n lo hi al bl ah bh){t:Int}(h1:lo≤t^n)(h2:t^n≤hi):bl≤t∧t≤ah∨n%2=0∧-ah≤t∧t≤-bl:=by
 rcases Va3 n with he | ho
 ·rcases Int.le_total 0 t with c | c
  ·exact .inl ⟨(R.dn t (.inr c)).mp h1,(R.up t (.inr c)).mp h2⟩
  ·have a:=(R.dn' t he c).mp h1
   have b:=(R.up' t he c).mp h2
   exact .inr ⟨he,by omega,by omega⟩
 ·exact .inl ⟨(R.dn t (.inl ho)).mp h1,(R.up t (.inl ho)).mp h2⟩
end
structure zcW (n:Nat)(lo hi x0 x1 L U:Int):Prop where
 m:Mt n lo hi x0 x1
 low:∀v,zmw n lo hi x0 x1 v→v=L
 he:n%2=0→∀v,zmw n lo hi (-x1) (-x0) v→v=-U
 ho:n%2=1→∀v,zmw n (-hi) (-lo) (-x1) (-x0) v→v=-U
 lu:L≤U
 has:∀t,x0≤t→t≤x1→lo≤t^n→t^n≤hi→L≤t∧t≤U
section
variable {n:Nat}{lo hi al bl ah bh x0 x1:Int}
theorem Rts.ord (R:Rts n lo hi al bl ah bh):al≤bl∧ah≤bh∧al≤ah∧bl≤bh∧al≤bh:=by
 have e1:=R.el
 have e2:=R.eh
 have hz:=R.hz
 have k:al≤ah:=by
  rcases Va3 n with he | ho
  ·have a0:=(R.nn he).1
   rcases e1 with ⟨e,z⟩ | ⟨e,z⟩
   ·rcases z with z | z
    ·have:=(R.up bl (.inr (by omega))).mp (by omega)
     omega
    ·have:=(R.nn he).2
     omega
   ·have q:¬ lo≤al^n:=λq=>by
     have:=(R.dn al (.inr a0)).mp q
     omega
    exact(R.up al (.inr a0)).mp (by omega)
  ·rcases e1 with ⟨e,z⟩ | ⟨e,z⟩
   ·rcases z with z | z
    ·have:=(R.up bl (.inl ho)).mp (by omega)
     omega
    ·omega
   ·have q:¬ lo≤al^n:=λq=>by
     have:=(R.dn al (.inl ho)).mp q
     omega
    exact(R.up al (.inl ho)).mp (by omega)
 have k2:bl≤bh:=by
  have u:=R.up bh
  have d:=R.dn bh
  rcases e2 with ⟨e,z⟩ | ⟨e,z⟩
  ·subst e
   rcases Va3 n with he | ho
   ·exact(d (.inr (R.nn he).2)).mp (by omega)
   ·exact(d (.inl ho)).mp (by omega)
  ·rcases Va3 n with he | ho
   ·have a1:=(R.nn he).2
    have:=u (.inr (by omega))
    exact(d (.inr (by omega))).mp (by omega)
   ·have:=u (.inl ho)
    exact(d (.inl ho)).mp (by omega)
 omega
end
theorem zqG {n:Nat}(hn:1≤n){N:Int}(h0:0≤N):∃r:Int,0≤r∧r^n≤N∧N<(r+1)^n:=by
 have key:∀k:Nat,N<((k:Int)+1)^n→∃r:Int,0≤r∧r^n≤N∧N<(r+1)^n:=by
  intro k
  induction k with
  | zero=>exact λh=>⟨0,by omega,by rw[zpo hn]; exact h0,by simpa using h⟩
  | succ k ih=>
   intro h
   by_cases c:N<((k:Int)+1)^n
   ·exact ih c
   ·exact⟨(k:Int)+1,by omega,by omega,by simpa using h⟩
 refine key N.toNat ?_
 have h1:N<N+1:=by omega
 have h2:(N+1)^1≤(N+1)^n:=by
  obtain⟨k,rfl⟩:∃k,n=k+1:=⟨n-1,by omega⟩
  rw[Vae (N+1) k,Vae,VaQ]
  have:0<(N+1)^k:=Vaz (by omega)
  exact VaH (show (1:Int)≤(N+1)^k by omega) (by omega)
 have e:((N.toNat:Nat):Int)=N:=by omega
 rw[e]
 have e1:(N+1)^1=N+1:=by rw[Vae,VaQ,Int.one_mul]
 omega
theorem zpF {n:Nat}{N r:Int}(h1:r^n≤N)(h2:N<(r+1)^n):(r^n=N→zbG n N r r)∧(r^n≠N→zbG n N r (r+1)):=
 ⟨λe=>.inl ⟨rfl,e⟩,λe=>.inr ⟨rfl,by omega,h2⟩⟩
theorem zs1 {n:Nat}{N a b:Int}(ho:n%2=1)(h:zbG n (-N) a b):zbG n N (-b) (-a):=by
 unfold zbG at h ⊢
 rw[zdV ho,zdV ho]
 rcases h with ⟨rfl,e⟩ | ⟨rfl,e1,e2⟩
 ·exact .inl ⟨rfl,by omega⟩
 ·exact .inr ⟨by omega,by omega,by omega⟩
theorem Sz.mid {n:Nat}{a b x:Int}(ha:Sz n a)(hb:Sz n b)(h1:a≤x)(h2:x≤b):Sz n x:=by
 unfold Sz at *
 generalize 2^n=B at *
 omega
theorem zwY (N:Int)(h:0≤N):N<2^(Builtin.Int.intBits N):=by
 unfold Builtin.Int.intBits
 split
 ·rename_i z
  have:N=0:=by simpa using z
  subst this
  decide
 ·have l:N.natAbs<2^(N.natAbs.log2+1):=Nat.lt_log2_self
  have e:((2^(N.natAbs.log2+1):Nat):Int)=2^(N.natAbs.log2+1):=by simp
  omega
theorem zuV {N n:Int}(h0:0≤N)(hn:1≤n):N<(1*2^((Builtin.Int.intBits N:Int)/n+1).toNat)^n.toNat:=by
 have b:=zwY N h0
 rw[Int.one_mul,← Int.pow_mul]
 refine Int.lt_of_lt_of_le b ?_
 have e:(2:Int)^(((Builtin.Int.intBits N:Int)/n+1).toNat*n.toNat)=((2^(((Builtin.Int.intBits N:Int)/n+1).toNat*n.toNat):Nat):Int):=by simp
 have e2:(2:Int)^(Builtin.Int.intBits N)=((2^(Builtin.Int.intBits N):Nat):Int):=by simp
 rw[e,e2]
 refine Int.ofNat_le.mpr (Nat.pow_le_pow_right (by decide) ?_)
 have d1:=Int.emod_add_mul_ediv (Builtin.Int.intBits N:Int) n
 have d2:=Int.emod_lt_of_pos (Builtin.Int.intBits N:Int) (show 0<n by omega)
 have d3:=Int.ediv_nonneg (show (0:Int)≤(Builtin.Int.intBits N:Int) by omega) (show 0≤n by omega)
 have m:(((((Builtin.Int.intBits N:Int)/n+1).toNat*n.toNat:Nat):Int))=n*((Builtin.Int.intBits N:Int)/n)+n:=by
  rw[Int.natCast_mul,Int.toNat_of_nonneg (by omega),Int.toNat_of_nonneg (by omega)]
  grind
 omega
theorem zrP {N n:Int}(hn:2≤n)(s:Sz 1300 N):Sz 652 (1*2^((Builtin.Int.intBits N:Int)/n+1).toNat):=by
 have b:=s.bits
 rw[Int.one_mul]
 unfold Sz
 rw[Int.natAbs_pow]
 have e:(2:Int).natAbs=2:=rfl
 rw[e]
 refine Nat.pow_lt_pow_right (by decide) ?_
 have d:(Builtin.Int.intBits N:Int)/n≤650:=by
  have h1:(Builtin.Int.intBits N:Int)/n≤(Builtin.Int.intBits N:Int)/2:=by
   refine(Int.le_ediv_iff_mul_le (by omega)).mpr ?_
   have d1:=Int.emod_add_mul_ediv (Builtin.Int.intBits N:Int) n
   have d2:=Int.emod_nonneg (Builtin.Int.intBits N:Int) (show n≠0 by omega)
   have d3:=Int.ediv_nonneg (show (0:Int)≤(Builtin.Int.intBits N:Int) by omega) (show 0≤n by omega)
   have d4:=VaH hn d3
   have d5:(Builtin.Int.intBits N:Int)/n*2=2*((Builtin.Int.intBits N:Int)/n):=Va0 _ _
   omega
  omega
 omega
theorem zvH {n g N:Int}(hn:1≤n):((n-1)*g+N/g^(n-1).toNat)/n=((((n.toNat:Nat):Int)-1)*g+N/g^(n.toNat-1))/((n.toNat:Nat):Int):=by
 have e1:((n.toNat:Nat):Int)=n:=by omega
 have e2:(n-1).toNat=n.toNat-1:=by omega
 rw[e1,e2]
def bk2 (i j:Int)(f:Option (Int×Int))(s:Int×Int→Option (Int×Int)):Option (List (Int×(Int×Int))):=match f with
 | none=>none
 | some x=>match s x with
  | none=>none
  | some y=>some [(i,x),(j,y)]
theorem zpT {vs:List Nd}{k:Nat}{v:Nd}(h:vs[k]?=some v):atI (vs.map Nd.d) (k:Int)=some v.d:=zhP (by rw[Vai,h]; rfl)
theorem zqr {is:List Nat}{ta:TDA}{tb:TDS}{E:zcl}{dl:Ev}{S S1:Sto}{n:Nat}{xs:List D}(W:Nat→Ev→Sto→Prop)(hta:∀K:List D→Sto→Prop,K [.ref n] S1→ta dl S K)(hk:∀k dl' S',W k dl' S'→S'[n]?=some (.lst xs))(h0:W 0 dl S1)
  (hb:∀(k:Nat) (x:D) (dl':Ev) (S':Sto) (nx ct:Ev→Sto→Prop),xs[k]?=some x→W k dl' S'→(∀dl2 S2,W (k+1) dl2 S2→nx dl2 S2)→tb { nx:=nx,rt:=E.rt,bk:=E.nx,ct:=ct } (ze1 is [.int (k:Int),x] dl') S')(he:∀dl' S',W xs.length dl' S'→E.nx dl' S'):zkV is ta tb E dl S:=by
 unfold zkV
 refine hta _ ⟨by rw[zbg (hk _ _ _ h0) rfl]; rfl,λk m dl' S'=>W k dl' S'∧k+m=xs.length,⟨xs.length,h0,by omega⟩,?_⟩
 rintro k m dl' S' ⟨w,hm⟩
 rw[zbg (hk _ _ _ w) rfl]
 dsimp only[zaz]
 split
 ·rename_i x e1
  have l1:=(Vac.mp e1).1
  exact hb k x dl' S' _ _ e1 w (λdl2 S2 w2=>⟨m-1,by omega,w2,by omega⟩)
 ·rename_i e1
  have l1:=VaL.mp e1
  have ek:k=xs.length:=by omega
  exact⟨ek,he _ _ (ek ▸ w)⟩
theorem zhk {xs:List D}{n:Int}(h0:0≤n)(h1:n≤xs.length):zaZ xs none (some n)=xs.take n.toNat:=by
 unfold L3.zaZ
 have e:HT.sIx xs.length xs.length (some n)=n.toNat:=by
  have z:=HT.sIx_nat xs.length xs.length n.toNat
  rw[Int.toNat_of_nonneg h0] at z
  rw[z]
  omega
 rw[e,HT.sIx_none,List.drop_zero,Nat.sub_zero]
def ptB (x l h:Int×Int):Option (Int×Int):=if l.2 > x.2 then none else if h.1<x.1 then none else some (if x.1 > l.1 then x.1 else l.1,if x.2<h.2 then x.2 else h.2)
def loE (lo:Int)(x:Int×Int)(lb:Int):Int×Int:=if lb=0 then (x.1,x.1) else (lo/lb,-(-lo/lb))
def hiE (hi:Int)(x:Int×Int)(hb:Int):Int×Int:=if hb=0 then (x.2,x.2) else (hi/hb,-(-hi/hb))
def sdS (lo hi:Int)(x:Int×Int)(c d:Int):Option (Int×Int):=ptB x (loE lo x (za4 lo c d)) (hiE hi x (zaX hi c d))
def joS:Option (Int×Int)→Option (Int×Int)→Option (Int×Int)
 | none,o=>o
 | some p,none=>some p
 | some p,some q=>some (if q.1<p.1 then q.1 else p.1,if q.2 > p.2 then q.2 else p.2)
def btS (z x y:Int×Int)(g:Int):Option (Int×Int):=
 if (y.1≤0∧0≤y.2)∧z.1≤0∧0≤z.2 then some x else
  joS (if y.2 > 0 then sdS (z.1*g) (z.2*g) x (mx0 y.1) y.2 else none) (if y.1<0 then sdS (-(z.2*g)) (-(z.1*g)) x (mx0 (-y.2)) (-y.1) else none)
theorem znQ {lo hi c d:Int}{x:Int×Int}(h:zbZ lo hi x.1 x.2 c d):(sdS lo hi x c d=none→NoV x.1 x.2 (Ans lo hi c d))∧∀p,sdS lo hi x c d=some p→zbe x.1 x.2 (Ans lo hi c d) (zcg lo hi x.1 x.2 c d) p.1 p.2:=by
 have hl:za4 lo c d=0∧(loE lo x (za4 lo c d)).1=x.1∧(loE lo x (za4 lo c d)).2=x.1∨za4 lo c d≠0∧(loE lo x (za4 lo c d)).1=lo/za4 lo c d∧(loE lo x (za4 lo c d)).2=-(-lo/za4 lo c d):=by
  by_cases e:za4 lo c d=0
  ·exact .inl ⟨e,by rw[loE,if_pos e],by rw[loE,if_pos e]⟩
  ·exact .inr ⟨e,by rw[loE,if_neg e],by rw[loE,if_neg e]⟩
 have hh:zaX hi c d=0∧(hiE hi x (zaX hi c d)).1=x.2∧(hiE hi x (zaX hi c d)).2=x.2∨zaX hi c d≠0∧(hiE hi x (zaX hi c d)).1=hi/zaX hi c d∧(hiE hi x (zaX hi c d)).2=-(-hi/zaX hi c d):=by
  by_cases e:zaX hi c d=0
  ·exact .inl ⟨e,by rw[hiE,if_pos e],by rw[hiE,if_pos e]⟩
  ·exact .inr ⟨e,by rw[hiE,if_neg e],by rw[hiE,if_neg e]⟩
 have z:=zso h hl hh
 unfold sdS ptB
 refine⟨λe=>?_,λp e=>?_⟩
 ·refine z.1 ?_
  split at e
  ·exact .inl ‹_›
  ·split at e
   ·exact .inr ‹_›
   ·cases e
 ·split at e
  ·cases e
  ·split at e
   ·cases e
   ·cases e
    exact z.2 ‹_› ‹_›
theorem zsw {z x y:Int×Int}{g:Int}(hz:z.1≤z.2)(hx:x.1≤x.2)(hy:y.1≤y.2)(hg:1≤g):(btS z x y g=none→NoV x.1 x.2 (Ans (z.1*g) (z.2*g) y.1 y.2))∧∀p,btS z x y g=some p→zd5 (z.1*g) (z.2*g) x.1 x.2 y.1 y.2 p.1 p.2:=by
 have hzz:z.1*g≤z.2*g:=mlr hz (by omega)
 have zlo:z.1*g≤0∧0≤z.2*g↔z.1≤0∧0≤z.2:=by
  constructor
  ·rintro⟨a,b⟩
   exact⟨can (show z.1*g≤0*g by omega) (by omega),can (show 0*g≤z.2*g by omega) (by omega)⟩
  ·rintro⟨a,b⟩
   exact⟨Int.mul_nonpos_of_nonpos_of_nonneg a (by omega),Vau b (by omega)⟩
 unfold btS
 split
 ·rename_i c
  refine⟨λe=>(by cases e),λp e=>?_⟩
  cases e
  exact zvf hx c.1 (zlo.mpr c.2)
 ·rename_i c
  have nb:¬ ((y.1≤0∧0≤y.2)∧z.1*g≤0∧0≤z.2*g):=λq=>c ⟨q.1,zlo.mp q.2⟩
  by_cases c1:y.2 > 0
  ·have S1:=znQ (x:=x) (lo:=z.1*g) (hi:=z.2*g) (c:=mx0 y.1) (d:=y.2) ⟨hzz,hx,zb4 _,zk8 (by omega) (by omega),c1⟩
   rw[if_pos c1]
   by_cases c2:y.1<0
   ·have S2:=znQ (x:=x) (lo:=-(z.2*g)) (hi:=-(z.1*g)) (c:=mx0 (-y.2)) (d:=-y.1) ⟨by omega,hx,zb4 _,zk8 (by omega) (by omega),by omega⟩
    rw[if_pos c2]
    generalize sdS (z.1*g) (z.2*g) x (mx0 y.1) y.2=o1 at S1
    generalize sdS (-(z.2*g)) (-(z.1*g)) x (mx0 (-y.2)) (-y.1)=o2 at S2
    cases o1 with
    | none=>cases o2 with
     | none=>exact⟨λ_=>zwc hzz hy nb (S1.1 rfl) (S2.1 rfl),λp e=>by cases e⟩
     | some q=>exact⟨λe=>(by cases e),λp e=>by cases e; exact zrT hzz hy nb c1 c2 (S1.1 rfl) (S2.2 _ rfl)⟩
    | some p=>cases o2 with
     | none=>exact⟨λe=>(by cases e),λp e=>by cases e; exact zw4 hzz hy nb c1 c2 (S1.2 _ rfl) (S2.1 rfl)⟩
     | some q=>exact⟨λe=>(by cases e),λp e=>by cases e; exact ztP hzz hy nb c1 c2 (S1.2 _ rfl) (S2.2 _ rfl)⟩
   ·rw[if_neg c2]
    generalize sdS (z.1*g) (z.2*g) x (mx0 y.1) y.2=o1 at S1
    cases o1 with
    | none=>exact⟨λ_=>zyk hzz hy nb (S1.1 rfl) c2,λp e=>by cases e⟩
    | some p=>exact⟨λe=>(by cases e),λp e=>by cases e; exact zsX hzz hy nb c1 c2 (S1.2 _ rfl)⟩
  ·rw[if_neg c1]
   by_cases c2:y.1<0
   ·have S2:=znQ (x:=x) (lo:=-(z.2*g)) (hi:=-(z.1*g)) (c:=mx0 (-y.2)) (d:=-y.1) ⟨by omega,hx,zb4 _,zk8 (by omega) (by omega),by omega⟩
    rw[if_pos c2]
    generalize sdS (-(z.2*g)) (-(z.1*g)) x (mx0 (-y.2)) (-y.1)=o2 at S2
    cases o2 with
    | none=>exact⟨λ_=>zu6 hzz hy nb c1 (S2.1 rfl),λp e=>by cases e⟩
    | some q=>exact⟨λe=>(by cases e),λp e=>by cases e; exact zvp hzz hy nb c1 c2 (S2.2 _ rfl)⟩
   ·rw[if_neg c2]
    exact⟨λ_=>zyN hzz hy nb c1 c2,λp e=>by cases e⟩
def Sub (x:Int×Int)(o:Option (Int×Int)):Prop:=∀p,o=some p→p.1≤p.2∧x.1≤p.1∧p.2≤x.2
theorem zgg {z x y:Int×Int}{g:Int}(hz:z.1≤z.2)(hx:x.1≤x.2)(hy:y.1≤y.2)(hg:1≤g):Sub x (btS z x y g):=λp e=>by
 have W:=(zsw hz hx hy hg).2 p e
 exact⟨W.le,W.within.1,W.within.2⟩
def InF (s:Int×Int)(g t u:Int):Prop:=s.1*u≤t*g∧t*g≤s.2*u
noncomputable def rbS (N:Int)(n:Nat):Int:=open Classical in if h:∃r:Int,0≤r∧r^n≤N∧N<(r+1)^n then Classical.choose h else 0
theorem zn9 {N r:Int}{n:Nat}(h0:0≤r)(h1:r^n≤N)(h2:N<(r+1)^n):r=rbS N n:=by
 have ex:∃r:Int,0≤r∧r^n≤N∧N<(r+1)^n:=⟨r,h0,h1,h2⟩
 have e:rbS N n=Classical.choose ex:=by unfold rbS; rw[dif_pos ex]
 obtain⟨c0,c1,c2⟩:=Classical.choose_spec ex
 rw[← e] at c0 c1 c2
 have a:=plt (n:=n) (show 0≤rbS N n+1 by omega) (Int.lt_of_le_of_lt h1 c2)
 have b:=plt (n:=n) (show 0≤r+1 by omega) (Int.lt_of_le_of_lt c1 h2)
 omega
noncomputable def rt0 (N:Int)(n:Nat):Int×Int:=if (rbS N n)^n=N then (rbS N n,rbS N n) else (rbS N n,rbS N n+1)
noncomputable def rtS (N:Int)(n:Nat):Int×Int:=if N<0 then (-(rt0 (-N) n).2,-(rt0 (-N) n).1) else rt0 N n
theorem zp6 {N:Int}{n:Nat}(hn:1≤n)(h0:0≤N):zbG n N (rt0 N n).1 (rt0 N n).2∧0≤(rt0 N n).1:=by
 obtain⟨r,r0,r1,r2⟩:=zqG hn h0
 have e:=zn9 r0 r1 r2
 unfold rt0
 rw[← e]
 split
 ·exact⟨(zpF r1 r2).1 ‹_›,r0⟩
 ·exact⟨(zpF r1 r2).2 ‹_›,r0⟩
theorem zlr {N:Int}{n:Nat}(hn:1≤n)(h:n%2=1∨0≤N):zbG n N (rtS N n).1 (rtS N n).2∧(0≤N→0≤(rtS N n).1):=by
 unfold rtS
 split
 ·exact⟨zs1 (by omega) (zp6 hn (by omega)).1,λz=>by omega⟩
 ·have z:=zp6 (N:=N) hn (by omega)
  exact⟨z.1,λ_=>z.2⟩
noncomputable def bpS (z x:Int×Int)(n g:Int):Option (Int×Int):=
 if n%2=1 then ptB x (rtS (z.1*g^(n-1).toNat) n.toNat) (rtS (z.2*g^(n-1).toNat) n.toNat) else
  if z.2*g^(n-1).toNat<0 then none else
   joS (ptB x (rtS (mx0 (z.1*g^(n-1).toNat)) n.toNat) (rtS (z.2*g^(n-1).toNat) n.toNat))
    (ptB x (-(rtS (z.2*g^(n-1).toNat) n.toNat).2,-(rtS (z.2*g^(n-1).toNat) n.toNat).1) (-(rtS (mx0 (z.1*g^(n-1).toNat)) n.toNat).2,-(rtS (mx0 (z.1*g^(n-1).toNat)) n.toNat).1))
theorem zbG.ab {n:Nat}{N a b:Int}(h:zbG n N a b):a≤b∧a^n≤N∧N≤b^n:=by
 unfold zbG at h
 rcases h with ⟨e,h⟩ | ⟨e,h1,h2⟩
 ·subst e; omega
 ·omega
theorem zoi {x l h:Int×Int}(hx:x.1≤x.2)(hl:l.1≤l.2)(hh:h.1≤h.2)(lh:l.1≤h.2):Sub x (ptB x l h):=λp e=>by
 unfold ptB at e
 split at e
 ·cases e
 ·split at e
  ·cases e
  ·cases e
   dsimp only
   split <;> split <;> omega
theorem zu7 {x:Int×Int}{a b:Option (Int×Int)}(h1:Sub x a)(h2:Sub x b):Sub x (joS a b):=λp e=>by
 cases a with
 | none=>exact h2 p e
 | some q=>cases b with
  | none=>exact h1 p e
  | some r=>
   have z1:=h1 q rfl
   have z2:=h2 r rfl
   cases e
   dsimp only
   split <;> split <;> omega
theorem zpK {n:Nat}{N M al bl ah bh:Int}(hn:1≤n)(ok:n%2=1∨0≤al∧0≤ah)(h1:zbG n N al bl)(h2:zbG n M ah bh)(h:N≤M):al≤bh:=by
 have a:=h1.ab
 have b:=h2.ab
 by_cases c:al≤bh
 ·exact c
 ·rcases ok with ho | ⟨o1,o2⟩
  ·have:=zow ho (show bh<al by omega)
   omega
  ·have:=zgP (n:=n) (show 0≤bh by omega) (show bh<al by omega) hn
   omega
theorem zri {z x:Int×Int}{n g:Int}(hz:z.1≤z.2)(hx:x.1≤x.2)(hg:1≤g)(hn:2≤n):Sub x (bpS z x n g):=by
 have gp:(0:Int)<g^(n-1).toNat:=Vaz (by omega)
 have hzz:z.1*g^(n-1).toNat≤z.2*g^(n-1).toNat:=mlr hz (by omega)
 unfold bpS
 generalize g^(n-1).toNat=G at gp hzz
 generalize z.1*G=lo at hzz
 generalize z.2*G=hi at hzz
 have hn1:1≤n.toNat:=by omega
 split
 ·have ho:n.toNat%2=1:=by omega
  have r1:=(zlr (N:=lo) hn1 (.inl ho)).1
  have r2:=(zlr (N:=hi) hn1 (.inl ho)).1
  exact zoi hx r1.ab.1 r2.ab.1 (zpK hn1 (.inl ho) r1 r2 hzz)
 ·split
  ·exact λp e=>by cases e
  ·have m0:0≤mx0 lo:=zb4 lo
   have r1:=zlr (N:=mx0 lo) hn1 (.inr m0)
   have r2:=zlr (N:=hi) hn1 (.inr (by omega))
   have le:mx0 lo≤hi:=zk8 hzz (by omega)
   have k:=zpK hn1 (.inr ⟨r1.2 m0,r2.2 (by omega)⟩) r1.1 r2.1 le
   have a1:=r1.1.ab.1
   have a2:=r2.1.ab.1
   refine zu7 (zoi hx a1 a2 k) (zoi hx ?_ ?_ ?_)
   ·show -(rtS hi n.toNat).2≤-(rtS hi n.toNat).1
    omega
   ·show -(rtS (mx0 lo) n.toNat).2≤-(rtS (mx0 lo) n.toNat).1
    omega
   ·show -(rtS hi n.toNat).2≤-(rtS (mx0 lo) n.toNat).1
    omega
theorem zdf {p q:Int×Int}:Sub p (za6 p q):=λr e=>by
 refine⟨zxY e,?_⟩
 unfold za6 at e
 have go:∀lo hi:Int,p.1≤lo→hi≤p.2→(if hi<lo then none else some (lo,hi))=some r→p.1≤r.1∧r.2≤p.2:=λlo hi a b e=>by
  split at e
  ·cases e
  ·cases e
   exact⟨a,b⟩
 refine go _ _ ?_ ?_ e
 ·split <;> omega
 ·split <;> omega
noncomputable def Nd.bk (vs:List (Int×Int))(z:Int×Int)(g:Int):Nd→Option (List (Int×(Int×Int)))
 | .plus i j=>bk2 i j (za6 (gt vs i) (z.1-(gt vs j).2,z.2-(gt vs j).1)) λx=>za6 (if i=j then x else gt vs j) (z.1-x.2,z.2-x.1)
 | .minus i j=>bk2 i j (za6 (gt vs i) (z.1+(gt vs j).1,z.2+(gt vs j).2)) λx=>za6 (if i=j then x else gt vs j) (x.1-z.2,x.2-z.1)
 | .times i j=>bk2 i j (btS z (gt vs i) (gt vs j) g) λx=>btS z (if i=j then x else gt vs j) x g
 | .power i n=>match bpS z (gt vs i) n g with
  | none=>none
  | some x=>some [(i,x)]
 | _=>some []
theorem Sz.in2 {B:Nat}{x p:Int×Int}(h1:Sz B x.1)(h2:Sz B x.2)(h:p.1≤p.2∧x.1≤p.1∧p.2≤x.2):p.1≤p.2∧Sz B p.1∧Sz B p.2:=⟨h.1,Sz.mid h1 h2 h.2.1 (by omega),Sz.mid h1 h2 (by omega) h.2.2⟩
def Pts (B:Nat)(m:Int)(l:List (Int×(Int×Int))):Prop:=l.length≤2∧∀p∈l,inR m p.1∧p.2.1≤p.2.2∧Sz B p.2.1∧Sz B p.2.2
theorem znJ {B:Nat}{vs:List (Int×Int)}{i j:Int}{f:Option (Int×Int)}{s:Int×Int→Option (Int×Int)}{l:List (Int×(Int×Int))}(hs:Spn B vs)(hi:inR vs.length i)(hj:inR vs.length j)(h1:Sub (gt vs i) f)(h2:∀x,f=some x→Sub (if i=j then x else gt vs j) (s x))(h:bk2 i j f s=some l):Pts B vs.length l:=by
 unfold bk2 at h
 split at h
 ·cases h
 ·rename_i x
  split at h
  ·cases h
  ·rename_i y ey
   cases h
   have a:=(hs.at hi).2
   have b:=(hs.at hj).2
   have zx:=Sz.in2 a.1 a.2 (h1 x rfl)
   have zy:y.1≤y.2∧Sz B y.1∧Sz B y.2:=by
    have q:=h2 x rfl y ey
    split at q
    ·exact Sz.in2 zx.2.1 zx.2.2 q
    ·exact Sz.in2 b.1 b.2 q
   refine⟨by simp,λp hp=>?_⟩
   simp only[Vaf,Vay,or_false] at hp
   rcases hp with rfl | rfl
   ·exact⟨hi,zx⟩
   ·exact⟨hj,zy⟩
theorem Nd.bk_pts {B:Nat}{vs:List (Int×Int)}{z:Int×Int}{g q:Int}(hs:Spn B vs)(hz:z.1≤z.2)(hg:1≤g):∀(v:Nd) (l:List (Int×(Int×Int))),v.ok vs.length q→v.bk vs z g=some l→Pts B vs.length l
 | .number _ _,l,_,h=>by cases h; exact⟨by simp,λp hp=>nomatch hp⟩
 | .unknown _,l,_,h=>by cases h; exact⟨by simp,λp hp=>nomatch hp⟩
 | .plus i j,l,ok,h=>znJ hs ok.1 ok.2 zdf (λx _=>zdf) h
 | .minus i j,l,ok,h=>znJ hs ok.1 ok.2 zdf (λx _=>zdf) h
 | .times i j,l,ok,h=>by
  have a:=(hs.at ok.1).1
  have b:=(hs.at ok.2).1
  have s1:=zgg (z:=z) (x:=gt vs i) (y:=gt vs j) hz a b hg
  refine znJ hs ok.1 ok.2 s1 (λx e=>?_) h
  have lx:=(s1 x e).1
  refine zgg hz ?_ lx hg
  split
  ·exact lx
  ·exact b
 | .power i n,l,ok,h=>by
  have a:=hs.at ok.1
  have s1:=zri (z:=z) (x:=gt vs i) (n:=n) hz a.1 hg ok.2.1
  unfold Nd.bk at h
  dsimp only at h
  split at h
  ·cases h
  ·rename_i x ex
   cases h
   refine⟨by simp,λp hp=>?_⟩
   simp only[Vaf,Vay,or_false] at hp
   subst hp
   exact⟨ok.1,Sz.in2 a.2.1 a.2.2 (s1 x ex)⟩
def zbY (vs:List (Int×Int))(l:List (Int×(Int×Int))):List (Int×Int):=l.foldl (λa p=>a.set p.1.toNat p.2) vs
theorem zvs (vs:List (Int×Int))(l:List (Int×(Int×Int)))(p:Int×(Int×Int)):zbY vs (l++[p])=(zbY vs l).set p.1.toNat p.2:=by
 unfold zbY
 rw[List.foldl_append]
 rfl
theorem zeb:∀(l:List (Int×(Int×Int))) (vs:List (Int×Int)),(zbY vs l).length=vs.length
 | [],vs=>rfl
 | p::r,vs=>by
  show (zbY (vs.set p.1.toNat p.2) r).length=_
  rw[zeb r,VaA]
theorem zha {vs:List (Int×Int)}{k:Int}{i:Int}{p:Int×Int}(hi:inR vs.length i)(hk:inR vs.length k):gt (vs.set k.toNat p) i=if i=k then p else gt vs i:=by
 have h0:=hi.1
 have h1:=hi.2
 have k0:=hk.1
 unfold gt
 rw[Vap,Vap,List.getElem?_set]
 by_cases e:i=k
 ·subst e
  rw[if_pos rfl,if_pos (by omega),if_pos rfl]
  rfl
 ·rw[if_neg (by omega),if_neg e]
theorem Spn.set2 {B:Nat}{vs:List (Int×Int)}(h:Spn B vs){k:Nat}{u:Int×Int}(hu:u.1≤u.2∧Sz B u.1∧Sz B u.2):Spn B (vs.set k u):=λp hp=>by
 rcases List.mem_or_eq_of_mem_set hp with e | e
 ·exact h p e
 ·subst e; exact hu
theorem zl4 {B:Nat}:∀(l:List (Int×(Int×Int))) (vs:List (Int×Int)),Spn B vs→(∀p∈l,p.2.1≤p.2.2∧Sz B p.2.1∧Sz B p.2.2)→Spn B (zbY vs l)
 | [],vs,h,_=>h
 | p::r,vs,h,hl=>zl4 r _ (h.set2 (hl p (.head _))) λq hq=>hl q (.tail _ hq)
theorem InW.set {g:Int}{vs ds:List (Int×Int)}{k:Int}{p:Int×Int}(h:InW g vs ds)(ln:vs.length=ds.length)(hk:inR vs.length k)(hp:InF p g (gt ds k).1 (gt ds k).2):InW g (vs.set k.toNat p) ds:=λi hi=>by
 rw[zha (by rw[ln]; exact hi) hk]
 split
 ·rename_i e; subst e; exact hp
 ·exact h i hi
noncomputable def zca (g:Int)(ns:List Nd):Nat→List (Int×Int)→Option (List (Int×Int))
 | 0,vs=>some vs
 | k+1,vs=>match ns[k]? with
  | none=>none
  | some v=>match v.bk vs (gt vs (k:Int)) g with
   | none=>none
   | some l=>zca g ns k (zbY vs l)
theorem zn0 {g:Int}{ns:List Nd}{k:Nat}{vs:List (Int×Int)}{v:Nd}(hv:ns[k]?=some v)(h:v.bk vs (gt vs (k:Int)) g=none):zca g ns (k+1) vs=none:=by
 unfold zca
 rw[hv]
 dsimp only
 rw[h]
theorem zo4 {g:Int}{ns:List Nd}{k:Nat}{vs:List (Int×Int)}{v:Nd}{l:List (Int×(Int×Int))}(hv:ns[k]?=some v)(h:v.bk vs (gt vs (k:Int)) g=some l):zca g ns (k+1) vs=zca g ns k (zbY vs l):=by
 conv=>lhs; unfold zca
 rw[hv]
 dsimp only
 rw[h]
def zfJ (zero:Bool)(s:Int×Int):Option (Int×Int):=za6 s (if zero then (0,0) else (0,mx0 s.2))
noncomputable def sbS (ns:List Nd)(zero:Bool)(k:Nat)(bs:List (Int×Int))(g:Int):Option (List (Int×Int)):=match zfJ zero (gt (zaE bs g (ns.take (k+1))) (k:Int)) with
 | none=>none
 | some w=>zca g ns (k+1) ((zaE bs g (ns.take (k+1))).set k w)
def zb2 (bs:List (Int×Int))(l:List (Nd×(Int×Int))):List (Int×Int):=l.foldl (λa p=>match p.1 with
 | .unknown u=>a.set u.toNat p.2
 | _=>a) bs
theorem zpL (bs:List (Int×Int))(l:List (Nd×(Int×Int)))(p:Nd×(Int×Int)):zb2 bs (l++[p])=match p.1 with
 | .unknown u=>(zb2 bs l).set u.toNat p.2
 | _=>zb2 bs l:=by
 unfold zb2
 rw[List.foldl_append]
 rfl
noncomputable def nwS (ns:List Nd)(zero:Bool)(k:Nat)(bs:List (Int×Int))(g:Int):Option (List (Int×Int)):=(sbS ns zero k bs g).map λus=>zb2 bs (ns.zip us)
theorem zo0 {q:Nat}{ns:List Nd}{ws:List Nat}{bs us:List (Int×Int)}(net:zaF q ns ws)(hq:q=bs.length)(P:Int→Int×Int→Prop)(h0:∀i:Int,inR bs.length i→P i (gt bs i))(hu:∀(k:Nat) (u:Int),ns[k]?=some (.unknown u)→k<us.length→P u (gt us (k:Int))):∀k,k≤(ns.zip us).length→(zb2 bs ((ns.zip us).take k)).length=bs.length∧∀i:Int,inR bs.length i→P i (gt (zb2 bs ((ns.zip us).take k)) i):=by
 intro k
 induction k with
 | zero=>intro _; exact⟨rfl,h0⟩
 | succ k ih=>
  intro hk
  obtain⟨ln,ih⟩:=ih (by omega)
  have hl:k<ns.length∧k<us.length:=by rw[List.length_zip] at hk; omega
  have hz:(ns.zip us)[k]?=some (ns[k],us[k]):=by rw[Vag (by omega)]; simp
  have hv:ns[k]?=some ns[k]:=Vag hl.1
  have eu:us[k]=gt us (k:Int):=by simp[gt,hl.2]
  rw[zce hz,zpL]
  dsimp only
  generalize ns[k]=v at hv
  cases v with
  | unknown u=>
   dsimp only
   have ok:inR q u:=(net.ok k _ hv).1
   rw[hq] at ok
   refine⟨by rw[VaA]; exact ln,λi hi=>?_⟩
   rw[zha (by rw[ln]; exact hi) (by rw[ln]; exact ok)]
   split
   ·rename_i e
    subst e
    rw[eu]
    exact hu k i hv hl.2
   ·exact ih i hi
  | number _ _=>exact⟨ln,ih⟩
  | plus _ _=>exact⟨ln,ih⟩
  | minus _ _=>exact⟨ln,ih⟩
  | times _ _=>exact⟨ln,ih⟩
  | power _ _=>exact⟨ln,ih⟩
theorem zoX {q:Nat}{ns:List Nd}{ws:List Nat}{B:Nat}{g:Int}(net:zaF q ns ws)(hg:1≤g):∀(k:Nat) (vs us:List (Int×Int)),k≤vs.length→Spn B vs→zca g ns k vs=some us→us.length=vs.length∧Spn B us
 | 0,vs,us,_,hs,e=>by cases e; exact⟨rfl,hs⟩
 | k+1,vs,us,hk,hs,e=>by
  cases hv:ns[k]? with
  | none=>
   unfold zca at e
   rw[hv] at e
   cases e
  | some v=>
   have ok:v.ok vs.length q:=zog (by omega) (net.ok k v hv).1
   have ik:inR ((vs.length:Nat):Int) (k:Int):=⟨by omega,by omega⟩
   cases el:v.bk vs (gt vs (k:Int)) g with
   | none=>rw[zn0 hv el] at e; cases e
   | some l=>
    have P:=v.bk_pts hs (hs.at ik).1 hg l ok el
    rw[zo4 hv el] at e
    have z:=zoX net hg k (zbY vs l) us (by rw[zeb]; omega) (zl4 l vs hs λp hp=>(P.2 p hp).2) e
    rw[zeb] at z
    exact z
theorem zkQ {zero:Bool}{s:Int×Int}:Sub s (zfJ zero s):=zdf
theorem zw0 {B:Nat}{vs:List (Int×Int)}(h:∀i:Int,inR vs.length i→(gt vs i).1≤(gt vs i).2∧Sz B (gt vs i).1∧Sz B (gt vs i).2):Spn B vs:=λp hp=>by
 obtain⟨k,hk,e⟩:=VaJ.mp hp
 have z:=h (k:Int) ⟨by omega,by omega⟩
 have e2:gt vs (k:Int)=p:=by simp[gt,hk,e]
 rw[e2] at z
 exact z
theorem zvR {vs:List (Int×Int)}(h:Spn 51 vs):Spn 1000 vs:=h.mono (by decide)
theorem znc {ns:List Nd}{ws:List Nat}{zero:Bool}{k:Nat}{bs r:List (Int×Int)}{g:Int}(net:zaF bs.length ns ws)(gp:Spn 51 bs)(hg:1≤g∧g≤1000000)(hk:k<ns.length)(e:nwS ns zero k bs g=some r):r.length=bs.length∧Spn 1000 r:=by
 unfold nwS at e
 obtain⟨us,eu,er⟩:=Vaq.mp e
 have s1:Spn 1000 (zaE bs g (ns.take (k+1))):=zex net rfl gp hg (k+1) (by omega)
 have l1:(zaE bs g (ns.take (k+1))).length=k+1:=by rw[zcd,Vah]; omega
 unfold sbS at eu
 split at eu
 ·cases eu
 ·rename_i w ew
  have a:=s1.at (i:=(k:Int)) ⟨by omega,by rw[l1]; omega⟩
  have zw:=Sz.in2 a.2.1 a.2.2 (zkQ w ew)
  obtain⟨lu,su⟩:=zoX net hg.1 (k+1) _ us (by rw[VaA,l1]; omega) (s1.set2 zw) eu
  rw[VaA,l1] at lu
  have lz:(ns.zip us).length=k+1:=by rw[List.length_zip]; omega
  obtain⟨lr,P⟩:=zo0 net rfl (us:=us) (bs:=bs) (λ_ p=>p.1≤p.2∧Sz 1000 p.1∧Sz 1000 p.2) (λi hi=>(zvR gp).at hi) (λj u _ hj=>su.at ⟨by omega,by omega⟩) (ns.zip us).length (Vab _)
  rw[VaK] at lr P
  subst er
  exact⟨lr,zw0 λi hi=>P i (by rw[← lr]; exact hi)⟩
theorem zq2 {ns:List Nd}{ws:List Nat}{zero:Bool}{k:Nat}{bs us:List (Int×Int)}{g:Int}(net:zaF bs.length ns ws)(gp:Spn 51 bs)(hg:1≤g∧g≤1000000)(hk:k<ns.length)(eu:sbS ns zero k bs g=some us):us.length=k+1:=by
 have s1:Spn 1000 (zaE bs g (ns.take (k+1))):=zex net rfl gp hg (k+1) (by omega)
 have l1:(zaE bs g (ns.take (k+1))).length=k+1:=by rw[zcd,Vah]; omega
 unfold sbS at eu
 split at eu
 ·cases eu
 ·rename_i w ew
  have a:=s1.at (i:=(k:Int)) ⟨by omega,by rw[l1]; omega⟩
  have zw:=Sz.in2 a.2.1 a.2.2 (zkQ w ew)
  obtain⟨lu,su⟩:=zoX net hg.1 (k+1) _ us (by rw[VaA,l1]; omega) (s1.set2 zw) eu
  rw[VaA,l1] at lu
  exact lu
theorem zs3 {ns:List Nd}{us:List (Int×Int)}{i:Nat}{v:Nd}{p:Int×Int}(h1:ns[i]?=some v)(h2:us[i]?=some p):(ns.zip us)[i]?=some (v,p):=by
 obtain⟨a1,rfl⟩:=Vac.mp h1
 obtain⟨a2,rfl⟩:=Vac.mp h2
 rw[Vag (by rw[List.length_zip]; omega)]
 simp
def rwW (zero:Bool)(w:Str):Prop:=zero=true∧w="zero"∨zero=false∧w="least"
def Hv (hv:Nat)(ws:List Nat):Prop:=∀k:Nat,ws.getD k 0≤hv
theorem zy0 {hv:Nat}(h:1≤hv)(ns:List Nd):Hv hv (ns.map λ_=>1):=λk=>by
 rw[Vap,Vai]
 cases ns[k]? with
 | none=>exact Vao _
 | some _=>exact h
theorem zqQ {hv w:Nat}{ws:List Nat}(h:Hv hv ws)(hw:w≤hv):Hv hv (ws++[w]):=λk=>by
 by_cases c:k<ws.length
 ·rw[znE c]
  exact h k
 ·rw[Vap,VaO (by omega)]
  match k-ws.length with
  | 0=>exact hw
  | j+1=>exact Vao _
theorem Gr.pre {q a:Nat}{S T:Sto}{ns:List Nd}{ws:List Nat}(net:zaF q ns ws)(h:S[a]?=some (.lst (ns.map Nd.d)))(pr:Pre S T)(hl:S.length≤T.length):Gr q a 0 S ns ws T ns ws:=⟨net,⟨[],by simp,by simp⟩,⟨[],by simp⟩,pr _ _ h,hl,λx o _ e=>pr x o e⟩
def Ptn (g:Int)(bs qs:List (Int×Int)):Prop:=qs.length=bs.length∧Gd 110 qs∧InW g bs qs
def zfa (g:Int)(bs:List (Int×Int))(L:Nat)(S:Sto)(ys:List D):Prop:=∀y∈ys,∃(m:Nat) (qs:List (Int×Int)),y=.ref m∧m≠L∧S[m]?=some (.lst (qs.map frD))∧Ptn g bs qs
theorem zfa.up {g:Int}{bs:List (Int×Int)}{L:Nat}{S T:Sto}{ys:List D}(h:zfa g bs L S ys)(pr:Pre S T):zfa g bs L T ys:=λy hy=>by
 obtain⟨m,qs,e,n,hm,p⟩:=h y hy
 exact⟨m,qs,e,n,pr _ _ hm,p⟩
theorem zfa.snoc {g:Int}{bs qs:List (Int×Int)}{L m:Nat}{S:Sto}{ys:List D}{o:Ob}(h:zfa g bs L S ys)(n:m≠L)(hm:S[m]?=some (.lst (qs.map frD)))(p:Ptn g bs qs):zfa g bs L (S.set L o) (ys++[.ref m]):=λy hy=>by
 rcases VaR.mp hy with z | z
 ·obtain⟨m,qs,e,n,hm,p⟩:=h y z
  exact⟨m,qs,e,n,zaU hm (Ne.symm n),p⟩
 ·exact⟨m,qs,VaP.mp z,n,zaU hm (Ne.symm n),p⟩
def zcK (o:Option (List (Int×Int)))(L:Nat)(S:Sto)(fd:D):Prop:=(fd=.non∧o=none)∨∃(r:List (Int×Int)) (mf:Nat),fd=.ref mf∧o=some r∧S[mf]?=some (.lst (r.map frD))∧L≤mf
theorem nine {i:Int}(h:(if i<0 then -i else i)<10^Int.toNat 9):i.natAbs≤10^9:=by
 have e:(10:Int)^Int.toNat 9=1000000000:=rfl
 split at h <;> omega
theorem zqn {u:Int}(h:u<10^Int.toNat 9):u≤10^9:=by
 have e:(10:Int)^Int.toNat 9=1000000000:=rfl
 omega
theorem zuX (hv:Nat):Hv hv []:=λk=>by simp
theorem zgE {S T:Sto}(h:Pre S T):S.length≤T.length:=by
 by_cases c:S.length≤T.length
 ·exact c
 ·have e:=h T.length _ (Vag (by omega))
  have:=(Vac.mp e).1
  omega
structure Ct where
 k:Nat
 p:Int
 s:Bool
def Ct.d (c:Ct):D:=.tup [.int (c.k:Int),.int c.p,.int (if c.s then 1 else 0)]
def brS (zero:Bool)(s:Int×Int):Bool:=if zero then decide (0<s.1)||decide (s.2<0) else decide (s.2<0)
def ibS (ns:List Nd)(zero:Bool)(k:Nat)(bs:List (Int×Int))(g:Int):Bool:=brS zero (gt (zaE bs g (ns.take (k+1))) (k:Int))
def Ct.off (c:Ct)(s:Int×Int):Int×Int:=if c.s then (c.p,s.2) else (s.1,c.p)
def Ct.back (c:Ct)(s:Int×Int):Int×Int:=if c.s then (s.1,c.p) else (c.p,s.2)
def isS (ns:List Nd)(zero:Bool)(k:Nat)(g:Int)(bs:List (Int×Int))(c:Ct):Bool:=(decide ((gt bs (c.k:Int)).1<c.p)&&decide (c.p<(gt bs (c.k:Int)).2))&&ibS ns zero k (bs.set c.k (c.off (gt bs (c.k:Int)))) g
def ctP (bs:List (Int×Int))(c:Ct):List (Int×Int):=bs.set c.k (c.back (gt bs (c.k:Int)))
def zaJ (ns:List Nd)(zero:Bool)(k:Nat)(g:Int)(a:List Ct×List (Int×Int))(c:Ct):List Ct×List (Int×Int):=if isS ns zero k g a.2 c then (a.1++[c],ctP a.2 c) else a
def cand (i:Nat)(s:Int×Int):List Ct:=[⟨i,s.1-1,false⟩,⟨i,s.2+1,true⟩]
def shN (ns:List Nd)(zero:Bool)(k:Nat)(g:Int)(bs:List (Int×Int)):List (Int×Int)→Nat→List Ct×List (Int×Int)
 | _,0=>([],bs)
 | r,i+1=>(cand i (gt r (i:Int))).foldl (zaJ ns zero k g) (shN ns zero k g bs r i)
noncomputable def shS (ns:List Nd)(zero:Bool)(k:Nat)(bs:List (Int×Int))(g:Int):List Ct×Option (List (Int×Int)):=
 if ibS ns zero k bs g then ([],none) else match nwS ns zero k bs g with
  | none=>([],some bs)
  | some r=>((shN ns zero k g bs r r.length).1,some (shN ns zero k g bs r r.length).2)
def ctA (bs:List (Int×Int))(cs:List Ct):List (Int×Int):=cs.foldl ctP bs
theorem zx9 (bs:List (Int×Int))(cs:List Ct)(c:Ct):ctA bs (cs++[c])=ctP (ctA bs cs) c:=by
 unfold ctA
 rw[List.foldl_append]
 rfl
def Ct.ix (c:Ct):Nat:=2*c.k+(if c.s then 1 else 0)
structure zdF (ns:List Nd)(zero:Bool)(k:Nat)(g:Int)(bs:List (Int×Int))(n:Nat)(q:List Ct×List (Int×Int)):Prop where
 left:q.2=ctA bs q.1
 len:q.2.length=bs.length
 spn:Spn 51 q.2
 is:∀(i:Nat) (c:Ct),q.1[i]?=some c→isS ns zero k g (ctA bs (q.1.take i)) c=true∧c.k<bs.length
 lt:∀c∈q.1,c.ix<n
 ord:∀(i j:Nat) (c d:Ct),i<j→q.1[i]?=some c→q.1[j]?=some d→c.ix<d.ix
 few:q.1.length≤n
theorem zqN {ns:List Nd}{zero:Bool}{k:Nat}{g:Int}{bs:List (Int×Int)}{c:Ct}(h:isS ns zero k g bs c=true):(gt bs (c.k:Int)).1<c.p∧c.p<(gt bs (c.k:Int)).2:=by
 unfold isS at h
 simp only[Bool.and_eq_true,decide_eq_true_eq] at h
 exact h.1
theorem zjs {c:Ct}{s:Int×Int}(h1:s.1<c.p)(h2:c.p<s.2)(z1:Sz 51 s.1)(z2:Sz 51 s.2):((c.back s).1≤(c.back s).2∧Sz 51 (c.back s).1∧Sz 51 (c.back s).2)∧(c.off s).1≤(c.off s).2∧Sz 51 (c.off s).1∧Sz 51 (c.off s).2:=by
 have zp:Sz 51 c.p:=Sz.mid z1 z2 (by omega) (by omega)
 unfold Ct.back Ct.off
 cases c.s with
 | true=>exact⟨⟨by show s.1≤c.p; omega,z1,zp⟩,by show c.p≤s.2; omega,zp,z2⟩
 | false=>exact⟨⟨by show c.p≤s.2; omega,zp,z2⟩,by show s.1≤c.p; omega,z1,zp⟩
theorem zdF.step {ns:List Nd}{zero:Bool}{k n:Nat}{g:Int}{bs:List (Int×Int)}{q:List Ct×List (Int×Int)}(h:zdF ns zero k g bs n q){c:Ct}(hc:c.k<bs.length)(hn:c.ix=n):zdF ns zero k g bs (n+1) (zaJ ns zero k g q c):=by
 unfold zaJ
 split
 ·rename_i e
  have ik:inR ((q.2.length:Nat):Int) (c.k:Int):=⟨by omega,by have:=h.len; omega⟩
  have a:=h.spn.at ik
  have b:=zqN e
  refine⟨by rw[zx9,← h.left],by show (q.2.set _ _).length=_; rw[VaA]; exact h.len,h.spn.set2 (zjs b.1 b.2 a.2.1 a.2.2).1,λi d hd=>?_,λd hd=>?_,λi j x y hij hx hy=>?_,by show (q.1++[c]).length≤_; rw[Van]; have:=h.few; simp; omega⟩
  ·show isS ns zero k g (ctA bs ((q.1++[c]).take i)) d=true∧_
   by_cases hi:i<q.1.length
   ·have hd2:(q.1++[c])[i]?=some d:=hd
    rw[Vak hi] at hd2
    rw[List.take_append_of_le_length (by omega)]
    exact h.is i d hd2
   ·have hd2:(q.1++[c])[i]?=some d:=hd
    have hl:=(Vac.mp hd2).1
    simp only[Van,VaC,VaT] at hl
    have ei:i=q.1.length:=by omega
    subst ei
    simp at hd2
    subst hd2
    rw[List.take_append_of_le_length (Vab _),VaK,← h.left]
    exact⟨e,hc⟩
  ·have hd2:d∈q.1++[c]:=hd
   rcases VaR.mp hd2 with z | z
   ·have:=h.lt d z
    omega
   ·cases VaP.mp z
    omega
  ·have hx2:(q.1++[c])[i]?=some x:=hx
   have hy2:(q.1++[c])[j]?=some y:=hy
   have hl:=(Vac.mp hy2).1
   simp only[Van,VaC,VaT] at hl
   rw[Vak (by omega)] at hx2
   by_cases hj:j<q.1.length
   ·rw[Vak hj] at hy2
    exact h.ord i j x y hij hx2 hy2
   ·have ej:j=q.1.length:=by omega
    subst ej
    simp at hy2
    subst hy2
    have:=h.lt x (Vat hx2)
    omega
 ·exact⟨h.left,h.len,h.spn,h.is,λd hd=>by have:=h.lt d hd; omega,h.ord,by have:=h.few; omega⟩
theorem zgD {ns:List Nd}{zero:Bool}{k:Nat}{g:Int}{bs r:List (Int×Int)}(sb:Spn 51 bs)(lr:r.length=bs.length):∀i,i≤r.length→zdF ns zero k g bs (2*i) (shN ns zero k g bs r i)
 | 0,_=>⟨rfl,rfl,sb,λi c hc=>by simp[shN] at hc,λc hc=>by simp[shN] at hc,λi j c d _ hc=>by simp[shN] at hc,Vab _⟩
 | i+1,hi=>by
  have ih:=zgD (ns:=ns) (zero:=zero) (k:=k) (g:=g) sb lr i (by omega)
  have s1:=ih.step (c:=⟨i,(gt r (i:Int)).1-1,false⟩) (by show i<_; omega) (by show 2*i+0=_; omega)
  exact s1.step (c:=⟨i,(gt r (i:Int)).2+1,true⟩) (by show i<_; omega) (by show 2*i+1=_; omega)
theorem ztZ {ns:List Nd}{ws:List Nat}{zero:Bool}{k:Nat}{bs:List (Int×Int)}{g:Int}(net:zaF bs.length ns ws)(gp:Spn 51 bs)(hg:1≤g∧g≤1000000)(hk:k<ns.length)(e:ibS ns zero k bs g=false):∃left,(shS ns zero k bs g).2=some left∧zdF ns zero k g bs (2*bs.length) ((shS ns zero k bs g).1,left):=by
 unfold shS
 rw[e]
 cases hn:nwS ns zero k bs g with
 | none=>exact⟨bs,rfl,⟨rfl,rfl,gp,λi c hc=>by simp at hc,λc hc=>(by simp at hc),λi j c d _ hc=>by simp at hc,Vao _⟩⟩
 | some r=>
  obtain⟨lr,_⟩:=znc net gp hg hk hn
  have C:=zgD (ns:=ns) (zero:=zero) (k:=k) (g:=g) gp lr r.length (Vab _)
  rw[lr] at C
  refine⟨_,rfl,?_⟩
  show zdF ns zero k g bs (2*bs.length) (shN ns zero k g bs r r.length)
  rw[lr]
  exact C
theorem ztn {ns:List Nd}{zero:Bool}{k:Nat}{bs:List (Int×Int)}{g:Int}(e:ibS ns zero k bs g=true):shS ns zero k bs g=([],none):=by
 unfold shS
 rw[e]
 rfl
def zro (cs:List Ct):Nat→Int→Prop
 | 0,z=>z=-1
 | i+1,z=>∃c,cs[i]?=some c∧z=(c.ix:Int)
theorem zro.lt {ns:List Nd}{zero:Bool}{k n i:Nat}{g:Int}{bs:List (Int×Int)}{q:List Ct×List (Int×Int)}{c:Ct}{z:Int}(C:zdF ns zero k g bs n q)(h:zro q.1 i z)(hc:q.1[i]?=some c):z<(c.ix:Int):=by
 cases i with
 | zero=>
  have e:z=-1:=h
  omega
 | succ i=>
  obtain⟨d,hd,e⟩:=h
  have:=C.ord i (i+1) d c (by omega) hd hc
  omega
theorem zr1 {α:Type}{bs:List (Int×Int)}{k:Nat}{p:Int×Int}(h:k<bs.length):zaZ (bs.map frD) none (some (k:Int))++[frD p]++zaZ (bs.map frD) (some ((k:Int)+1)) none=(bs.set k p).map frD:=by
 rw[zhk (by omega) (by rw[Vaa]; omega),Vad]
 have e:zaZ (bs.map frD) (some ((k:Int)+1)) none=(bs.map frD).drop (k+1):=by
  unfold L3.zaZ
  have z:=HT.sIx_nat (bs.map frD).length 0 (k+1)
  rw[show (((k+1:Nat):Int))=(k:Int)+1 by omega] at z
  rw[z,HT.sIx_none,List.take_of_length_le (by rw[List.length_drop]; omega),Nat.min_eq_left (by rw[Vaa]; omega)]
 rw[e,List.set_eq_take_append_cons_drop,if_pos h,Vaw,Vas,List.map_take,List.map_drop,List.append_assoc]
 rfl
section
variable {X:Cx}{Z:Zx}{pos:Pos}
def Alk (S:Sto):Nat→D→D→Prop
 | 0,d,e=>eqF d e=some true
 | n+1,d,e=>Alk S n d e∨(∃xs ys,d=.tup xs∧e=.tup ys∧xs.length=ys.length∧∀(k:Nat) (x y:D),xs[k]?=some x→ys[k]?=some y→Alk S n x y)∨
  ∃a b xs ys,d=.ref a∧e=.ref b∧S[a]?=some (.lst xs)∧S[b]?=some (.lst ys)∧xs.length=ys.length∧∀(k:Nat) (x y:D),xs[k]?=some x→ys[k]?=some y→Alk S n x y
theorem zmX (n:Nat):(List.range n).all (λ_=>true)=true:=by simp
theorem zr6 {n:Nat}{A:Around}{pins:List (Addr×Obj)}{σ:L3.St}{H:Hp}{s:Shared}{r:List Addr}{S:Sto}(I:Inv X pins σ H s)(rel:Rel X.K Z r S H){a b:Nat}{xs ys:List D}{p p':Addr}(hp:r[a]?=some p)(hp':r[b]?=some p')(s1:S[a]?=some (.lst xs))(s2:S[b]?=some (.lst ys))(l:xs.length=ys.length)(hu:A.units<cLine)
  (f:∀ {d e:D} {v1 v2:V} {u1 u2:Value},Alk S n d e→Rp r H d v1→Rp r H e v2→zay v1 u1→zay v2 u2→SeqAt.EqAt A.in1 s u1 u2 true)(al:∀(k:Nat) (x y:D),xs[k]?=some x→ys[k]?=some y→Alk S n x y):SeqAt.RcAt A s (.ref p) (.ref p') true:=by
 obtain⟨z,hz,ob⟩:=rel.at s1
 rw[hp] at hz; cases hz
 obtain⟨z,hz,ob'⟩:=rel.at s2
 rw[hp'] at hz; cases hz
 obtain⟨vs,sq,pr⟩:=ob.list rfl
 obtain⟨ws,sq',pr'⟩:=ob'.list rfl
 obtain⟨is,ri,pl,_⟩:=I.list sq
 obtain⟨js,rj,pl',_⟩:=I.list sq'
 have g1:=ziW (P:=λS=>Alk S n) (S:=S) f pr pr' ri rj al
 have hs:is.toArray.size=js.toArray.size:=by
  have a1:=ri.length
  have a2:=rj.length
  have a3:=pr.1
  have a4:=pr'.1
  simp only[Vaj]
  show is.length=js.length
  have a3:xs.length=vs.length:=a3
  have a4:ys.length=ws.length:=a4
  omega
 have q:=SeqAt.RcAt.lists (A:=A) (e:=λ_=>true) pl.isList pl'.isList hs hu g1
 rw[zmX] at q
 exact q
theorem zgG:∀(n:Nat) {A:Around} {pins:List (Addr×Obj)} {σ:L3.St} {H:Hp} {s:Shared} {r:List Addr} {S:Sto} {d e:D} {v1 v2:V} {u1 u2:Value},Inv X pins σ H s→Rel X.K Z r S H→Alk S n d e→Rp r H d v1→Rp r H e v2→zay v1 u1→zay v2 u2→A.units+n<cLine→SeqAt.EqAt A s u1 u2 true
 | 0,A,pins,σ,H,s,r,S,d,e,v1,v2,u1,u2,I,rel,h,pd,pe,ru1,ru2,hu=>zmV 0 X pins σ H s r A d e v1 v2 u1 u2 true I hu pd pe ru1 ru2 h
 | n+1,A,pins,σ,H,s,r,S,d,e,v1,v2,u1,u2,I,rel,h,pd,pe,ru1,ru2,hu=>by
  rcases h with h | ⟨xs,ys,rfl,rfl,l,al⟩ | ⟨a,b,xs,ys,rfl,rfl,s1,s2,l,al⟩
  ·exact zgG n I rel h pd pe ru1 ru2 (by omega)
  ·cases pd with
   | @tup _ vs a h1 l1 f1=>
    cases pe with
    | @tup _ ws b h2 l2 f2=>
     cases ru1
     cases ru2
     by_cases hne:a=b
     ·subst hne
      exact SeqAt.EqAt.same _
     ·obtain⟨is,ri,pl,_⟩:=I.tuple (SqT.of h1)
      obtain⟨js,rj,pl',_⟩:=I.tuple (SqT.of h2)
      have g1:=ziW (P:=λS=>Alk S n) (S:=S) (A:=A.in1) (λh p q r1 r2=>zgG n I rel h p q r1 r2 (by show A.units+1+n<_; omega)) ⟨l1,f1⟩ ⟨l2,f2⟩ ri rj al
      have q:=SeqAt.RcAt.tuples (A:=A) (e:=λ_=>true) pl pl' (by omega) g1
      have hs:(is.toArray.size==js.toArray.size)=true:=by
       have a1:=ri.length
       have a2:=rj.length
       simp only[Vaj,beq_iff_eq]
       show is.length=js.length
       omega
      rw[zmX,hs] at q
      exact SeqAt.EqAt.of_refs hne q
  ·cases pd with
   | @ref _ p hp=>
    cases pe with
    | @ref _ p' hp'=>
     cases ru1
     cases ru2
     by_cases hne:p=p'
     ·subst hne
      exact SeqAt.EqAt.same _
     ·exact SeqAt.EqAt.of_refs hne (zr6 I rel hp hp' s1 s2 l (by omega) (λh p q r1 r2=>zgG n I rel h p q r1 r2 (by show A.units+1+n<_; omega)) al)
def wEqT:W2:=λx y S Q=>match x,y with
 | .tup xs,.tup ys=>(xs.length=ys.length∧∀(k:Nat) (x y:D),xs[k]?=some x→ys[k]?=some y→Alk S 5 x y)∧Q (.bl true) S
 | _,_=>False
theorem zkn {j:Nat}(hr:zaN j X.A):OpR X (compareOp .Eq) (upO X.K Z wEqT):=by
 have hu:=hr.un
 intro pins s σ H x y v u Qv I rx ry h
 obtain⟨r,S,dx,dy,Q,rel,px,py,q,ret⟩:=h
 cases px with
 | @tup _ vs a h1 l1 f1=>
  cases py with
  | @tup _ ws b h2 l2 f2=>
   cases rx
   cases ry
   obtain⟨⟨l,al⟩,q⟩:=(show (_∧_)∧_ from q)
   obtain⟨is,ri,pl,_⟩:=I.tuple (SqT.of h1)
   obtain⟨js,rj,pl',_⟩:=I.tuple (SqT.of h2)
   have g1:=ziW (P:=λS=>Alk S 5) (S:=S) (A:=X.A.in1) (λh p q r1 r2=>zgG 5 I rel h p q r1 r2 (by show X.A.units+1+5<_; omega)) ⟨l1,f1⟩ ⟨l2,f2⟩ ri rj al
   have q2:=SeqAt.RcAt.tuples (A:=X.A) (e:=λ_=>true) pl pl' (by omega) g1
   have hs:(is.toArray.size==js.toArray.size)=true:=by
    have a1:=ri.length
    have a2:=rj.length
    simp only[Vaj,beq_iff_eq]
    show is.length=js.length
    omega
   rw[zmX,hs] at q2
   exact q2 X.prog X.w X.xe _ ⟨.bl true,H,I,rfl,ret _ _ _ _ _ Ext.refl rel (.bl true) q⟩
  | _=>exact(show False from q).elim
 | _=>exact(show False from q).elim
end
theorem alk0 {S:Sto}{d e:D}(h:eqF d e=some true):∀n,Alk S n d e
 | 0=>h
 | n+1=>.inl (alk0 h n)
theorem zrt {S:Sto}{n:Nat}{xs:List D}(h:∀x∈xs,eqF x x=some true):Alk S (n+1) (.tup xs) (.tup xs):=.inr (.inl ⟨xs,xs,rfl,rfl,rfl,λk x y hx hy=>by
 rw[hx] at hy
 cases hy
 exact alk0 (h x (Vat hx)) n⟩)
theorem zqi (i:Int):eqF (.int i) (.int i)=some true:=by simp[eqF]
theorem zwR {S:Sto}{n:Nat}(p:Int×Int):Alk S (n+1) (frD p) (frD p):=zrt λx hx=>by
 simp only[Vaf,Vay,or_false] at hx
 rcases hx with rfl | rfl <;> exact zqi _
theorem zv7 {S:Sto}{n:Nat}(c:Ct):Alk S (n+1) c.d c.d:=zrt λx hx=>by
 simp only[Vaf,Vay,or_false] at hx
 rcases hx with rfl | rfl | rfl <;> exact zqi _
theorem zrc {S:Sto}{n a b:Nat}{α:Type}{f:α→D}{xs:List α}(hf:∀x,Alk S n (f x) (f x))(h1:S[a]?=some (.lst (xs.map f)))(h2:S[b]?=some (.lst (xs.map f))):Alk S (n+1) (.ref a) (.ref b):=.inr (.inr ⟨a,b,_,_,rfl,rfl,h1,h2,rfl,λk x y hx hy=>by
 rw[hx] at hy
 cases hy
 rw[Vai] at hx
 obtain⟨z,_,rfl⟩:=Vaq.mp hx
 exact hf z⟩)
section
variable {X:Cx}{Z:Zx}{pos:Pos}
def wNeT:W2:=λx y S Q=>match x,y with
 | .tup xs,.tup ys=>(xs.length=ys.length∧∀(k:Nat) (x y:D),xs[k]?=some x→ys[k]?=some y→Alk S 5 x y)∧Q (.bl false) S
 | _,_=>False
theorem znv {j:Nat}(hr:zaN j X.A):OpR X (compareOp .NotEq) (upO X.K Z wNeT):=by
 have hu:=hr.un
 intro pins s σ H x y v u Qv I rx ry h
 obtain⟨r,S,dx,dy,Q,rel,px,py,q,ret⟩:=h
 cases px with
 | @tup _ vs a h1 l1 f1=>
  cases py with
  | @tup _ ws b h2 l2 f2=>
   cases rx
   cases ry
   obtain⟨⟨l,al⟩,q⟩:=(show (_∧_)∧_ from q)
   obtain⟨is,ri,pl,_⟩:=I.tuple (SqT.of h1)
   obtain⟨js,rj,pl',_⟩:=I.tuple (SqT.of h2)
   have g1:=ziW (P:=λS=>Alk S 5) (S:=S) (A:=X.A.in1) (λh p q r1 r2=>zgG 5 I rel h p q r1 r2 (by show X.A.units+1+5<_; omega)) ⟨l1,f1⟩ ⟨l2,f2⟩ ri rj al
   have q2:=SeqAt.RcNeAt.tuples (A:=X.A) (e:=λ_=>true) pl pl' (by omega) g1
   have hs:(is.toArray.size==js.toArray.size)=true:=by
    have a1:=ri.length
    have a2:=rj.length
    simp only[Vaj,beq_iff_eq]
    show is.length=js.length
    omega
   rw[zmX,hs] at q2
   exact q2 X.prog X.w X.xe _ ⟨.bl false,H,I,rfl,ret _ _ _ _ _ Ext.refl rel (.bl false) q⟩
  | _=>exact(show False from q).elim
 | _=>exact(show False from q).elim
end
def Wth (us vs:List (Int×Int)):Prop:=∀i:Int,inR us.length i→(gt us i).1≤(gt vs i).1∧(gt vs i).2≤(gt us i).2
theorem zoZ {vs:List (Int×Int)}{i j:Int}{f:Option (Int×Int)}{s:Int×Int→Option (Int×Int)}{l:List (Int×(Int×Int))}(h1:Sub (gt vs i) f)(h2:∀x,f=some x→Sub (if i=j then x else gt vs j) (s x))(h:bk2 i j f s=some l):∀p∈l,(gt vs p.1).1≤p.2.1∧p.2.2≤(gt vs p.1).2:=by
 unfold bk2 at h
 split at h
 ·cases h
 ·rename_i x
  split at h
  ·cases h
  ·rename_i y ey
   cases h
   have a:=h1 x rfl
   have b:=h2 x rfl y ey
   intro p hp
   simp only[Vaf,Vay,or_false] at hp
   rcases hp with rfl | rfl
   ·exact⟨a.2.1,a.2.2⟩
   ·split at b
    ·rename_i e
     subst e
     exact⟨by show (gt vs i).1≤y.1; omega,by show y.2≤(gt vs i).2; omega⟩
    ·exact⟨b.2.1,b.2.2⟩
theorem Nd.bk_wth {B:Nat}{vs:List (Int×Int)}{z:Int×Int}{g q:Int}(hs:Spn B vs)(hz:z.1≤z.2)(hg:1≤g):∀(v:Nd) (l:List (Int×(Int×Int))),v.ok vs.length q→v.bk vs z g=some l→∀p∈l,(gt vs p.1).1≤p.2.1∧p.2.2≤(gt vs p.1).2
 | .number _ _,l,_,h=>by cases h; exact λp hp=>nomatch hp
 | .unknown _,l,_,h=>by cases h; exact λp hp=>nomatch hp
 | .plus i j,l,ok,h=>zoZ zdf (λx _=>zdf) h
 | .minus i j,l,ok,h=>zoZ zdf (λx _=>zdf) h
 | .times i j,l,ok,h=>by
  have a:=(hs.at ok.1).1
  have b:=(hs.at ok.2).1
  have s1:=zgg (z:=z) (x:=gt vs i) (y:=gt vs j) hz a b hg
  refine zoZ s1 (λx e=>?_) h
  have lx:=(s1 x e).1
  refine zgg hz ?_ lx hg
  split
  ·exact lx
  ·exact b
 | .power i n,l,ok,h=>by
  have a:=hs.at ok.1
  have s1:=zri (z:=z) (x:=gt vs i) (n:=n) hz a.1 hg ok.2.1
  unfold Nd.bk at h
  dsimp only at h
  split at h
  ·cases h
  ·rename_i x ex
   cases h
   intro p hp
   simp only[Vaf,Vay,or_false] at hp
   subst hp
   exact⟨(s1 x ex).2.1,(s1 x ex).2.2⟩
theorem zrk {us:List (Int×Int)}:∀(l:List (Int×(Int×Int))) (vs:List (Int×Int)),Wth us vs→vs.length=us.length→(∀p∈l,inR us.length p.1∧(gt us p.1).1≤p.2.1∧p.2.2≤(gt us p.1).2)→Wth us (zbY vs l)
 | [],vs,h,_,_=>h
 | p::r,vs,h,ln,hl=>by
  refine zrk r _ (λi hi=>?_) (by rw[VaA]; exact ln) λq hq=>hl q (.tail _ hq)
  have hp:=hl p (.head _)
  rw[zha (by rw[ln]; exact hi) (by rw[ln]; exact hp.1)]
  split
  ·rename_i e
   subst e
   exact hp.2
  ·exact h i hi
theorem zqh {q:Nat}{ns:List Nd}{ws:List Nat}{B:Nat}{g:Int}{us:List (Int×Int)}(net:zaF q ns ws)(hg:1≤g):∀(k:Nat) (vs xs:List (Int×Int)),k≤vs.length→vs.length=us.length→Spn B vs→Wth us vs→zca g ns k vs=some xs→Wth us xs
 | 0,vs,xs,_,_,_,hw,e=>by cases e; exact hw
 | k+1,vs,xs,hk,ln,hs,hw,e=>by
  cases hv:ns[k]? with
  | none=>
   unfold zca at e
   rw[hv] at e
   cases e
  | some v=>
   have ok:v.ok vs.length q:=zog (by omega) (net.ok k v hv).1
   have ik:inR ((vs.length:Nat):Int) (k:Int):=⟨by omega,by omega⟩
   cases el:v.bk vs (gt vs (k:Int)) g with
   | none=>rw[zn0 hv el] at e; cases e
   | some l=>
    have P:=v.bk_pts hs (hs.at ik).1 hg l ok el
    have W:=v.bk_wth hs (hs.at ik).1 hg l ok el
    rw[zo4 hv el] at e
    refine zqh net hg k (zbY vs l) xs (by rw[zeb]; omega) (by rw[zeb]; exact ln) (zl4 l vs hs λp hp=>(P.2 p hp).2) (zrk l vs hw ln λp hp=>?_) e
    have a:=(P.2 p hp).1
    have b:=W p hp
    rw[ln] at a
    have c:=hw p.1 a
    exact⟨a,by omega,by omega⟩
theorem zxG {ns:List Nd}{bs:List (Int×Int)}{g u:Int}{k j:Nat}(hj:j<k)(hv:ns[j]?=some (.unknown u)):gt (zaE bs g (ns.take k)) (j:Int)=gt bs u:=by
 have hl:=(Vac.mp hv).1
 have e1:((zaE bs g (ns.take k)).take (j+1))=zaE bs g (ns.take (j+1)):=by
  rw[zvu _ _ _ _ (by rw[Vah]; omega),List.take_take,Nat.min_eq_left (by omega)]
 have e2:gt (zaE bs g (ns.take k)) (j:Int)=gt (zaE bs g (ns.take (j+1))) (j:Int):=by
  rw[← e1]
  exact(zxZ ⟨by omega,by omega⟩).symm
 rw[e2,zce hv,zff,zk3 (by rw[zcd,Vah]; omega)]
 rfl
theorem zwT {ns:List Nd}{ws:List Nat}{zero:Bool}{k:Nat}{bs r:List (Int×Int)}{g:Int}(net:zaF bs.length ns ws)(gp:Spn 51 bs)(hg:1≤g∧g≤1000000)(hk:k<ns.length)(e:nwS ns zero k bs g=some r):Wth bs r:=by
 unfold nwS at e
 obtain⟨us,eu,er⟩:=Vaq.mp e
 have s1:Spn 1000 (zaE bs g (ns.take (k+1))):=zex net rfl gp hg (k+1) (by omega)
 have l1:(zaE bs g (ns.take (k+1))).length=k+1:=by rw[zcd,Vah]; omega
 have lu:=zq2 net gp hg hk eu
 unfold sbS at eu
 split at eu
 ·cases eu
 ·rename_i w ew
  have ik:inR (((zaE bs g (ns.take (k+1))).length:Nat):Int) (k:Int):=⟨by omega,by rw[l1]; omega⟩
  have a:=s1.at ik
  have sw:=zkQ w ew
  have zw:=Sz.in2 a.2.1 a.2.2 sw
  have e1:(zaE bs g (ns.take (k+1))).set k w=(zaE bs g (ns.take (k+1))).set (k:Int).toNat w:=by rw[Vad]
  have W:=zqh (us:=zaE bs g (ns.take (k+1))) net hg.1 (k+1) _ us (by rw[VaA,l1]; omega) (by rw[VaA]) (s1.set2 zw) (λi hi=>by
   rw[e1,zha hi ik]
   split
   ·rename_i e
    subst e
    exact sw.2
   ·exact⟨VaD _,VaD _⟩) eu
  obtain⟨lr,P⟩:=zo0 net rfl (us:=us) (bs:=bs) (λi p=>(gt bs i).1≤p.1∧p.2≤(gt bs i).2) (λi hi=>⟨VaD _,VaD _⟩) (λj u hv hj=>by
   have z:=W (j:Int) ⟨by omega,by omega⟩
   rw[zxG (by omega) hv] at z
   exact z) (ns.zip us).length (Vab _)
  rw[VaK] at lr P
  subst er
  exact P
theorem gt_ne {vs:List (Int×Int)}{m j:Nat}{p:Int×Int}(h:m≠j):gt (vs.set m p) (j:Int)=gt vs (j:Int):=by
 simp only[gt,Vad,Vap,VaN h]
theorem zrp {ns:List Nd}{zero:Bool}{k:Nat}{g:Int}{q:List Ct×List (Int×Int)}{c:Ct}{j:Nat}(h:c.k≠j):gt (zaJ ns zero k g q c).2 (j:Int)=gt q.2 (j:Int):=by
 unfold zaJ
 split
 ·exact gt_ne h
 ·rfl
theorem znM {ns:List Nd}{zero:Bool}{k:Nat}{g:Int}{bs r:List (Int×Int)}:∀i j,i≤j→gt (shN ns zero k g bs r i).2 (j:Int)=gt bs (j:Int)
 | 0,j,_=>rfl
 | i+1,j,h=>by
  show gt (zaJ ns zero k g (zaJ ns zero k g (shN ns zero k g bs r i) ⟨i,_,false⟩) ⟨i,_,true⟩).2 (j:Int)=_
  rw[zrp (show i≠j by omega),zrp (show i≠j by omega)]
  exact znM i j (by omega)
theorem zrE {ns:List Nd}{zero:Bool}{k:Nat}{g:Int}{bs:List (Int×Int)}{c:Ct}(h1:(gt bs (c.k:Int)).1<c.p)(h2:c.p<(gt bs (c.k:Int)).2):isS ns zero k g bs c=ibS ns zero k (bs.set c.k (c.off (gt bs (c.k:Int)))) g:=by
 unfold isS
 rw[decide_eq_true h1,decide_eq_true h2]
 rfl
theorem zrH {ns:List Nd}{zero:Bool}{k:Nat}{g:Int}{bs:List (Int×Int)}{c:Ct}(h:¬ ((gt bs (c.k:Int)).1<c.p∧c.p<(gt bs (c.k:Int)).2)):isS ns zero k g bs c=false:=by
 cases e:isS ns zero k g bs c with
 | false=>rfl
 | true=>exact absurd (zqN e) h
theorem zvG {ns:List Nd}{zero:Bool}{k:Nat}{g:Int}{bs r:List (Int×Int)}{i:Nat}(W:Wth bs r)(sr:Spn 1000 r)(lr:r.length=bs.length)(hi:i<r.length):(gt r (i:Int)).1-1<(gt (shN ns zero k g bs r i).2 (i:Int)).2:=by
 rw[znM i i (Vab _)]
 have a:=W (i:Int) ⟨by omega,by omega⟩
 have b:=(sr.at (i:=(i:Int)) ⟨by omega,by omega⟩).1
 omega
theorem zyr {ns:List Nd}{zero:Bool}{k:Nat}{g:Int}{bs r:List (Int×Int)}{i:Nat}(W:Wth bs r)(sr:Spn 1000 r)(lr:r.length=bs.length)(hi:i<r.length)(sb:Spn 51 bs):(gt (zaJ ns zero k g (shN ns zero k g bs r i) ⟨i,(gt r (i:Int)).1-1,false⟩).2 (i:Int)).1<(gt r (i:Int)).2+1:=by
 have a:=W (i:Int) ⟨by omega,by omega⟩
 have b:=(sr.at (i:=(i:Int)) ⟨by omega,by omega⟩).1
 have s:=znM (ns:=ns) (zero:=zero) (k:=k) (g:=g) (bs:=bs) (r:=r) i i (Vab _)
 have C:=zgD (ns:=ns) (zero:=zero) (k:=k) (g:=g) sb lr i (by omega)
 unfold zaJ
 split
 ·show (gt ((shN ns zero k g bs r i).2.set i _) (i:Int)).1<_
  have e:=zha (vs:=(shN ns zero k g bs r i).2) (k:=(i:Int)) (i:=(i:Int)) (p:=Ct.back ⟨i,(gt r (i:Int)).1-1,false⟩ (gt (shN ns zero k g bs r i).2 (i:Int))) ⟨by omega,by rw[C.len]; omega⟩ ⟨by omega,by rw[C.len]; omega⟩
  rw[Vad,if_pos rfl] at e
  rw[e]
  show (gt r (i:Int)).1-1<_
  omega
 ·rw[s]
  omega
theorem zvj {cs:List Int}{i:Int}(h:inR cs.length i):atI (cs.map D.int) i=some (.int (cs.getD i.toNat 0)):=by
 obtain⟨h0,h1⟩:=h
 have hk:i.toNat<cs.length:=by omega
 have z:=zhP (xs:=cs.map D.int) (j:=i.toNat) (v:=.int (cs.getD i.toNat 0)) (by rw[Vai,Vag hk]; simp[hk])
 rw[show ((i.toNat:Nat):Int)=i by omega] at z
 exact z
theorem nn_of {xs:List D}(h:∀(k:Nat) (d:D),xs[k]?=some d→∃c:Int,d=.int c∧0≤c):∃cs:List Int,xs=cs.map D.int∧∀c∈cs,0≤c:=by
 induction xs with
 | nil=>exact⟨[],rfl,λc hc=>nomatch hc⟩
 | cons x xs ih=>
  obtain⟨c,rfl,hc⟩:=h 0 x rfl
  obtain⟨cs,rfl,hcs⟩:=ih λk d hd=>h (k+1) d hd
  exact⟨c::cs,rfl,λz hz=>by
   rcases Vaf.mp hz with e | e
   ·subst e; exact hc
   ·exact hcs z e⟩
theorem zox {cs:List Int}(h:∀c∈cs,0≤c)(i:Nat):0≤cs.getD i 0:=by
 rw[Vap]
 cases e:cs[i]? with
 | none=>exact VaD _
 | some c=>exact h c (Vat e)
theorem zyH {xs:List D}{lo hi:Option Int}{x:D}(h:x∈zaZ xs lo hi):x∈xs:=by
 unfold L3.zaZ at h
 exact List.mem_of_mem_drop (List.mem_of_mem_take h)
theorem zsg {a b c d:TDS}{E:zcl}{dl:Ev}{S:Sto}(W:Ev→Sto→Prop)(ha:∀nx:Ev→Sto→Prop,(∀dl' S',W dl' S'→nx dl' S')→zby a (zby b c) { nx:=nx,rt:=E.rt,bk:=E.bk,ct:=E.ct } dl S)(hb:∀dl' S',W dl' S'→d E dl' S'):zby a (zby b (zby c d)) E dl S:=ha _ hb
theorem zvC {a:TDS}{E:zcl}{dl:Ev}{S:Sto}(W:Ev→Sto→Prop)(ha:∀nx:Ev→Sto→Prop,(∀dl' S',W dl' S'→nx dl' S')→a { nx:=nx,rt:=E.rt,bk:=E.bk,ct:=E.ct } dl S)(hb:∀dl' S',W dl' S'→E.nx dl' S'):a E dl S:=ha _ hb
theorem zkG {ns:List Nd}{zero:Bool}{k:Nat}{g:Int}{q:List Ct×List (Int×Int)}{c:Ct}(h:isS ns zero k g q.2 c=true):zaJ ns zero k g q c=(q.1++[c],ctP q.2 c):=if_pos h
theorem zke {ns:List Nd}{zero:Bool}{k:Nat}{g:Int}{q:List Ct×List (Int×Int)}{c:Ct}(h:isS ns zero k g q.2 c=false):zaJ ns zero k g q c=q:=if_neg (by rw[h]; decide)
structure zbA (K:PySem.W.Frag)(mg:Str→Option Value) where
 C:Addr
 m:mg "Number"=some (.ref C)
 cl:Cls K C
 n_bottom:zbu K C "bottom"
 n_top:zbu K C "top"
 makes:PySem.W.makesIn K C=true
 kp:PySem.W.keepIn K (.ref C)=true
structure zbB (K:PySem.W.Frag)(mg:Str→Option Value) where
 C:Addr
 m:mg "Unknown"=some (.ref C)
 cl:Cls K C
 n_place:zbu K C "place"
 makes:PySem.W.makesIn K C=true
 kp:PySem.W.keepIn K (.ref C)=true
structure zbr (K:PySem.W.Frag)(mg:Str→Option Value) where
 C:Addr
 m:mg "Plus"=some (.ref C)
 cl:Cls K C
 n_other:zbu K C "other"
 n_one:zbu K C "one"
 makes:PySem.W.makesIn K C=true
 kp:PySem.W.keepIn K (.ref C)=true
structure zbt (K:PySem.W.Frag)(mg:Str→Option Value) where
 C:Addr
 m:mg "Minus"=some (.ref C)
 cl:Cls K C
 n_other:zbu K C "other"
 n_one:zbu K C "one"
 makes:PySem.W.makesIn K C=true
 kp:PySem.W.keepIn K (.ref C)=true
structure zbw (K:PySem.W.Frag)(mg:Str→Option Value) where
 C:Addr
 m:mg "Times"=some (.ref C)
 cl:Cls K C
 n_other:zbu K C "other"
 n_one:zbu K C "one"
 makes:PySem.W.makesIn K C=true
 kp:PySem.W.keepIn K (.ref C)=true
structure zbx (K:PySem.W.Frag)(mg:Str→Option Value) where
 C:Addr
 m:mg "Power"=some (.ref C)
 cl:Cls K C
 n_many:zbu K C "many"
 n_one:zbu K C "one"
 makes:PySem.W.makesIn K C=true
 kp:PySem.W.keepIn K (.ref C)=true
def zhd:Sd:=λds S Q ex=>match ds with
 | [.int _]=>∀g:Int,1≤g→g≤1000000→Q (.int g) S
 | _=>False
theorem zu1:Ln (zhd) 1:=λds S Q ex h=>by unfold zhd at h; split at h <;> first | rfl | exact h.elim
def zik:Sd:=λds S Q ex=>match ds with
 | [.int a,.int b]=>(0≤a∧0≤b)∧Q (.int ((Int.gcd a b:Nat):Int)) S
 | _=>False
theorem zsp:Ln (zik) 2:=λds S Q ex h=>by unfold zik at h; split at h <;> first | rfl | exact h.elim
def zdQ:Sd:=λds S Q ex=>match ds with
 | [.int T,.int B]=>(0<B∧Sz 4000 B)∧∀t b:Int,1≤b→Int.gcd t b=1→t*B=T*b→t.natAbs≤T.natAbs→b≤B→Q (.tup [.int t,.int b]) S
 | _=>False
theorem zvd:Ln (zdQ) 2:=λds S Q ex h=>by unfold zdQ at h; split at h <;> first | rfl | exact h.elim
def zhu:Sd:=λds S Q ex=>match ds with
 | [.ref b,.int g,.int _]=>∃bs:List (Int×Int),S[b]?=some (.lst (bs.map frD))∧Spn 51 bs∧(1≤g∧g≤1000000)∧bs.length≤4∧∀(T:Sto) (m:Nat) (ps:List (Int×Int)),Pre S T→S.length≤m→T[m]?=some (.lst (ps.map frD))→ps.length=bs.length→Gd 110 ps→InW g bs ps→Q (.ref m) T
 | _=>False
theorem zuT:Ln (zhu) 3:=λds S Q ex h=>by unfold zhu at h; split at h <;> first | rfl | exact h.elim
def zgK:Sd:=λds S Q ex=>match ds with
 | [.int _]=>∀t b:Int,(1≤b∧b≤10^9)→Int.gcd t b=1→t.natAbs≤10^9→Q (.tup [.str "number",.int t,.int b]) S
 | _=>False
theorem zyT:Ln (zgK) 1:=λds S Q ex h=>by unfold zgK at h; split at h <;> first | rfl | exact h.elim
def zgV:Sd:=λds S Q ex=>match ds with
 | [.int _,.int m,.int q]=>(0≤m∧m≤1000∧1≤q∧q≤4)∧∀v:Nd,v.ok m q→Q v.d S
 | _=>False
theorem zxy:Ln (zgV) 3:=λds S Q ex h=>by unfold zgV at h; split at h <;> first | rfl | exact h.elim
def zeB:Sd:=λds S Q ex=>match ds with
 | [d,.ref n]=>∃(v:Nd) (ws:List Nat) (q:Int),d=v.d∧S[n]?=some (Ob.lst (ws.map wtD))∧v.ok ws.length q∧(∀i:Int,inR ws.length i→ws.getD i.toNat 0≤16)∧Q (.int (v.wt ws:Nat)) S
 | _=>False
theorem zsd:Ln (zeB) 2:=λds S Q ex h=>by unfold zeB at h; split at h <;> first | rfl | exact h.elim
def zib:Sd:=λds S Q ex=>match ds with
 | [.ref c,.int q,.bl _,.int h16,.int most]=>∃(cs:List D) (qn hv:Nat),S[c]?=some (.lst cs)∧(∀x∈cs,∃i:Int,x=.int i)∧q=qn∧(1≤qn∧qn≤4)∧h16=(hv:Int)∧(1≤hv∧hv≤16)∧(1≤most∧most≤60)∧∀(ns:List Nd) (ws:List Nat) (T:Sto) (m:Nat),zaF qn ns ws→Hv hv ws→1≤ns.length→ns.length≤60→Pre S T→S.length≤m→T[m]?=some (.lst (ns.map Nd.d))→Q (.ref m) T
 | _=>False
theorem zuY:Ln (zib) 5:=λds S Q ex h=>by unfold zib at h; split at h <;> first | rfl | exact h.elim
def zhG:Sd:=λds S Q ex=>match ds with
 | [.ref a,d]=>∃(q:Nat) (v:Nd) (ns:List Nd) (ws:List Nat),d=v.d∧S[a]?=some (.lst (ns.map Nd.d))∧ns.length<900∧zaF q ns ws∧v.ok ns.length q∧v.wt ws≤16∧∀(T:Sto) (j:Nat) (ns':List Nd) (ws':List Nat),Gr q a 1 S ns ws T ns' ws'→j<ns'.length→ns'[j]?=some v→ws'.getD j 0=v.wt ws→(∀P,gt (zaV P ns') (j:Int)=v.due (zaV P ns) P)→Q (.int (j:Int)) T
 | _=>False
theorem zwl:Ln (zhG) 2:=λds S Q ex h=>by unfold zhG at h; split at h <;> first | rfl | exact h.elim
def zeT:Sd:=λds S Q ex=>match ds with
 | [.int x,.int n]=>(0≤n∧n≤6∧Sz 2000 x)∧Q (.int (x^n.toNat)) S
 | _=>False
theorem zte:Ln (zeT) 2:=λds S Q ex h=>by unfold zeT at h; split at h <;> first | rfl | exact h.elim
def zhf:Sd:=λds S Q ex=>match ds with
 | [d,.ref w,.ref p]=>∃(v:Nd) (vs ps:List (Int×Int)),d=v.d∧S[w]?=some (.lst (vs.map frD))∧S[p]?=some (.lst (ps.map frD))∧v.ok vs.length ps.length∧Pz 1990 vs∧Pz 1990 ps∧Q (frD (v.due vs ps)) S
 | _=>False
theorem ztv:Ln (zhf) 3:=λds S Q ex h=>by unfold zhf at h; split at h <;> first | rfl | exact h.elim
def zgH:Sd:=λds S Q ex=>match ds with
 | [.ref a,.ref b]=>∃(ns:List Nd) (ws:List Nat) (ps:List (Int×Int)),S[a]?=some (.lst (ns.map Nd.d))∧S[b]?=some (.lst (ps.map frD))∧zaF ps.length ns ws∧Gd 110 ps∧ns.length≤70∧∀(T:Sto) (m:Nat),Pre S T→S.length≤m→T[m]?=some (.lst ((zaV ps ns).map frD))→Q (.ref m) T
 | _=>False
theorem zue:Ln (zgH) 2:=λds S Q ex h=>by unfold zgH at h; split at h <;> first | rfl | exact h.elim
def zg9:Sd:=λds S Q ex=>match ds with
 | [.ref a,.ref b,.int at',.int _]=>∃(ns:List Nd) (ws:List Nat) (ps:List (Int×Int)),S[a]?=some (.lst (ns.map Nd.d))∧S[b]?=some (.lst (ps.map frD))∧a≠b∧zaF ps.length ns ws∧Hv 14 ws∧Gd 110 ps∧(1≤ps.length∧ps.length≤4)∧inR ns.length at'∧ns.length≤60∧∀(T:Sto) (w:Str) (zero:Bool) (k:Nat) (ns':List Nd) (ws':List Nat),rwW zero w→Gr ps.length a 4 S ns ws T ns' ws'→k<ns'.length→Q (.tup [.str w,.int (k:Int)]) T
 | _=>False
theorem zwu:Ln (zg9) 4:=λds S Q ex h=>by unfold zg9 at h; split at h <;> first | rfl | exact h.elim
def zf7:Sd:=λds S Q ex=>match ds with
 | [.ref a,.ref b,.int f,.int _]=>∃(ns:List Nd) (ws:List Nat) (ps:List (Int×Int)),S[a]?=some (.lst (ns.map Nd.d))∧S[b]?=some (.lst (ps.map frD))∧a≠b∧zaF ps.length ns ws∧Hv 14 ws∧Gd 110 ps∧(1≤ps.length∧ps.length≤4)∧1≤ns.length∧ns.length≤60∧∀(T:Sto) (w:Str) (zero:Bool) (k:Nat) (ns':List Nd) (ws':List Nat),rwW zero w→Gr ps.length a 4 S ns ws T ns' ws'→k<ns'.length→Q (.tup [.str w,.int (k:Int)]) T
 | _=>False
theorem ztz:Ln (zf7) 4:=λds S Q ex h=>by unfold zf7 at h; split at h <;> first | rfl | exact h.elim
def zhy:Sd:=λds S Q ex=>match ds with
 | [.int c]=>0≤c∧∀lo hi:Int,lo≤hi→lo.natAbs≤10^15→hi.natAbs≤10^15→Q (.tup [.int lo,.int hi]) S
 | _=>False
theorem zt2:Ln (zhy) 1:=λds S Q ex h=>by unfold zhy at h; split at h <;> first | rfl | exact h.elim
def zgn:Sd:=λds S Q ex=>match ds with
 | [.int c,.int m,.int q]=>(0≤m∧m≤1000∧1≤q∧q≤4∧0≤c)∧∀v:Nd,v.ok m q→Q v.d S
 | _=>False
theorem zrV:Ln (zgn) 3:=λds S Q ex h=>by unfold zgn at h; split at h <;> first | rfl | exact h.elim
def zgl:Sd:=λds S Q ex=>match ds with
 | [.ref s]=>∃ns:List Int,s=0∧S=[.frz (ns.map D.int)]∧ns.length≤63∧∀(T:Sto) (g:Int) (k:Nat) (bs:List (Int×Int)) (vs:List Nd) (ws:List Nat) (m1 m2:Nat) (w:Str) (zero:Bool),Pre S T→(1≤g∧g≤1000000)→T[m1]?=some (.lst (bs.map frD))→T[m2]?=some (.lst (vs.map Nd.d))→zaF bs.length vs ws→Spn 51 bs→(1≤bs.length∧bs.length≤4)→vs.length≤70→rwW zero w→k<vs.length→Q (.tup [.int g,.ref m1,.ref m2,.tup [.str w,.int (k:Int)]]) T
 | _=>False
theorem zuU:Ln (zgl) 1:=λds S Q ex h=>by unfold zgl at h; split at h <;> first | rfl | exact h.elim
def zii:Sd:=λds S Q ex=>match ds with
 | [.ref n,.int k]=>∃ns:List Int,S[n]?=some (.frz (ns.map D.int))∧0≤k∧Q (.int (ns.getD k.toNat 0)) S
 | _=>False
theorem zxO:Ln (zii) 2:=λds S Q ex h=>by unfold zii at h; split at h <;> first | rfl | exact h.elim
def zgo:Sd:=λds S Q ex=>match ds with
 | [.int _]=>∀lo hi:Int,lo≤hi→lo.natAbs≤10^15→hi.natAbs≤10^15→Q (.tup [.int lo,.int hi]) S
 | _=>False
theorem zw6:Ln (zgo) 1:=λds S Q ex h=>by unfold zgo at h; split at h <;> first | rfl | exact h.elim
def zgk:Sd:=λds S Q ex=>match ds with
 | [.ref s]=>∃ns:List Int,s=0∧S=[.frz (ns.map D.int)]∧ns.length≤63∧∀(T:Sto) (g:Int) (k:Nat) (bs:List (Int×Int)) (vs:List Nd) (ws:List Nat) (m1 m2:Nat) (w:Str) (zero:Bool),Pre S T→(1≤g∧g≤1000000)→T[m1]?=some (.lst (bs.map frD))→T[m2]?=some (.lst (vs.map Nd.d))→zaF bs.length vs ws→Spn 51 bs→(1≤bs.length∧bs.length≤4)→vs.length≤70→rwW zero w→k<vs.length→Q (.tup [.int g,.ref m1,.ref m2,.tup [.str w,.int (k:Int)]]) T
 | _=>False
theorem zwg:Ln (zgk) 1:=λds S Q ex h=>by unfold zgk at h; split at h <;> first | rfl | exact h.elim
def zhA:Sd:=λds S Q ex=>match ds with
 | [.tup [.int a,.int b],.tup [.int c,.int d]]=>(IntMulOk a d∧IntMulOk c b)∧Q (.bl (decide (a*d<c*b))) S
 | _=>False
theorem zww:Ln (zhA) 2:=λds S Q ex h=>by unfold zhA at h; split at h <;> first | rfl | exact h.elim
def zdZ:Sd:=λds S Q ex=>match ds with
 | [.int t,.int b]=>CFd 0 b∧Q (.int (-(-t/b))) S
 | _=>False
theorem zsE:Ln (zdZ) 2:=λds S Q ex h=>by unfold zdZ at h; split at h <;> first | rfl | exact h.elim
def zhF:Sd:=λds S Q ex=>match ds with
 | [.tup [.int a,.int b],.tup [.int c,.int d],.int g]=>((IntMulOk c b∧IntMulOk a d)∧¬ c*b<a*d∧IntMulOk a g∧IntMulOk c g∧CFd 0 b∧CFd 0 d)∧Q (.tup [.int (a*g/b),.int (-(-(c*g)/d))]) S
 | _=>False
theorem zwp:Ln (zhF) 3:=λds S Q ex h=>by unfold zhF at h; split at h <;> first | rfl | exact h.elim
def zev (cNumber:Addr)(cUnknown:Addr)(cPlus:Addr)(cMinus:Addr)(cTimes:Addr)(cPower:Addr):Sd:=λds S Q ex=>match ds with
 | [.ref n,.ref w,.ref p,.int g]=>∃(x y:Int) (vs bs:List (Int×Int)),S[n]?=some (Nd.ob cNumber cUnknown cPlus cMinus cTimes cPower (Nd.number x y))∧S[w]?=some (.lst (vs.map frD))∧S[p]?=some (.lst (bs.map frD))∧Nd.ok vs.length bs.length (Nd.number x y)∧Spn 1400 vs∧(1≤g∧g≤1000000)∧Q (frD (Nd.fw vs bs g (Nd.number x y))) S
 | _=>False
theorem zuI (cNumber:Addr)(cUnknown:Addr)(cPlus:Addr)(cMinus:Addr)(cTimes:Addr)(cPower:Addr):Ln (zev cNumber cUnknown cPlus cMinus cTimes cPower) 4:=λds S Q ex h=>by unfold zev at h; split at h <;> first | rfl | exact h.elim
def zfM (cNumber:Addr)(cUnknown:Addr)(cPlus:Addr)(cMinus:Addr)(cTimes:Addr)(cPower:Addr):Sd:=λds S Q ex=>match ds with
 | [.ref n,.ref w,.ref p,.int g]=>∃(k:Int) (vs bs:List (Int×Int)),S[n]?=some (Nd.ob cNumber cUnknown cPlus cMinus cTimes cPower (Nd.unknown k))∧S[w]?=some (.lst (vs.map frD))∧S[p]?=some (.lst (bs.map frD))∧Nd.ok vs.length bs.length (Nd.unknown k)∧Spn 1400 vs∧(1≤g∧g≤1000000)∧Q (frD (Nd.fw vs bs g (Nd.unknown k))) S
 | _=>False
theorem zsy (cNumber:Addr)(cUnknown:Addr)(cPlus:Addr)(cMinus:Addr)(cTimes:Addr)(cPower:Addr):Ln (zfM cNumber cUnknown cPlus cMinus cTimes cPower) 4:=λds S Q ex h=>by unfold zfM at h; split at h <;> first | rfl | exact h.elim
def zft:Sd:=λds S Q ex=>match ds with
 | [.tup [.int a,.int b],.tup [.int c,.int d]]=>Q (.tup [.int (a+c),.int (b+d)]) S
 | _=>False
theorem zsM:Ln (zft) 2:=λds S Q ex h=>by unfold zft at h; split at h <;> first | rfl | exact h.elim
def zep (cNumber:Addr)(cUnknown:Addr)(cPlus:Addr)(cMinus:Addr)(cTimes:Addr)(cPower:Addr):Sd:=λds S Q ex=>match ds with
 | [.ref n,.ref w,.ref p,.int g]=>∃(i j:Int) (vs bs:List (Int×Int)),S[n]?=some (Nd.ob cNumber cUnknown cPlus cMinus cTimes cPower (Nd.plus i j))∧S[w]?=some (.lst (vs.map frD))∧S[p]?=some (.lst (bs.map frD))∧Nd.ok vs.length bs.length (Nd.plus i j)∧Spn 1400 vs∧(1≤g∧g≤1000000)∧Q (frD (Nd.fw vs bs g (Nd.plus i j))) S
 | _=>False
theorem zyB (cNumber:Addr)(cUnknown:Addr)(cPlus:Addr)(cMinus:Addr)(cTimes:Addr)(cPower:Addr):Ln (zep cNumber cUnknown cPlus cMinus cTimes cPower) 4:=λds S Q ex h=>by unfold zep at h; split at h <;> first | rfl | exact h.elim
def zdn:Sd:=λds S Q ex=>match ds with
 | [.tup [.int a,.int b],.tup [.int c,.int d]]=>Q (.tup [.int (a-d),.int (b-c)]) S
 | _=>False
theorem ztq:Ln (zdn) 2:=λds S Q ex h=>by unfold zdn at h; split at h <;> first | rfl | exact h.elim
def zeX (cNumber:Addr)(cUnknown:Addr)(cPlus:Addr)(cMinus:Addr)(cTimes:Addr)(cPower:Addr):Sd:=λds S Q ex=>match ds with
 | [.ref n,.ref w,.ref p,.int g]=>∃(i j:Int) (vs bs:List (Int×Int)),S[n]?=some (Nd.ob cNumber cUnknown cPlus cMinus cTimes cPower (Nd.minus i j))∧S[w]?=some (.lst (vs.map frD))∧S[p]?=some (.lst (bs.map frD))∧Nd.ok vs.length bs.length (Nd.minus i j)∧Spn 1400 vs∧(1≤g∧g≤1000000)∧Q (frD (Nd.fw vs bs g (Nd.minus i j))) S
 | _=>False
theorem zyM (cNumber:Addr)(cUnknown:Addr)(cPlus:Addr)(cMinus:Addr)(cTimes:Addr)(cPower:Addr):Ln (zeX cNumber cUnknown cPlus cMinus cTimes cPower) 4:=λds S Q ex h=>by unfold zeX at h; split at h <;> first | rfl | exact h.elim
def ziq:Sd:=λds S Q ex=>match ds with
 | [.tup [.int a,.int b],.tup [.int c,.int d],.int g]=>((IntMulOk a c∧IntMulOk a d∧IntMulOk b c∧IntMulOk b d)∧CFd 0 g)∧∀mn mx:Int,zej a b c d mn mx→Q (.tup [.int (mn/g),.int (-(-mx/g))]) S
 | _=>False
theorem zs7:Ln (ziq) 3:=λds S Q ex h=>by unfold ziq at h; split at h <;> first | rfl | exact h.elim
def ze9 (cNumber:Addr)(cUnknown:Addr)(cPlus:Addr)(cMinus:Addr)(cTimes:Addr)(cPower:Addr):Sd:=λds S Q ex=>match ds with
 | [.ref n,.ref w,.ref p,.int g]=>∃(i j:Int) (vs bs:List (Int×Int)),S[n]?=some (Nd.ob cNumber cUnknown cPlus cMinus cTimes cPower (Nd.times i j))∧S[w]?=some (.lst (vs.map frD))∧S[p]?=some (.lst (bs.map frD))∧Nd.ok vs.length bs.length (Nd.times i j)∧Spn 1400 vs∧(1≤g∧g≤1000000)∧Q (frD (Nd.fw vs bs g (Nd.times i j))) S
 | _=>False
theorem zvL (cNumber:Addr)(cUnknown:Addr)(cPlus:Addr)(cMinus:Addr)(cTimes:Addr)(cPower:Addr):Ln (ze9 cNumber cUnknown cPlus cMinus cTimes cPower) 4:=λds S Q ex h=>by unfold ze9 at h; split at h <;> first | rfl | exact h.elim
def zdi:Sd:=λds S Q ex=>match ds with
 | [.int x,.int n]=>(0≤n∧n≤6∧Sz 2000 x)∧Q (.int (x^n.toNat)) S
 | _=>False
theorem zyZ:Ln (zdi) 2:=λds S Q ex h=>by unfold zdi at h; split at h <;> first | rfl | exact h.elim
def zfW:Sd:=λds S Q ex=>match ds with
 | [.tup [.int a,.int b],.int n,.int g]=>(2≤n∧n≤6∧Sz 1400 a∧Sz 1400 b∧1≤g∧Sz 1400 g)∧∀m M:Int,zcR a b n.toNat m M→Q (.tup [.int (m/g^(n.toNat-1)),.int (-(-M/g^(n.toNat-1)))]) S
 | _=>False
theorem zv3:Ln (zfW) 3:=λds S Q ex h=>by unfold zfW at h; split at h <;> first | rfl | exact h.elim
def ze4 (cNumber:Addr)(cUnknown:Addr)(cPlus:Addr)(cMinus:Addr)(cTimes:Addr)(cPower:Addr):Sd:=λds S Q ex=>match ds with
 | [.ref n,.ref w,.ref p,.int g]=>∃(i m:Int) (vs bs:List (Int×Int)),S[n]?=some (Nd.ob cNumber cUnknown cPlus cMinus cTimes cPower (Nd.power i m))∧S[w]?=some (.lst (vs.map frD))∧S[p]?=some (.lst (bs.map frD))∧Nd.ok vs.length bs.length (Nd.power i m)∧Spn 1400 vs∧(1≤g∧g≤1000000)∧Q (frD (Nd.fw vs bs g (Nd.power i m))) S
 | _=>False
theorem zsB (cNumber:Addr)(cUnknown:Addr)(cPlus:Addr)(cMinus:Addr)(cTimes:Addr)(cPower:Addr):Ln (ze4 cNumber cUnknown cPlus cMinus cTimes cPower) 4:=λds S Q ex h=>by unfold ze4 at h; split at h <;> first | rfl | exact h.elim
def zhC (cPower:Addr):Sd:=λds S Q ex=>match ds with
 | [.ref n,x,y]=>∃T:Sto,S=T++[.ins cPower []]∧n=T.length∧Q .non (T++[.ins cPower [("one",x),("many",y)]])
 | _=>False
theorem zye (cPower:Addr):Ln (zhC cPower) 3:=λds S Q ex h=>by unfold zhC at h; split at h <;> first | rfl | exact h.elim
def zhQ (cNumber:Addr):Sd:=λds S Q ex=>match ds with
 | [.ref n,x,y]=>∃T:Sto,S=T++[.ins cNumber []]∧n=T.length∧Q .non (T++[.ins cNumber [("top",x),("bottom",y)]])
 | _=>False
theorem ztU (cNumber:Addr):Ln (zhQ cNumber) 3:=λds S Q ex h=>by unfold zhQ at h; split at h <;> first | rfl | exact h.elim
def zf4 (cUnknown:Addr):Sd:=λds S Q ex=>match ds with
 | [.ref n,x]=>∃T:Sto,S=T++[.ins cUnknown []]∧n=T.length∧Q .non (T++[.ins cUnknown [("place",x)]])
 | _=>False
theorem zyJ (cUnknown:Addr):Ln (zf4 cUnknown) 2:=λds S Q ex h=>by unfold zf4 at h; split at h <;> first | rfl | exact h.elim
def zht (cPlus:Addr):Sd:=λds S Q ex=>match ds with
 | [.ref n,x,y]=>∃T:Sto,S=T++[.ins cPlus []]∧n=T.length∧Q .non (T++[.ins cPlus [("one",x),("other",y)]])
 | _=>False
theorem ztm (cPlus:Addr):Ln (zht cPlus) 3:=λds S Q ex h=>by unfold zht at h; split at h <;> first | rfl | exact h.elim
def zhO (cMinus:Addr):Sd:=λds S Q ex=>match ds with
 | [.ref n,x,y]=>∃T:Sto,S=T++[.ins cMinus []]∧n=T.length∧Q .non (T++[.ins cMinus [("one",x),("other",y)]])
 | _=>False
theorem ztd (cMinus:Addr):Ln (zhO cMinus) 3:=λds S Q ex h=>by unfold zhO at h; split at h <;> first | rfl | exact h.elim
def zg1 (cTimes:Addr):Sd:=λds S Q ex=>match ds with
 | [.ref n,x,y]=>∃T:Sto,S=T++[.ins cTimes []]∧n=T.length∧Q .non (T++[.ins cTimes [("one",x),("other",y)]])
 | _=>False
theorem zuR (cTimes:Addr):Ln (zg1 cTimes) 3:=λds S Q ex h=>by unfold zg1 at h; split at h <;> first | rfl | exact h.elim
def zfg (cNumber:Addr)(cUnknown:Addr)(cPlus:Addr)(cMinus:Addr)(cTimes:Addr)(cPower:Addr):Sd:=λds S Q ex=>match ds with
 | [d]=>∃v:Nd,d=v.d∧Q (.ref S.length) (S++[v.ob cNumber cUnknown cPlus cMinus cTimes cPower])
 | _=>False
theorem zuO (cNumber:Addr)(cUnknown:Addr)(cPlus:Addr)(cMinus:Addr)(cTimes:Addr)(cPower:Addr):Ln (zfg cNumber cUnknown cPlus cMinus cTimes cPower) 1:=λds S Q ex h=>by unfold zfg at h; split at h <;> first | rfl | exact h.elim
def zfA:Sd:=λds S Q ex=>match ds with
 | [.ref a,.ref b,.int g]=>∃(ns:List Nd) (ws:List Nat) (bs:List (Int×Int)),S[a]?=some (.lst (ns.map Nd.d))∧S[b]?=some (.lst (bs.map frD))∧zaF bs.length ns ws∧Spn 51 bs∧(1≤g∧g≤1000000)∧ns.length≤70∧∀(T:Sto) (m:Nat),Pre S T→S.length≤m→T[m]?=some (.lst ((zaE bs g ns).map frD))→Q (.ref m) T
 | _=>False
theorem zth:Ln (zfA) 3:=λds S Q ex h=>by unfold zfA at h; split at h <;> first | rfl | exact h.elim
def zdb:Sd:=λds S Q ex=>match ds with
 | [.tup [.int a,.int b],.tup [.int c,.int d]]=>(za6 (a,b) (c,d)=none→Q .non S)∧∀p,za6 (a,b) (c,d)=some p→Q (frD p) S
 | _=>False
theorem zwq:Ln (zdb) 2:=λds S Q ex h=>by unfold zdb at h; split at h <;> first | rfl | exact h.elim
def zhJ:Sd:=λds S Q ex=>match ds with
 | [.str w,.tup [.int a,.int b]]=>∃zero:Bool,rwW zero w∧(zfJ zero (a,b)=none→Q .non S)∧∀p,zfJ zero (a,b)=some p→Q (frD p) S
 | _=>False
theorem zsv:Ln (zhJ) 2:=λds S Q ex h=>by unfold zhJ at h; split at h <;> first | rfl | exact h.elim
def zfN (cNumber:Addr)(cUnknown:Addr)(cPlus:Addr)(cMinus:Addr)(cTimes:Addr)(cPower:Addr):Sd:=λds S Q ex=>match ds with
 | [.ref n,.ref w,.tup [.int z0,.int z1],.int g]=>∃(x y:Int) (vs:List (Int×Int)) (q:Int),S[n]?=some (Nd.ob cNumber cUnknown cPlus cMinus cTimes cPower (Nd.number x y))∧S[w]?=some (.lst (vs.map frD))∧Nd.ok vs.length q (Nd.number x y)∧Spn 1000 vs∧(z0≤z1∧Sz 1000 z0∧Sz 1000 z1)∧(1≤g∧g≤1000000)∧(Nd.bk vs (z0,z1) g (Nd.number x y)=none→Q .non S)∧∀l,Nd.bk vs (z0,z1) g (Nd.number x y)=some l→Q (.ref S.length) (S++[.lst (l.map ptD)])
 | _=>False
theorem zxJ (cNumber:Addr)(cUnknown:Addr)(cPlus:Addr)(cMinus:Addr)(cTimes:Addr)(cPower:Addr):Ln (zfN cNumber cUnknown cPlus cMinus cTimes cPower) 4:=λds S Q ex h=>by unfold zfN at h; split at h <;> first | rfl | exact h.elim
def zfh (cNumber:Addr)(cUnknown:Addr)(cPlus:Addr)(cMinus:Addr)(cTimes:Addr)(cPower:Addr):Sd:=λds S Q ex=>match ds with
 | [.ref n,.ref w,.tup [.int z0,.int z1],.int g]=>∃(k:Int) (vs:List (Int×Int)) (q:Int),S[n]?=some (Nd.ob cNumber cUnknown cPlus cMinus cTimes cPower (Nd.unknown k))∧S[w]?=some (.lst (vs.map frD))∧Nd.ok vs.length q (Nd.unknown k)∧Spn 1000 vs∧(z0≤z1∧Sz 1000 z0∧Sz 1000 z1)∧(1≤g∧g≤1000000)∧(Nd.bk vs (z0,z1) g (Nd.unknown k)=none→Q .non S)∧∀l,Nd.bk vs (z0,z1) g (Nd.unknown k)=some l→Q (.ref S.length) (S++[.lst (l.map ptD)])
 | _=>False
theorem zvw (cNumber:Addr)(cUnknown:Addr)(cPlus:Addr)(cMinus:Addr)(cTimes:Addr)(cPower:Addr):Ln (zfh cNumber cUnknown cPlus cMinus cTimes cPower) 4:=λds S Q ex h=>by unfold zfh at h; split at h <;> first | rfl | exact h.elim
def zhs:Sd:=λds S Q ex=>match ds with
 | [.ref _,.tup [.int z0,.int z1],.tup [.int x0,.int x1],.tup [.int y0,.int y1],.int _]=>(za6 (x0,x1) (z0-y1,z1-y0)=none→Q .non S)∧∀p,za6 (x0,x1) (z0-y1,z1-y0)=some p→Q (frD p) S
 | _=>False
theorem zsU:Ln (zhs) 5:=λds S Q ex h=>by unfold zhs at h; split at h <;> first | rfl | exact h.elim
def zio:Sd:=λds S Q ex=>match ds with
 | [.ref _,.tup [.int z0,.int z1],.tup [.int x0,.int x1],.tup [.int y0,.int y1],.int _]=>(za6 (y0,y1) (z0-x1,z1-x0)=none→Q .non S)∧∀p,za6 (y0,y1) (z0-x1,z1-x0)=some p→Q (frD p) S
 | _=>False
theorem zya:Ln (zio) 5:=λds S Q ex h=>by unfold zio at h; split at h <;> first | rfl | exact h.elim
def zeE (cNumber:Addr)(cUnknown:Addr)(cPlus:Addr)(cMinus:Addr)(cTimes:Addr)(cPower:Addr):Sd:=λds S Q ex=>match ds with
 | [.ref n,.ref w,.tup [.int z0,.int z1],.int g]=>∃(i j:Int) (vs:List (Int×Int)) (q:Int),S[n]?=some (Nd.ob cNumber cUnknown cPlus cMinus cTimes cPower (Nd.plus i j))∧S[w]?=some (.lst (vs.map frD))∧Nd.ok vs.length q (Nd.plus i j)∧Spn 1000 vs∧(z0≤z1∧Sz 1000 z0∧Sz 1000 z1)∧(1≤g∧g≤1000000)∧(Nd.bk vs (z0,z1) g (Nd.plus i j)=none→Q .non S)∧∀l,Nd.bk vs (z0,z1) g (Nd.plus i j)=some l→Q (.ref S.length) (S++[.lst (l.map ptD)])
 | _=>False
theorem zuL (cNumber:Addr)(cUnknown:Addr)(cPlus:Addr)(cMinus:Addr)(cTimes:Addr)(cPower:Addr):Ln (zeE cNumber cUnknown cPlus cMinus cTimes cPower) 4:=λds S Q ex h=>by unfold zeE at h; split at h <;> first | rfl | exact h.elim
def zgu:Sd:=λds S Q ex=>match ds with
 | [.ref _,.tup [.int z0,.int z1],.tup [.int x0,.int x1],.tup [.int y0,.int y1],.int _]=>(za6 (x0,x1) (z0+y0,z1+y1)=none→Q .non S)∧∀p,za6 (x0,x1) (z0+y0,z1+y1)=some p→Q (frD p) S
 | _=>False
theorem zu3:Ln (zgu) 5:=λds S Q ex h=>by unfold zgu at h; split at h <;> first | rfl | exact h.elim
def zf6:Sd:=λds S Q ex=>match ds with
 | [.ref _,.tup [.int z0,.int z1],.tup [.int x0,.int x1],.tup [.int y0,.int y1],.int _]=>(za6 (y0,y1) (x0-z1,x1-z0)=none→Q .non S)∧∀p,za6 (y0,y1) (x0-z1,x1-z0)=some p→Q (frD p) S
 | _=>False
theorem zyi:Ln (zf6) 5:=λds S Q ex h=>by unfold zf6 at h; split at h <;> first | rfl | exact h.elim
def zeK (cNumber:Addr)(cUnknown:Addr)(cPlus:Addr)(cMinus:Addr)(cTimes:Addr)(cPower:Addr):Sd:=λds S Q ex=>match ds with
 | [.ref n,.ref w,.tup [.int z0,.int z1],.int g]=>∃(i j:Int) (vs:List (Int×Int)) (q:Int),S[n]?=some (Nd.ob cNumber cUnknown cPlus cMinus cTimes cPower (Nd.minus i j))∧S[w]?=some (.lst (vs.map frD))∧Nd.ok vs.length q (Nd.minus i j)∧Spn 1000 vs∧(z0≤z1∧Sz 1000 z0∧Sz 1000 z1)∧(1≤g∧g≤1000000)∧(Nd.bk vs (z0,z1) g (Nd.minus i j)=none→Q .non S)∧∀l,Nd.bk vs (z0,z1) g (Nd.minus i j)=some l→Q (.ref S.length) (S++[.lst (l.map ptD)])
 | _=>False
theorem zv6 (cNumber:Addr)(cUnknown:Addr)(cPlus:Addr)(cMinus:Addr)(cTimes:Addr)(cPower:Addr):Ln (zeK cNumber cUnknown cPlus cMinus cTimes cPower) 4:=λds S Q ex h=>by unfold zeK at h; split at h <;> first | rfl | exact h.elim
def zie:Sd:=λds S Q ex=>match ds with
 | [.tup [.int a,.int b]]=>Q (.bl (decide (a≤0)&&decide (0≤b))) S
 | _=>False
theorem zx3:Ln (zie) 1:=λds S Q ex h=>by unfold zie at h; split at h <;> first | rfl | exact h.elim
def zfQ:Sd:=λds S Q ex=>match ds with
 | [.tup [.int x0,.int x1],.tup [.int l0,.int l1],.tup [.int h0,.int h1]]=>(ptB (x0,x1) (l0,l1) (h0,h1)=none→Q .non S)∧∀p,ptB (x0,x1) (l0,l1) (h0,h1)=some p→Q (frD p) S
 | _=>False
theorem zwk:Ln (zfQ) 3:=λds S Q ex h=>by unfold zfQ at h; split at h <;> first | rfl | exact h.elim
def zim:Sd:=λds S Q ex=>match ds with
 | [.int t,.int b]=>CFd 0 b∧Q (.tup [.int (t/b),.int (-(-t/b))]) S
 | _=>False
theorem zxo:Ln (zim) 2:=λds S Q ex h=>by unfold zim at h; split at h <;> first | rfl | exact h.elim
def zid:Sd:=λds S Q ex=>match ds with
 | [.tup [.int lo,.int hi],.tup [.int x0,.int x1],.tup [.int c,.int d]]=>(0≤c∧0<d∧Sz 1400 c∧Sz 1400 d)∧(sdS lo hi (x0,x1) c d=none→Q .non S)∧∀p,sdS lo hi (x0,x1) c d=some p→Q (frD p) S
 | _=>False
theorem zxP:Ln (zid) 3:=λds S Q ex h=>by unfold zid at h; split at h <;> first | rfl | exact h.elim
def zgh:Sd:=λds S Q ex=>match ds with
 | [.tup [.int a,.int b],.tup [.int c,.int d]]=>Q (.tup [.int (if c<a then c else a),.int (if d > b then d else b)]) S
 | _=>False
theorem zxW:Ln (zgh) 2:=λds S Q ex h=>by unfold zgh at h; split at h <;> first | rfl | exact h.elim
def zfO:Sd:=λds S Q ex=>match ds with
 | [.non,y]=>Q y S
 | [.tup [.int a,.int b],.non]=>Q (.tup [.int a,.int b]) S
 | [.tup [.int a,.int b],.tup [.int c,.int d]]=>Q (.tup [.int (if c<a then c else a),.int (if d > b then d else b)]) S
 | _=>False
theorem zxS:Ln (zfO) 2:=λds S Q ex h=>by unfold zfO at h; split at h <;> first | rfl | exact h.elim
def zdG:Sd:=λds S Q ex=>match ds with
 | [.tup [.int a,.int b]]=>Q (.tup [.int (-b),.int (-a)]) S
 | _=>False
theorem ztE:Ln (zdG) 1:=λds S Q ex h=>by unfold zdG at h; split at h <;> first | rfl | exact h.elim
def zfz:Sd:=λds S Q ex=>match ds with
 | [.tup [.int z0,.int z1],.tup [.int x0,.int x1],.tup [.int y0,.int y1],.int g]=>(y0≤y1∧Sz 1100 z0∧Sz 1100 z1∧Sz 1100 y0∧Sz 1100 y1∧Sz 30 g)∧(btS (z0,z1) (x0,x1) (y0,y1) g=none→Q .non S)∧∀p,btS (z0,z1) (x0,x1) (y0,y1) g=some p→Q (frD p) S
 | _=>False
theorem zud:Ln (zfz) 4:=λds S Q ex h=>by unfold zfz at h; split at h <;> first | rfl | exact h.elim
def zgy:Sd:=λds S Q ex=>match ds with
 | [.ref _,.tup [.int z0,.int z1],.tup [.int x0,.int x1],.tup [.int y0,.int y1],.int g]=>(y0≤y1∧Sz 1100 z0∧Sz 1100 z1∧Sz 1100 y0∧Sz 1100 y1∧Sz 30 g)∧(btS (z0,z1) (x0,x1) (y0,y1) g=none→Q .non S)∧∀p,btS (z0,z1) (x0,x1) (y0,y1) g=some p→Q (frD p) S
 | _=>False
theorem zsi:Ln (zgy) 5:=λds S Q ex h=>by unfold zgy at h; split at h <;> first | rfl | exact h.elim
def zf8:Sd:=λds S Q ex=>match ds with
 | [.ref _,.tup [.int z0,.int z1],.tup [.int x0,.int x1],.tup [.int y0,.int y1],.int g]=>(x0≤x1∧Sz 1100 z0∧Sz 1100 z1∧Sz 1100 x0∧Sz 1100 x1∧Sz 30 g)∧(btS (z0,z1) (y0,y1) (x0,x1) g=none→Q .non S)∧∀p,btS (z0,z1) (y0,y1) (x0,x1) g=some p→Q (frD p) S
 | _=>False
theorem zx4:Ln (zf8) 5:=λds S Q ex h=>by unfold zf8 at h; split at h <;> first | rfl | exact h.elim
def zfn (cNumber:Addr)(cUnknown:Addr)(cPlus:Addr)(cMinus:Addr)(cTimes:Addr)(cPower:Addr):Sd:=λds S Q ex=>match ds with
 | [.ref n,.ref w,.tup [.int z0,.int z1],.int g]=>∃(i j:Int) (vs:List (Int×Int)) (q:Int),S[n]?=some (Nd.ob cNumber cUnknown cPlus cMinus cTimes cPower (Nd.times i j))∧S[w]?=some (.lst (vs.map frD))∧Nd.ok vs.length q (Nd.times i j)∧Spn 1000 vs∧(z0≤z1∧Sz 1000 z0∧Sz 1000 z1)∧(1≤g∧g≤1000000)∧(Nd.bk vs (z0,z1) g (Nd.times i j)=none→Q .non S)∧∀l,Nd.bk vs (z0,z1) g (Nd.times i j)=some l→Q (.ref S.length) (S++[.lst (l.map ptD)])
 | _=>False
theorem zyz (cNumber:Addr)(cUnknown:Addr)(cPlus:Addr)(cMinus:Addr)(cTimes:Addr)(cPower:Addr):Ln (zfn cNumber cUnknown cPlus cMinus cTimes cPower) 4:=λds S Q ex h=>by unfold zfn at h; split at h <;> first | rfl | exact h.elim
def zig:Sd:=λds S Q ex=>match ds with
 | [.int g,.int N,.int n]=>(2≤n∧n≤6∧0<g∧Sz 800 g)∧Q (.int (((n-1)*g+N/g^(n-1).toNat)/n)) S
 | _=>False
theorem zw7:Ln (zig) 3:=λds S Q ex h=>by unfold zig at h; split at h <;> first | rfl | exact h.elim
def zfo:Sd:=λds S Q ex=>match ds with
 | [.int N,.int n]=>(2≤n∧n≤6∧0≤N∧Sz 1300 N)∧∀r:Int,0≤r→Sz 800 r→r^n.toNat≤N→N<(r+1)^n.toNat→Q (.int r) S
 | _=>False
theorem zt5:Ln (zfo) 2:=λds S Q ex h=>by unfold zfo at h; split at h <;> first | rfl | exact h.elim
def zhp:Sd:=λds S Q ex=>match ds with
 | [.int N,.int n]=>(2≤n∧n≤6∧0≤N∧Sz 1300 N)∧Q (frD (rt0 N n.toNat)) S
 | _=>False
theorem zvr:Ln (zhp) 2:=λds S Q ex h=>by unfold zhp at h; split at h <;> first | rfl | exact h.elim
def zgL:Sd:=λds S Q ex=>match ds with
 | [.int N,.int n]=>(2≤n∧n≤6∧(n%2=1∨0≤N)∧Sz 1300 N)∧Q (frD (rtS N n.toNat)) S
 | _=>False
theorem zwA:Ln (zgL) 2:=λds S Q ex h=>by unfold zgL at h; split at h <;> first | rfl | exact h.elim
def zhN:Sd:=λds S Q ex=>match ds with
 | [.tup [.int z0,.int z1],.tup [.int x0,.int x1],.int n,.int g]=>(2≤n∧n≤6∧1≤g∧Sz 30 g∧Sz 1100 z0∧Sz 1100 z1)∧(bpS (z0,z1) (x0,x1) n g=none→Q .non S)∧∀p,bpS (z0,z1) (x0,x1) n g=some p→Q (frD p) S
 | _=>False
theorem zti:Ln (zhN) 4:=λds S Q ex h=>by unfold zhN at h; split at h <;> first | rfl | exact h.elim
def zfi (cNumber:Addr)(cUnknown:Addr)(cPlus:Addr)(cMinus:Addr)(cTimes:Addr)(cPower:Addr):Sd:=λds S Q ex=>match ds with
 | [.ref n,.ref w,.tup [.int z0,.int z1],.int g]=>∃(i m:Int) (vs:List (Int×Int)) (q:Int),S[n]?=some (Nd.ob cNumber cUnknown cPlus cMinus cTimes cPower (Nd.power i m))∧S[w]?=some (.lst (vs.map frD))∧Nd.ok vs.length q (Nd.power i m)∧Spn 1000 vs∧(z0≤z1∧Sz 1000 z0∧Sz 1000 z1)∧(1≤g∧g≤1000000)∧(Nd.bk vs (z0,z1) g (Nd.power i m)=none→Q .non S)∧∀l,Nd.bk vs (z0,z1) g (Nd.power i m)=some l→Q (.ref S.length) (S++[.lst (l.map ptD)])
 | _=>False
theorem zuh (cNumber:Addr)(cUnknown:Addr)(cPlus:Addr)(cMinus:Addr)(cTimes:Addr)(cPower:Addr):Ln (zfi cNumber cUnknown cPlus cMinus cTimes cPower) 4:=λds S Q ex h=>by unfold zfi at h; split at h <;> first | rfl | exact h.elim
def zgB:Sd:=λds S Q ex=>match ds with
 | [.ref a,.tup [.str w,.int k],.ref b,.int g]=>∃(ns:List Nd) (ws:List Nat) (bs:List (Int×Int)) (zero:Bool),S[a]?=some (.lst (ns.map Nd.d))∧S[b]?=some (.lst (bs.map frD))∧rwW zero w∧inR ns.length k∧zaF bs.length ns ws∧Spn 51 bs∧(1≤g∧g≤1000000)∧ns.length≤70∧(sbS ns zero k.toNat bs g=none→∀T:Sto,Pre S T→Q .non T)∧∀(us:List (Int×Int)) (T:Sto) (m:Nat),sbS ns zero k.toNat bs g=some us→Pre S T→S.length≤m→T[m]?=some (.lst (us.map frD))→Q (.ref m) T
 | _=>False
theorem zvY:Ln (zgB) 4:=λds S Q ex h=>by unfold zgB at h; split at h <;> first | rfl | exact h.elim
def zfD:Sd:=λds S Q ex=>match ds with
 | [.ref a,.tup [.str w,.int k],.ref b,.int g]=>∃(ns:List Nd) (ws:List Nat) (bs:List (Int×Int)) (zero:Bool),S[a]?=some (.lst (ns.map Nd.d))∧S[b]?=some (.lst (bs.map frD))∧rwW zero w∧inR ns.length k∧zaF bs.length ns ws∧Spn 51 bs∧(1≤g∧g≤1000000)∧ns.length≤70∧(nwS ns zero k.toNat bs g=none→∀T:Sto,Pre S T→Q .non T)∧∀(us:List (Int×Int)) (T:Sto) (m:Nat),nwS ns zero k.toNat bs g=some us→Pre S T→S.length≤m→T[m]?=some (.lst (us.map frD))→Q (.ref m) T
 | _=>False
theorem zs0:Ln (zfD) 4:=λds S Q ex h=>by unfold zfD at h; split at h <;> first | rfl | exact h.elim
def zgv:Sd:=λds S Q ex=>match ds with
 | [d,.ref w,.ref p,.int g]=>∃(v:Nd) (vs bs:List (Int×Int)),d=v.d∧S[w]?=some (.lst (vs.map frD))∧S[p]?=some (.lst (bs.map frD))∧v.ok vs.length bs.length∧Spn 1400 vs∧(1≤g∧g≤1000000)∧Q (frD (v.fw vs bs g)) S
 | _=>False
theorem zt6:Ln (zgv) 4:=λds S Q ex h=>by unfold zgv at h; split at h <;> first | rfl | exact h.elim
def zhR:Sd:=λds S Q ex=>match ds with
 | [.ref a,.ref b,.int g]=>∃(ns:List Nd) (ws:List Nat) (bs:List (Int×Int)),S[a]?=some (.lst (ns.map Nd.d))∧S[b]?=some (.lst (bs.map frD))∧zaF bs.length ns ws∧Spn 51 bs∧(1≤g∧g≤1000000)∧ns.length≤70∧∀(T:Sto) (m:Nat),Pre S T→S.length≤m→T[m]?=some (.lst ((zaE bs g ns).map frD))→Q (.ref m) T
 | _=>False
theorem ztp:Ln (zhR) 3:=λds S Q ex h=>by unfold zhR at h; split at h <;> first | rfl | exact h.elim
def zhz:Sd:=λds S Q ex=>match ds with
 | [.ref a,.tup [.str w,.int k],.ref b,.int g]=>∃(ns:List Nd) (ws:List Nat) (bs:List (Int×Int)) (zero:Bool),S[a]?=some (.lst (ns.map Nd.d))∧S[b]?=some (.lst (bs.map frD))∧rwW zero w∧inR ns.length k∧zaF bs.length ns ws∧Spn 51 bs∧(1≤g∧g≤1000000)∧ns.length≤70∧∀T:Sto,Pre S T→Q (.bl (ibS ns zero k.toNat bs g)) T
 | _=>False
theorem zwK:Ln (zhz) 4:=λds S Q ex h=>by unfold zhz at h; split at h <;> first | rfl | exact h.elim
def zf0:Sd:=λds S Q ex=>match ds with
 | [.ref b,.int k,d]=>∃(bs:List (Int×Int)) (p:Int×Int),S[b]?=some (.lst (bs.map frD))∧inR bs.length k∧bs.length≤4∧d=frD p∧∀(T:Sto) (m:Nat),Pre S T→S.length≤m→T[m]?=some (.lst ((bs.set k.toNat p).map frD))→Q (.ref m) T
 | _=>False
theorem zwo:Ln (zf0) 3:=λds S Q ex h=>by unfold zf0 at h; split at h <;> first | rfl | exact h.elim
def zhV:Sd:=λds S Q ex=>match ds with
 | [.ref a,.tup [.str w,.int k],.ref b,.int g,fd]=>∃(ns:List Nd) (ws:List Nat) (bs:List (Int×Int)) (zero:Bool),S[a]?=some (.lst (ns.map Nd.d))∧S[b]?=some (.lst (bs.map frD))∧rwW zero w∧inR ns.length k∧zaF bs.length ns ws∧Spn 51 bs∧(1≤g∧g≤1000000)∧ns.length≤70∧bs.length≤4∧zcK (nwS ns zero k.toNat bs g) 0 S fd∧∀(T:Sto) (mc:Nat) (fd:D),Pre S T→S.length≤mc→T[mc]?=some (.lst ((shS ns zero k.toNat bs g).1.map Ct.d))→zcK (shS ns zero k.toNat bs g).2 S.length T fd→Q (.tup [.ref mc,fd]) T
 | _=>False
theorem zxr:Ln (zhV) 5:=λds S Q ex h=>by unfold zhV at h; split at h <;> first | rfl | exact h.elim
def zhm:Sd:=λds S Q ex=>match ds with
 | [.str w,.tup [.int a,.int b]]=>(w="zero"∧Q (.bl (decide (0<a)||decide (b<0))) S)∨(w="least"∧Q (.bl (decide (b<0))) S)
 | _=>False
theorem zvN:Ln (zhm) 2:=λds S Q ex h=>by unfold zhm at h; split at h <;> first | rfl | exact h.elim
def ze7:Sd:=λds S Q ex=>match ds with
 | [.ref a,.tup [.str w,.int k],.ref b,.int g]=>∃(ns:List Nd) (ws:List Nat) (bs:List (Int×Int)) (zero:Bool),S[a]?=some (.lst (ns.map Nd.d))∧S[b]?=some (.lst (bs.map frD))∧rwW zero w∧inR ns.length k∧zaF bs.length ns ws∧Spn 51 bs∧(1≤g∧g≤1000000)∧ns.length≤70∧∀T:Sto,Pre S T→Q (.bl (ibS ns zero k.toNat bs g)) T
 | _=>False
theorem zve:Ln (ze7) 4:=λds S Q ex h=>by unfold ze7 at h; split at h <;> first | rfl | exact h.elim
def zfY:Sd:=λds S Q ex=>match ds with
 | [.ref b,.int k,d]=>∃(bs:List (Int×Int)) (p:Int×Int),S[b]?=some (.lst (bs.map frD))∧inR bs.length k∧bs.length≤4∧d=frD p∧∀(T:Sto) (m:Nat),Pre S T→S.length≤m→T[m]?=some (.lst ((bs.set k.toNat p).map frD))→Q (.ref m) T
 | _=>False
theorem ztF:Ln (zfY) 3:=λds S Q ex h=>by unfold zfY at h; split at h <;> first | rfl | exact h.elim
def zf5:Sd:=λds S Q ex=>match ds with
 | [.tup [.int a,.int b],d]=>∃c:Ct,d=c.d∧Q (frD (c.off (a,b))) S
 | _=>False
theorem zxs:Ln (zf5) 2:=λds S Q ex h=>by unfold zf5 at h; split at h <;> first | rfl | exact h.elim
def zgZ:Sd:=λds S Q ex=>match ds with
 | [.ref a,.tup [.str w,.int k],.ref b,.int g,d]=>∃(ns:List Nd) (ws:List Nat) (bs:List (Int×Int)) (zero:Bool) (c:Ct),S[a]?=some (.lst (ns.map Nd.d))∧S[b]?=some (.lst (bs.map frD))∧rwW zero w∧inR ns.length k∧zaF bs.length ns ws∧Spn 51 bs∧(1≤g∧g≤1000000)∧ns.length≤70∧d=c.d∧c.k<bs.length∧bs.length≤4∧∀T:Sto,Pre S T→Q (.bl (isS ns zero k.toNat g bs c)) T
 | _=>False
theorem zyD:Ln (zgZ) 5:=λds S Q ex h=>by unfold zgZ at h; split at h <;> first | rfl | exact h.elim
def zhl:Sd:=λds S Q ex=>match ds with
 | [.tup [.int a,.int b],d]=>∃c:Ct,d=c.d∧Q (frD (c.back (a,b))) S
 | _=>False
theorem zxE:Ln (zhl) 2:=λds S Q ex h=>by unfold zhl at h; split at h <;> first | rfl | exact h.elim
def zhB:Sd:=λds S Q ex=>match ds with
 | [.ref a,.tup [.str w,.int k],.ref b,.int g]=>∃(ns:List Nd) (ws:List Nat) (bs:List (Int×Int)) (zero:Bool),S[a]?=some (.lst (ns.map Nd.d))∧S[b]?=some (.lst (bs.map frD))∧rwW zero w∧inR ns.length k∧zaF bs.length ns ws∧Spn 51 bs∧(1≤g∧g≤1000000)∧ns.length≤70∧bs.length≤4∧∀(T:Sto) (mc:Nat) (fd:D),Pre S T→S.length≤mc→T[mc]?=some (.lst ((shS ns zero k.toNat bs g).1.map Ct.d))→zcK (shS ns zero k.toNat bs g).2 S.length T fd→Q (.tup [.ref mc,fd]) T
 | _=>False
theorem zul:Ln (zhB) 4:=λds S Q ex h=>by unfold zhB at h; split at h <;> first | rfl | exact h.elim
def zfy:Sd:=λds S Q ex=>match ds with
 | [.int _]=>Q (.bl true) S
 | _=>False
theorem zt8:Ln (zfy) 1:=λds S Q ex h=>by unfold zfy at h; split at h <;> first | rfl | exact h.elim
def zhi:Sd:=λds S Q ex=>match ds with
 | [.tup [.int a,.int b]]=>a≤b∧Q (.bl true) S
 | _=>False
theorem zxu:Ln (zhi) 1:=λds S Q ex h=>by unfold zhi at h; split at h <;> first | rfl | exact h.elim
def zeu:Sd:=λds S Q ex=>match ds with
 | [.ref a,.int m]=>∃vs:List (Int×Int),S[a]?=some (.lst (vs.map frD))∧m=vs.length∧(∀p∈vs,p.1≤p.2)∧Q (.bl true) S
 | _=>False
theorem ztf:Ln (zeu) 2:=λds S Q ex h=>by unfold zeu at h; split at h <;> first | rfl | exact h.elim
def zg2:Sd:=λds S Q ex=>match ds with
 | [.tup [.ref c,fd],.int m]=>∃cs:List Ct,S[c]?=some (.lst (cs.map Ct.d))∧(∀x∈cs,(x.k:Int)<m)∧(fd=.non∨∃(vs:List (Int×Int)) (mf:Nat),fd=.ref mf∧S[mf]?=some (.lst (vs.map frD))∧m=vs.length∧∀p∈vs,p.1≤p.2)∧Q (.bl true) S
 | _=>False
theorem zsA:Ln (zg2) 2:=λds S Q ex h=>by unfold zg2 at h; split at h <;> first | rfl | exact h.elim
section
variable {P:Program}{w:World}{K:PySem.W.Frag}{mg:Str→Option Value}{base:Heap}
def zsR  (zjF:Df K mg "_law_grid" zme zia):Fk P w K mg base 1 "_law_grid" zia zhd:=
 zjF.mk' (zes (zax (k:=0) zjF.F zqK (zfP (zu1)) λcdv A outer s H E hr=>⟨_,(zae (zam (i:=1) zqK.nd rfl (Or.inl rfl) (zaf za2 (dv 0) (zaf zcq zab zab))) (zag (zak (zaf zaT zab (zaf za2 (zaf za2 (zaf zaM (zaf zbE (dv 1) zab) zab) zab) (zaG (za8 (zaa zab (zaa zab (zaa zab (zaa zab zac))))) (zaf za1 (dv 1) zab) (λ_ _=>rfl))))))),λds S Q ex h=>by
  obtain⟨Q0,ex0,rfl,rfl,h⟩:=h
  unfold zhd at h
  split at h
  ·rename_i c
   have r0:=zaW (a:=c) (b:=10^Int.toNat 20) (by decide)
   have e20:(10:Int)^Int.toNat 20=100000000000000000000:=rfl
   have s0:Sz 70 (c%10^Int.toNat 20):=Sz.of (10^20) (by omega)
   have mo:=zaL (m:=70) (n:=17) (s0.div (j:=4) (by decide)) (j:=48271) (by unfold Sz; decide)
   refine⟨show (0:Int)<10^Int.toNat 20 by decide,mo,show (0:Int)<2147483647 by decide,?_⟩
   have four:∀i:Int,inR 4 i→∃x:Int,(1≤x∧x≤1000000)∧atI [D.int 1,D.int 12,D.int 1000,D.int 1000000] i=some (.int x):=λi hi=>by
    obtain⟨h0,h3⟩:=hi
    have z:i=0∨i=1∨i=2∨i=3:=by omega
    rcases z with rfl | rfl | rfl | rfl
    ·exact⟨_,by decide,rfl⟩
    ·exact⟨_,by decide,rfl⟩
    ·exact⟨_,by decide,rfl⟩
    ·exact⟨_,by decide,rfl⟩
   obtain⟨x,hx,ex'⟩:=four (c%10^Int.toNat 20%4) (zaW (by decide))
   refine zaB (o:=.lst [.int 1,.int 12,.int 1000,.int 1000000]) (zaD _ _) ex' ?_
   have px:0<x:=by omega
   have rx:=zaW (a:=c%10^Int.toNat 20/4*48271%2147483647) px
   exact⟨px,Pre.refl.push,.int _,h _ (by omega) (by omega)⟩
  ·exact h.elim⟩))
def zr9  (zmh:Df K mg "_law_divisor" zlt zgz):Fk P w K mg base 1 "_law_divisor" zgz zik:=
 zmh.mk' (zax (k:=0) zmh.F zi7 (zsp) λcdv A outer s H E hr=>⟨_,(zae (zqA PassesOwn.never (zas zcZ (dv 1) zab (zaq _)) (zae (zam (i:=2) zi7.nd rfl (Or.inl rfl) (zaf za2 (dv 0) (dv 1))) (zae (zam (i:=0) zi7.nd rfl (Or.inl rfl) (dv 1)) (zag (zam (i:=1) zi7.nd rfl (Or.inl rfl) (dv 2)))))) (zag (zak (dv 0)))),λds S Q ex h=>by
  unfold zik at h
  split at h
  ·rename_i a b
   obtain⟨⟨ha,hb⟩,h⟩:=h
   refine⟨λm dl' S'=>S'=S∧∃(x y:Int) (o:Option D),dl'=[some (.int x),some (.int y),o]∧0≤x∧0≤y∧Int.gcd x y=Int.gcd a b∧m=y.toNat,⟨b.toNat,rfl,a,b,none,rfl,ha,hb,rfl,rfl⟩,?_⟩
   rintro m dl' S' ⟨rfl,x,y,o,rfl,hx,hy,hg,rfl⟩
   refine ifD (λc'=>?_) (λc=>?_)
   ·exact⟨c',⟨(x%y).toNat,by have:=zaW (a:=x) c'; omega,rfl,y,x%y,_,rfl,hy,(zaW (a:=x) c').1,(zvt x y).trans hg,rfl⟩⟩
   ·have c:y=0:=by omega
    subst c
    have e:((Int.gcd a b:Nat):Int)=x:=by rw[← hg,Int.gcd_zero_right]; omega
    rw[e] at h
    exact h
  ·exact h.elim⟩)
def zyX  (zlf:Df K mg "_law_fraction" zkH zdw)(zon:Fk P w K mg base 1 "_law_divisor" zgz zik)(zbT:mg "abs"=none):Fk P w K mg base 2 "_law_fraction" zdw zdQ:=
 zlf.mk' (zax (k:=1) zlf.F zrm (zvd) λcdv A outer s H E hr=>⟨_,(zae (zam (i:=2) zrm.nd rfl (Or.inl rfl) (zan zon hr (zaa (zaP zkE rfl zbT Boot.«abs» (zaa (dv 0) zac)) (zaa (dv 1) zac)))) (zag (zak (zat (zaa (zaf zbo (dv 0) (dv 2)) (zaa (zaf zbo (dv 1) (dv 2)) zac)))))),λds S Q ex h=>by
  unfold zdQ at h
  split at h
  ·rename_i T B
   obtain⟨⟨hB,sB⟩,h⟩:=h
   refine⟨⟨zyS T,by omega⟩,?_⟩
   have eg:Int.gcd (if T<0 then -T else T) B=Int.gcd T B:=by
    have z:=ztc T B
    rw[show zdS B=B by unfold zdS; split <;> omega] at z
    exact z
   rw[eg]
   have f:=zyx (T:=T) (B:=B) (d:=((Int.gcd T B:Nat):Int)) (by omega) (by rw[if_neg (by omega)])
   obtain⟨f1,f2,f3,f4,f5,f6⟩:=f
   have gp:(0:Int)<((Int.gcd T B:Nat):Int):=by omega
   have gle:((Int.gcd T B:Nat):Int)≤B:=Int.le_of_dvd hB (Int.gcd_dvd_right T B)
   have sg:Sz 4000 ((Int.gcd T B:Nat):Int):=by
    unfold Sz at sB ⊢
    omega
   refine⟨sg.fd gp,sg.fd gp,?_⟩
   have e1:T/((Int.gcd T B:Nat):Int)=T.fdiv ((Int.gcd T B:Nat):Int):=(Int.fdiv_eq_ediv_of_nonneg _ (by omega)).symm
   have e2:B/((Int.gcd T B:Nat):Int)=B.fdiv ((Int.gcd T B:Nat):Int):=(Int.fdiv_eq_ediv_of_nonneg _ (by omega)).symm
   have q:=h _ _ f4 f5 f6 (zqz f1 f2) (by have:=zqz f1 f3; omega)
   rw[← e1,← e2] at q
   exact q
  ·exact h.elim⟩)
def zwf  (znk:Df K mg "_law_point" zmk zh4)(zb7:Fk P w K mg base 2 "_law_fraction" zdw zdQ):Fk P w K mg base 3 "_law_point" zh4 zhu:=
 znk.mk' (zax (k:=2) znk.F zdq (zuT) λcdv A outer s H E hr=>⟨_,(zae (zam (i:=3) zdq.nd rfl (Or.inl rfl) (za8 zac)) (zae (zam (i:=4) zdq.nd rfl (Or.inl rfl) (zaf za2 (dv 2) (zaf zcq zab zab))) (zae (zda (i:=5) PassesOwn.never rfl zdq.nd rfl (Or.inl rfl) (dv 0) (zae (zam (i:=6) zdq.nd rfl (Or.inl rfl) (zaf zaT zab (zaf za1 (dv 4) zab))) (zae (zav (zas (zaI hr) (zaf za1 (dv 4) zab) zab (zaq _)) (zag (zam (i:=6) zdq.nd rfl (Or.inl rfl) (zaf zaT zab (zaf za1 (dv 4) zab)))) zaw) (zae (zam (i:=7) zdq.nd rfl (Or.inl rfl) (zaf za2 (zaf zbE (dv 4) zab) (zaf zaT (dv 6) zab))) (zae (zbJ (zbK (dv 3) (zan zb7 hr (zaa (zaf zaT (zaf zaM (zad (dv 5) zab (λ_ _=>rfl)) (dv 6)) (zaf zaM (zaf zbl (zad (dv 5) zab (λ_ _=>rfl)) (zad (dv 5) zab (λ_ _=>rfl))) (dv 7))) (zaa (zaf zaM (dv 1) (dv 6)) zac))))) (zag (zam (i:=4) zdq.nd rfl (Or.inl rfl) (zaf zaT (zaf zbE (dv 4) zab) (zaf za2 (zaf zaM (dv 4) zab) zab))))))))) (zag (zak (dv 3)))))),λds S Q ex h=>by
  unfold zhu at h
  split at h
  ·rename_i b g c
   obtain⟨bs,hb,sb,hg,l4,h⟩:=h
   have sg:Sz 20 g:=Sz.of 1000000 (by omega)
   have k1:Sz 17 48271:=by unfold Sz; decide
   have e60:(10:Int)^Int.toNat 60=1000000000000000000000000000000000000000000000000000000000000:=rfl
   have r0:=zaW (a:=c) (b:=10^Int.toNat 60) (by decide)
   refine⟨show (0:Int)<10^Int.toNat 60 by decide,?_⟩
   refine zc6 (n:=b) (o:=.lst (bs.map frD)) (λk dl' S'=>k≤bs.length∧Pre S S'∧(∃ps:List (Int×Int),S'[S.length]?=some (.lst (ps.map frD))∧ps.length=k∧Gd 110 ps∧∀i:Int,inR k i→(gt bs i).1*(gt ps i).2≤(gt ps i).1*g∧(gt ps i).1*g≤(gt bs i).2*(gt ps i).2)∧∃(c1:Int) (u v w:Option D),(0≤c1∧c1≤1000000000000000000000000000000000000000000000000000000000000)∧dl'=[some (.ref b),some (.int g),some (.int c),some (.ref S.length),some (.int c1),u,v,w])
    ⟨Vao _,Pre.refl.push,⟨[],zaD _ _,rfl,λp hp=>(by cases hp),λi hi=>absurd hi.2 (by have:=hi.1; omega)⟩,c%10^Int.toNat 60,_,_,_,⟨r0.1,by omega⟩,rfl⟩ (λk dl' S' w=>w.2.1 _ _ hb) ?_ ?_
   ·rintro k x dl' S' nx ct ex' ⟨hk,pr,⟨ps,hf,lp,gp,ip⟩,c,u,v,w,hc,rfl⟩ hn
    have ex2:(bs.map frD)[k]?=some x:=ex'
    rw[Vai] at ex2
    obtain⟨q0,hq0,rfl⟩:=Vaq.mp ex2
    have hk':=(Vac.mp hq0).1
    have eq0:gt bs (k:Int)=q0:=by simp[gt,Vap,hq0]
    have q:=sb q0 (Vat hq0)
    have sc:Sz 201 c:=Sz.of (10^60) (by omega)
    refine ifD (c:=c%7=1) (λ_=>?_) (λ_=>?_)
    ·refine⟨show (0:Int)<(1+c%999999999)+1 by omega,?_⟩
     have rp:=zaW (a:=c/7) (b:=(1+c%999999999)+1) (by omega)
     obtain⟨m1,m2,sT⟩:=zqW q.1 q.2.1 q.2.2 (w:=(1+c%999999999)) (p:=c/7%((1+c%999999999)+1)) (by omega) rp.1 (by omega)
     have sW:Sz 30 (1+c%999999999):=Sz.of 1000000000 (by omega)
     have gw:0<g*(1+c%999999999):=VaV (by omega) (by omega)
     refine zqq (n:=S.length) (S1:=S') (xs:=ps.map frD) (λK hK=>by exact hK) hf ?_
     refine⟨m1,m2,zaL sg sW,⟨⟨gw,(sg.mul sW).mono (by decide)⟩,λt b' h1 h2 h3 h4 h5=>?_⟩⟩
     refine zpM hf (by rw[Vaa]; omega) ?_
     refine⟨zaL sc k1,show (0:Int)<2147483647 by decide,?_⟩
     refine hn _ _ ⟨by omega,zbn pr (Vab _),⟨ps++[(t,b')],?_,by simp[lp],λz hz=>?_,λi hi=>?_⟩,c/31+c*48271%2147483647,_,_,_,⟨by omega,by omega⟩,rfl⟩
     ·rw[Vaw]
      exact zbk hf
     ·rcases VaR.mp hz with hz | hz
      ·exact gp z hz
      ·have ez:z=(t,b'):=by simpa using hz
       subst ez
       refine⟨h1,h2,?_,?_⟩
       ·exact VaZ h4 (sT.mono (show 84≤110 by decide))
       ·have sb':Sz 51 (g*(1+c%999999999)):=(sg.mul sW).mono (by decide)
        have:b'.natAbs≤(g*(1+c%999999999)).natAbs:=by omega
        exact VaZ this (sb'.mono (show 51≤110 by decide))
     ·by_cases ci:i<k
      ·rw[zqT (by rw[lp]; exact⟨hi.1,ci⟩)]
       exact ip i ⟨hi.1,by omega⟩
      ·have ei:i=k:=by have:=hi.2; simp[lp] at this; omega
       subst ei
       rw[zk3 lp,eq0]
       exact zqJ q.1 (by omega) hg.1 rp.1 (by omega) h1 h3
    ·refine⟨show (0:Int)<(1+c%6)+1 by omega,?_⟩
     have rp:=zaW (a:=c/7) (b:=(1+c%6)+1) (by omega)
     obtain⟨m1,m2,sT⟩:=zqW q.1 q.2.1 q.2.2 (w:=(1+c%6)) (p:=c/7%((1+c%6)+1)) (by omega) rp.1 (by omega)
     have sW:Sz 30 (1+c%6):=Sz.of 1000000000 (by omega)
     have gw:0<g*(1+c%6):=VaV (by omega) (by omega)
     refine zqq (n:=S.length) (S1:=S') (xs:=ps.map frD) (λK hK=>by exact hK) hf ?_
     refine⟨m1,m2,zaL sg sW,⟨⟨gw,(sg.mul sW).mono (by decide)⟩,λt b' h1 h2 h3 h4 h5=>?_⟩⟩
     refine zpM hf (by rw[Vaa]; omega) ?_
     refine⟨zaL sc k1,show (0:Int)<2147483647 by decide,?_⟩
     refine hn _ _ ⟨by omega,zbn pr (Vab _),⟨ps++[(t,b')],?_,by simp[lp],λz hz=>?_,λi hi=>?_⟩,c/31+c*48271%2147483647,_,_,_,⟨by omega,by omega⟩,rfl⟩
     ·rw[Vaw]
      exact zbk hf
     ·rcases VaR.mp hz with hz | hz
      ·exact gp z hz
      ·have ez:z=(t,b'):=by simpa using hz
       subst ez
       refine⟨h1,h2,?_,?_⟩
       ·exact VaZ h4 (sT.mono (show 84≤110 by decide))
       ·have sb':Sz 51 (g*(1+c%6)):=(sg.mul sW).mono (by decide)
        have:b'.natAbs≤(g*(1+c%6)).natAbs:=by omega
        exact VaZ this (sb'.mono (show 51≤110 by decide))
     ·by_cases ci:i<k
      ·rw[zqT (by rw[lp]; exact⟨hi.1,ci⟩)]
       exact ip i ⟨hi.1,by omega⟩
      ·have ei:i=k:=by have:=hi.2; simp[lp] at this; omega
       subst ei
       rw[zk3 lp,eq0]
       exact zqJ q.1 (by omega) hg.1 rp.1 (by omega) h1 h3
   ·rintro dl' S' ⟨hk,pr,⟨ps,hf,lp,gp,ip⟩,c1,u,v,w,hc,rfl⟩
    have e:(zaz (.lst (bs.map frD))).length=bs.length:=by
     show (bs.map frD).length=_
     rw[Vaa]
    rw[e] at lp ip
    exact h _ _ ps pr (Vab _) hf lp gp (λi hi=>ip i (by rw[lp] at hi; exact hi))
  ·exact h.elim⟩)
def zui  (zkW:Df K mg "_law_number" zjR zho)(zb7:Fk P w K mg base 2 "_law_fraction" zdw zdQ):Fk P w K mg base 3 "_law_number" zho zgK:=
 zkW.mk' (zax (k:=2) zkW.F zk2 (zyT) λcdv A outer s H E hr=>⟨_,(zae (zam (i:=1) zk2.nd rfl (Or.inl rfl) (zaf za2 (dv 0) (zaf zcq zab zab))) (zae (zav (zas (zaI hr) (zaf za1 (dv 1) zab) zab (zaq _)) (zag (zam (i:=2) zk2.nd rfl (Or.inl rfl) (zan zb7 hr (zaa (zaf zbl (zaf za2 (zaf zbE (dv 1) zab) zab) zab) (zaa (zaf zaT zab (zaf za1 (zaf zaM (dv 1) zab) zab)) zac))))) (zag (zam (i:=2) zk2.nd rfl (Or.inl rfl) (zan zb7 hr (zaa (zaf zbl (zaf za1 (zaf zbE (dv 1) zab) zab) zab) (zaa (zaf zaT zab (zaf za1 (zaf za2 (zaf zaM (dv 1) zab) zab) zab)) zac)))))) (zag (zak (zat (zaa zaH (zaa (zad (dv 2) zab (λ_ _=>rfl)) (zaa (zad (dv 2) zab (λ_ _=>rfl)) zac)))))))),λds S Q ex h=>by
  unfold zgK at h
  split at h
  ·rename_i c
   have r0:=zaW (a:=c) (b:=10^Int.toNat 40) (by decide)
   have s0:Sz 140 (c%10^Int.toNat 40):=Sz.of (10^40) (by have e:(10:Int)^Int.toNat 40=10000000000000000000000000000000000000000:=rfl; omega)
   have k1:Sz 17 48271:=by unfold Sz; decide
   have mo:=zaL (m:=140) (n:=17) s0 k1
   refine⟨show (0:Int)<10^Int.toNat 40 by decide,?_⟩
   refine ifD (λe=>?_) (λe=>?_)
   ·have r1:=zaW (a:=c%10^Int.toNat 40/4) (b:=1999999999) (by decide)
    have r2:=zaW (a:=c%10^Int.toNat 40*48271) (b:=999999999) (by decide)
    refine⟨show (0:Int)<1999999999 by decide,mo,?_⟩
    refine⟨⟨show 0<1+c%10^Int.toNat 40*48271%999999999 by omega,Sz.of (10^10) (by show (1+c%10^Int.toNat 40*48271%999999999).natAbs≤_; omega)⟩,λt b h1 h2 h3 h4 h5=>?_⟩
    exact h t b ⟨h1,by omega⟩ h2 (by omega)
   ·have r2:=zaW (a:=c%10^Int.toNat 40*48271%2147483647) (b:=6) (by decide)
    refine⟨mo,show (0:Int)<2147483647 by decide,?_⟩
    refine⟨⟨show 0<1+c%10^Int.toNat 40*48271%2147483647%6 by omega,Sz.of (10^10) (by show (1+c%10^Int.toNat 40*48271%2147483647%6).natAbs≤_; omega)⟩,λt b h1 h2 h3 h4 h5=>?_⟩
    exact h t b ⟨h1,by omega⟩ h2 (by omega)
  ·exact h.elim⟩)
def zsY  (zj7:Df K mg "_law_node" zkP zhI)(zoB:Fk P w K mg base 3 "_law_number" zho zgK):Fk P w K mg base 4 "_law_node" zhI zgV:=
 zj7.mk' (zes (zax (k:=3) zj7.F zen (zfP (zxy)) λcdv A outer s H E hr=>⟨_,(zae (zam (i:=3) zen.nd rfl (Or.inl rfl) (zaf za2 (dv 0) (zaf zcq zab zab))) (zae (zam (i:=4) zen.nd rfl (Or.inl rfl) (zaf za1 (dv 3) zab)) (zae (zam (i:=3) zen.nd rfl (Or.inl rfl) (zaf zbE (dv 3) zab)) (zae (zav (zas (zaI hr) (dv 4) zab (zaq _)) (zag (zak (zan zoB hr (zaa (dv 3) zac)))) zaw) (zae (zav (PDW.pt (zbV (zas (zaI hr) (dv 4) zab (zaq _)) (zcG (zas (zaI hr) (dv 1) zab (zaq _))))) (zag (zak (zat (zaa zaH (zaa (zaf za2 (dv 3) (dv 2)) zac))))) zaw) (zae (zam (i:=5) zen.nd rfl (Or.inl rfl) (zaf za2 (dv 3) (dv 1))) (zae (zav (zas (zaI hr) (zaf za1 (dv 3) zab) zab (zaq _)) (zag (zam (i:=5) zen.nd rfl (Or.inl rfl) (zaf zbl (dv 1) zab))) zaw) (zae (zav (zas (zaI hr) (dv 4) zab (zaq _)) (zag (zak (zat (zaa zaH (zaa (dv 5) (zaa (zaf zaT zab (zaf za1 (zaf za2 (zaf zaM (dv 3) zab) zab) zab)) zac)))))) zaw) (zag (zak (zat (zaa (zaG (za8 (zaa zaH (zaa zaH (zaa zaH zac)))) (zaf za1 (dv 4) zab) (λ_ _=>rfl)) (zaa (dv 5) (zaa (zaf za2 (zaf za2 (zaf zaM (dv 3) zab) zab) (dv 1)) zac)))))))))))))),λds S Q ex h=>by
  obtain⟨Q0,ex0,rfl,rfl,h⟩:=h
  unfold zgV at h
  split at h
  ·rename_i c m q
   obtain⟨⟨m0,m1,q0,q1⟩,h⟩:=h
   have h':∀v:Nd,v.ok m q→Gc S Q0 v.d S:=λv z=>⟨Pre.refl,zdu v,h v z⟩
   have r0:=zaW (a:=c) (b:=10^Int.toNat 40) (by decide)
   have s0:Sz 140 (c%10^Int.toNat 40):=Sz.of (10^40) (by have e:(10:Int)^Int.toNat 40=10000000000000000000000000000000000000000:=rfl; omega)
   have s1:=s0.div (j:=8) (by decide)
   refine⟨show (0:Int)<10^Int.toNat 40 by decide,?_⟩
   refine ifD (λe=>?_) (λe=>?_)
   ·exact λt b h1 h2 h3=>h' (.number t b) ⟨h1,h2,h3⟩
   have pq:0<q:=by omega
   have rq:=zaW (a:=c%10^Int.toNat 40/8) pq
   have un:=h' (.unknown (c%10^Int.toNat 40/8%q)) rq
   refine ifD (λe=>⟨pq,un⟩) (λe=>?_)
   refine ifD (λe=>⟨pq,un⟩) (λe=>?_)
   have pm:0<m:=by omega
   have rm:=zaW (a:=c%10^Int.toNat 40/8) pm
   have r5:=zaW (a:=c%10^Int.toNat 40/8*69621%2147483629) (b:=5) (by decide)
   have rj:=zaW (a:=c%10^Int.toNat 40/8*48271%2147483647) pm
   have k1:Sz 17 48271:=by unfold Sz; decide
   have k2:Sz 17 69621:=by unfold Sz; decide
   refine⟨pm,?_⟩
   have last:∀(i:Int),inR m i→∀(x:Str),(x="plus"∨x="minus"∨x="times")→Gc S Q0 (.tup [.str x,.int i,.int (c%10^Int.toNat 40/8*48271%2147483647%m)]) (S++[.lst [.str "plus",.str "minus",.str "times"]]):=λi hi x hx=>by
    rcases hx with rfl | rfl | rfl
    ·exact⟨Pre.refl.push,zdu (.plus i _),h (.plus i _) ⟨hi,rj⟩⟩
    ·exact⟨Pre.refl.push,zdu (.minus i _),h (.minus i _) ⟨hi,rj⟩⟩
    ·exact⟨Pre.refl.push,zdu (.times i _),h (.times i _) ⟨hi,rj⟩⟩
   have three:∀i:Int,inR 3 i→∃x:Str,(x="plus"∨x="minus"∨x="times")∧atI [D.str "plus",D.str "minus",D.str "times"] i=some (.str x):=λi hi=>by
    obtain⟨h0,h3⟩:=hi
    have z:i=0∨i=1∨i=2:=by omega
    rcases z with rfl | rfl | rfl
    ·exact⟨_,.inl rfl,rfl⟩
    ·exact⟨_,.inr (.inl rfl),rfl⟩
    ·exact⟨_,.inr (.inr rfl),rfl⟩
   obtain⟨x,hx,ex'⟩:=three (c%10^Int.toNat 40%8%3) (zaW (by decide))
   refine ifD (λe=>?_) (λe=>?_)
   ·refine ifD (λe=>?_) (λe=>?_)
    ·exact⟨zaL (m:=140) (n:=17) s1 k2,show (0:Int)<2147483629 by decide,h' (.power (m-1) _) ⟨⟨by omega,by omega⟩,by omega,by omega⟩⟩
    ·refine zaB (o:=.lst [.str "plus",.str "minus",.str "times"]) (zaD _ _) ex' ?_
     exact⟨zaL (m:=140) (n:=17) s1 k1,show (0:Int)<2147483647 by decide,pm,last _ ⟨by omega,by omega⟩ x hx⟩
   ·refine ifD (λe=>?_) (λe=>?_)
    ·exact⟨zaL (m:=140) (n:=17) s1 k2,show (0:Int)<2147483629 by decide,h' (.power (c%10^Int.toNat 40/8%m) _) ⟨rm,by omega,by omega⟩⟩
    ·refine zaB (o:=.lst [.str "plus",.str "minus",.str "times"]) (zaD _ _) ex' ?_
     exact⟨zaL (m:=140) (n:=17) s1 k1,show (0:Int)<2147483647 by decide,pm,last _ rm x hx⟩
  ·exact h.elim⟩))
def zsG  (zmK:Df K mg "_law_weight" zkc zfb):Fk P w K mg base 1 "_law_weight" zfb zeB:=
 zmK.mk' (zax (k:=0) zmK.F zym (zsd) λcdv A outer s H E hr=>⟨_,(zae (zav (PDW.pt (zbV (zas (zaI hr) (zad (dv 0) zab (λ_ _=>rfl)) zaH (zaq _)) (zcG (zas (zaI hr) (zad (dv 0) zab (λ_ _=>rfl)) zaH (zaq _))))) (zag (zak zab)) zaw) (zae (zav (zas (zaI hr) (zad (dv 0) zab (λ_ _=>rfl)) zaH (zaq _)) (zag (zak (zaf zaM (zad (dv 0) zab (λ_ _=>rfl)) (zaG (dv 1) (zad (dv 0) zab (λ_ _=>rfl)) (λ_ _=>rfl))))) zaw) (zag (zak (zaf zaT (zaG (dv 1) (zad (dv 0) zab (λ_ _=>rfl)) (λ_ _=>rfl)) (zaG (dv 1) (zad (dv 0) zab (λ_ _=>rfl)) (λ_ _=>rfl))))))),λds S Q ex h=>by
  unfold zeB at h
  split at h
  ·rename_i d r
   obtain⟨v,ws,q,rfl,hl,ok,sm,h⟩:=h
   cases v with
   | number t b=>exact h
   | unknown k=>exact h
   | power i n=>
    obtain⟨hi,n2,n6⟩:=ok
    have b:=sm i hi
    refine zaB (o:=.lst (ws.map wtD)) hl (zek hi) ?_
    refine⟨zaL (m:=400) (n:=400) (Sz.of (10^20) (by omega)) (Sz.of (10^20) (by omega)),?_⟩
    have e:n*((ws.getD i.toNat 0:Nat):Int)=((Nd.wt ws (.power i n):Nat):Int):=by
     simp only[Nd.wt]
     rw[Int.natCast_mul]
     rw[Int.toNat_of_nonneg (by omega)]
    show Q (.int (n*((ws.getD i.toNat 0:Nat):Int))) S
    rw[e]
    exact h
   | plus i j=>
    refine zaB (o:=.lst (ws.map wtD)) hl (zek ok.1) ?_
    exact zaB (o:=.lst (ws.map wtD)) hl (zek ok.2) h
   | minus i j=>
    refine zaB (o:=.lst (ws.map wtD)) hl (zek ok.1) ?_
    exact zaB (o:=.lst (ws.map wtD)) hl (zek ok.2) h
   | times i j=>
    refine zaB (o:=.lst (ws.map wtD)) hl (zek ok.1) ?_
    exact zaB (o:=.lst (ws.map wtD)) hl (zek ok.2) h
  ·exact h.elim⟩)
def zrN  (zmM:Df K mg "_law_net" ze2 zhW)(zeP:Fk P w K mg base 1 "_law_weight" zfb zeB)(zoN:Fk P w K mg base 4 "_law_node" zhI zgV)(zaR:mg "len"=none)(zbh:mg "range"=none):Fk P w K mg base 5 "_law_net" zhW zib:=
 zmM.mk' (zax (k:=4) zmM.F zeh (zuY) λcdv A outer s H E hr=>⟨_,(zae (zam (i:=5) zeh.nd rfl (Or.inl rfl) (za8 zac)) (zae (zav (zbq (dv 2)) (zag (zn1 (x:="_law_k") (N:=[]) (caps:=[]) (ar:=zar ze2) rfl rfl csc rfl (by decide) (i:=5) zeh.nd rfl rfl rfl zbh (zaa (dv 1) zac) (λ_ _ _ _ _ _=>zeQ) (λ_ _ _ _ _ _=>(zat (zaa zaH (zaa (dv 0) zac)))))) zaw) (zae (zrx (x:="_law_node_here") (N:=[]) (caps:=[]) (ar:=zar ze2) rfl rfl csc rfl (by decide) (i:=6) zeh.nd rfl rfl (dv 5) (λ_ _ _ _ _ _=>zeQ) (λ_ _ _ _ _ _=>zab)) (zae (zda (i:=7) PassesOwn.never rfl zeh.nd rfl (Or.inl rfl) (dv 0) (zae (zam (i:=8) zeh.nd rfl (Or.inl rfl) (zan zoN hr (zaa (dv 7) (zaa (zaP (za7 zbC) rfl zaR Boot.«len» (zaa (dv 5) zac)) (zaa (dv 1) zac))))) (zae (zam (i:=9) zeh.nd rfl (Or.inl rfl) (zan zeP hr (zaa (dv 8) (zaa (dv 6) zac)))) (zag (zav (PDW.pt (zct (zas zd6 (dv 9) (dv 3) (zaq _)) (zct (zas zbi (zaP (za7 zbC) rfl zaR Boot.«len» (zaa (dv 5) zac)) (dv 4) (zaq _)) (zc4 (zas (zoV hr) (dv 8) (dv 5) rfl))))) (zae (zbJ (zbK (dv 5) (dv 8))) (zag (zbJ (zbK (dv 6) (dv 9))))) zaw))))) (zae (zav (zas (zaI hr) (zaP (za7 zbC) rfl zaR Boot.«len» (zaa (dv 5) zac)) zab (zaq _)) (zag (zbJ (zbK (dv 5) (zat (zaa zaH (zaa zab zac)))))) zaw) (zag (zak (dv 5)))))))),λds S Q ex h=>by
  unfold zib at h
  split at h
  ·rename_i c q b h16 most
   obtain⟨cs,qn,hv,hc,hint,rfl,hq,rfl,⟨hv1,hv2⟩,hm,h⟩:=h
   refine zn3 (λdl2 S2=>∃(ns:List Nd) (m:Nat),zaF qn ns (ns.map λ_=>1)∧ns.length≤4∧Pre S S2∧S.length≤m∧S2[m]?=some (.lst (ns.map Nd.d))∧dl2=[some (.ref c),some (.int (qn:Nat)),some (.bl b),some (.int (hv:Int)),some (.int most),some (.ref m),none,none,none,none]) (λnx hn=>?_) ?_
   ·cases b with
    | false=>exact hn _ _ ⟨[],S.length,zaF.nil _,by decide,Pre.refl.push,Vab _,zaD _ _,rfl⟩
    | true=>
     refine zuF (j:=(qn:Nat)) (S1:=S++[.lst []]) (λk=>.tup [.str "unknown",.int (k:Int)]) (λK hK=>by exact hK) ⟨by omega,by omega⟩ (λk hk S2 K pr hK=>by exact hK) ?_
     have z:=ztu qn
     have e:((List.range ((qn:Nat):Int).toNat).map λ(k:Nat)=>D.tup [.str "unknown",.int (k:Int)])=((List.range qn).map λ(k:Nat)=>Nd.unknown (k:Int)).map Nd.d:=by
      rw[List.map_map,Vad]
      rfl
     rw[e]
     refine hn _ _ ⟨(List.range qn).map λ(k:Nat)=>Nd.unknown (k:Int),(S++[Ob.lst []]).length,?_,by simp; omega,Pre.refl.push.push,by simp,zaD _ _,rfl⟩
     rw[List.map_map]
     exact z
   rintro dl2 S2 ⟨ns,m,net,l4,pr,hm2,hS,rfl⟩
   refine znh (n:=m) (o:=.lst (ns.map Nd.d)) (λ_=>.int 1) (λK hK=>by exact hK) hS (by show (ns.map Nd.d).length≤1000; rw[Vaa]; omega) (λx hx S3 K _ hK=>by exact hK) ?_
   have ew:(zaz (.lst (ns.map Nd.d))).map (λ_=>D.int 1)=(ns.map λ_=>(1:Nat)).map wtD:=by
    show (ns.map Nd.d).map (λ_=>D.int 1)=_
    rw[List.map_map]
    rw[List.map_map]
    rfl
   rw[ew]
   dsimp only
   refine zjx (λdl2 S3=>∃(ns:List Nd) (ws:List Nat),zaF qn ns ws∧Hv hv ws∧ns.length≤60∧Pre S S3∧S3[m]?=some (.lst (ns.map Nd.d))∧∃u6 u7 u8 u9:Option D,dl2=[some (.ref c),some (.int (qn:Nat)),some (.bl b),some (.int (hv:Int)),some (.int most),some (.ref m),u6,u7,u8,u9]) (λnx hn=>?_) ?_
   ·have lm:=zbQ hS
    refine zc6 (n:=c) (o:=.lst cs) (λk dl' S'=>∃(ns:List Nd) (ws:List Nat),zaF qn ns ws∧Hv hv ws∧ns.length≤60∧Pre S S'∧S'[m]?=some (.lst (ns.map Nd.d))∧S'[S2.length]?=some (.lst (ws.map wtD))∧∃u7 u8 u9:Option D,dl'=[some (.ref c),some (.int (qn:Nat)),some (.bl b),some (.int (hv:Int)),some (.int most),some (.ref m),some (.ref S2.length),u7,u8,u9]) ⟨ns,_,net,zy0 hv1 ns,by omega,pr.push,zaC hS,zaD _ _,_,_,_,rfl⟩ (λk dl' S' ⟨_,_,_,_,_,p,_⟩=>p _ _ hc) ?_ (λdl' S' ⟨ns,ws,a1,a0,a2,a3,a4,_,u7,u8,u9,e⟩=>hn _ _ ⟨ns,ws,a1,a0,a2,a3,a4,_,_,_,_,e⟩)
    rintro k x dl' S' nx ct ex' ⟨ns,ws,net,hvw,l60,pr',hS',hW',u7,u8,u9,rfl⟩ hn
    obtain⟨i,rfl⟩:=hint _ (Vat ex')
    refine zck hS' ?_
    rw[Vaa]
    refine⟨⟨by omega,by omega,by omega,by omega⟩,λv ok=>?_⟩
    have okw:v.ok ws.length (qn:Nat):=by rw[net.len]; exact ok
    refine⟨v,ws,_,rfl,hW',okw,λi hi=>(net.w1 (by rw[← net.len]; exact hi)).2,?_⟩
    have on:=hn _ _ ⟨ns,ws,net,hvw,l60,pr',hS',hW',some (.int i),some v.d,some (.int (v.wt ws:Nat)),rfl⟩
    refine ifD (λe1=>?_) (λe1=>on)
    refine zck hS' ?_
    rw[Vaa]
    refine ifD (λe2=>?_) (λe2=>on)
    refine zqO hS' λb=>?_
    cases b with
    | false=>exact on
    | true=>
     refine zb1 (n:=m) (S1:=S') (xs:=ns.map Nd.d) (y:=v.d) (λK hK=>by exact hK) hS' (λK hK=>by exact hK) (by rw[Vaa]; omega) ?_
     have nmm:m≠S2.length:=by omega
     refine zb1 (n:=S2.length) (S1:=S'.set m (.lst (ns.map Nd.d++[v.d]))) (xs:=ws.map wtD) (y:=wtD (v.wt ws)) (λK hK=>by exact hK) (zaU hW' nmm) (λK hK=>by exact hK) (by rw[Vaa,net.len]; omega) ?_
     have l2:S.length≤S2.length:=by omega
     refine hn _ _ ⟨ns++[v],ws++[v.wt ws],net.snoc ok (by omega),zqQ hvw (by omega),by simp; omega,zbn (zbn pr' hm2) l2,?_,?_,_,_,_,rfl⟩
     ·rw[Vaw]
      exact zaU (zbk hS') (Ne.symm nmm)
     ·rw[Vaw]
      exact zbk (zaU hW' nmm)
   rintro dl2 S3 ⟨ns,ws,net,hvw,l60,pr',hS',u6,u7,u8,u9,rfl⟩
   refine zck hS' ?_
   rw[Vaa]
   refine ifD (λe=>?_) (λe=>?_)
   ·refine zb1 (n:=m) (S1:=S3) (xs:=ns.map Nd.d) (y:=Nd.d (.unknown 0)) (λK hK=>by exact hK) hS' (λK hK=>by exact hK) (by rw[Vaa]; omega) ?_
    have e0:ns=[]:=List.eq_nil_of_length_eq_zero (by omega)
    subst e0
    have w0:ws=[]:=List.eq_nil_of_length_eq_zero net.len
    subst w0
    exact h [.unknown 0] [1] _ _ (zaF.snoc (zaF.nil _) (v:=.unknown 0) ⟨by decide,by omega⟩ (show 1≤16 by decide)) (zqQ (zuX hv) hv1) (by decide) (by decide) (zbn pr' hm2) hm2 (zbk hS')
   ·exact h ns ws _ _ net hvw (by omega) l60 pr' hm2 hS'
  ·exact h.elim⟩)
def zxU  (zlq:Df K mg "_law_put" zl1 zhS):Fk P w K mg base 1 "_law_put" zhS zhG:=
 zlq.mk' (zax (k:=0) zlq.F zse (zwl) λcdv A outer s H E hr=>⟨_,(zae (zav (zas (zoV hr) (dv 1) (dv 0) rfl) (zag (zbJ (zbK (dv 0) (dv 1)))) zaw) (zag (zak (zxQ (k:=1) hr (by decide) (dv 0) (zaa (dv 1) zac))))),λds S Q ex h=>by
  unfold zhG at h
  split at h
  ·rename_i a d
   obtain⟨q,v,ns,ws,rfl,ha,l9,net,ok,h16,h⟩:=h
   have fin:∀(T:Sto) (j:Nat) (ns':List Nd) (ws':List Nat),Gr q a 1 S ns ws T ns' ws'→ns'[j]?=some v→Q (.int (j:Int)) T:=λT j ns' ws' gr hj=>by
    refine h T j ns' ws' gr (Vac.mp hj).1 hj ?_ (zv9 gr ok hj)
    rw[(gr.net.ok j v hj).2.1]
    exact zrW gr net ok
   obtain⟨o,e1,e2,e3⟩:=zoY v ns
   refine zv4 (o:=o) ha e2 ?_
   cases o with
   | some j=>
    refine zbO ?_
    refine zp9 (n:=a) (v:=v) (ns:=ns) (λK hK=>by exact hK) (λK hK=>by exact hK) ha e1 ?_
    exact fin S j ns ws ((Gr.refl net ha).mono (by decide)) (e3 j rfl)
   | none=>
    refine zcv ?_
    refine zb1 (n:=a) (S1:=S) (xs:=ns.map Nd.d) (y:=v.d) (λK hK=>by exact hK) ha (λK hK=>by exact hK) (by rw[Vaa]; omega) ?_
    have hm:(S.set a (.lst (ns.map Nd.d++[v.d])))[a]?=some (.lst ((ns++[v]).map Nd.d)):=by
     rw[Vaw]
     exact zbk ha
    obtain⟨o2,f1,f2,f3⟩:=zoY v (ns++[v])
    cases o2 with
    | none=>
     obtain⟨k,hk⟩:∃k,(ns++[v])[k]?=some v:=⟨ns.length,by simp⟩
     exact absurd f2 (any_some hk)
    | some j=>
     refine zp9 (n:=a) (v:=v) (ns:=ns++[v]) (λK hK=>by exact hK) (λK hK=>by exact hK) hm f1 ?_
     exact fin _ j (ns++[v]) (ws++[v.wt ws]) ⟨net.snoc ok h16,⟨[v],rfl,by simp⟩,⟨_,rfl⟩,hm,by simp,λx o hx e=>zaU e (Ne.symm hx)⟩ (f3 j rfl)
  ·exact h.elim⟩)
def zsm  (zm7:Df K mg "_law_power" zlH zfe)(zbh:mg "range"=none):Fk P w K mg base 1 "_law_power" zfe zeT:=
 zm7.mk' (zax (k:=0) zm7.F zkm (zte) λcdv A outer s H E hr=>⟨_,(zae (zam (i:=2) zkm.nd rfl (Or.inl rfl) zab) (zae (zn6 (i:=3) PassesOwn.never rfl zkm.nd rfl (Or.inl rfl) rfl zbh (zaa (dv 1) zac) (zag (zam (i:=2) zkm.nd rfl (Or.inl rfl) (zaf zaM (dv 2) (dv 0))))) (zag (zak (dv 2))))),λds S Q ex h=>by
  unfold zeT at h
  split at h
  ·rename_i x n
   obtain⟨⟨h0,h6,sx⟩,h⟩:=h
   refine⟨⟨by omega,by omega⟩,λk dl' S'=>S'=S∧k≤n.toNat∧∃(z:Int) (o:Option D),z=x^k∧dl'=[some (.int x),some (.int n),some (.int z),o],⟨rfl,Vao _,1,none,(VaQ x).symm,rfl⟩,?_⟩
   rintro k dl' S' ⟨rfl,hk,z,o,rfl,rfl⟩
   refine zf9 (λc=>?_) (λc=>?_)
   ·exact⟨zaL (m:=12001) (n:=2000) ((sx.pow k).mono (by omega)) sx,rfl,by omega,_,_,(Vae x k).symm,rfl⟩
   ·have e:k=n.toNat:=by omega
    subst e
    exact h
  ·exact h.elim⟩)
def zyq  (zi2:Df K mg "_law_exact" znj zfZ)(zc0:Fk P w K mg base 1 "_law_power" zfe zeT):Fk P w K mg base 2 "_law_exact" zfZ zhf:=
 zi2.mk' (zax (k:=1) zi2.F zpe (ztv) λcdv A outer s H E hr=>⟨_,(zae (zav (zas (zaI hr) (zad (dv 0) zab (λ_ _=>rfl)) zaH (zaq _)) (zag (zak (zat (zaa (zad (dv 0) zab (λ_ _=>rfl)) (zaa (zad (dv 0) zab (λ_ _=>rfl)) zac))))) zaw) (zae (zav (zas (zaI hr) (zad (dv 0) zab (λ_ _=>rfl)) zaH (zaq _)) (zag (zak (zaG (dv 2) (zad (dv 0) zab (λ_ _=>rfl)) (λ_ _=>rfl)))) zaw) (zae (zam (i:=3) zpe.nd rfl (Or.inl rfl) (zaG (dv 1) (zad (dv 0) zab (λ_ _=>rfl)) (λ_ _=>rfl))) (zae (zav (zas (zaI hr) (zad (dv 0) zab (λ_ _=>rfl)) zaH (zaq _)) (zag (zak (zat (zaa (zan zc0 hr (zaa (zad (dv 3) zab (λ_ _=>rfl)) (zaa (zad (dv 0) zab (λ_ _=>rfl)) zac))) (zaa (zan zc0 hr (zaa (zad (dv 3) zab (λ_ _=>rfl)) (zaa (zad (dv 0) zab (λ_ _=>rfl)) zac))) zac))))) zaw) (zae (zam (i:=4) zpe.nd rfl (Or.inl rfl) (zaG (dv 1) (zad (dv 0) zab (λ_ _=>rfl)) (λ_ _=>rfl))) (zae (zav (zas (zaI hr) (zad (dv 0) zab (λ_ _=>rfl)) zaH (zaq _)) (zag (zak (zat (zaa (zaf zaM (zad (dv 3) zab (λ_ _=>rfl)) (zad (dv 4) zab (λ_ _=>rfl))) (zaa (zaf zaM (zad (dv 3) zab (λ_ _=>rfl)) (zad (dv 4) zab (λ_ _=>rfl))) zac))))) zaw) (zae (zav (zas (zaI hr) (zad (dv 0) zab (λ_ _=>rfl)) zaH (zaq _)) (zag (zak (zat (zaa (zaf zaT (zaf zaM (zad (dv 3) zab (λ_ _=>rfl)) (zad (dv 4) zab (λ_ _=>rfl))) (zaf zaM (zad (dv 4) zab (λ_ _=>rfl)) (zad (dv 3) zab (λ_ _=>rfl)))) (zaa (zaf zaM (zad (dv 3) zab (λ_ _=>rfl)) (zad (dv 4) zab (λ_ _=>rfl))) zac))))) zaw) (zag (zak (zat (zaa (zaf zbl (zaf zaM (zad (dv 3) zab (λ_ _=>rfl)) (zad (dv 4) zab (λ_ _=>rfl))) (zaf zaM (zad (dv 4) zab (λ_ _=>rfl)) (zad (dv 3) zab (λ_ _=>rfl)))) (zaa (zaf zaM (zad (dv 3) zab (λ_ _=>rfl)) (zad (dv 4) zab (λ_ _=>rfl))) zac)))))))))))),λds S Q ex h=>by
  unfold zhf at h
  split at h
  ·rename_i d w p
   obtain⟨v,vs,ps,rfl,hw,hp,ok,g1,g2,h⟩:=h
   cases v with
   | number t b=>exact h
   | unknown k=>exact zaB (o:=.lst (ps.map frD)) hp (zaK ok) h
   | power i n=>
    have g:=g1.at ok.1
    refine zaB (o:=.lst (vs.map frD)) hw (zaK ok.1) ?_
    exact⟨⟨by have:=ok.2.1; omega,ok.2.2,g.2.1.mono (by decide)⟩,⟨by have:=ok.2.1; omega,ok.2.2,g.2.2.mono (by decide)⟩,h⟩
   | times i j=>
    have g:=g1.at ok.1
    have g':=g1.at ok.2
    refine zaB (o:=.lst (vs.map frD)) hw (zaK ok.1) ?_
    refine zaB (o:=.lst (vs.map frD)) hw (zaK ok.2) ?_
    exact⟨zaL g.2.1 g'.2.1,zaL g.2.2 g'.2.2,h⟩
   | plus i j=>
    have g:=g1.at ok.1
    have g':=g1.at ok.2
    refine zaB (o:=.lst (vs.map frD)) hw (zaK ok.1) ?_
    refine zaB (o:=.lst (vs.map frD)) hw (zaK ok.2) ?_
    exact⟨zaL g.2.1 g'.2.2,zaL g'.2.1 g.2.2,zaL g.2.2 g'.2.2,h⟩
   | minus i j=>
    have g:=g1.at ok.1
    have g':=g1.at ok.2
    refine zaB (o:=.lst (vs.map frD)) hw (zaK ok.1) ?_
    refine zaB (o:=.lst (vs.map frD)) hw (zaK ok.2) ?_
    exact⟨zaL g.2.1 g'.2.2,zaL g'.2.1 g.2.2,zaL g.2.2 g'.2.2,h⟩
  ·exact h.elim⟩)
def zwd  (zkM:Df K mg "_law_exacts" zlx zhc)(zoG:Fk P w K mg base 2 "_law_exact" zfZ zhf):Fk P w K mg base 3 "_law_exacts" zhc zgH:=
 zkM.mk' (zax (k:=2) zkM.F znV (zue) λcdv A outer s H E hr=>⟨_,(zae (zam (i:=2) znV.nd rfl (Or.inl rfl) (za8 zac)) (zae (zda (i:=3) PassesOwn.never rfl znV.nd rfl (Or.inl rfl) (dv 0) (zag (zbJ (zbK (dv 2) (zan zoG hr (zaa (dv 3) (zaa (dv 2) (zaa (dv 1) zac)))))))) (zag (zak (dv 2))))),λds S Q ex h=>by
  unfold zgH at h
  split at h
  ·rename_i a b
   obtain⟨ns,ws,ps,ha,hb,net,gp,hl,h⟩:=h
   have pp:Pz 110 ps:=λp hp=>⟨(gp p hp).1,(gp p hp).2.2.1,(gp p hp).2.2.2⟩
   refine zc6 (n:=a) (o:=.lst (ns.map Nd.d)) (λk dl' S'=>k≤ns.length∧Pre S S'∧S'[S.length]?=some (.lst ((zaV ps (ns.take k)).map frD))∧∃u:Option D,dl'=[some (.ref a),some (.ref b),some (.ref S.length),u]) ⟨Vao _,Pre.refl.push,zaD _ _,_,rfl⟩ (λk dl' S' w=>w.2.1 _ _ ha) ?_ ?_
   ·rintro k x dl' S' nx ct ex' ⟨hk,pr,hf,u,rfl⟩ hn
    have ex2:(ns.map Nd.d)[k]?=some x:=ex'
    rw[Vai] at ex2
    obtain⟨v,hv,rfl⟩:=Vaq.mp ex2
    have hk':=(Vac.mp hv).1
    have ln:(zaV ps (ns.take k)).length=k:=by rw[zg8,Vah]; omega
    have okv:v.ok (zaV ps (ns.take k)).length ps.length:=by rw[ln]; exact(net.ok k v hv).1
    have pz:Pz 1990 (zaV ps (ns.take k)):=λp hp=>by
     have z:=Pz.of_w (zp7 net rfl pp k hk) (λj hj=>(net.w1 (i:=j) ⟨by omega,by omega⟩).2) p hp
     exact⟨z.1,z.2.1.mono (by decide),z.2.2.mono (by decide)⟩
    refine zb1 (n:=S.length) (S1:=S') (xs:=(zaV ps (ns.take k)).map frD) (y:=frD (v.due (zaV ps (ns.take k)) ps)) (λK hK=>by exact hK) hf (λK hK=>?_) (by rw[Vaa,ln]; omega) ?_
    ·exact⟨v,_,ps,rfl,hf,pr _ _ hb,okv,pz,λp hp=>⟨(pp p hp).1,(pp p hp).2.1.mono (by decide),(pp p hp).2.2.mono (by decide)⟩,hK⟩
    ·refine hn _ _ ⟨by omega,zbn pr (Vab _),?_,_,rfl⟩
     rw[zce hv,zg5,Vaw]
     exact zbk hf
   ·rintro dl' S' ⟨hk,pr,hf,u,rfl⟩
    refine h _ _ pr (Vab _) ?_
    have e:ns.take (zaz (.lst (ns.map Nd.d))).length=ns:=by
     show ns.take (ns.map Nd.d).length=ns
     rw[Vaa,VaK]
    rw[e] at hf
    exact hf
  ·exact h.elim⟩)
def zvv  (zmy:Df K mg "_law_met_row" zkS zhL)(zcJ:Fk P w K mg base 1 "_law_put" zhS zhG)(zb7:Fk P w K mg base 2 "_law_fraction" zdw zdQ)(znY:Fk P w K mg base 3 "_law_exacts" zhc zgH)(zbT:mg "abs"=none)(zaR:mg "len"=none):Fk P w K mg base 4 "_law_met_row" zhL zg9:=
 zmy.mk' (zax (k:=3) zmy.F zdg (zwu) λcdv A outer s H E hr=>⟨_,(zae (zam (i:=4) zdg.nd rfl (Or.inl rfl) (zaf za2 (dv 3) (zaf zcq zab zab))) (zae (zam (i:=5) zdg.nd rfl (Or.inl rfl) (zaf za2 (zaf zbE (dv 4) zab) (zaP (za7 zbC) rfl zaR Boot.«len» (zaa (dv 1) zac)))) (zae (zam (i:=6) zdg.nd rfl (Or.inl rfl) (zaG (dv 1) (dv 5) (λ_ _=>rfl))) (zae (zav (PDW.pt (zct (zas (zaI hr) (zaf za1 (dv 4) zab) zab (zaq _)) (zct (zas zbi (zaP zkE rfl zbT Boot.«abs» (zaa (zad (dv 6) zab (λ_ _=>rfl)) zac)) (zaf zcq zab zab) (zaq _)) (zc4 (zas zbi (zad (dv 6) zab (λ_ _=>rfl)) (zaf zcq zab zab) (zaq _)))))) (zae (zam (i:=7) zdg.nd rfl (Or.inl rfl) (zan zcJ hr (zaa (dv 0) (zaa (zat (zaa zaH (zaa (dv 5) zac))) zac)))) (zae (zam (i:=8) zdg.nd rfl (Or.inl rfl) (zan zcJ hr (zaa (dv 0) (zaa (zat (zaa zaH (zaa (dv 7) (zaa (zan zcJ hr (zaa (dv 0) (zaa (zat (zaa zaH (zaa (zad (dv 6) zab (λ_ _=>rfl)) (zaa (zad (dv 6) zab (λ_ _=>rfl)) zac)))) zac))) zac)))) zac)))) (zag (zak (zat (zaa zaH (zaa (zan zcJ hr (zaa (dv 0) (zaa (zat (zaa zaH (zaa (dv 2) (zaa (dv 8) zac)))) zac))) zac))))))) zaw) (zae (zam (i:=6) zdg.nd rfl (Or.inl rfl) (zaG (zan znY hr (zaa (zdK (dv 0) zeV (zcO (zaf zaT (dv 2) zab))) (zaa (dv 1) zac))) (dv 2) (λ_ _=>rfl))) (zae (zam (i:=6) zdg.nd rfl (Or.inl rfl) (zan zb7 hr (zaa (zad (dv 6) zab (λ_ _=>rfl)) (zaa (zad (dv 6) zab (λ_ _=>rfl)) zac)))) (zae (zav (PDW.pt (zct (zas zbi (zaP zkE rfl zbT Boot.«abs» (zaa (zad (dv 6) zab (λ_ _=>rfl)) zac)) (zaf zcq zab zab) (zaq _)) (zc4 (zas zbi (zad (dv 6) zab (λ_ _=>rfl)) (zaf zcq zab zab) (zaq _))))) (zae (zam (i:=9) zdg.nd rfl (Or.inl rfl) (zan zcJ hr (zaa (dv 0) (zaa (zat (zaa zaH (zaa (zad (dv 6) zab (λ_ _=>rfl)) (zaa (zad (dv 6) zab (λ_ _=>rfl)) zac)))) zac)))) (zag (zak (zat (zaa (zaG (za8 (zaa zaH (zaa zaH (zaa zaH (zaa zaH zac))))) (zaf za1 (dv 4) zab) (λ_ _=>rfl)) (zaa (zan zcJ hr (zaa (dv 0) (zaa (zat (zaa zaH (zaa (dv 2) (zaa (dv 9) zac)))) zac))) zac)))))) zaw) (zae (zav (zas zqy (zad (dv 6) zab (λ_ _=>rfl)) zab (zaq _)) (zag (zak (zat (zaa zaH (zaa (dv 2) zac))))) zaw) (zag (zak (zat (zaa zaH (zaa (zan zcJ hr (zaa (dv 0) (zaa (zat (zaa zaH (zaa (zan zcJ hr (zaa (dv 0) (zaa (zat (zaa zaH (zaa zab (zaa zab zac)))) zac))) (zaa (dv 2) zac)))) zac))) zac))))))))))))),λds S Q ex h=>by
  unfold zg9 at h
  split at h
  ·rename_i a b at' c
   obtain⟨ns,ws,ps,ha,hb,ab,net,hv,gp,lp,⟨t0,t1⟩,l60,h⟩:=h
   obtain⟨tn,rfl⟩:∃tn:Nat,at'=(tn:Int):=⟨at'.toNat,by omega⟩
   refine⟨show (0:Int)<10^Int.toNat 20 by decide,?_⟩
   refine zck hb ?_
   rw[Vaa]
   have pl:(0:Int)<((ps.length:Nat):Int):=by omega
   refine⟨pl,?_⟩
   have rk:inR ((ps.length:Nat):Int) (c%10^Int.toNat 20/4%((ps.length:Nat):Int)):=zaW pl
   have gk:=gp.at rk
   refine zaB (o:=.lst (ps.map frD)) hb (zaK rk) ?_
   dsimp only
   refine zjx (λdl2 S2=>S=S2∧dl2=[some (.ref a),some (.ref b),some (.int (tn:Int)),some (.int c),some (.int (c%10^Int.toNat 20)),some (.int (c%10^Int.toNat 20/4%((ps.length:Nat):Int))),some (frD (gt ps (c%10^Int.toNat 20/4%((ps.length:Nat):Int)))),none,none,none]) (λnx hn=>?_) ?_
   ·have on:=hn _ _ ⟨rfl,rfl⟩
    refine ifD (λe1=>?_) (λe1=>on)
    refine ifD (λe2=>?_) (λe2=>on)
    refine ifD (λe3=>?_) (λe3=>on)
    have e9:(10:Int)^Int.toNat 9=1000000000:=rfl
    have e2':=nine e2
    have e3':=zqn e3
    refine⟨ps.length,.unknown _,ns,ws,rfl,ha,by omega,net,rk,show 1≤16 by decide,λT1 j1 ns1 ws1 g1 lj1 hj1 wj1 dj1=>?_⟩
    have n1:=g1.ln
    refine⟨ps.length,.number _ _,ns1,ws1,rfl,g1.nd,by omega,g1.net,⟨⟨gk.1,e3'⟩,gk.2.1,e2'⟩,show 1≤16 by decide,λT2 j2 ns2 ws2 g2 lj2 hj2 wj2 dj2=>?_⟩
    have n2:=g2.ln
    have w1:=g2.wt g1.net lj1
    have e11:ws1.getD j1 0=1:=wj1
    have e22:ws2.getD j2 0=1:=wj2
    refine⟨ps.length,.minus (j1:Int) (j2:Int),ns2,ws2,rfl,g2.nd,by omega,g2.net,⟨⟨by omega,by omega⟩,⟨by omega,by omega⟩⟩,?_,λT3 j3 ns3 ws3 g3 lj3 hj3 wj3 dj3=>?_⟩
    ·show ws2.getD ((j1:Nat):Int).toNat 0+ws2.getD ((j2:Nat):Int).toNat 0≤16
     rw[Vad,Vad]
     omega
    have n3:=g3.ln
    have e33:ws3.getD j3 0=ws2.getD ((j1:Nat):Int).toNat 0+ws2.getD ((j2:Nat):Int).toNat 0:=wj3
    rw[Vad,Vad] at e33
    have wt:=((g1.trans g2).trans g3).wt net (show tn<ns.length by omega)
    have ht:=hv tn
    refine⟨ps.length,.times (tn:Int) (j3:Int),ns3,ws3,rfl,g3.nd,by omega,g3.net,⟨⟨by omega,by omega⟩,⟨by omega,by omega⟩⟩,?_,λT4 j4 ns4 ws4 g4 lj4 hj4 wj4 dj4=>?_⟩
    ·show ws3.getD ((tn:Nat):Int).toNat 0+ws3.getD ((j3:Nat):Int).toNat 0≤16
     rw[Vad,Vad]
     omega
    exact h T4 "zero" true j4 ns4 ws4 (.inl ⟨rfl,rfl⟩) ((((g1.trans g2).trans g3).trans g4).mono (by decide)) lj4
   rintro dl2 S2 ⟨rfl,rfl⟩
   refine zds (n:=a) (o:=.lst (ns.map Nd.d)) (lo:=none) (hi:=some ((tn:Int)+1)) (S3:=S) (λK hK=>by exact hK) (λK hK=>by exact hK) (λK hK=>by exact hK) ha ?_
   have ec:zaZ (ns.map Nd.d) none (some ((tn:Int)+1))=(ns.take (tn+1)).map Nd.d:=by
    rw[zhk (by omega) (by rw[Vaa]; omega),List.map_take]
    rfl
   rw[show zaz (Ob.lst (ns.map Nd.d))=ns.map Nd.d from rfl,ec]
   refine⟨ns.take (tn+1),ws.take (tn+1),ps,zaD _ _,zaC hb,net.take _,gp,by rw[Vah]; omega,λT m pr lm hf=>?_⟩
   have prS:Pre S T:=λn o e=>pr n o (zaC e)
   have lT:S.length≤T.length:=by
    have z:(S++[Ob.lst ((ns.take (tn+1)).map Nd.d)]).length≤m:=lm
    rw[Van] at z
    have:=zbQ hf
    omega
   have g0:=Gr.pre net ha prS lT
   have pp:Pz 110 ps:=λp hp=>⟨(gp p hp).1,(gp p hp).2.2.1,(gp p hp).2.2.2⟩
   have ld:(zaV ps (ns.take (tn+1))).length=tn+1:=by rw[zg8,Vah]; omega
   have ik:inR (((zaV ps (ns.take (tn+1))).length:Nat):Int) (tn:Int):=⟨by omega,by omega⟩
   have pz:Pz 1800 (zaV ps (ns.take (tn+1))):=Pz.of_w (zp7 net rfl pp (tn+1) (by omega)) λj hj=>(net.w1 (i:=j) ⟨by omega,by omega⟩).2
   have pk:=pz.at ik
   refine zaB (o:=.lst ((zaV ps (ns.take (tn+1))).map frD)) hf (zaK ik) ?_
   refine⟨⟨by omega,pk.2.2.mono (by decide)⟩,λt u h1 h2 h3 h4 h5=>?_⟩
   have ht:=hv tn
   have e9:(10:Int)^Int.toNat 9=1000000000:=rfl
   dsimp only
   refine zjx (λdl2 S2=>T=S2∧∃u7 u8 u9:Option D,dl2=[some (.ref a),some (.ref b),some (.int (tn:Int)),some (.int c),some (.int (c%10^Int.toNat 20)),some (.int (c%10^Int.toNat 20/4%((ps.length:Nat):Int))),some (.tup [.int t,.int u]),u7,u8,u9]) (λnx hn=>?_) ?_
   ·have on:=hn _ _ ⟨rfl,none,none,none,rfl⟩
    refine ifD (λe2=>?_) (λe2=>on)
    refine ifD (λe3=>?_) (λe3=>on)
    have e2':=nine e2
    have e3':=zqn e3
    refine⟨ps.length,.number t u,ns,ws,rfl,g0.nd,by omega,net,⟨⟨h1,e3'⟩,h2,e2'⟩,show 1≤16 by decide,λT1 j1 ns1 ws1 g1 lj1 hj1 wj1 dj1=>?_⟩
    have n1:=g1.ln
    have e11:ws1.getD j1 0=1:=wj1
    have four:∀i:Int,inR 4 i→∃(x:Str) (zero:Bool),rwW zero x∧atI [D.str "zero",D.str "zero",D.str "zero",D.str "least"] i=some (.str x):=λi hi=>by
     obtain⟨h0,h3⟩:=hi
     have z:i=0∨i=1∨i=2∨i=3:=by omega
     rcases z with rfl | rfl | rfl | rfl
     ·exact⟨_,true,.inl ⟨rfl,rfl⟩,rfl⟩
     ·exact⟨_,true,.inl ⟨rfl,rfl⟩,rfl⟩
     ·exact⟨_,true,.inl ⟨rfl,rfl⟩,rfl⟩
     ·exact⟨_,false,.inr ⟨rfl,rfl⟩,rfl⟩
    obtain⟨x,zero,hx,ex'⟩:=four (c%10^Int.toNat 20%4) (zaW (by decide))
    refine zaB (o:=.lst [.str "zero",.str "zero",.str "zero",.str "least"]) (zaD _ _) ex' ?_
    have g2:=Gr.push g1.net g1.nd [.lst [.str "zero",.str "zero",.str "zero",.str "least"]]
    have wt:=g1.wt net (show tn<ns.length by omega)
    refine⟨ps.length,.minus (tn:Int) (j1:Int),ns1,ws1,rfl,g2.nd,by omega,g1.net,⟨⟨by omega,by omega⟩,⟨by omega,by omega⟩⟩,?_,λT3 j3 ns3 ws3 g3 lj3 hj3 wj3 dj3=>?_⟩
    ·show ws1.getD ((tn:Nat):Int).toNat 0+ws1.getD ((j1:Nat):Int).toNat 0≤16
     rw[Vad,Vad]
     omega
    exact h T3 x zero j3 ns3 ws3 hx ((((g0.trans g1).trans g2).trans g3).mono (by decide)) lj3
   rintro dl2 S2 ⟨rfl,u7,u8,u9,rfl⟩
   refine ifD (λe2=>?_) (λe2=>?_)
   ·exact h _ "least" false tn ns ws (.inr ⟨rfl,rfl⟩) (g0.mono (by decide)) (by omega)
   ·refine⟨ps.length,.number 0 1,ns,ws,rfl,g0.nd,by omega,net,⟨⟨by decide,by decide⟩,by decide,by decide⟩,show 1≤16 by decide,λT1 j1 ns1 ws1 g1 lj1 hj1 wj1 dj1=>?_⟩
    have n1:=g1.ln
    have e11:ws1.getD j1 0=1:=wj1
    have wt:=g1.wt net (show tn<ns.length by omega)
    refine⟨ps.length,.minus (j1:Int) (tn:Int),ns1,ws1,rfl,g1.nd,by omega,g1.net,⟨⟨by omega,by omega⟩,⟨by omega,by omega⟩⟩,?_,λT3 j3 ns3 ws3 g3 lj3 hj3 wj3 dj3=>?_⟩
    ·show ws1.getD ((j1:Nat):Int).toNat 0+ws1.getD ((tn:Nat):Int).toNat 0≤16
     rw[Vad,Vad]
     omega
    exact h T3 "least" false j3 ns3 ws3 (.inr ⟨rfl,rfl⟩) (((g0.trans g1).trans g3).mono (by decide)) lj3
  ·exact h.elim⟩)
def ztl  (ziN:Df K mg "_law_row_by" zld zgM)(zpg:Fk P w K mg base 4 "_law_met_row" zhL zg9)(zaS:mg "max"=none)(zaR:mg "len"=none):Fk P w K mg base 5 "_law_row_by" zgM zf7:=
 ziN.mk' (zax (k:=4) ziN.F zrl (ztz) λcdv A outer s H E hr=>⟨_,(zae (zam (i:=4) zrl.nd rfl (Or.inl rfl) (zaP (zb8 rfl) rfl zaS Boot.«max» (zaa zab (zaa (zaf zbl (zaf zbl (zaP (za7 zbC) rfl zaR Boot.«len» (zaa (dv 0) zac)) zab) (zaf za1 (dv 2) zab)) zac)))) (zae (zav (zas (zaI hr) (zaf za1 (zaf zbE (dv 2) zab) zab) zab (zaq _)) (zag (zak (zat (zaa (zaG (za8 (zaa zaH (zaa zaH zac))) (zaf za1 (zaf zbE (dv 2) zab) zab) (λ_ _=>rfl)) (zaa (dv 4) zac))))) zaw) (zag (zak (zan zpg hr (zaa (dv 0) (zaa (dv 1) (zaa (dv 4) (zaa (dv 3) zac))))))))),λds S Q ex h=>by
  unfold zf7 at h
  split at h
  ·rename_i a b f c
   obtain⟨ns,ws,ps,ha,hb,ab,net,hv,gp,lp,l1,l60,h⟩:=h
   refine zck ha ?_
   rw[Vaa]
   have two:∀i:Int,inR 2 i→∃(x:Str) (zero:Bool),rwW zero x∧atI [D.str "zero",D.str "least"] i=some (.str x):=λi hi=>by
    obtain⟨h0,h3⟩:=hi
    have z:i=0∨i=1:=by omega
    rcases z with rfl | rfl
    ·exact⟨_,true,.inl ⟨rfl,rfl⟩,rfl⟩
    ·exact⟨_,false,.inr ⟨rfl,rfl⟩,rfl⟩
   obtain⟨x,zero,hx,ex'⟩:=two (f/12%2) (zaW (by decide))
   have fin:∀k:Int,inR ((ns.length:Nat):Int) k→Q (.tup [.str x,.int k]) (S++[.lst [.str "zero",.str "least"]]):=λk hk=>by
    obtain⟨kn,rfl⟩:∃kn:Nat,k=(kn:Int):=⟨k.toNat,by have:=hk.1; omega⟩
    exact h _ x zero kn ns ws hx ((Gr.push net ha _).mono (by decide)) (by have:=hk.2; omega)
   have atR:inR ((ns.length:Nat):Int) (if ((ns.length:Nat):Int)-1-f%3 > 0 then ((ns.length:Nat):Int)-1-f%3 else 0):=by
    have:=zaW (a:=f) (b:=3) (by decide)
    unfold inR
    split <;> omega
   refine ifD (λe=>?_) (λe=>?_)
   ·refine zaB (o:=.lst [.str "zero",.str "least"]) (zaD _ _) ex' ?_
    exact fin _ atR
   ·exact⟨ns,ws,ps,ha,hb,ab,net,hv,gp,lp,atR,l60,h⟩
  ·exact h.elim⟩)
def ztA  (zku:Df K mg "_law_digit_span" znm zhD):Fk P w K mg base 1 "_law_digit_span" zhD zhy:=
 zku.mk' (zax (k:=0) zku.F zqb (zt2) λcdv A outer s H E hr=>⟨_,(zae (zam (i:=1) zqb.nd rfl (Or.inl rfl) (zaf zbl (zaf za2 (dv 0) zab) zab)) (zag (zak (zat (zaa (dv 1) (zaa (zaf zaT (dv 1) (zaf za2 (zaf zbo (dv 0) zab) (zaf zbl zab (dv 1)))) zac)))))),λds S Q ex h=>by
  unfold zhy at h
  split at h
  ·rename_i c
   obtain⟨c0,h⟩:=h
   have r0:=zaW (a:=c) (b:=1999999999999999) (by decide)
   have pd:(0:Int)<1000000000000000-(c%1999999999999999-999999999999999):=by omega
   have r1:=zaW (a:=c/1999999999999999) pd
   refine⟨show (0:Int)<1999999999999999 by decide,?_⟩
   refine⟨(Sz.of (n:=60) 1999999999999999 (by decide):Sz 60 1999999999999999).fd (by decide),?_⟩
   refine⟨pd,?_⟩
   exact h _ _ (by omega) (by omega) (by omega)
  ·exact h.elim⟩)
def zwP  (zkl:Df K mg "_law_digit_node" zkK zge)(zb7:Fk P w K mg base 2 "_law_fraction" zdw zdQ):Fk P w K mg base 3 "_law_digit_node" zge zgn:=
 zkl.mk' (zes (zax (k:=2) zkl.F zl0 (zfP (zrV)) λcdv A outer s H E hr=>⟨_,(zae (zam (i:=3) zl0.nd rfl (Or.inl rfl) (zaf za1 (dv 0) zab)) (zae (zam (i:=0) zl0.nd rfl (Or.inl rfl) (zaf zbE (dv 0) zab)) (zae (zav (zas (zaI hr) (dv 3) zab (zaq _)) (zae (zam (i:=4) zl0.nd rfl (Or.inl rfl) (zan zb7 hr (zaa (zaf zbl (zaf za2 (dv 0) zab) zab) (zaa (zaf zaT zab (zaf za1 (zaf zbo (dv 0) zab) zab)) zac)))) (zag (zak (zat (zaa zaH (zaa (zad (dv 4) zab (λ_ _=>rfl)) (zaa (zad (dv 4) zab (λ_ _=>rfl)) zac))))))) zaw) (zae (zav (PDW.pt (zbV (zas (zaI hr) (dv 3) zab (zaq _)) (zcG (zas (zaI hr) (dv 1) zab (zaq _))))) (zag (zak (zat (zaa zaH (zaa (zaf za2 (dv 0) (dv 2)) zac))))) zaw) (zae (zav (zas (zaI hr) (dv 3) zab (zaq _)) (zag (zak (zat (zaa zaH (zaa (zaf za2 (dv 0) (dv 1)) (zaa (zaf zaT zab (zaf za1 (zaf zbo (dv 0) (dv 1)) zab)) zac)))))) zaw) (zag (zak (zat (zaa (zaG (za8 (zaa zaH (zaa zaH (zaa zaH zac)))) (zaf zbl (dv 3) zab) (λ_ _=>rfl)) (zaa (zaf za2 (dv 0) (dv 1)) (zaa (zaf za2 (zaf zbo (dv 0) (dv 1)) (dv 1)) zac))))))))))),λds S Q ex h=>by
  obtain⟨Q0,ex0,rfl,rfl,h⟩:=h
  unfold zgn at h
  split at h
  ·rename_i c m q
   obtain⟨⟨m0,m1,q0,q1,c0⟩,h⟩:=h
   have h':∀v:Nd,v.ok m q→Gc S Q0 v.d S:=λv z=>⟨Pre.refl,zdu v,h v z⟩
   refine ifD (λe=>?_) (λe=>?_)
   ·have r1:=zaW (a:=c/6) (b:=1999999999) (by decide)
    have r2:=zaW (a:=c/6/1999999999) (b:=999999999) (by decide)
    refine⟨show (0:Int)<1999999999 by decide,?_⟩
    refine⟨(Sz.of (n:=60) 1999999999 (by decide):Sz 60 1999999999).fd (by decide),?_⟩
    refine⟨⟨show 0<1+c/6/1999999999%999999999 by omega,Sz.of (10^10) (by show (1+c/6/1999999999%999999999).natAbs≤_; omega)⟩,λt b h1 h2 h3 h4 h5=>?_⟩
    exact h' (.number t b) ⟨⟨h1,by omega⟩,h2,by omega⟩
   have pq:0<q:=by omega
   have rq:=zaW (a:=c/6) pq
   have un:=h' (.unknown (c/6%q)) rq
   refine ifD (λe=>⟨pq,un⟩) (λe1=>?_)
   refine ifD (λe=>⟨pq,un⟩) (λe2=>?_)
   have pm:0<m:=by omega
   have rm:=zaW (a:=c/6) pm
   have fm:CFd 0 m:=(Sz.of (n:=20) 1000 (by omega):Sz 20 m).fd pm
   refine ifD (λe=>?_) (λe3=>?_)
   ·have r5:=zaW (a:=c/6/m) (b:=5) (by decide)
    exact⟨pm,fm,h' (.power (c/6%m) _) ⟨rm,by omega,by omega⟩⟩
   have rj:=zaW (a:=c/6/m) pm
   have three:∀i:Int,inR 3 i→∃x:Str,(x="plus"∨x="minus"∨x="times")∧atI [D.str "plus",D.str "minus",D.str "times"] i=some (.str x):=λi hi=>by
    obtain⟨h0,h3⟩:=hi
    have z:i=0∨i=1∨i=2:=by omega
    rcases z with rfl | rfl | rfl
    ·exact⟨_,.inl rfl,rfl⟩
    ·exact⟨_,.inr (.inl rfl),rfl⟩
    ·exact⟨_,.inr (.inr rfl),rfl⟩
   obtain⟨x,hx,ex'⟩:=three (c%6-3) ⟨by omega,by omega⟩
   refine zaB (o:=.lst [.str "plus",.str "minus",.str "times"]) (zaD _ _) ex' ?_
   refine⟨pm,fm,pm,?_⟩
   rcases hx with rfl | rfl | rfl
   ·exact⟨Pre.refl.push,zdu (.plus _ _),h (.plus _ _) ⟨rm,rj⟩⟩
   ·exact⟨Pre.refl.push,zdu (.minus _ _),h (.minus _ _) ⟨rm,rj⟩⟩
   ·exact⟨Pre.refl.push,zdu (.times _ _),h (.times _ _) ⟨rm,rj⟩⟩
  ·exact h.elim⟩))
def zwX  (zln:Df K mg "_law_by_digits" zfK zgj)(zeP:Fk P w K mg base 1 "_law_weight" zfb zeB)(zpr:Fk P w K mg base 3 "_law_digit_node" zge zgn)(zpb:Fk P w K mg base 1 "_law_digit_span" zhD zhy)(zaR:mg "len"=none)(zbh:mg "range"=none)(zbT:mg "abs"=none):Fk P w K mg base 4 "_law_by_digits" zgj zgl:=
 zln.mk' (zax (k:=3) zln.F zcQ (zuU) λcdv A outer s H E hr=>⟨_,(zae (zam (i:=1) zcQ.nd rfl (Or.inr rfl) (zaf znR (zx8 (x:="_law_cell_here") (N:=[]) (caps:=[]) (ar:=zar zfK) rfl rfl csc rfl (by decide) (dv 0) (λ_ _ _ _ _ _=>zeQ) (λ_ _ _ _ _ _=>(zaP zkE rfl zbT Boot.«abs» (zaa (dv 0) zac)))) (za8 (zaa zab (zaa zab (zaa zab (zaa zab (zaa zab (zaa zab (zaa zab zac)))))))))) (zae (zam (i:=2) zcQ.nd rfl (Or.inl rfl) (zaf zaT zab (zaf za1 (zaG (dv 1) zab (λ_ _=>rfl)) zab))) (zae (zn1 (x:="_law_k") (N:=["_law_some"]) (caps:=[1]) (ar:=zar zfK) rfl rfl csc rfl (by decide) (i:=3) zcQ.nd rfl rfl rfl zbh (zaa (dv 2) zac) (λ_ _ _ _ _ _=>zeQ) (λ_ _ _ _ _ _=>(zan zpb hr (zaa (zaG (dv 1) (zaf zaT zab (dv 0)) (λ_ _=>rfl)) zac)))) (zae (zam (i:=4) zcQ.nd rfl (Or.inl rfl) (za8 zac)) (zae (zam (i:=5) zcQ.nd rfl (Or.inl rfl) (za8 zac)) (zae (zda (i:=6) PassesOwn.never rfl zcQ.nd rfl (Or.inl rfl) (zdK (dv 1) (zcO zab) (zcO zab)) (zae (zam (i:=7) zcQ.nd rfl (Or.inl rfl) (zan zpr hr (zaa (dv 6) (zaa (zaP (za7 zbC) rfl zaR Boot.«len» (zaa (dv 4) zac)) (zaa (dv 2) zac))))) (zae (zam (i:=8) zcQ.nd rfl (Or.inl rfl) (zan zeP hr (zaa (dv 7) (zaa (dv 5) zac)))) (zag (zav (PDW.pt (zct (zas zd6 (dv 8) zab (zaq _)) (zct (zas zbi (zaP (za7 zbC) rfl zaR Boot.«len» (zaa (dv 4) zac)) zab (zaq _)) (zc4 (zas (zoV hr) (dv 7) (dv 4) rfl))))) (zae (zbJ (zbK (dv 4) (dv 7))) (zag (zbJ (zbK (dv 5) (dv 8))))) zaw))))) (zae (zav (zas (zaI hr) (zaP (za7 zbC) rfl zaR Boot.«len» (zaa (dv 4) zac)) zab (zaq _)) (zag (zbJ (zbK (dv 4) (zat (zaa zaH (zaa zab zac)))))) zaw) (zae (zam (i:=9) zcQ.nd rfl (Or.inl rfl) (zat (zaa (zaG (za8 (zaa zaH (zaa zaH zac))) (zaf za1 (zaf zbE (zaG (dv 1) zab (λ_ _=>rfl)) zab) zab) (λ_ _=>rfl)) (zaa (zaf za2 (zaf zbE (zaG (dv 1) zab (λ_ _=>rfl)) zab) (zaP (za7 zbC) rfl zaR Boot.«len» (zaa (dv 4) zac))) zac)))) (zag (zak (zat (zaa (zaf zaT zab (zaf za1 (zaG (dv 1) zab (λ_ _=>rfl)) zab)) (zaa (dv 3) (zaa (dv 4) (zaa (dv 9) zac))))))))))))))),λds S Q ex h=>by
  unfold zgl at h
  split at h
  ·rename_i s
   obtain⟨ns,rfl,rfl,hl,h⟩:=h
   refine zx7 (n:=0) (o:=.frz (ns.map D.int)) (S1:=[.frz (ns.map D.int)]) (λ_ d=>∃c:Int,d=.int c∧0≤c) (λK hK=>by exact hK) rfl (by show (ns.map D.int).length≤1000; rw[Vaa]; omega) (λk x hx S2 K pr hK=>?_) (λxs lx hx=>?_)
   ·have hx2:(ns.map D.int)[k]?=some x:=hx
    rw[Vai] at hx2
    obtain⟨c,_,rfl⟩:=Vaq.mp hx2
    exact hK _ ⟨_,rfl,by split <;> omega⟩
   have lx2:xs.length=ns.length:=by rw[lx]; exact Vaa ..
   obtain⟨as,rfl,nas⟩:=nn_of hx
   rw[Vaa] at lx2
   refine zoL (n:=1) (m:=2) (xs:=as.map D.int) (ys:=[0,0,0,0,0,0,0].map D.int) rfl rfl (by rw[Vaa,Vaa]; show as.length+7≤1000; omega) ?_
   rw[← Vaw]
   have ncs:∀c∈as++[0,0,0,0,0,0,0],(0:Int)≤c:=λc hc=>by
    rcases VaR.mp hc with z | z
    ·exact nas c z
    ·simp only[Vaf,Vay,or_false] at z
     omega
   have lcs:(as++[0,0,0,0,0,0,0]).length=as.length+7:=by simp
   generalize as++[0,0,0,0,0,0,0]=cs at ncs lcs
   have cat:∀ {i:Int},0≤i→i≤6→atI (cs.map D.int) i=some (.int (cs.getD i.toNat 0)):=λ{i} h0 h6=>zvj ⟨h0,by omega⟩
   refine zaB (n:=3) (o:=.lst (cs.map D.int)) (i:=2) rfl (cat (by decide) (by decide)) ?_
   have c2:=zox ncs (2:Int).toNat
   have a2:=cat (i:=2) (by decide) (by decide)
   generalize cs.getD (2:Int).toNat 0=x2 at c2 a2
   have dr:∀a b:Int,a≤b→a.natAbs≤10^15→b.natAbs≤10^15→∃p:Int×Int,(D.tup [.int a,.int b])=frD p∧(p.1≤p.2∧Sz 51 p.1∧Sz 51 p.2):=λa b h1 h2 h3=>⟨(a,b),rfl,h1,(Sz.of (n:=51) (10^15) h2),(Sz.of (n:=51) (10^15) h3)⟩
   refine zqd (j:=1+x2%4) (S1:=[Ob.frz (ns.map D.int),Ob.lst (as.map D.int),Ob.lst ([0,0,0,0,0,0,0].map D.int),Ob.lst (cs.map D.int)]) (λ_ d=>∃p,d=frD p∧(p.1≤p.2∧Sz 51 p.1∧Sz 51 p.2)) (λK hK=>by exact hK) ⟨by omega,by omega⟩ (λk hk S2 K pr hK=>?_) (λxs lx hx=>?_)
   ·refine zaB (n:=3) (o:=.lst (cs.map D.int)) (i:=3+(k:Int)) (pr 3 _ rfl) (cat (by omega) (by omega)) ?_
    exact⟨zox ncs _,λt b h1 h2 h3=>hK _ (dr t b h1 h2 h3)⟩
   obtain⟨ps,rfl,gp⟩:=zoA xs hx
   rw[Vaa] at lx
   have epl:1+x2%4=((ps.length:Nat):Int):=by omega
   have pl:1≤ps.length∧ps.length≤4:=by omega
   have lc:(zaZ (cs.map D.int) (some 7) (some 63)).length≤70:=by
    have z:=zoT (α:=Nat) (xs:=cs.map D.int) (lo:=some 7) (hi:=some 63)
    rw[Vaa] at z
    omega
   refine zds (n:=3) (o:=.lst (cs.map D.int)) (lo:=some 7) (hi:=some 63) (S3:=[Ob.frz (ns.map D.int),Ob.lst (as.map D.int),Ob.lst ([0,0,0,0,0,0,0].map D.int),Ob.lst (cs.map D.int)]++[Ob.lst (ps.map frD)]++[Ob.lst []]++[Ob.lst []]) (λK hK=>by exact hK) (λK hK=>by exact hK) (λK hK=>by exact hK) rfl ?_
   rw[show zaz (Ob.lst (cs.map D.int))=cs.map D.int from rfl]
   refine zc6 (n:=7) (o:=.lst (zaZ (cs.map D.int) (some 7) (some 63))) (λi dl' S'=>∃(vs:List Nd) (ws:List Nat),zaF ps.length vs ws∧vs.length≤60∧Pre ([Ob.frz (ns.map D.int),Ob.lst (as.map D.int),Ob.lst ([0,0,0,0,0,0,0].map D.int),Ob.lst (cs.map D.int)]++[Ob.lst (ps.map frD)]) S'∧S'[5]?=some (.lst (vs.map Nd.d))∧S'[6]?=some (.lst (ws.map wtD))∧S'[7]?=some (.lst (zaZ (cs.map D.int) (some 7) (some 63)))∧∃u6 u7 u8:Option D,dl'=[some (.ref 0),some (.ref 3),some (.int (1+x2%4)),some (.ref 4),some (.ref 5),some (.ref 6),u6,u7,u8,none]) ⟨[],[],zaF.nil _,by decide,λn o e=>zaC (zaC (zaC e)),rfl,rfl,rfl,_,_,_,rfl⟩ (λi dl' S' ⟨_,_,_,_,_,_,_,q,_⟩=>q) ?_ ?_
   ·rintro i x dl' S' nx ct ex' ⟨vs,ws,net,l60,pr',hS',hW',hC',u6,u7,u8,rfl⟩ hn
    have ex2:(zaZ (cs.map D.int) (some 7) (some 63))[i]?=some x:=ex'
    have hxm:x∈cs.map D.int:=zyH (Vat ex2)
    obtain⟨c,hcm,rfl⟩:=List.mem_map.mp hxm
    refine zck hS' ?_
    rw[Vaa]
    refine⟨⟨by omega,by omega,by omega,by omega,ncs c hcm⟩,λv ok=>?_⟩
    rw[epl] at ok
    have okw:v.ok ws.length ((ps.length:Nat):Int):=by rw[net.len]; exact ok
    refine⟨v,ws,_,rfl,hW',okw,λi hi=>(net.w1 (by rw[← net.len]; exact hi)).2,?_⟩
    have on:=hn _ _ ⟨vs,ws,net,l60,pr',hS',hW',hC',some (.int c),some v.d,some (.int (v.wt ws:Nat)),rfl⟩
    refine ifD (λe1=>?_) (λe1=>on)
    refine zck hS' ?_
    rw[Vaa]
    refine ifD (λe2=>?_) (λe2=>on)
    refine zqO hS' λb=>?_
    cases b with
    | false=>exact on
    | true=>
     refine zb1 (n:=5) (S1:=S') (xs:=vs.map Nd.d) (y:=v.d) (λK hK=>by exact hK) hS' (λK hK=>by exact hK) (by rw[Vaa]; omega) ?_
     refine zb1 (n:=6) (S1:=S'.set 5 (.lst (vs.map Nd.d++[v.d]))) (xs:=ws.map wtD) (y:=wtD (v.wt ws)) (λK hK=>by exact hK) (zaU hW' (by decide)) (λK hK=>by exact hK) (by rw[Vaa,net.len]; omega) ?_
     refine hn _ _ ⟨vs++[v],ws++[v.wt ws],net.snoc ok (by omega),by simp; omega,zbn (zbn pr' (show 5≤5 by decide)) (show 5≤6 by decide),?_,?_,zaU (zaU hC' (by decide)) (by decide),_,_,_,rfl⟩
     ·rw[Vaw]
      exact zaU (zbk hS') (by decide)
     ·rw[Vaw]
      exact zbk (zaU hW' (by decide))
   rintro dl' S' ⟨vs,ws,net,l60,pr',hS',hW',hC',u6,u7,u8,rfl⟩
   have c1:=zox ncs (1:Int).toNat
   have r1:=zaW (a:=cs.getD (1:Int).toNat 0) (b:=1000000) (by decide)
   have two:∀i:Int,inR 2 i→∃(x:Str) (zero:Bool),rwW zero x∧atI [D.str "zero",D.str "least"] i=some (.str x):=λi hi=>by
    obtain⟨h0,h3⟩:=hi
    have z:i=0∨i=1:=by omega
    rcases z with rfl | rfl
    ·exact⟨_,true,.inl ⟨rfl,rfl⟩,rfl⟩
    ·exact⟨_,false,.inr ⟨rfl,rfl⟩,rfl⟩
   have pre0:∀ {U:Sto},Pre ([Ob.frz (ns.map D.int),Ob.lst (as.map D.int),Ob.lst ([0,0,0,0,0,0,0].map D.int),Ob.lst (cs.map D.int)]++[Ob.lst (ps.map frD)]) U→Pre [Ob.frz (ns.map D.int)] U:=λq n o e=>q _ _ (by cases n with | zero=>exact e | succ n=>cases e)
   dsimp only
   refine zjx (λdl2 S3=>∃(vs:List Nd) (ws:List Nat),zaF ps.length vs ws∧vs.length≤60∧1≤vs.length∧Pre ([Ob.frz (ns.map D.int),Ob.lst (as.map D.int),Ob.lst ([0,0,0,0,0,0,0].map D.int),Ob.lst (cs.map D.int)]++[Ob.lst (ps.map frD)]) S3∧S3[5]?=some (.lst (vs.map Nd.d))∧dl2=[some (.ref 0),some (.ref 3),some (.int (1+x2%4)),some (.ref 4),some (.ref 5),some (.ref 6),u6,u7,u8,none]) (λnx hn=>?_) ?_
   ·refine zck hS' ?_
    rw[Vaa]
    refine ifD (λe=>?_) (λe=>?_)
    ·refine zb1 (n:=5) (S1:=S') (xs:=vs.map Nd.d) (y:=Nd.d (.unknown 0)) (λK hK=>by exact hK) hS' (λK hK=>by exact hK) (by rw[Vaa]; omega) ?_
     have e0:vs=[]:=List.eq_nil_of_length_eq_zero (by omega)
     subst e0
     have w0:ws=[]:=List.eq_nil_of_length_eq_zero net.len
     subst w0
     exact hn _ _ ⟨[.unknown 0],[1],zaF.snoc (zaF.nil _) (v:=.unknown 0) ⟨by decide,by omega⟩ (show 1≤16 by decide),by decide,by decide,zbn pr' (show 5≤5 by decide),zbk hS',rfl⟩
    ·exact hn _ _ ⟨vs,ws,net,l60,by omega,pr',hS',rfl⟩
   clear hS' hW' hC' pr' net l60
   rintro dl2 S3 ⟨vs,ws,net,l60,l1,pr',hS',rfl⟩
   obtain⟨x,zero,hx,ex'⟩:=two (x2/4%2) (zaW (by decide))
   have pv:(0:Int)<((vs.length:Nat):Int):=by omega
   have rv:=zaW (a:=x2/8) pv
   obtain⟨kn,ek⟩:∃kn:Nat,x2/8%((vs.length:Nat):Int)=(kn:Int):=⟨(x2/8%((vs.length:Nat):Int)).toNat,by omega⟩
   refine zaB (n:=3) (o:=.lst (cs.map D.int)) (i:=2) (zaC (pr' 3 _ rfl)) a2 ?_
   refine zaB (o:=.lst [.str "zero",.str "least"]) (zaD _ _) ex' ?_
   refine zaB (n:=3) (o:=.lst (cs.map D.int)) (i:=2) (zaC (pr' 3 _ rfl)) a2 ?_
   refine zck (zaC hS') ?_
   rw[Vaa]
   refine⟨pv,?_⟩
   refine zaB (n:=3) (o:=.lst (cs.map D.int)) (i:=1) (zaC (pr' 3 _ rfl)) (cat (by decide) (by decide)) ?_
   have z:=h (S3++[.lst [.str "zero",.str "least"]]) (1+cs.getD (1:Int).toNat 0%1000000) kn ps vs ws 4 5 x zero (zc2 (pre0 pr') _) ⟨by omega,by omega⟩ (zaC (pr' 4 _ rfl)) (zaC hS') net gp pl (by omega) hx (by omega)
   rw[← ek] at z
   exact z
  ·exact h.elim⟩)
def zur  (zjD:Df K mg "_law_cell" zjo zih)(zaR:mg "len"=none):Fk P w K mg base 1 "_law_cell" zih zii:=
 zjD.mk' (zax (k:=0) zjD.F zyI (zxO) λcdv A outer s H E hr=>⟨_,(zae (zav (zas zbi (dv 1) (zaP zbC rfl zaR Boot.«len» (zaa (dv 0) zac)) (zaq _)) (zag (zak (zad (dv 0) (dv 1) (λ_ _=>rfl)))) zaw) (zag (zak zab))),λds S Q ex h=>by
  unfold zii at h
  split at h
  ·rename_i n k
   obtain⟨ns,h1,h2,h3⟩:=h
   simp only[zoC,zby,zq6,dRet,dRetN,dIf,zki,zjQ,dC,dOp,dUn,wI,wI0,wIf,zkz,dNot,dAnd,dOr,zpJ,dOrV,zqc,dIfE,zj3,dNil,zrA,dTup,dLst,wIx,zlD,zlP,zpO,wAbs,zd1,ze6,wEq,wNe,wIsN,zqI,wNeg,zeD,Vas,List.map_nil,VaC,VaT,List.cons_append,List.nil_append,Nat.reduceAdd,Nat.reduceSub,List.replicate,List.getElem?_cons_zero,List.getElem?_cons_succ,List.set_cons_zero,List.set_cons_succ,ite_true,ite_false,if_true,if_false,Nat.reduceLeDiff,eq_self,p40,p41,p20,zhH,powB,Int.reduceLT,Int.reduceLE,Int.reduceNeg,decide_true,Bool.and_self,Bool.and_true,Bool.true_and,L3.eq1,L3.eq2,L3.eqT,L3.eqF,L3.eqL]
   have hA:lAt S n=some (.frz (ns.map D.int)):=zbg h1 rfl
   simp only[hA,zaz,Vaa]
   refine zf9 (λc=>?_) (λc=>?_)
   ·have c':k<(ns.length:Int):=of_decide_eq_true c
    have hk:k.toNat<ns.length:=(by omega)
    have e:atI (ns.map D.int) k=some (.int ns[k.toNat]):=by
     have z:=zhP (xs:=ns.map D.int) (j:=k.toNat) (v:=.int ns[k.toNat]) (by simp[hk])
     rw[show ((k.toNat:Nat):Int)=k by omega] at z
     exact z
    simp only[e]
    rw[Vap,Vag hk] at h3
    exact h3
   ·have c':¬ k<(ns.length:Int):=λz=>c (decide_eq_true z)
    rw[Vap,List.getElem?_eq_none (by omega)] at h3
    exact h3
  ·exact h.elim⟩)
def zrU  (zkX:Df K mg "_law_span" zmH zgm)(za9:mg "min"=none):Fk P w K mg base 1 "_law_span" zgm zgo:=
 zkX.mk' (zax (k:=0) zkX.F zdC (zw6) λcdv A outer s H E hr=>⟨_,(zae (zam (i:=1) zdC.nd rfl (Or.inl rfl) (zaf za2 (dv 0) (zaf zcq zab zab))) (zae (zam (i:=2) zdC.nd rfl (Or.inl rfl) (zaf za1 (dv 1) zab)) (zae (zam (i:=1) zdC.nd rfl (Or.inl rfl) (zaf zbE (dv 1) zab)) (zae (zav (zas (zaI hr) (dv 2) zab (zaq _)) (zae (zam (i:=3) zdC.nd rfl (Or.inl rfl) (zaf zbl (zaf za2 (dv 1) zab) zab)) (zag (zak (zat (zaa (dv 3) (zaa (zaP (zdh rfl) rfl za9 Boot.«min» (zaa zab (zaa (zaf zaT (dv 3) (zaf za2 (zaf zaM (dv 1) zab) (zaf zcq zab zab))) zac))) zac)))))) zaw) (zae (zam (i:=3) zdC.nd rfl (Or.inl rfl) (zaf zbl (zaf za1 (dv 1) zab) zab)) (zae (zam (i:=4) zdC.nd rfl (Or.inl rfl) (zaf za1 (zaf za2 (zaf zaM (dv 1) zab) zab) zab)) (zae (zav (zas (zaI hr) (dv 2) zab (zaq _)) (zag (zam (i:=4) zdC.nd rfl (Or.inl rfl) (zaf za1 (dv 4) zab))) zaw) (zae (zav (zas (zaI hr) (dv 2) zab (zaq _)) (zag (zak (zat (zaa (zaf zaM (dv 3) zab) (zaa (zaf zaT (zaf zaM (dv 3) zab) (zaf zaM (dv 4) zab)) zac))))) zaw) (zag (zak (zat (zaa (dv 3) (zaa (zaf zaT (dv 3) (dv 4)) zac))))))))))))),λds S Q ex h=>by
  unfold zgo at h
  split at h
  ·rename_i c
   have r0:=zaW (a:=c) (b:=10^Int.toNat 40) (by decide)
   have e16:(10:Int)^Int.toNat 16=10000000000000000:=rfl
   have s0:Sz 140 (c%10^Int.toNat 40):=Sz.of (10^40) (by have e:(10:Int)^Int.toNat 40=10000000000000000000000000000000000000000:=rfl; omega)
   have mo:=zaL (m:=140) (n:=17) (s0.div (j:=5) (by decide)) (j:=48271) (by unfold Sz; decide)
   have r1:=zaW (a:=c%10^Int.toNat 40/5*48271%2147483647) (b:=120) (by decide)
   refine⟨show (0:Int)<10^Int.toNat 40 by decide,?_⟩
   refine ifD (λe=>?_) (λe=>?_)
   ·have r2:=zaW (a:=c%10^Int.toNat 40/5*48271) (b:=10^Int.toNat 16) (by decide)
    refine⟨show (0:Int)<1999999999999999 by decide,mo,show (0:Int)<10^Int.toNat 16 by decide,?_⟩
    refine h _ _ ?_ (by omega) ?_
    ·dsimp only
     split <;> omega
    ·dsimp only
     split <;> omega
   ·refine⟨mo,show (0:Int)<2147483647 by decide,?_⟩
    refine ifD (λe=>?_) (λe=>?_)
    ·refine ifD (λe2=>absurd (e.symm.trans e2) (by decide)) (λe2=>?_)
     exact h _ _ (by omega) (by omega) (by omega)
    ·refine ifD (λe2=>?_) (λe2=>?_)
     ·have k1:=zaL (m:=20) (n:=20) (i:=c%10^Int.toNat 40/5%201-100) (j:=37) (Sz.of 100000 (by omega)) (by unfold Sz; decide)
      have k2:=zaL (m:=20) (n:=20) (i:=c%10^Int.toNat 40/5*48271%2147483647%120) (j:=41) (Sz.of 100000 (by omega)) (by unfold Sz; decide)
      exact⟨k1,k1,k2,h _ _ (by omega) (by omega) (by omega)⟩
     ·exact h _ _ (by omega) (by omega) (by omega)
  ·exact h.elim⟩)
def zuv  (zjT:Df K mg "_law_drawn" zgT zic)(zod:Fk P w K mg base 5 "_law_row_by" zgM zf7)(zdA:Fk P w K mg base 1 "_law_cell" zih zii)(zpi:Fk P w K mg base 5 "_law_net" zhW zib)(zoS:Fk P w K mg base 3 "_law_point" zh4 zhu)(zoM:Fk P w K mg base 1 "_law_span" zgm zgo)(zoI:Fk P w K mg base 1 "_law_grid" zia zhd)(zoK:Fk P w K mg base 4 "_law_by_digits" zgj zgl)(zbh:mg "range"=none):Fk P w K mg base 6 "_law_drawn" zic zgk:=
 zjT.mk' (zax (k:=5) zjT.F zdY (zwg) λcdv A outer s H E hr=>⟨_,(zae (zav (zas (zaI hr) (zaf za1 (zan zdA hr (zaa (dv 0) (zaa zab zac))) zab) zab (zaq _)) (zag (zak (zan zoK hr (zaa (dv 0) zac)))) zaw) (zae (zam (i:=1) zdY.nd rfl (Or.inl rfl) (zan zoI hr (zaa (zaf zbE (zan zdA hr (zaa (dv 0) (zaa zab zac))) zab) zac))) (zae (zam (i:=2) zdY.nd rfl (Or.inl rfl) (zaf za2 (zan zdA hr (zaa (dv 0) (zaa zab zac))) (zaf zcq zab zab))) (zae (zam (i:=3) zdY.nd rfl (Or.inl rfl) (zaf zaT zab (zaf za1 (dv 2) zab))) (zae (zn1 (x:="_law_k") (N:=["_law_script"]) (caps:=[0]) (ar:=zar zgT) rfl rfl csc rfl (by decide) (i:=4) zdY.nd rfl rfl rfl zbh (zaa (dv 3) zac) (λ_ _ _ _ _ _=>zeQ) (λ_ _ _ _ _ _=>(zan zoM hr (zaa (zan zdA hr (zaa (dv 1) (zaa (zaf zaT zab (dv 0)) zac))) zac)))) (zae (zam (i:=5) zdY.nd rfl (Or.inl rfl) (zan zoS hr (zaa (dv 4) (zaa (dv 1) (zaa (zan zdA hr (zaa (dv 0) (zaa zab zac))) zac))))) (zae (zam (i:=6) zdY.nd rfl (Or.inl rfl) (zan zpi hr (zaa (zdK (dv 0) (zcO zab) (zcO zab)) (zaa (dv 3) (zaa (zb6 (zaI hr) (zaf za1 (zaf zbE (dv 2) zab) zab) zab (zaq _)) (zaa zab (zaa zab zac))))))) (zae (zam (i:=7) zdY.nd rfl (Or.inl rfl) (zan zod hr (zaa (dv 6) (zaa (dv 5) (zaa (zaf zbE (dv 2) zab) (zaa (zan zdA hr (zaa (dv 0) (zaa zab zac))) zac)))))) (zag (zak (zat (zaa (dv 1) (zaa (dv 4) (zaa (dv 6) (zaa (dv 7) zac))))))))))))))),λds S Q ex h=>by
  unfold zgk at h
  split at h
  ·rename_i s
   obtain⟨ns,rfl,rfl,hl,h⟩:=h
   refine⟨ns,rfl,by decide,?_⟩
   refine ifD (λe=>?_) (λe=>?_)
   ·exact⟨ns,rfl,rfl,hl,h⟩
   ·refine⟨ns,rfl,by decide,?_⟩
    intro g hg g2
    refine⟨ns,rfl,by decide,?_⟩
    refine⟨show (0:Int)<10^Int.toNat 6 by decide,?_⟩
    have dr:∀a b:Int,a≤b→a.natAbs≤10^15→b.natAbs≤10^15→∃p:Int×Int,(D.tup [.int a,.int b])=frD p∧(p.1≤p.2∧Sz 51 p.1∧Sz 51 p.2):=λa b h1 h2 h3=>⟨(a,b),rfl,h1,(Sz.of (n:=51) (10^15) h2),(Sz.of (n:=51) (10^15) h3)⟩
    refine zqd (j:=(1+ns.getD (1:Int).toNat 0%10^Int.toNat 6%4)) (S1:=[.frz (ns.map D.int)]) (λ_ d=>∃p,d=frD p∧(p.1≤p.2∧Sz 51 p.1∧Sz 51 p.2)) (λK hK=>by exact hK) ⟨by omega,by omega⟩ (λk hk S2 K pr hK=>?_) (λxs lx hx=>?_)
    ·refine⟨ns,zup pr rfl,show (0:Int)≤2+(k:Int) by omega,?_⟩
     exact λt b h1 h2 h3=>hK _ (dr t b h1 h2 h3)
    obtain⟨ps,rfl,gp⟩:=zoA xs hx
    rw[Vaa] at lx
    have epl:(1+ns.getD (1:Int).toNat 0%10^Int.toNat 6%4)=((ps.length:Nat):Int):=by omega
    refine⟨ns,rfl,by decide,?_⟩
    refine⟨ps,rfl,gp,⟨hg,g2⟩,by omega,λT1 m1 qs p1 lm1 hq lq gq iq=>?_⟩
    have w1:∀ {n:Nat} {o:Ob},([.frz (ns.map D.int),.lst (ps.map frD)]:Sto)[n]?=some o→T1[n]?=some o:=λe=>p1 _ _ e
    have l0:=zbQ (w1 (n:=1) rfl)
    refine zds (n:=0) (o:=.frz (ns.map D.int)) (lo:=some 8) (hi:=some 63) (S3:=T1) (λK hK=>by exact hK) (λK hK=>by exact hK) (λK hK=>by exact hK) (w1 (n:=0) rfl) ?_
    refine⟨zaZ (ns.map D.int) (some 8) (some 63),ps.length,14,zaD _ _,λx hx=>?_,epl,⟨by omega,by omega⟩,rfl,⟨by decide,by decide⟩,⟨by decide,by decide⟩,λvs ws T m net hv l1 l60 pr lm hT=>?_⟩
    ·obtain⟨k,hk⟩:=List.mem_iff_getElem?.mp hx
     exact zwO hk
    have prT:Pre T1 T:=λn o e=>pr _ _ (zaC e)
    have J:T[m1]?=some (.lst (qs.map frD)):=prT _ _ hq
    have lm':T1.length<m:=by
     have z:(T1++[Ob.lst (zaZ (ns.map D.int) (some 8) (some 63))]).length≤m:=lm
     rw[Van] at z
     have e:([Ob.lst (zaZ (ns.map D.int) (some 8) (some 63))]:Sto).length=1:=rfl
     omega
    have lj:=zbQ hq
    refine⟨ns,prT _ _ (w1 (n:=0) rfl),by decide,?_⟩
    have net1:zaF ((qs.length:Nat):Int) vs ws:=by rw[lq]; exact net
    refine⟨vs,ws,qs,hT,J,by omega,net1,hv,gq,⟨by omega,by omega⟩,l1,l60,λT2 w zero k ns' ws' hw gr lk=>?_⟩
    have net2:zaF ((ps.length:Nat):Int) ns' ws':=by rw[← lq]; exact gr.net
    have gl:=gr.ln
    have kp:∀ {n:Nat} {o:Ob},n<T1.length→T[n]?=some o→T2[n]?=some o:=λ{n o} l e=>gr.kp n o (by omega) e
    have B2:T2[1]?=some (.lst (ps.map frD)):=kp (by omega) (prT _ _ (w1 (n:=1) rfl))
    have l70:ns'.length≤70:=by omega
    exact h T2 g k ps ns' ws' 1 m w zero (λn o e=>kp (by have:=zbQ (p1 _ _ (show ([.frz (ns.map D.int),.lst (ps.map frD)]:Sto)[n]?=some o from zaC e)); omega) (prT _ _ (p1 _ _ (show ([.frz (ns.map D.int),.lst (ps.map frD)]:Sto)[n]?=some o from zaC e)))) ⟨hg,g2⟩ B2 gr.nd net2 gp ⟨by omega,by omega⟩ l70 hw lk
  ·exact h.elim⟩)
def zwL  (zmi:Df K mg "less" zi8 zif):Fk P w K mg base 1 "less" zif zhA:=
 zmi.mk' (zax (k:=0) zmi.F zw8 (zww) λcdv A outer s H E hr=>⟨_,(zag (zak (zb6 zbi (zaf zaM (zad (dv 0) zab (λ_ _=>rfl)) (zad (dv 1) zab (λ_ _=>rfl))) (zaf zaM (zad (dv 1) zab (λ_ _=>rfl)) (zad (dv 0) zab (λ_ _=>rfl))) (zaq _)))),λds S Q ex h=>by
  unfold zhA at h
  split at h
  ·obtain⟨⟨h1,h2⟩,h⟩:=h
   exact⟨h1,h2,h⟩
  ·exact h.elim⟩)
def zyW  (zkq:Df K mg "rounded_up" zlX zdP):Fk P w K mg base 1 "rounded_up" zdP zdZ:=
 zkq.mk' (zax (k:=0) zkq.F zuo (zsE) λcdv A outer s H E hr=>⟨_,(zag (zak (zbF zbM (zaf zbo (zbF zbM (dv 0)) (dv 1))))),λds S Q ex h=>by
  unfold zdZ at h
  split at h
  ·exact h
  ·exact h.elim⟩)
def zwS  (znq:Df K mg "span_of" zjr zgF)(zcn:Fk P w K mg base 1 "rounded_up" zdP zdZ)(zoW:Fk P w K mg base 1 "less" zif zhA):Fk P w K mg base 2 "span_of" zgF zhF:=
 znq.mk' (zax (k:=1) znq.F zvF (zwp) λcdv A outer s H E hr=>⟨_,(zae (zav (zbq (zan zoW hr (zaa (dv 1) (zaa (dv 0) zac)))) (zag zyh) zaw) (zag (zak (zat (zaa (zaf zbo (zaf zaM (zad (dv 0) zab (λ_ _=>rfl)) (dv 2)) (zad (dv 0) zab (λ_ _=>rfl))) (zaa (zan zcn hr (zaa (zaf zaM (zad (dv 1) zab (λ_ _=>rfl)) (dv 2)) (zaa (zad (dv 1) zab (λ_ _=>rfl)) zac))) zac)))))),λds S Q ex h=>by
  unfold zhF at h
  split at h
  ·obtain⟨⟨⟨m1,m2⟩,nl,m3,m4,f1,f2⟩,h⟩:=h
   refine⟨⟨m1,m2⟩,ifF (decide_eq_false nl) ?_⟩
   exact⟨m3,f1,m4,f2,h⟩
  ·exact h.elim⟩)
def zxw  (zao:zbA K mg)(zap:zbB K mg)(zai:zbr K mg)(zaj:zbt K mg)(zah:zbw K mg)(zal:zbx K mg)(zmL:Dm K zao.C "forth" "Number.forth" zll zh0)(zok:Fk P w K mg base 2 "span_of" zgF zhF):Fm P w K mg base 3 zao.C "forth" zh0 (zev zao.C zap.C zai.C zaj.C zah.C zal.C):=
 zmL.mk' (zax (k:=2) zmL.F zpE (zuI zao.C zap.C zai.C zaj.C zah.C zal.C) λcdv A outer s H E hr=>⟨_,(zae (zam (i:=4) zpE.nd rfl (Or.inl rfl) (zat (zaa (zaY zao.cl zao.n_top (dv 0)) (zaa (zaY zao.cl zao.n_bottom (dv 0)) zac)))) (zag (zak (zan zok hr (zaa (dv 4) (zaa (dv 4) (zaa (dv 3) zac))))))),λds S Q ex h=>by
  unfold zev at h
  split at h
  ·rename_i n w p g
   obtain⟨x,y,vs,bs,hn,hw,hp,ok,s1,hg,h⟩:=h
   have sg:Sz 21 g:=Sz.of 1000000 (by omega)
   have sx:Sz 31 x:=Sz.of (10^9) ok.2.2
   have sy:Sz 31 y:=Sz.of (10^9) (by have:=ok.1; omega)
   refine zaQ (n:=n) (λK hK=>by exact hK) hn rfl ?_
   refine zaQ (n:=n) (λK hK=>by exact hK) hn rfl ?_
   exact⟨⟨⟨zaL sx sy,zaL sx sy⟩,by omega,zaL sx sg,zaL sx sg,sy.fd (by have:=ok.1; omega),sy.fd (by have:=ok.1; omega)⟩,h⟩
  ·exact h.elim⟩)
def ztx  (zap:zbB K mg)(zao:zbA K mg)(zai:zbr K mg)(zaj:zbt K mg)(zah:zbw K mg)(zal:zbx K mg)(zkh:Dm K zap.C "forth" "Unknown.forth" zl7 zhj):Fm P w K mg base 1 zap.C "forth" zhj (zfM zao.C zap.C zai.C zaj.C zah.C zal.C):=
 zkh.mk' (zax (k:=0) zkh.F zuM (zsy zao.C zap.C zai.C zaj.C zah.C zal.C) λcdv A outer s H E hr=>⟨_,(zag (zak (zaG (dv 2) (zaY zap.cl zap.n_place (dv 0)) (λ_ _=>rfl)))),λds S Q ex h=>by
  unfold zfM at h
  split at h
  ·rename_i n w p g
   obtain⟨k,vs,bs,hn,hw,hp,ok,s1,hg,h⟩:=h
   refine zaQ (n:=n) (λK hK=>by exact hK) hn rfl ?_
   exact zaB (o:=.lst (bs.map frD)) hp (zaK ok) h
  ·exact h.elim⟩)
def zuu  (zkI:Df K mg "add_spans" zl3 ze3):Fk P w K mg base 1 "add_spans" ze3 zft:=
 zkI.mk' (zax (k:=0) zkI.F zvT (zsM) λcdv A outer s H E hr=>⟨_,(zag (zak (zat (zaa (zaf zaT (zad (dv 0) zab (λ_ _=>rfl)) (zad (dv 1) zab (λ_ _=>rfl))) (zaa (zaf zaT (zad (dv 0) zab (λ_ _=>rfl)) (zad (dv 1) zab (λ_ _=>rfl))) zac))))),λds S Q ex h=>by
  unfold zft at h
  split at h
  ·exact h
  ·exact h.elim⟩)
def zyc  (zai:zbr K mg)(zao:zbA K mg)(zap:zbB K mg)(zaj:zbt K mg)(zah:zbw K mg)(zal:zbx K mg)(zkw:Dm K zai.C "forth" "Plus.forth" zmu zh3)(zfE:Fk P w K mg base 1 "add_spans" ze3 zft):Fm P w K mg base 2 zai.C "forth" zh3 (zep zao.C zap.C zai.C zaj.C zah.C zal.C):=
 zkw.mk' (zax (k:=1) zkw.F zst (zyB zao.C zap.C zai.C zaj.C zah.C zal.C) λcdv A outer s H E hr=>⟨_,(zag (zak (zan zfE hr (zaa (zaG (dv 1) (zaY zai.cl zai.n_one (dv 0)) (λ_ _=>rfl)) (zaa (zaG (dv 1) (zaY zai.cl zai.n_other (dv 0)) (λ_ _=>rfl)) zac))))),λds S Q ex h=>by
  unfold zep at h
  split at h
  ·rename_i n w p g
   obtain⟨i,j,vs,bs,hn,hw,hp,ok,s1,hg,h⟩:=h
   refine zaQ (n:=n) (λK hK=>by exact hK) hn rfl ?_
   refine zaB (o:=.lst (vs.map frD)) hw (zaK ok.1) ?_
   refine zaQ (n:=n) (λK hK=>by exact hK) hn rfl ?_
   refine zaB (o:=.lst (vs.map frD)) hw (zaK ok.2) ?_
   exact h
  ·exact h.elim⟩)
def zum  (zkk:Df K mg "take_spans" zkg zdE):Fk P w K mg base 1 "take_spans" zdE zdn:=
 zkk.mk' (zax (k:=0) zkk.F zx0 (ztq) λcdv A outer s H E hr=>⟨_,(zag (zak (zat (zaa (zaf zbl (zad (dv 0) zab (λ_ _=>rfl)) (zad (dv 1) zab (λ_ _=>rfl))) (zaa (zaf zbl (zad (dv 0) zab (λ_ _=>rfl)) (zad (dv 1) zab (λ_ _=>rfl))) zac))))),λds S Q ex h=>by
  unfold zdn at h
  split at h
  ·exact h
  ·exact h.elim⟩)
def zyR  (zaj:zbt K mg)(zao:zbA K mg)(zap:zbB K mg)(zai:zbr K mg)(zah:zbw K mg)(zal:zbx K mg)(ziM:Dm K zaj.C "forth" "Minus.forth" zkL zhX)(zco:Fk P w K mg base 1 "take_spans" zdE zdn):Fm P w K mg base 2 zaj.C "forth" zhX (zeX zao.C zap.C zai.C zaj.C zah.C zal.C):=
 ziM.mk' (zax (k:=1) ziM.F zwE (zyM zao.C zap.C zai.C zaj.C zah.C zal.C) λcdv A outer s H E hr=>⟨_,(zag (zak (zan zco hr (zaa (zaG (dv 1) (zaY zaj.cl zaj.n_one (dv 0)) (λ_ _=>rfl)) (zaa (zaG (dv 1) (zaY zaj.cl zaj.n_other (dv 0)) (λ_ _=>rfl)) zac))))),λds S Q ex h=>by
  unfold zeX at h
  split at h
  ·rename_i n w p g
   obtain⟨i,j,vs,bs,hn,hw,hp,ok,s1,hg,h⟩:=h
   refine zaQ (n:=n) (λK hK=>by exact hK) hn rfl ?_
   refine zaB (o:=.lst (vs.map frD)) hw (zaK ok.1) ?_
   refine zaQ (n:=n) (λK hK=>by exact hK) hn rfl ?_
   refine zaB (o:=.lst (vs.map frD)) hw (zaK ok.2) ?_
   exact h
  ·exact h.elim⟩)
def zxd  (zlW:Df K mg "mul_spans" zlI zhT)(zcn:Fk P w K mg base 1 "rounded_up" zdP zdZ)(zaS:mg "max"=none)(za9:mg "min"=none):Fk P w K mg base 2 "mul_spans" zhT ziq:=
 zlW.mk' (zes (zax (k:=1) zlW.F zrb (zfP (zs7)) λcdv A outer s H E hr=>⟨_,(zae (zam (i:=3) zrb.nd rfl (Or.inl rfl) (za8 (zaa (zaf zaM (zad (dv 0) zab (λ_ _=>rfl)) (zad (dv 1) zab (λ_ _=>rfl))) (zaa (zaf zaM (zad (dv 0) zab (λ_ _=>rfl)) (zad (dv 1) zab (λ_ _=>rfl))) (zaa (zaf zaM (zad (dv 0) zab (λ_ _=>rfl)) (zad (dv 1) zab (λ_ _=>rfl))) (zaa (zaf zaM (zad (dv 0) zab (λ_ _=>rfl)) (zad (dv 1) zab (λ_ _=>rfl))) zac)))))) (zag (zak (zat (zaa (zaf zbo (zaP (za7 (zdh rfl)) rfl za9 Boot.«min» (zaa (dv 3) zac)) (dv 2)) (zaa (zan zcn hr (zaa (zaP (za7 (zb8 rfl)) rfl zaS Boot.«max» (zaa (dv 3) zac)) (zaa (dv 2) zac))) zac)))))),λds S Q ex h=>by
  obtain⟨Q0,ex0,rfl,rfl,h⟩:=h
  unfold ziq at h
  split at h
  ·rename_i a b c d g
   obtain⟨⟨⟨m1,m2,m3,m4⟩,hg⟩,h⟩:=h
   refine⟨m1,m2,m3,m4,?_⟩
   apply zbS
   ·exact zaD _ _
   ·rfl
   ·simp
   intro mn n1 n2
   refine⟨hg,?_⟩
   apply zbS
   ·exact zaD _ _
   ·rfl
   ·simp
   intro mx x1 x2
   refine⟨hg,?_⟩
   exact⟨Pre.refl.push,zcf,h mn mx (zej.of n1 n2 x1 x2)⟩
  ·exact h.elim⟩))
def zuk  (zah:zbw K mg)(zao:zbA K mg)(zap:zbB K mg)(zai:zbr K mg)(zaj:zbt K mg)(zal:zbx K mg)(znr:Dm K zah.C "forth" "Times.forth" znl zgb)(zom:Fk P w K mg base 2 "mul_spans" zhT ziq):Fm P w K mg base 3 zah.C "forth" zgb (ze9 zao.C zap.C zai.C zaj.C zah.C zal.C):=
 znr.mk' (zax (k:=2) znr.F zvq (zvL zao.C zap.C zai.C zaj.C zah.C zal.C) λcdv A outer s H E hr=>⟨_,(zag (zak (zan zom hr (zaa (zaG (dv 1) (zaY zah.cl zah.n_one (dv 0)) (λ_ _=>rfl)) (zaa (zaG (dv 1) (zaY zah.cl zah.n_other (dv 0)) (λ_ _=>rfl)) (zaa (dv 3) zac)))))),λds S Q ex h=>by
  unfold ze9 at h
  split at h
  ·rename_i n w p g
   obtain⟨i,j,vs,bs,hn,hw,hp,ok,s1,hg,h⟩:=h
   refine zaQ (n:=n) (λK hK=>by exact hK) hn rfl ?_
   refine zaB (o:=.lst (vs.map frD)) hw (zaK ok.1) ?_
   refine zaQ (n:=n) (λK hK=>by exact hK) hn rfl ?_
   refine zaB (o:=.lst (vs.map frD)) hw (zaK ok.2) ?_
   have a:=s1.at ok.1
   have b:=s1.at ok.2
   have sg:Sz 21 g:=Sz.of 1000000 (by omega)
   refine⟨⟨⟨zaL a.2.1 b.2.1,zaL a.2.1 b.2.2,zaL a.2.2 b.2.1,zaL a.2.2 b.2.2⟩,sg.fd (by omega)⟩,λmn mx hc=>?_⟩
   obtain⟨rfl,rfl⟩:=hc.eq
   exact h
  ·exact h.elim⟩)
def zux  (zi5:Df K mg "raised" zmN zdl)(zbh:mg "range"=none):Fk P w K mg base 1 "raised" zdl zdi:=
 zi5.mk' (zax (k:=0) zi5.F ziZ (zyZ) λcdv A outer s H E hr=>⟨_,(zae (zam (i:=2) ziZ.nd rfl (Or.inl rfl) zab) (zae (zn6 (i:=3) PassesOwn.never rfl ziZ.nd rfl (Or.inl rfl) rfl zbh (zaa (dv 1) zac) (zag (zam (i:=2) ziZ.nd rfl (Or.inl rfl) (zaf zaM (dv 2) (dv 0))))) (zag (zak (dv 2))))),λds S Q ex h=>by
  unfold zdi at h
  split at h
  ·rename_i x n
   obtain⟨⟨h0,h6,sx⟩,h⟩:=h
   refine⟨⟨by omega,by omega⟩,λk dl' S'=>S'=S∧k≤n.toNat∧∃(z:Int) (o:Option D),z=x^k∧dl'=[some (.int x),some (.int n),some (.int z),o],⟨rfl,Vao _,1,none,(VaQ x).symm,rfl⟩,?_⟩
   rintro k dl' S' ⟨rfl,hk,z,o,rfl,rfl⟩
   refine zf9 (λc=>?_) (λc=>?_)
   ·exact⟨zaL (m:=12001) (n:=2000) ((sx.pow k).mono (by omega)) sx,rfl,by omega,_,_,(Vae x k).symm,rfl⟩
   ·have e:k=n.toNat:=by omega
    subst e
    exact h
  ·exact h.elim⟩)
def zxt  (zmB:Df K mg "raise_span" zgC zij)(zcn:Fk P w K mg base 1 "rounded_up" zdP zdZ)(zbL:Fk P w K mg base 1 "raised" zdl zdi)(zaS:mg "max"=none)(za9:mg "min"=none):Fk P w K mg base 2 "raise_span" zij zfW:=
 zmB.mk' (zes (zax (k:=1) zmB.F zml (zfP (zv3)) λcdv A outer s H E hr=>⟨_,(zae (zam (i:=3) zml.nd rfl (Or.inl rfl) (za8 (zaa (zad (dv 0) zab (λ_ _=>rfl)) (zaa (zad (dv 0) zab (λ_ _=>rfl)) zac)))) (zae (zav (znA zbi zbi (zad (dv 0) zab (λ_ _=>rfl)) zab (zad (dv 0) zab (λ_ _=>rfl))) (zag (zbJ (zbK (dv 3) zab))) zaw) (zae (zrx (x:="place") (N:=["grid","many"]) (caps:=[2,1]) (ar:=zar zgC) rfl rfl csc rfl (by decide) (i:=4) zml.nd rfl rfl (dv 3) (λ_ _ _ _ _ _=>zeQ) (λ_ _ _ _ _ _=>(zaf zaM (zan zbL hr (zaa (dv 0) (zaa (dv 2) zac))) (dv 1)))) (zae (zam (i:=5) zml.nd rfl (Or.inl rfl) (zan zbL hr (zaa (dv 2) (zaa (dv 1) zac)))) (zag (zak (zat (zaa (zaf zbo (zaP (za7 (zdh rfl)) rfl za9 Boot.«min» (zaa (dv 4) zac)) (dv 5)) (zaa (zan zcn hr (zaa (zaP (za7 (zb8 rfl)) rfl zaS Boot.«max» (zaa (dv 4) zac)) (zaa (dv 5) zac))) zac))))))))),λds S Q ex h=>by
  obtain⟨Q0,ex0,rfl,rfl,h⟩:=h
  unfold zfW at h
  split at h
  ·rename_i a b n g
   obtain⟨⟨n2,n6,za,zb,hg,zg⟩,h⟩:=h
   refine ifD (λc1=>?_) (λc1=>?_)
   ·refine ifD (λc2=>?_) (λc2=>?_)
    ·refine zb1 (n:=S.length) (λK hK=>hK) (zaD _ _) (λK hK=>hK) (by simp) ?_
     refine znh (n:=S.length) (o:=.lst [.int a,.int b,.int 0]) (λd=>match d with | .int v=>.int (v^n.toNat*g) | _=>.non) (λK hK=>hK) (by simp) (by simp[zaz]) (λx hx S2 K _ hK=>?_) ?_
     ·have hx':x=.int a∨x=.int b∨x=.int 0:=by simpa [zaz] using hx
      rcases hx' with rfl | rfl | rfl
      all_goals exact⟨⟨by omega,n6,by first | exact za.mono (by decide) | exact zb.mono (by decide) | exact Sz.of (n:=2000) 0 (by decide)⟩,zaL (m:=12001) (n:=1400) (((Sz.mono (n:=2000) (by first | exact za | exact zb | exact Sz.of (n:=1400) 0 (by decide)) (by decide)).pow _).mono (by omega)) zg,hK⟩
     refine⟨⟨by omega,n6,zg.mono (by decide)⟩,?_⟩
     have gp:(0:Int)<g^n.toNat:=Vaz (by omega)
     have zgp:Sz 8401 (g^n.toNat):=(zg.pow _).mono (by omega)
     apply zbS
     ·exact zaD _ _
     ·rfl
     ·simp
     intro mn q1 q2
     refine⟨zgp.fd gp,?_⟩
     apply zbS
     ·exact zaD _ _
     ·rfl
     ·simp
     intro mx x1 x2
     refine⟨zgp.fd gp,?_⟩
     obtain⟨m,M,hP,rfl,rfl⟩:=zcR.of (n:=n.toNat) hg (.inr ⟨rfl,c1,c2⟩) (by omega) q1 q2 x1 x2
     have r:=h m M hP
     rw[← zfv hg (by omega),← zfv hg (by omega),Val] at r
     exact⟨(λi o e=>znN (by rw[List.set_append_right _ _ (Vab _),Vak (Vac.mp e).1]; exact e)),zcf,r⟩
    ·skip
     refine znh (n:=S.length) (o:=.lst [.int a,.int b]) (λd=>match d with | .int v=>.int (v^n.toNat*g) | _=>.non) (λK hK=>hK) (zaD _ _) (by simp[zaz]) (λx hx S2 K _ hK=>?_) ?_
     ·have hx':x=.int a∨x=.int b:=by simpa [zaz] using hx
      rcases hx' with rfl | rfl
      all_goals exact⟨⟨by omega,n6,by first | exact za.mono (by decide) | exact zb.mono (by decide) | exact Sz.of (n:=2000) 0 (by decide)⟩,zaL (m:=12001) (n:=1400) (((Sz.mono (n:=2000) (by first | exact za | exact zb | exact Sz.of (n:=1400) 0 (by decide)) (by decide)).pow _).mono (by omega)) zg,hK⟩
     refine⟨⟨by omega,n6,zg.mono (by decide)⟩,?_⟩
     have gp:(0:Int)<g^n.toNat:=Vaz (by omega)
     have zgp:Sz 8401 (g^n.toNat):=(zg.pow _).mono (by omega)
     apply zbS
     ·exact zaD _ _
     ·rfl
     ·simp
     intro mn q1 q2
     refine⟨zgp.fd gp,?_⟩
     apply zbS
     ·exact zaD _ _
     ·rfl
     ·simp
     intro mx x1 x2
     refine⟨zgp.fd gp,?_⟩
     obtain⟨m,M,hP,rfl,rfl⟩:=zcR.of (n:=n.toNat) hg (.inl ⟨rfl,λc=>c2 c.2⟩) (by omega) q1 q2 x1 x2
     have r:=h m M hP
     rw[← zfv hg (by omega),← zfv hg (by omega),Val] at r
     exact⟨Pre.refl.push.push,zcf,r⟩
   ·skip
    refine znh (n:=S.length) (o:=.lst [.int a,.int b]) (λd=>match d with | .int v=>.int (v^n.toNat*g) | _=>.non) (λK hK=>hK) (zaD _ _) (by simp[zaz]) (λx hx S2 K _ hK=>?_) ?_
    ·have hx':x=.int a∨x=.int b:=by simpa [zaz] using hx
     rcases hx' with rfl | rfl
     all_goals exact⟨⟨by omega,n6,by first | exact za.mono (by decide) | exact zb.mono (by decide) | exact Sz.of (n:=2000) 0 (by decide)⟩,zaL (m:=12001) (n:=1400) (((Sz.mono (n:=2000) (by first | exact za | exact zb | exact Sz.of (n:=1400) 0 (by decide)) (by decide)).pow _).mono (by omega)) zg,hK⟩
    refine⟨⟨by omega,n6,zg.mono (by decide)⟩,?_⟩
    have gp:(0:Int)<g^n.toNat:=Vaz (by omega)
    have zgp:Sz 8401 (g^n.toNat):=(zg.pow _).mono (by omega)
    apply zbS
    ·exact zaD _ _
    ·rfl
    ·simp
    intro mn q1 q2
    refine⟨zgp.fd gp,?_⟩
    apply zbS
    ·exact zaD _ _
    ·rfl
    ·simp
    intro mx x1 x2
    refine⟨zgp.fd gp,?_⟩
    obtain⟨m,M,hP,rfl,rfl⟩:=zcR.of (n:=n.toNat) hg (.inl ⟨rfl,λc=>c1 c.1⟩) (by omega) q1 q2 x1 x2
    have r:=h m M hP
    rw[← zfv hg (by omega),← zfv hg (by omega),Val] at r
    exact⟨Pre.refl.push.push,zcf,r⟩
  ·exact h.elim⟩))
def ztt  (zal:zbx K mg)(zao:zbA K mg)(zap:zbB K mg)(zai:zbr K mg)(zaj:zbt K mg)(zah:zbw K mg)(zno:Dm K zal.C "forth" "Power.forth" zlQ zg7)(zpj:Fk P w K mg base 2 "raise_span" zij zfW):Fm P w K mg base 3 zal.C "forth" zg7 (ze4 zao.C zap.C zai.C zaj.C zah.C zal.C):=
 zno.mk' (zax (k:=2) zno.F zsC (zsB zao.C zap.C zai.C zaj.C zah.C zal.C) λcdv A outer s H E hr=>⟨_,(zag (zak (zan zpj hr (zaa (zaG (dv 1) (zaY zal.cl zal.n_one (dv 0)) (λ_ _=>rfl)) (zaa (zaY zal.cl zal.n_many (dv 0)) (zaa (dv 3) zac)))))),λds S Q ex h=>by
  unfold ze4 at h
  split at h
  ·rename_i n w p g
   obtain⟨i,m,vs,bs,hn,hw,hp,ok,s1,hg,h⟩:=h
   refine zaQ (n:=n) (λK hK=>by exact hK) hn rfl ?_
   refine zaB (o:=.lst (vs.map frD)) hw (zaK ok.1) ?_
   refine zaQ (n:=n) (λK hK=>by exact hK) hn rfl ?_
   have a:=s1.at ok.1
   have sg:Sz 21 g:=Sz.of 1000000 (by omega)
   refine⟨⟨ok.2.1,ok.2.2,a.2.1,a.2.2,hg.1,sg.mono (by decide)⟩,λm' M' hP=>?_⟩
   obtain⟨rfl,rfl⟩:=hP.eq (by have:=ok.2.1; omega)
   exact h
  ·exact h.elim⟩)
def zys  (zal:zbx K mg)(zlw:Dm K zal.C "__init__" "Power.__init__" zmD zgO):Fm P w K mg base 1 zal.C "__init__" zgO (zhC zal.C):=
 zlw.mk' (zax (k:=0) zlw.F zvm (zye zal.C) λcdv A outer s H E hr=>⟨_,(zae (zcD zal.cl zal.n_one (dv 0) (dv 1)) (zag (zcD zal.cl zal.n_many (dv 0) (dv 2)))),λds S Q ex h=>by
  unfold zhC at h
  split at h
  ·rename_i n x y
   obtain⟨T,rfl,rfl,h⟩:=h
   refine zcC (v:=x) (S1:=T++[Ob.ins zal.C []]) (S2:=T++[Ob.ins zal.C []]) (n:=T.length) (fs:=[]) (λK hK=>by exact hK) (λK hK=>by exact hK) (zcI ..) (by simp) ?_
   rw[zcH]
   refine zcC (v:=y) (S1:=T++[Ob.ins zal.C [("one",x)]]) (S2:=T++[Ob.ins zal.C [("one",x)]]) (n:=T.length) (fs:=[("one",x)]) (λK hK=>by exact hK) (λK hK=>by exact hK) (zcI ..) (by simp) ?_
   rw[zcH]
   exact h
  ·exact h.elim⟩)
def ztG  (zao:zbA K mg)(zjj:Dm K zao.C "__init__" "Number.__init__" zjq zhY):Fm P w K mg base 1 zao.C "__init__" zhY (zhQ zao.C):=
 zjj.mk' (zax (k:=0) zjj.F ztH (ztU zao.C) λcdv A outer s H E hr=>⟨_,(zae (zcD zao.cl zao.n_top (dv 0) (dv 1)) (zag (zcD zao.cl zao.n_bottom (dv 0) (dv 2)))),λds S Q ex h=>by
  unfold zhQ at h
  split at h
  ·rename_i n x y
   obtain⟨T,rfl,rfl,h⟩:=h
   refine zcC (v:=x) (S1:=T++[Ob.ins zao.C []]) (S2:=T++[Ob.ins zao.C []]) (n:=T.length) (fs:=[]) (λK hK=>by exact hK) (λK hK=>by exact hK) (zcI ..) (by simp) ?_
   rw[zcH]
   refine zcC (v:=y) (S1:=T++[Ob.ins zao.C [("top",x)]]) (S2:=T++[Ob.ins zao.C [("top",x)]]) (n:=T.length) (fs:=[("top",x)]) (λK hK=>by exact hK) (λK hK=>by exact hK) (zcI ..) (by simp) ?_
   rw[zcH]
   exact h
  ·exact h.elim⟩)
def zw3  (zap:zbB K mg)(zkt:Dm K zap.C "__init__" "Unknown.__init__" zj0 zgY):Fm P w K mg base 1 zap.C "__init__" zgY (zf4 zap.C):=
 zkt.mk' (zax (k:=0) zkt.F zx2 (zyJ zap.C) λcdv A outer s H E hr=>⟨_,(zag (zcD zap.cl zap.n_place (dv 0) (dv 1))),λds S Q ex h=>by
  unfold zf4 at h
  split at h
  ·rename_i n x
   obtain⟨T,rfl,rfl,h⟩:=h
   refine zcC (v:=x) (S1:=T++[Ob.ins zap.C []]) (S2:=T++[Ob.ins zap.C []]) (n:=T.length) (fs:=[]) (λK hK=>by exact hK) (λK hK=>by exact hK) (zcI ..) (by simp) ?_
   rw[zcH]
   exact h
  ·exact h.elim⟩)
def zty  (zai:zbr K mg)(zmc:Dm K zai.C "__init__" "Pair.__init__" zmq zhq):Fm P w K mg base 1 zai.C "__init__" zhq (zht zai.C):=
 zmc.mk' (zax (k:=0) zmc.F zsD (ztm zai.C) λcdv A outer s H E hr=>⟨_,(zae (zcD zai.cl zai.n_one (dv 0) (dv 1)) (zag (zcD zai.cl zai.n_other (dv 0) (dv 2)))),λds S Q ex h=>by
  unfold zht at h
  split at h
  ·rename_i n x y
   obtain⟨T,rfl,rfl,h⟩:=h
   refine zcC (v:=x) (S1:=T++[Ob.ins zai.C []]) (S2:=T++[Ob.ins zai.C []]) (n:=T.length) (fs:=[]) (λK hK=>by exact hK) (λK hK=>by exact hK) (zcI ..) (by simp) ?_
   rw[zcH]
   refine zcC (v:=y) (S1:=T++[Ob.ins zai.C [("one",x)]]) (S2:=T++[Ob.ins zai.C [("one",x)]]) (n:=T.length) (fs:=[("one",x)]) (λK hK=>by exact hK) (λK hK=>by exact hK) (zcI ..) (by simp) ?_
   rw[zcH]
   exact h
  ·exact h.elim⟩)
def zs4  (zaj:zbt K mg)(zls:Dm K zaj.C "__init__" "Pair.__init__" ziH zil):Fm P w K mg base 1 zaj.C "__init__" zil (zhO zaj.C):=
 zls.mk' (zax (k:=0) zls.F zs6 (ztd zaj.C) λcdv A outer s H E hr=>⟨_,(zae (zcD zaj.cl zaj.n_one (dv 0) (dv 1)) (zag (zcD zaj.cl zaj.n_other (dv 0) (dv 2)))),λds S Q ex h=>by
  unfold zhO at h
  split at h
  ·rename_i n x y
   obtain⟨T,rfl,rfl,h⟩:=h
   refine zcC (v:=x) (S1:=T++[Ob.ins zaj.C []]) (S2:=T++[Ob.ins zaj.C []]) (n:=T.length) (fs:=[]) (λK hK=>by exact hK) (λK hK=>by exact hK) (zcI ..) (by simp) ?_
   rw[zcH]
   refine zcC (v:=y) (S1:=T++[Ob.ins zaj.C [("one",x)]]) (S2:=T++[Ob.ins zaj.C [("one",x)]]) (n:=T.length) (fs:=[("one",x)]) (λK hK=>by exact hK) (λK hK=>by exact hK) (zcI ..) (by simp) ?_
   rw[zcH]
   exact h
  ·exact h.elim⟩)
def zt3  (zah:zbw K mg)(zjm:Dm K zah.C "__init__" "Pair.__init__" zkR zf3):Fm P w K mg base 1 zah.C "__init__" zf3 (zg1 zah.C):=
 zjm.mk' (zax (k:=0) zjm.F zr8 (zuR zah.C) λcdv A outer s H E hr=>⟨_,(zae (zcD zah.cl zah.n_one (dv 0) (dv 1)) (zag (zcD zah.cl zah.n_other (dv 0) (dv 2)))),λds S Q ex h=>by
  unfold zg1 at h
  split at h
  ·rename_i n x y
   obtain⟨T,rfl,rfl,h⟩:=h
   refine zcC (v:=x) (S1:=T++[Ob.ins zah.C []]) (S2:=T++[Ob.ins zah.C []]) (n:=T.length) (fs:=[]) (λK hK=>by exact hK) (λK hK=>by exact hK) (zcI ..) (by simp) ?_
   rw[zcH]
   refine zcC (v:=y) (S1:=T++[Ob.ins zah.C [("one",x)]]) (S2:=T++[Ob.ins zah.C [("one",x)]]) (n:=T.length) (fs:=[("one",x)]) (λK hK=>by exact hK) (λK hK=>by exact hK) (zcI ..) (by simp) ?_
   rw[zcH]
   exact h
  ·exact h.elim⟩)
def zs5  (zal:zbx K mg)(zah:zbw K mg)(zaj:zbt K mg)(zai:zbr K mg)(zap:zbB K mg)(zao:zbA K mg)(zkr:Df K mg "kind_of" zjA zfw)(zeZ:Fm P w K mg base 1 zal.C "__init__" zgO (zhC zal.C))(zfl:Fm P w K mg base 1 zah.C "__init__" zf3 (zg1 zah.C))(zem:Fm P w K mg base 1 zaj.C "__init__" zil (zhO zaj.C))(zeJ:Fm P w K mg base 1 zai.C "__init__" zhq (zht zai.C))(zfI:Fm P w K mg base 1 zap.C "__init__" zgY (zf4 zap.C))(zfc:Fm P w K mg base 1 zao.C "__init__" zhY (zhQ zao.C)):Fk P w K mg base 3 "kind_of" zfw (zfg zao.C zap.C zai.C zaj.C zah.C zal.C):=
 zkr.mk' (zax (k:=2) zkr.F zxA (zuO zao.C zap.C zai.C zaj.C zah.C zal.C) λcdv A outer s H E hr=>⟨_,(zae (zav (zas (zaI hr) (zad (dv 0) zab (λ_ _=>rfl)) zaH (zaq _)) (zag (zak (ze0 ⟨zao.makes,zfc.m.at_,zfc.m.fn,zao.kp⟩ zfc.ok (hr.mono (by decide)) rfl zao.m zfc.b zfq (zaa (zad (dv 0) zab (λ_ _=>rfl)) (zaa (zad (dv 0) zab (λ_ _=>rfl)) zac))))) zaw) (zae (zav (zas (zaI hr) (zad (dv 0) zab (λ_ _=>rfl)) zaH (zaq _)) (zag (zak (ze0 ⟨zap.makes,zfI.m.at_,zfI.m.fn,zap.kp⟩ zfI.ok (hr.mono (by decide)) rfl zap.m zfI.b zfq (zaa (zad (dv 0) zab (λ_ _=>rfl)) zac)))) zaw) (zae (zav (zas (zaI hr) (zad (dv 0) zab (λ_ _=>rfl)) zaH (zaq _)) (zag (zak (ze0 ⟨zai.makes,zeJ.m.at_,zeJ.m.fn,zai.kp⟩ zeJ.ok (hr.mono (by decide)) rfl zai.m zeJ.b zfq (zaa (zad (dv 0) zab (λ_ _=>rfl)) (zaa (zad (dv 0) zab (λ_ _=>rfl)) zac))))) zaw) (zae (zav (zas (zaI hr) (zad (dv 0) zab (λ_ _=>rfl)) zaH (zaq _)) (zag (zak (ze0 ⟨zaj.makes,zem.m.at_,zem.m.fn,zaj.kp⟩ zem.ok (hr.mono (by decide)) rfl zaj.m zem.b zfq (zaa (zad (dv 0) zab (λ_ _=>rfl)) (zaa (zad (dv 0) zab (λ_ _=>rfl)) zac))))) zaw) (zae (zav (zas (zaI hr) (zad (dv 0) zab (λ_ _=>rfl)) zaH (zaq _)) (zag (zak (ze0 ⟨zah.makes,zfl.m.at_,zfl.m.fn,zah.kp⟩ zfl.ok (hr.mono (by decide)) rfl zah.m zfl.b zfq (zaa (zad (dv 0) zab (λ_ _=>rfl)) (zaa (zad (dv 0) zab (λ_ _=>rfl)) zac))))) zaw) (zag (zak (ze0 ⟨zal.makes,zeZ.m.at_,zeZ.m.fn,zal.kp⟩ zeZ.ok (hr.mono (by decide)) rfl zal.m zeZ.b zfq (zaa (zad (dv 0) zab (λ_ _=>rfl)) (zaa (zad (dv 0) zab (λ_ _=>rfl)) zac)))))))))),λds S Q ex h=>by
  unfold zfg at h
  split at h
  ·obtain⟨v,rfl,h⟩:=h
   cases v <;> exact⟨S,rfl,rfl,rfl,h⟩
  ·exact h.elim⟩)
def zsV  (zal:zbx K mg)(zah:zbw K mg)(zaj:zbt K mg)(zai:zbr K mg)(zap:zbB K mg)(zao:zbA K mg)(zmY:Df K mg "worths" zlZ zfs)(zoq:Fm P w K mg base 3 zal.C "forth" zg7 (ze4 zao.C zap.C zai.C zaj.C zah.C zal.C))(zoz:Fm P w K mg base 3 zah.C "forth" zgb (ze9 zao.C zap.C zai.C zaj.C zah.C zal.C))(znS:Fm P w K mg base 2 zaj.C "forth" zhX (zeX zao.C zap.C zai.C zaj.C zah.C zal.C))(zpa:Fm P w K mg base 2 zai.C "forth" zh3 (zep zao.C zap.C zai.C zaj.C zah.C zal.C))(zoc:Fm P w K mg base 1 zap.C "forth" zhj (zfM zao.C zap.C zai.C zaj.C zah.C zal.C))(zol:Fm P w K mg base 3 zao.C "forth" zh0 (zev zao.C zap.C zai.C zaj.C zah.C zal.C))(zet:Fk P w K mg base 3 "kind_of" zfw (zfg zao.C zap.C zai.C zaj.C zah.C zal.C)):Fk P w K mg base 4 "worths" zfs zfA:=
 zmY.mk' (zax (k:=3) zmY.F znw (zth) λcdv A outer s H E hr=>⟨_,(zae (zam (i:=3) znw.nd rfl (Or.inl rfl) (za8 zac)) (zae (zda (i:=4) PassesOwn.never rfl znw.nd rfl (Or.inl rfl) (dv 0) (zag (zbJ (zbK (dv 3) (zq0 (zan zet hr (zaa (dv 4) zac)) (zcw zao.cl zol (hr.mono (by decide)) (zcw zap.cl zoc (hr.mono (by decide)) (zcw zai.cl zpa (hr.mono (by decide)) (zcw zaj.cl znS (hr.mono (by decide)) (zcw zah.cl zoz (hr.mono (by decide)) (zcw zal.cl zoq (hr.mono (by decide)) zqD)))))) zcF (zaa (dv 3) (zaa (dv 1) (zaa (dv 2) zac)))))))) (zag (zak (dv 3))))),λds S Q ex h=>by
  unfold zfA at h
  split at h
  ·rename_i a b g
   obtain⟨ns,ws,bs,ha,hb,net,sb,hg,hl,h⟩:=h
   have disp:∀v:Nd,∃C fs sd,v.ob zao.C zap.C zai.C zaj.C zah.C zal.C=.ins C fs∧(C,sd)∈[(zao.C,zev zao.C zap.C zai.C zaj.C zah.C zal.C),(zap.C,zfM zao.C zap.C zai.C zaj.C zah.C zal.C),(zai.C,zep zao.C zap.C zai.C zaj.C zah.C zal.C),(zaj.C,zeX zao.C zap.C zai.C zaj.C zah.C zal.C),(zah.C,ze9 zao.C zap.C zai.C zaj.C zah.C zal.C),(zal.C,ze4 zao.C zap.C zai.C zaj.C zah.C zal.C)]∧fs.lookup ("forth":Str)=none∧∀(n w p:Nat) (g:Int) (S:Sto) (Q:DK) (ex:Addr→Sto→Prop) (vs bs:List (Int×Int)),S[n]?=some (v.ob zao.C zap.C zai.C zaj.C zah.C zal.C)→S[w]?=some (.lst (vs.map frD))→S[p]?=some (.lst (bs.map frD))→v.ok vs.length bs.length→Spn 1400 vs→(1≤g∧g≤1000000)→Q (frD (v.fw vs bs g)) S→sd [.ref n,.ref w,.ref p,.int g] S Q ex:=by
    intro v
    cases v with
    | number x y=>exact⟨_,_,_,rfl,(.head _),rfl,λn w p g S Q ex vs bs a1 a2 a3 a4 a5 a6 q=>⟨x,y,vs,bs,a1,a2,a3,a4,a5,a6,q⟩⟩
    | unknown k=>exact⟨_,_,_,rfl,(.tail _ (.head _)),rfl,λn w p g S Q ex vs bs a1 a2 a3 a4 a5 a6 q=>⟨k,vs,bs,a1,a2,a3,a4,a5,a6,q⟩⟩
    | plus i j=>exact⟨_,_,_,rfl,(.tail _ (.tail _ (.head _))),rfl,λn w p g S Q ex vs bs a1 a2 a3 a4 a5 a6 q=>⟨i,j,vs,bs,a1,a2,a3,a4,a5,a6,q⟩⟩
    | minus i j=>exact⟨_,_,_,rfl,(.tail _ (.tail _ (.tail _ (.head _)))),rfl,λn w p g S Q ex vs bs a1 a2 a3 a4 a5 a6 q=>⟨i,j,vs,bs,a1,a2,a3,a4,a5,a6,q⟩⟩
    | times i j=>exact⟨_,_,_,rfl,(.tail _ (.tail _ (.tail _ (.tail _ (.head _))))),rfl,λn w p g S Q ex vs bs a1 a2 a3 a4 a5 a6 q=>⟨i,j,vs,bs,a1,a2,a3,a4,a5,a6,q⟩⟩
    | power i m=>exact⟨_,_,_,rfl,(.tail _ (.tail _ (.tail _ (.tail _ (.tail _ (.head _)))))),rfl,λn w p g S Q ex vs bs a1 a2 a3 a4 a5 a6 q=>⟨i,m,vs,bs,a1,a2,a3,a4,a5,a6,q⟩⟩
   have la:=zbQ ha
   have lb:=zbQ hb
   refine zc6 (n:=a) (o:=.lst (ns.map Nd.d)) (λk dl' S'=>k≤ns.length∧Pre S S'∧S'[S.length]?=some (.lst ((zaE bs g (ns.take k)).map frD))∧∃u:Option D,dl'=[some (.ref a),some (.ref b),some (.int g),some (.ref S.length),u]) ⟨Vao _,Pre.refl.push,zaD _ _,_,rfl⟩ (λk dl' S' w=>w.2.1 _ _ ha) ?_ ?_
   ·rintro k x dl' S' nx ct ex' ⟨hk,pr,hf,u,rfl⟩ hn
    have ex2:(ns.map Nd.d)[k]?=some x:=ex'
    rw[Vai] at ex2
    obtain⟨v,hv,rfl⟩:=Vaq.mp ex2
    have hk':=(Vac.mp hv).1
    have ln:(zaE bs g (ns.take k)).length=k:=by rw[zcd,Vah]; omega
    have okv:v.ok (zaE bs g (ns.take k)).length bs.length:=by rw[ln]; exact(net.ok k v hv).1
    obtain⟨C,fs,sd,eo,hm,hf2,go⟩:=disp v
    have N1:=zaD S' (v.ob zao.C zap.C zai.C zaj.C zah.C zal.C)
    refine zp1 (n:=S.length) (S1:=S') (S2:=S'++[v.ob zao.C zap.C zai.C zaj.C zah.C zal.C]) (xs:=(zaE bs g (ns.take k)).map frD) (y:=frD (v.fw (zaE bs g (ns.take k)) bs g)) (λK hK=>by exact hK) hf (λK hK=>?_) (zaC hf) (by rw[Vaa,ln]; omega) ?_
    ·refine zrM (n:=S'.length) (C:=C) (sd:=sd) (fs:=fs) (S1:=S'++[v.ob zao.C zap.C zai.C zaj.C zah.C zal.C]) (λK hK=>⟨v,rfl,by exact hK⟩) (by rw[← eo]; exact N1) hm hf2 ?_
     exact go _ _ _ _ _ _ _ (zaE bs g (ns.take k)) bs N1 (zaC hf) (zaC (pr _ _ hb)) okv ((zex net rfl sb hg k hk).mono (by decide)) hg hK
    ·refine hn _ _ ⟨by omega,zbn (zc2 pr _) (Vab _),?_,_,rfl⟩
     rw[zce hv,zff,Vaw]
     exact zbk (zaC hf)
   ·rintro dl' S' ⟨hk,pr,hf,u,rfl⟩
    refine h _ _ pr (Vab _) ?_
    have e:ns.take (zaz (.lst (ns.map Nd.d))).length=ns:=by
     show ns.take (ns.map Nd.d).length=ns
     rw[Vaa,VaK]
    rw[e] at hf
    exact hf
  ·exact h.elim⟩)
def zsO  (zj9:Df K mg "common" zlF zcY)(za9:mg "min"=none)(zaS:mg "max"=none):Fk P w K mg base 1 "common" zcY zdb:=
 zj9.mk' (zax (k:=0) zj9.F zpl (zwq) λcdv A outer s H E hr=>⟨_,(zae (zam (i:=2) zpl.nd rfl (Or.inl rfl) (zaP (zb8 rfl) rfl zaS Boot.«max» (zaa (zad (dv 0) zab (λ_ _=>rfl)) (zaa (zad (dv 1) zab (λ_ _=>rfl)) zac)))) (zae (zam (i:=3) zpl.nd rfl (Or.inl rfl) (zaP (zdh rfl) rfl za9 Boot.«min» (zaa (zad (dv 0) zab (λ_ _=>rfl)) (zaa (zad (dv 1) zab (λ_ _=>rfl)) zac)))) (zae (zav (zas zcZ (dv 2) (dv 3) (zaq _)) (zag (zak za0)) zaw) (zag (zak (zat (zaa (dv 2) (zaa (dv 3) zac)))))))),λds S Q ex h=>by
  unfold zdb at h
  split at h
  ·rename_i a b c d
   obtain⟨h1,h2⟩:=h
   unfold za6 at h1 h2
   refine ifD (λe=>?_) (λe=>?_)
   ·exact h1 (if_pos e)
   ·exact h2 _ (if_neg e)
  ·exact h.elim⟩)
def zvW  (zjM:Df K mg "asked_of" zjB ziu)(zbH:Fk P w K mg base 1 "common" zcY zdb)(zaS:mg "max"=none):Fk P w K mg base 2 "asked_of" ziu zhJ:=
 zjM.mk' (zax (k:=1) zjM.F zwt (zsv) λcdv A outer s H E hr=>⟨_,(zae (zav (zas (zaI hr) (dv 0) zaH (zaq _)) (zag (zak (zan zbH hr (zaa (dv 1) (zaa (zat (zaa zab (zaa zab zac))) zac))))) zaw) (zag (zak (zan zbH hr (zaa (dv 1) (zaa (zat (zaa zab (zaa (zaP (zb8 rfl) rfl zaS Boot.«max» (zaa (zad (dv 1) zab (λ_ _=>rfl)) (zaa zab zac))) zac))) zac)))))),λds S Q ex h=>by
  unfold zhJ at h
  split at h
  ·rename_i w a b
   obtain⟨zero,hw,h⟩:=h
   rcases hw with ⟨rfl,rfl⟩ | ⟨rfl,rfl⟩
   ·exact h
   ·exact h
  ·exact h.elim⟩)
def zyt  (zao:zbA K mg)(zap:zbB K mg)(zai:zbr K mg)(zaj:zbt K mg)(zah:zbw K mg)(zal:zbx K mg)(znu:Dm K zao.C "back" "Number.back" zlv zhh):Fm P w K mg base 1 zao.C "back" zhh (zfN zao.C zap.C zai.C zaj.C zah.C zal.C):=
 znu.mk' (zax (k:=0) znu.F zrO (zxJ zao.C zap.C zai.C zaj.C zah.C zal.C) λcdv A outer s H E hr=>⟨_,(zag (zak (za8 zac))),λds S Q ex h=>by
  unfold zfN at h
  split at h
  ·rename_i n w z0 z1 g
   obtain⟨x,y,vs,q,hn,hw,ok,hs,⟨hz,sz0,sz1⟩,hg,h1,h2⟩:=h
   exact h2 [] rfl
  ·exact h.elim⟩)
def zxi  (zao:zbA K mg)(zap:zbB K mg)(zai:zbr K mg)(zaj:zbt K mg)(zah:zbw K mg)(zal:zbx K mg)(zkT:Dm K zap.C "back" "Unknown.back" zlu zg6):Fm P w K mg base 1 zap.C "back" zg6 (zfh zao.C zap.C zai.C zaj.C zah.C zal.C):=
 zkT.mk' (zax (k:=0) zkT.F zvi (zvw zao.C zap.C zai.C zaj.C zah.C zal.C) λcdv A outer s H E hr=>⟨_,(zag (zak (za8 zac))),λds S Q ex h=>by
  unfold zfh at h
  split at h
  ·rename_i n w z0 z1 g
   obtain⟨k,vs,q,hn,hw,ok,hs,⟨hz,sz0,sz1⟩,hg,h1,h2⟩:=h
   exact h2 [] rfl
  ·exact h.elim⟩)
def zvQ  (zai:zbr K mg)(zlU:Dm K zai.C "first_left" "Plus.first_left" zjy zgN)(zbH:Fk P w K mg base 1 "common" zcY zdb)(zco:Fk P w K mg base 1 "take_spans" zdE zdn):Fm P w K mg base 2 zai.C "first_left" zgN zhs:=
 zlU.mk' (zax (k:=1) zlU.F zxe (zsU) λcdv A outer s H E hr=>⟨_,(zag (zak (zan zbH hr (zaa (dv 2) (zaa (zan zco hr (zaa (dv 1) (zaa (dv 3) zac))) zac))))),λds S Q ex h=>by
  unfold zhs at h
  split at h
  ·exact h
  ·exact h.elim⟩)
def zwV  (zai:zbr K mg)(zjN:Dm K zai.C "second_left" "Plus.second_left" zl5 zh1)(zbH:Fk P w K mg base 1 "common" zcY zdb)(zco:Fk P w K mg base 1 "take_spans" zdE zdn):Fm P w K mg base 2 zai.C "second_left" zh1 zio:=
 zjN.mk' (zax (k:=1) zjN.F zwx (zya) λcdv A outer s H E hr=>⟨_,(zag (zak (zan zbH hr (zaa (dv 3) (zaa (zan zco hr (zaa (dv 1) (zaa (dv 2) zac))) zac))))),λds S Q ex h=>by
  unfold zio at h
  split at h
  ·exact h
  ·exact h.elim⟩)
def ztC  (zai:zbr K mg)(zao:zbA K mg)(zap:zbB K mg)(zaj:zbt K mg)(zah:zbw K mg)(zal:zbx K mg)(zkd:Dm K zai.C "back" "Pair.back" zje zgc)(zgA:Fm P w K mg base 2 zai.C "second_left" zh1 zio)(zgd:Fm P w K mg base 2 zai.C "first_left" zgN zhs):Fm P w K mg base 3 zai.C "back" zgc (zeE zao.C zap.C zai.C zaj.C zah.C zal.C):=
 zkd.mk' (zax (k:=2) zkd.F zlY (zuL zao.C zap.C zai.C zaj.C zah.C zal.C) λcdv A outer s H E hr=>⟨_,(zae (zam (i:=4) zlY.nd rfl (Or.inl rfl) (zey (C:=zai.C) (dv 0) zai.cl zgd.m zgd.ok (hr.mono (by decide)) zgd.b zcF (zaa (dv 2) (zaa (zaG (dv 1) (zaY zai.cl zai.n_one (dv 0)) (λ_ _=>rfl)) (zaa (zaG (dv 1) (zaY zai.cl zai.n_other (dv 0)) (λ_ _=>rfl)) (zaa (dv 3) zac)))))) (zae (zav (zas zbN (dv 4) za0 (zaq _)) (zag (zak za0)) zaw) (zae (zam (i:=5) zlY.nd rfl (Or.inl rfl) (zc5 (zas (zaI hr) (zaY zai.cl zai.n_one (dv 0)) (zaY zai.cl zai.n_other (dv 0)) (zaq _)) (dv 4) (zaG (dv 1) (zaY zai.cl zai.n_other (dv 0)) (λ_ _=>rfl)))) (zae (zam (i:=5) zlY.nd rfl (Or.inl rfl) (zey (C:=zai.C) (dv 0) zai.cl zgA.m zgA.ok (hr.mono (by decide)) zgA.b zcF (zaa (dv 2) (zaa (dv 4) (zaa (dv 5) (zaa (dv 3) zac)))))) (zae (zav (zas zbN (dv 5) za0 (zaq _)) (zag (zak za0)) zaw) (zag (zak (za8 (zaa (zat (zaa (zaY zai.cl zai.n_one (dv 0)) (zaa (dv 4) zac))) (zaa (zat (zaa (zaY zai.cl zai.n_other (dv 0)) (zaa (dv 5) zac))) zac)))))))))),λds S Q ex h=>by
  unfold zeE at h
  split at h
  ·rename_i n w z0 z1 g
   obtain⟨i,j,vs,q,hn,hw,ok,hs,⟨hz,sz0,sz1⟩,hg,h1,h2⟩:=h
   refine zdd (n:=n) (fs:=[("one",.int i),("other",.int j)]) (λK hK=>by exact hK) hn rfl ?_
   refine zaQ (n:=n) (λK hK=>by exact hK) hn rfl ?_
   refine zaB (o:=.lst (vs.map frD)) hw (zaK ok.1) ?_
   refine zaQ (n:=n) (λK hK=>by exact hK) hn rfl ?_
   refine zaB (o:=.lst (vs.map frD)) hw (zaK ok.2) ?_
   refine⟨λe=>?_,λx' e=>?_⟩
   ·have e':za6 (gt vs i) (z0-(gt vs j).2,z1-(gt vs j).1)=none:=e
    refine h1 ?_
    unfold Nd.bk bk2
    dsimp only
    rw[e']
   ·have e':za6 (gt vs i) (z0-(gt vs j).2,z1-(gt vs j).1)=some x':=e
    refine zaQ (n:=n) (λK hK=>by exact hK) hn rfl ?_
    refine zaQ (n:=n) (λK hK=>by exact hK) hn rfl ?_
    refine ifD (λc=>?_) (λc=>?_)
    ·skip
     refine zdd (n:=n) (fs:=[("one",.int i),("other",.int j)]) (λK hK=>by exact hK) hn rfl ?_
     refine⟨λe2=>?_,λy' e2=>?_⟩
     ·refine h1 ?_
      unfold Nd.bk bk2
      dsimp only
      rw[e']
      dsimp only
      rw[if_pos c,show za6 x' (z0-x'.2,z1-x'.1)=none from e2]
     ·refine zaQ (n:=n) (λK hK=>by exact hK) hn rfl ?_
      refine zaQ (n:=n) (λK hK=>by exact hK) hn rfl ?_
      refine h2 [(i,x'),(j,y')] ?_
      unfold Nd.bk bk2
      dsimp only
      rw[e']
      dsimp only
      rw[if_pos c,show za6 x' (z0-x'.2,z1-x'.1)=some y' from e2]
    ·refine zaQ (n:=n) (λK hK=>by exact hK) hn rfl ?_
     refine zaB (o:=.lst (vs.map frD)) hw (zaK ok.2) ?_
     refine zdd (n:=n) (fs:=[("one",.int i),("other",.int j)]) (λK hK=>by exact hK) hn rfl ?_
     refine⟨λe2=>?_,λy' e2=>?_⟩
     ·refine h1 ?_
      unfold Nd.bk bk2
      dsimp only
      rw[e']
      dsimp only
      rw[if_neg c,show za6 (gt vs j) (z0-x'.2,z1-x'.1)=none from e2]
     ·refine zaQ (n:=n) (λK hK=>by exact hK) hn rfl ?_
      refine zaQ (n:=n) (λK hK=>by exact hK) hn rfl ?_
      refine h2 [(i,x'),(j,y')] ?_
      unfold Nd.bk bk2
      dsimp only
      rw[e']
      dsimp only
      rw[if_neg c,show za6 (gt vs j) (z0-x'.2,z1-x'.1)=some y' from e2]
  ·exact h.elim⟩)
def zsr  (zaj:zbt K mg)(zlg:Dm K zaj.C "first_left" "Minus.first_left" zjJ zfX)(zbH:Fk P w K mg base 1 "common" zcY zdb)(zfE:Fk P w K mg base 1 "add_spans" ze3 zft):Fm P w K mg base 2 zaj.C "first_left" zfX zgu:=
 zlg.mk' (zax (k:=1) zlg.F zxx (zu3) λcdv A outer s H E hr=>⟨_,(zag (zak (zan zbH hr (zaa (dv 2) (zaa (zan zfE hr (zaa (dv 1) (zaa (dv 3) zac))) zac))))),λds S Q ex h=>by
  unfold zgu at h
  split at h
  ·exact h
  ·exact h.elim⟩)
def zyQ  (zaj:zbt K mg)(zkB:Dm K zaj.C "second_left" "Minus.second_left" zj1 zf1)(zbH:Fk P w K mg base 1 "common" zcY zdb)(zco:Fk P w K mg base 1 "take_spans" zdE zdn):Fm P w K mg base 2 zaj.C "second_left" zf1 zf6:=
 zkB.mk' (zax (k:=1) zkB.F zwJ (zyi) λcdv A outer s H E hr=>⟨_,(zag (zak (zan zbH hr (zaa (dv 3) (zaa (zan zco hr (zaa (dv 2) (zaa (dv 1) zac))) zac))))),λds S Q ex h=>by
  unfold zf6 at h
  split at h
  ·exact h
  ·exact h.elim⟩)
def zyu  (zaj:zbt K mg)(zao:zbA K mg)(zap:zbB K mg)(zai:zbr K mg)(zah:zbw K mg)(zal:zbx K mg)(zle:Dm K zaj.C "back" "Pair.back" ziV zir)(zh9:Fm P w K mg base 2 zaj.C "second_left" zf1 zf6)(zhx:Fm P w K mg base 2 zaj.C "first_left" zfX zgu):Fm P w K mg base 3 zaj.C "back" zir (zeK zao.C zap.C zai.C zaj.C zah.C zal.C):=
 zle.mk' (zax (k:=2) zle.F ziF (zv6 zao.C zap.C zai.C zaj.C zah.C zal.C) λcdv A outer s H E hr=>⟨_,(zae (zam (i:=4) ziF.nd rfl (Or.inl rfl) (zey (C:=zaj.C) (dv 0) zaj.cl zhx.m zhx.ok (hr.mono (by decide)) zhx.b zcF (zaa (dv 2) (zaa (zaG (dv 1) (zaY zaj.cl zaj.n_one (dv 0)) (λ_ _=>rfl)) (zaa (zaG (dv 1) (zaY zaj.cl zaj.n_other (dv 0)) (λ_ _=>rfl)) (zaa (dv 3) zac)))))) (zae (zav (zas zbN (dv 4) za0 (zaq _)) (zag (zak za0)) zaw) (zae (zam (i:=5) ziF.nd rfl (Or.inl rfl) (zc5 (zas (zaI hr) (zaY zaj.cl zaj.n_one (dv 0)) (zaY zaj.cl zaj.n_other (dv 0)) (zaq _)) (dv 4) (zaG (dv 1) (zaY zaj.cl zaj.n_other (dv 0)) (λ_ _=>rfl)))) (zae (zam (i:=5) ziF.nd rfl (Or.inl rfl) (zey (C:=zaj.C) (dv 0) zaj.cl zh9.m zh9.ok (hr.mono (by decide)) zh9.b zcF (zaa (dv 2) (zaa (dv 4) (zaa (dv 5) (zaa (dv 3) zac)))))) (zae (zav (zas zbN (dv 5) za0 (zaq _)) (zag (zak za0)) zaw) (zag (zak (za8 (zaa (zat (zaa (zaY zaj.cl zaj.n_one (dv 0)) (zaa (dv 4) zac))) (zaa (zat (zaa (zaY zaj.cl zaj.n_other (dv 0)) (zaa (dv 5) zac))) zac)))))))))),λds S Q ex h=>by
  unfold zeK at h
  split at h
  ·rename_i n w z0 z1 g
   obtain⟨i,j,vs,q,hn,hw,ok,hs,⟨hz,sz0,sz1⟩,hg,h1,h2⟩:=h
   refine zdd (n:=n) (fs:=[("one",.int i),("other",.int j)]) (λK hK=>by exact hK) hn rfl ?_
   refine zaQ (n:=n) (λK hK=>by exact hK) hn rfl ?_
   refine zaB (o:=.lst (vs.map frD)) hw (zaK ok.1) ?_
   refine zaQ (n:=n) (λK hK=>by exact hK) hn rfl ?_
   refine zaB (o:=.lst (vs.map frD)) hw (zaK ok.2) ?_
   refine⟨λe=>?_,λx' e=>?_⟩
   ·have e':za6 (gt vs i) (z0+(gt vs j).1,z1+(gt vs j).2)=none:=e
    refine h1 ?_
    unfold Nd.bk bk2
    dsimp only
    rw[e']
   ·have e':za6 (gt vs i) (z0+(gt vs j).1,z1+(gt vs j).2)=some x':=e
    refine zaQ (n:=n) (λK hK=>by exact hK) hn rfl ?_
    refine zaQ (n:=n) (λK hK=>by exact hK) hn rfl ?_
    refine ifD (λc=>?_) (λc=>?_)
    ·skip
     refine zdd (n:=n) (fs:=[("one",.int i),("other",.int j)]) (λK hK=>by exact hK) hn rfl ?_
     refine⟨λe2=>?_,λy' e2=>?_⟩
     ·refine h1 ?_
      unfold Nd.bk bk2
      dsimp only
      rw[e']
      dsimp only
      rw[if_pos c,show za6 x' (x'.1-z1,x'.2-z0)=none from e2]
     ·refine zaQ (n:=n) (λK hK=>by exact hK) hn rfl ?_
      refine zaQ (n:=n) (λK hK=>by exact hK) hn rfl ?_
      refine h2 [(i,x'),(j,y')] ?_
      unfold Nd.bk bk2
      dsimp only
      rw[e']
      dsimp only
      rw[if_pos c,show za6 x' (x'.1-z1,x'.2-z0)=some y' from e2]
    ·refine zaQ (n:=n) (λK hK=>by exact hK) hn rfl ?_
     refine zaB (o:=.lst (vs.map frD)) hw (zaK ok.2) ?_
     refine zdd (n:=n) (fs:=[("one",.int i),("other",.int j)]) (λK hK=>by exact hK) hn rfl ?_
     refine⟨λe2=>?_,λy' e2=>?_⟩
     ·refine h1 ?_
      unfold Nd.bk bk2
      dsimp only
      rw[e']
      dsimp only
      rw[if_neg c,show za6 (gt vs j) (x'.1-z1,x'.2-z0)=none from e2]
     ·refine zaQ (n:=n) (λK hK=>by exact hK) hn rfl ?_
      refine zaQ (n:=n) (λK hK=>by exact hK) hn rfl ?_
      refine h2 [(i,x'),(j,y')] ?_
      unfold Nd.bk bk2
      dsimp only
      rw[e']
      dsimp only
      rw[if_neg c,show za6 (gt vs j) (x'.1-z1,x'.2-z0)=some y' from e2]
  ·exact h.elim⟩)
def zvg  (zlV:Df K mg "holds_nought" znn zgR):Fk P w K mg base 1 "holds_nought" zgR zie:=
 zlV.mk' (zax (k:=0) zlV.F zsL (zx3) λcdv A outer s H E hr=>⟨_,(zag (zak (ztj zd6 zd6 (zad (dv 0) zab (λ_ _=>rfl)) zab (zad (dv 0) zab (λ_ _=>rfl))))),λds S Q ex h=>by
  unfold zie at h
  split at h
  ·exact and2 h
  ·exact h.elim⟩)
def zv1  (zl2:Df K mg "part_between" znb zfC)(za9:mg "min"=none)(zaS:mg "max"=none):Fk P w K mg base 1 "part_between" zfC zfQ:=
 zl2.mk' (zax (k:=0) zl2.F zvK (zwk) λcdv A outer s H E hr=>⟨_,(zae (zav (PDW.pt (zbV (zas zcZ (zad (dv 1) zab (λ_ _=>rfl)) (zad (dv 0) zab (λ_ _=>rfl)) (zaq _)) (zcG (zas zbi (zad (dv 2) zab (λ_ _=>rfl)) (zad (dv 0) zab (λ_ _=>rfl)) (zaq _))))) (zag (zak za0)) zaw) (zag (zak (zat (zaa (zaP (zb8 rfl) rfl zaS Boot.«max» (zaa (zad (dv 1) zab (λ_ _=>rfl)) (zaa (zad (dv 0) zab (λ_ _=>rfl)) zac))) (zaa (zaP (zdh rfl) rfl za9 Boot.«min» (zaa (zad (dv 2) zab (λ_ _=>rfl)) (zaa (zad (dv 0) zab (λ_ _=>rfl)) zac))) zac)))))),λds S Q ex h=>by
  unfold zfQ at h
  split at h
  ·rename_i x0 x1 l0 l1 k0 k1
   obtain⟨h1,h2⟩:=h
   unfold ptB at h1 h2
   refine ifD (λc=>h1 (if_pos c)) (λc1=>ifD (λc=>h1 (by rw[if_neg c1,if_pos c])) (λc2=>?_))
   have z:=h2 (if x0 > l0 then x0 else l0,if x1<k1 then x1 else k1) (by rw[if_neg c1,if_neg c2])
   exact z
  ·exact h.elim⟩)
def ztk  (zlk:Df K mg "quotient" ziT zgQ)(zcn:Fk P w K mg base 1 "rounded_up" zdP zdZ):Fk P w K mg base 2 "quotient" zgQ zim:=
 zlk.mk' (zax (k:=1) zlk.F zsu (zxo) λcdv A outer s H E hr=>⟨_,(zag (zak (zat (zaa (zaf zbo (dv 0) (dv 1)) (zaa (zan zcn hr (zaa (dv 0) (zaa (dv 1) zac))) zac))))),λds S Q ex h=>by
  unfold zim at h
  split at h
  ·obtain⟨hb,h⟩:=h
   exact⟨hb,hb,h⟩
  ·exact h.elim⟩)
def zu5  (zjW:Df K mg "back_by_side" zmm zh7)(zdT:Fk P w K mg base 1 "part_between" zfC zfQ)(ziB:Fk P w K mg base 2 "quotient" zgQ zim):Fk P w K mg base 3 "back_by_side" zh7 zid:=
 zjW.mk' (zax (k:=2) zjW.F zg4 (zxP) λcdv A outer s H E hr=>⟨_,(zae (zam (i:=3) zg4.nd rfl (Or.inl rfl) (zc5 (zas zcZ (zad (dv 0) zab (λ_ _=>rfl)) zab (zaq _)) (zad (dv 2) zab (λ_ _=>rfl)) (zad (dv 2) zab (λ_ _=>rfl)))) (zae (zam (i:=4) zg4.nd rfl (Or.inl rfl) (zc5 (zas zbi (zad (dv 0) zab (λ_ _=>rfl)) zab (zaq _)) (zad (dv 2) zab (λ_ _=>rfl)) (zad (dv 2) zab (λ_ _=>rfl)))) (zae (zam (i:=5) zg4.nd rfl (Or.inl rfl) (zc5 (zas (zaI hr) (dv 3) zab (zaq _)) (zat (zaa (zad (dv 1) zab (λ_ _=>rfl)) (zaa (zad (dv 1) zab (λ_ _=>rfl)) zac))) (zan ziB hr (zaa (zad (dv 0) zab (λ_ _=>rfl)) (zaa (dv 3) zac))))) (zae (zam (i:=6) zg4.nd rfl (Or.inl rfl) (zc5 (zas (zaI hr) (dv 4) zab (zaq _)) (zat (zaa (zad (dv 1) zab (λ_ _=>rfl)) (zaa (zad (dv 1) zab (λ_ _=>rfl)) zac))) (zan ziB hr (zaa (zad (dv 0) zab (λ_ _=>rfl)) (zaa (dv 4) zac))))) (zag (zak (zan zdT hr (zaa (dv 1) (zaa (dv 5) (zaa (dv 6) zac)))))))))),λds S Q ex h=>by
  unfold zid at h
  split at h
  ·rename_i lo hi x0 x1 c d
   obtain⟨⟨h0,hd,zc,zd⟩,h⟩:=h
   unfold sdS loE hiE za4 zaX at h
   refine ifD (λe1=>?_) (λe1=>?_)
   all_goals first | rw[if_pos e1] at h | rw[if_neg e1] at h
   all_goals refine ifD (λe2=>?_) (λe2=>?_)
   all_goals first | rw[if_pos e2] at h | rw[if_neg e2] at h
   all_goals refine ifD (λe3=>?_) (λe3=>?_)
   all_goals try refine⟨⟨by omega,by first | exact zd.log (by omega) | exact zc.log (by omega)⟩,?_⟩
   all_goals refine ifD (λe4=>?_) (λe4=>?_)
   all_goals try refine⟨⟨by omega,by first | exact zd.log (by omega) | exact zc.log (by omega)⟩,?_⟩
   all_goals
    first | rw[if_pos e3] at h | rw[if_neg e3] at h
    try first | rw[if_pos e4] at h | rw[if_neg e4] at h
    exact h
  ·exact h.elim⟩)
def zuj  (ziy:Df K mg "hull" zjk zh2)(zaS:mg "max"=none)(za9:mg "min"=none):Fk P w K mg base 1 "hull" zh2 zgh:=
 ziy.mk' (zax (k:=0) ziy.F zvn (zxW) λcdv A outer s H E hr=>⟨_,(zag (zak (zat (zaa (zaP (zdh rfl) rfl za9 Boot.«min» (zaa (zad (dv 0) zab (λ_ _=>rfl)) (zaa (zad (dv 1) zab (λ_ _=>rfl)) zac))) (zaa (zaP (zb8 rfl) rfl zaS Boot.«max» (zaa (zad (dv 0) zab (λ_ _=>rfl)) (zaa (zad (dv 1) zab (λ_ _=>rfl)) zac))) zac))))),λds S Q ex h=>by
  unfold zgh at h
  split at h
  ·exact h
  ·exact h.elim⟩)
def zuz  (zjK:Df K mg "joined" zmI zeO)(znz:Fk P w K mg base 1 "hull" zh2 zgh):Fk P w K mg base 2 "joined" zeO zfO:=
 zjK.mk' (zax (k:=1) zjK.F zyf (zxS) λcdv A outer s H E hr=>⟨_,(zae (zav (zas zbN (dv 0) za0 (zaq _)) (zag (zak (dv 1))) zaw) (zae (zav (zas zbN (dv 1) za0 (zaq _)) (zag (zak (dv 0))) zaw) (zag (zak (zan znz hr (zaa (dv 0) (zaa (dv 1) zac))))))),λds S Q ex h=>by
  unfold zfO at h
  split at h
  ·exact h
  ·exact h
  ·exact h
  ·exact h.elim⟩)
def ztB  (zm0:Df K mg "opposite" zk1 zdI):Fk P w K mg base 1 "opposite" zdI zdG:=
 zm0.mk' (zax (k:=0) zm0.F zwi (ztE) λcdv A outer s H E hr=>⟨_,(zag (zak (zat (zaa (zbF zbM (zad (dv 0) zab (λ_ _=>rfl))) (zaa (zbF zbM (zad (dv 0) zab (λ_ _=>rfl))) zac))))),λds S Q ex h=>by
  unfold zdG at h
  split at h
  ·exact h
  ·exact h.elim⟩)
def zuZ  (zmC:Df K mg "back_times" zl6 zfR)(zfH:Fk P w K mg base 2 "joined" zeO zfO)(ziv:Fk P w K mg base 3 "back_by_side" zh7 zid)(zcc:Fk P w K mg base 1 "opposite" zdI zdG)(zkO:Fk P w K mg base 1 "holds_nought" zgR zie)(zaS:mg "max"=none):Fk P w K mg base 4 "back_times" zfR zfz:=
 zmC.mk' (zax (k:=3) zmC.F zeN (zud) λcdv A outer s H E hr=>⟨_,(zae (zav (PDW.pt (zct (zbq (zan zkO hr (zaa (dv 2) zac))) (zc4 (zbq (zan zkO hr (zaa (dv 0) zac)))))) (zag (zak (dv 1))) zaw) (zae (zam (i:=4) zeN.nd rfl (Or.inl rfl) (zat (zaa (zaf zaM (zad (dv 0) zab (λ_ _=>rfl)) (dv 3)) (zaa (zaf zaM (zad (dv 0) zab (λ_ _=>rfl)) (dv 3)) zac)))) (zae (zam (i:=5) zeN.nd rfl (Or.inl rfl) za0) (zae (zav (zas zcZ (zad (dv 2) zab (λ_ _=>rfl)) zab (zaq _)) (zag (zam (i:=5) zeN.nd rfl (Or.inl rfl) (zan ziv hr (zaa (dv 4) (zaa (dv 1) (zaa (zat (zaa (zaP (zb8 rfl) rfl zaS Boot.«max» (zaa (zad (dv 2) zab (λ_ _=>rfl)) (zaa zab zac))) (zaa (zad (dv 2) zab (λ_ _=>rfl)) zac))) zac)))))) zaw) (zae (zav (zas zbi (zad (dv 2) zab (λ_ _=>rfl)) zab (zaq _)) (zae (zam (i:=6) zeN.nd rfl (Or.inl rfl) (zan ziv hr (zaa (zan zcc hr (zaa (dv 4) zac)) (zaa (dv 1) (zaa (zat (zaa (zaP (zb8 rfl) rfl zaS Boot.«max» (zaa (zbF zbM (zad (dv 2) zab (λ_ _=>rfl))) (zaa zab zac))) (zaa (zbF zbM (zad (dv 2) zab (λ_ _=>rfl))) zac))) zac))))) (zag (zam (i:=5) zeN.nd rfl (Or.inl rfl) (zan zfH hr (zaa (dv 5) (zaa (dv 6) zac)))))) zaw) (zag (zak (dv 5)))))))),λds S Q ex h=>by
  unfold zfz at h
  split at h
  ·rename_i z0 z1 x0 x1 y0 y1 g
   obtain⟨⟨hy,sz0,sz1,sy0,sy1,sg⟩,hn,ht⟩:=h
   have eq:¬ ((y0≤0∧0≤y1)∧z0≤0∧0≤z1)→btS (z0,z1) (x0,x1) (y0,y1) g=joS (if y1 > 0 then sdS (z0*g) (z1*g) (x0,x1) (mx0 y0) y1 else none) (if y0<0 then sdS (-(z1*g)) (-(z0*g)) (x0,x1) (mx0 (-y1)) (-y0) else none):=λn=>if_neg n
   refine if2 (λa1 a2=>?_) (λn=>?_)
   ·refine if2 (λb1 b2=>?_) (λn=>?_)
    ·exact ht (x0,x1) (if_pos ⟨⟨a1,a2⟩,b1,b2⟩)
    ·have eb:=eq λz=>n z.2
     refine⟨zaL sz0 sg,zaL sz1 sg,?_⟩
     refine ifD (λc1=>?_) (λc1=>?_)
     ·refine⟨⟨zb4 _,c1,zdv (sy0.mono (by decide)),sy1.mono (by decide)⟩,λn1=>?_,λL t1=>?_⟩
      ·refine ifD (λc2=>?_) (λc2=>?_)
       ·refine⟨⟨zb4 _,by omega,zdv (sy1.neg.mono (by decide)),sy0.neg.mono (by decide)⟩,λn2=>?_,λL' t2=>?_⟩
        ·exact hn (by rw[eb,if_pos c1,if_pos c2,n1,n2]; rfl)
        ·exact ht _ (by rw[eb,if_pos c1,if_pos c2,n1,t2]; rfl)
       ·exact hn (by rw[eb,if_pos c1,if_neg c2,n1]; rfl)
      ·refine ifD (λc2=>?_) (λc2=>?_)
       ·refine⟨⟨zb4 _,by omega,zdv (sy1.neg.mono (by decide)),sy0.neg.mono (by decide)⟩,λn2=>?_,λL' t2=>?_⟩
        ·exact ht _ (by rw[eb,if_pos c1,if_pos c2,t1,n2]; rfl)
        ·have z:=ht (if L'.1<L.1 then L'.1 else L.1,if L'.2 > L.2 then L'.2 else L.2) (by rw[eb,if_pos c1,if_pos c2,t1,t2]; rfl)
         exact z
       ·exact ht _ (by rw[eb,if_pos c1,if_neg c2,t1]; rfl)
     ·refine ifD (λc2=>?_) (λc2=>?_)
      ·refine⟨⟨zb4 _,by omega,zdv (sy1.neg.mono (by decide)),sy0.neg.mono (by decide)⟩,λn2=>?_,λL' t2=>?_⟩
       ·exact hn (by rw[eb,if_neg c1,if_pos c2,n2]; rfl)
       ·exact ht _ (by rw[eb,if_neg c1,if_pos c2,t2]; rfl)
      ·exact hn (by rw[eb,if_neg c1,if_neg c2]; rfl)
   ·have eb:=eq λz=>n z.1
    refine⟨zaL sz0 sg,zaL sz1 sg,?_⟩
    refine ifD (λc1=>?_) (λc1=>?_)
    ·refine⟨⟨zb4 _,c1,zdv (sy0.mono (by decide)),sy1.mono (by decide)⟩,λn1=>?_,λL t1=>?_⟩
     ·refine ifD (λc2=>?_) (λc2=>?_)
      ·refine⟨⟨zb4 _,by omega,zdv (sy1.neg.mono (by decide)),sy0.neg.mono (by decide)⟩,λn2=>?_,λL' t2=>?_⟩
       ·exact hn (by rw[eb,if_pos c1,if_pos c2,n1,n2]; rfl)
       ·exact ht _ (by rw[eb,if_pos c1,if_pos c2,n1,t2]; rfl)
      ·exact hn (by rw[eb,if_pos c1,if_neg c2,n1]; rfl)
     ·refine ifD (λc2=>?_) (λc2=>?_)
      ·refine⟨⟨zb4 _,by omega,zdv (sy1.neg.mono (by decide)),sy0.neg.mono (by decide)⟩,λn2=>?_,λL' t2=>?_⟩
       ·exact ht _ (by rw[eb,if_pos c1,if_pos c2,t1,n2]; rfl)
       ·have z:=ht (if L'.1<L.1 then L'.1 else L.1,if L'.2 > L.2 then L'.2 else L.2) (by rw[eb,if_pos c1,if_pos c2,t1,t2]; rfl)
        exact z
      ·exact ht _ (by rw[eb,if_pos c1,if_neg c2,t1]; rfl)
    ·refine ifD (λc2=>?_) (λc2=>?_)
     ·refine⟨⟨zb4 _,by omega,zdv (sy1.neg.mono (by decide)),sy0.neg.mono (by decide)⟩,λn2=>?_,λL' t2=>?_⟩
      ·exact hn (by rw[eb,if_neg c1,if_pos c2,n2]; rfl)
      ·exact ht _ (by rw[eb,if_neg c1,if_pos c2,t2]; rfl)
     ·exact hn (by rw[eb,if_neg c1,if_neg c2]; rfl)
  ·exact h.elim⟩)
def zvX  (zah:zbw K mg)(zmf:Dm K zah.C "first_left" "Times.first_left" zjO zfV)(zeU:Fk P w K mg base 4 "back_times" zfR zfz):Fm P w K mg base 5 zah.C "first_left" zfV zgy:=
 zmf.mk' (zax (k:=4) zmf.F zwN (zsi) λcdv A outer s H E hr=>⟨_,(zag (zak (zan zeU hr (zaa (dv 1) (zaa (dv 2) (zaa (dv 3) (zaa (dv 4) zac))))))),λds S Q ex h=>by
  unfold zgy at h
  split at h
  ·exact h
  ·exact h.elim⟩)
def zsl  (zah:zbw K mg)(znd:Dm K zah.C "second_left" "Times.second_left" zlK zgS)(zeU:Fk P w K mg base 4 "back_times" zfR zfz):Fm P w K mg base 5 zah.C "second_left" zgS zf8:=
 znd.mk' (zax (k:=4) znd.F zwb (zx4) λcdv A outer s H E hr=>⟨_,(zag (zak (zan zeU hr (zaa (dv 1) (zaa (dv 3) (zaa (dv 2) (zaa (dv 4) zac))))))),λds S Q ex h=>by
  unfold zf8 at h
  split at h
  ·exact h
  ·exact h.elim⟩)
def zw1  (zah:zbw K mg)(zao:zbA K mg)(zap:zbB K mg)(zai:zbr K mg)(zaj:zbt K mg)(zal:zbx K mg)(zjf:Dm K zah.C "back" "Pair.back" ziI zgi)(zgw:Fm P w K mg base 5 zah.C "second_left" zgS zf8)(zgX:Fm P w K mg base 5 zah.C "first_left" zfV zgy):Fm P w K mg base 6 zah.C "back" zgi (zfn zao.C zap.C zai.C zaj.C zah.C zal.C):=
 zjf.mk' (zax (k:=5) zjf.F zkv (zyz zao.C zap.C zai.C zaj.C zah.C zal.C) λcdv A outer s H E hr=>⟨_,(zae (zam (i:=4) zkv.nd rfl (Or.inl rfl) (zey (C:=zah.C) (dv 0) zah.cl zgX.m zgX.ok (hr.mono (by decide)) zgX.b zcF (zaa (dv 2) (zaa (zaG (dv 1) (zaY zah.cl zah.n_one (dv 0)) (λ_ _=>rfl)) (zaa (zaG (dv 1) (zaY zah.cl zah.n_other (dv 0)) (λ_ _=>rfl)) (zaa (dv 3) zac)))))) (zae (zav (zas zbN (dv 4) za0 (zaq _)) (zag (zak za0)) zaw) (zae (zam (i:=5) zkv.nd rfl (Or.inl rfl) (zc5 (zas (zaI hr) (zaY zah.cl zah.n_one (dv 0)) (zaY zah.cl zah.n_other (dv 0)) (zaq _)) (dv 4) (zaG (dv 1) (zaY zah.cl zah.n_other (dv 0)) (λ_ _=>rfl)))) (zae (zam (i:=5) zkv.nd rfl (Or.inl rfl) (zey (C:=zah.C) (dv 0) zah.cl zgw.m zgw.ok (hr.mono (by decide)) zgw.b zcF (zaa (dv 2) (zaa (dv 4) (zaa (dv 5) (zaa (dv 3) zac)))))) (zae (zav (zas zbN (dv 5) za0 (zaq _)) (zag (zak za0)) zaw) (zag (zak (za8 (zaa (zat (zaa (zaY zah.cl zah.n_one (dv 0)) (zaa (dv 4) zac))) (zaa (zat (zaa (zaY zah.cl zah.n_other (dv 0)) (zaa (dv 5) zac))) zac)))))))))),λds S Q ex h=>by
  unfold zfn at h
  split at h
  ·rename_i n w z0 z1 g
   obtain⟨i,j,vs,q,hn,hw,ok,hs,⟨hz,sz0,sz1⟩,hg,h1,h2⟩:=h
   have a:=hs.at ok.1
   have b:=hs.at ok.2
   have sg:Sz 30 g:=Sz.of 1000000 (by omega)
   refine zdd (n:=n) (fs:=[("one",.int i),("other",.int j)]) (λK hK=>by exact hK) hn rfl ?_
   refine zaQ (n:=n) (λK hK=>by exact hK) hn rfl ?_
   refine zaB (o:=.lst (vs.map frD)) hw (zaK ok.1) ?_
   refine zaQ (n:=n) (λK hK=>by exact hK) hn rfl ?_
   refine zaB (o:=.lst (vs.map frD)) hw (zaK ok.2) ?_
   refine⟨⟨b.1,sz0.mono (by decide),sz1.mono (by decide),b.2.1.mono (by decide),b.2.2.mono (by decide),sg⟩,λe=>?_,λx' e=>?_⟩
   ·have e':btS (z0,z1) (gt vs i) (gt vs j) g=none:=e
    refine h1 ?_
    unfold Nd.bk bk2
    dsimp only
    rw[e']
   ·have e':btS (z0,z1) (gt vs i) (gt vs j) g=some x':=e
    have zx:=Sz.in2 a.2.1 a.2.2 (zgg (z:=(z0,z1)) hz a.1 b.1 hg.1 x' e')
    refine zaQ (n:=n) (λK hK=>by exact hK) hn rfl ?_
    refine zaQ (n:=n) (λK hK=>by exact hK) hn rfl ?_
    refine ifD (λc=>?_) (λc=>?_)
    ·skip
     refine zdd (n:=n) (fs:=[("one",.int i),("other",.int j)]) (λK hK=>by exact hK) hn rfl ?_
     refine⟨⟨zx.1,sz0.mono (by decide),sz1.mono (by decide),zx.2.1.mono (by decide),zx.2.2.mono (by decide),sg⟩,λe2=>?_,λy' e2=>?_⟩
     ·refine h1 ?_
      unfold Nd.bk bk2
      dsimp only
      rw[e']
      dsimp only
      rw[if_pos c,show btS (z0,z1) x' x' g=none from e2]
     ·refine zaQ (n:=n) (λK hK=>by exact hK) hn rfl ?_
      refine zaQ (n:=n) (λK hK=>by exact hK) hn rfl ?_
      refine h2 [(i,x'),(j,y')] ?_
      unfold Nd.bk bk2
      dsimp only
      rw[e']
      dsimp only
      rw[if_pos c,show btS (z0,z1) x' x' g=some y' from e2]
    ·refine zaQ (n:=n) (λK hK=>by exact hK) hn rfl ?_
     refine zaB (o:=.lst (vs.map frD)) hw (zaK ok.2) ?_
     refine zdd (n:=n) (fs:=[("one",.int i),("other",.int j)]) (λK hK=>by exact hK) hn rfl ?_
     refine⟨⟨zx.1,sz0.mono (by decide),sz1.mono (by decide),zx.2.1.mono (by decide),zx.2.2.mono (by decide),sg⟩,λe2=>?_,λy' e2=>?_⟩
     ·refine h1 ?_
      unfold Nd.bk bk2
      dsimp only
      rw[e']
      dsimp only
      rw[if_neg c,show btS (z0,z1) (gt vs j) x' g=none from e2]
     ·refine zaQ (n:=n) (λK hK=>by exact hK) hn rfl ?_
      refine zaQ (n:=n) (λK hK=>by exact hK) hn rfl ?_
      refine h2 [(i,x'),(j,y')] ?_
      unfold Nd.bk bk2
      dsimp only
      rw[e']
      dsimp only
      rw[if_neg c,show btS (z0,z1) (gt vs j) x' g=some y' from e2]
  ·exact h.elim⟩)
def zxq  (zi1:Df K mg "next_guess" zjZ zgJ)(zbL:Fk P w K mg base 1 "raised" zdl zdi):Fk P w K mg base 2 "next_guess" zgJ zig:=
 zi1.mk' (zax (k:=1) zi1.F zxH (zw7) λcdv A outer s H E hr=>⟨_,(zag (zak (zaf zbo (zaf zaT (zaf zaM (zaf zbl (dv 2) zab) (dv 0)) (zaf zbo (dv 1) (zan zbL hr (zaa (dv 0) (zaa (zaf zbl (dv 2) zab) zac))))) (dv 2)))),λds S Q ex h=>by
  unfold zig at h
  split at h
  ·rename_i g N n
   obtain⟨⟨n2,n6,hg,sg⟩,h⟩:=h
   have zn:Sz 800 (n-1):=Sz.of 6 (by omega)
   have gp:(0:Int)<g^(n-1).toNat:=Vaz hg
   exact⟨zaL zn sg,⟨by omega,by omega,sg.mono (by decide)⟩,((sg.pow (n-1).toNat).mono (show _≤4001 by omega)).fd gp,(Sz.of (n:=800) 6 (by omega):Sz 800 n).fd (by omega),h⟩
  ·exact h.elim⟩)
def zxp  (zjP:Df K mg "root_below" zmJ zfL)(zi9:Fk P w K mg base 2 "next_guess" zgJ zig):Fk P w K mg base 3 "root_below" zfL zfo:=
 zjP.mk' (zax (k:=2) zjP.F zis (zt5) λcdv A outer s H E hr=>⟨_,(zae (zav (zas (zaI hr) (dv 0) zab (zaq _)) (zag (zak zab)) zaw) (zae (zam (i:=2) zis.nd rfl (Or.inl rfl) (zaf zsH zab (zaf zaT (zaf zbo (zut (dv 0)) (dv 1)) zab))) (zae (zam (i:=3) zis.nd rfl (Or.inl rfl) (zan zi9 hr (zaa (dv 2) (zaa (dv 0) (zaa (dv 1) zac))))) (zae (zqA PassesOwn.never (zas zbi (dv 3) (dv 2) (zaq _)) (zae (zam (i:=2) zis.nd rfl (Or.inl rfl) (dv 3)) (zag (zam (i:=3) zis.nd rfl (Or.inl rfl) (zan zi9 hr (zaa (dv 2) (zaa (dv 0) (zaa (dv 1) zac)))))))) (zag (zak (dv 2))))))),λds S Q ex h=>by
  unfold zfo at h
  split at h
  ·rename_i N n
   obtain⟨⟨n2,n6,h0,sN⟩,h⟩:=h
   have hn:1≤n.toNat:=by omega
   refine ifD (λc=>?_) (λc=>?_)
   ·subst c
    exact h 0 (by omega) (Sz.of 0 (by decide)) (by rw[zpo hn]; omega) (by
     have:(0:Int)<(0+1)^n.toNat:=Vaz (by omega)
     exact this)
   ·obtain⟨r,r0,r1,r2⟩:=zqG hn h0
    have rp:1≤r:=by
     by_cases z:r=0
     ·subst z
      have e:((0:Int)+1)^n.toNat=1:=by rw[Int.zero_add]; exact Int.one_pow
      omega
     ·omega
    refine⟨(Sz.of (n:=800) 6 (by omega):Sz 800 n).fd (by omega),?_⟩
    have d3:=Int.ediv_nonneg (show (0:Int)≤(Builtin.Int.intBits N:Int) by omega) (show 0≤n by omega)
    have d4:(Builtin.Int.intBits N:Int)/n≤(Builtin.Int.intBits N:Int):=Int.ediv_le_self _ (by omega)
    have d5:=sN.bits
    refine⟨⟨by omega,by omega,by decide⟩,?_⟩
    have s0:=(zrP n2 sN).mono (show 652≤800 by decide)
    have g0:(0:Int)<1*2^((Builtin.Int.intBits N:Int)/n+1).toNat:=by rw[Int.one_mul]; exact Vaz (by decide)
    have rg:r≤1*2^((Builtin.Int.intBits N:Int)/n+1).toNat:=by
     have:=plt (n:=n.toNat) (VaB g0) (Int.lt_of_le_of_lt r1 (zuV h0 (by omega)))
     omega
    refine⟨⟨n2,n6,g0,s0⟩,?_⟩
    refine⟨λm dl' S'=>S'=S∧∃x:Int,dl'=[some (.int N),some (.int n),some (.int x),some (.int (((n-1)*x+N/x^(n-1).toNat)/n))]∧0<x∧r≤x∧Sz 800 x∧m=x.toNat,⟨_,rfl,_,rfl,g0,rg,s0,rfl⟩,?_⟩
    rintro m dl' S' ⟨rfl,x,rfl,x0,rx,sx,rfl⟩
    have e:=zvH (n:=n) (g:=x) (N:=N) (by omega)
    have ge:=zwn hn r0 x0 r1
    rw[← e] at ge
    refine ifD (λc=>?_) (λc=>?_)
    ·have s1:Sz 800 (((n-1)*x+N/x^(n-1).toNat)/n):=Sz.mid (a:=0) (Sz.of 0 (by decide)) sx (by omega) (by omega)
     exact⟨⟨n2,n6,by omega,s1⟩,_,by omega,rfl,_,rfl,by omega,by omega,s1,rfl⟩
    ·have xr:x=r:=by
      by_cases z:N<x^n.toNat
      ·have lt:=zxC hn x0 z
       rw[← e] at lt
       omega
      ·have:=plt (n:=n.toNat) (show 0≤r+1 by omega) (show x^n.toNat<(r+1)^n.toNat by omega)
       omega
     subst xr
     exact h x r0 sx r1 r2
  ·exact h.elim⟩)
def zwW (zdm:Df K mg "root" zhE zcX)(zbL:Fk P w K mg base 1 "raised" zdl zdi)(zfu:Fk P w K mg base 3 "root_below" zfL zfo)(zcc:Fk P w K mg base 1 "opposite" zdI zdG)(zoU:Fk P w K mg base 0 "root" zcX zrv):Fk P w K mg base 4 "root" zcX zhp:=
 zdm.mk' (zax (k:=3) zdm.F zkN zvr λcdv A outer s H E hr=>⟨_,(zae (zav (zas zbi (dv 0) zab (zaq _)) (zag (zak (zan zcc hr (zaa (zob zoU (hr.mono (by decide)) zcF rfl (zaa (zbF zbM (dv 0)) (zaa (dv 1) zac))) zac)))) zaw) (zae (zam (i:=2) zkN.nd rfl (Or.inl rfl) (zan zfu hr (zaa (dv 0) (zaa (dv 1) zac)))) (zae (zav (zas (zaI hr) (zan zbL hr (zaa (dv 2) (zaa (dv 1) zac))) (dv 0) (zaq _)) (zag (zak (zat (zaa (dv 2) (zaa (dv 2) zac))))) zaw) (zag (zak (zat (zaa (dv 2) (zaa (zaf zaT (dv 2) zab) zac)))))))),λds S Q ex h=>by
  unfold zhp at h
  split at h
  ·rename_i N n
   obtain⟨⟨n2,n6,h0,sN⟩,h⟩:=h
   refine ifD (λc=>absurd c (by omega)) (λc=>?_)
   refine⟨⟨n2,n6,h0,sN⟩,λr r0 sr r1 r2=>?_⟩
   have e:=zn9 r0 r1 r2
   unfold rt0 at h
   rw[← e] at h
   refine⟨⟨by omega,n6,sr.mono (by decide)⟩,?_⟩
   refine ifD (λe2=>?_) (λe2=>?_)
   ·rw[if_pos e2] at h
    exact h
   ·rw[if_neg e2] at h
    exact h
  ·exact h.elim⟩)
def zsF (zdm:Df K mg "root" zhE zcX)(zbL:Fk P w K mg base 1 "raised" zdl zdi)(zfu:Fk P w K mg base 3 "root_below" zfL zfo)(zcc:Fk P w K mg base 1 "opposite" zdI zdG)(zoU:Fk P w K mg base 4 "root" zcX zhp):Fk P w K mg base 5 "root" zcX zgL:=
 zdm.mk' (zax (k:=4) zdm.F zkN zwA λcdv A outer s H E hr=>⟨_,(zae (zav (zas zbi (dv 0) zab (zaq _)) (zag (zak (zan zcc hr (zaa (zob zoU (hr.mono (by decide)) zcF rfl (zaa (zbF zbM (dv 0)) (zaa (dv 1) zac))) zac)))) zaw) (zae (zam (i:=2) zkN.nd rfl (Or.inl rfl) (zan zfu hr (zaa (dv 0) (zaa (dv 1) zac)))) (zae (zav (zas (zaI hr) (zan zbL hr (zaa (dv 2) (zaa (dv 1) zac))) (dv 0) (zaq _)) (zag (zak (zat (zaa (dv 2) (zaa (dv 2) zac))))) zaw) (zag (zak (zat (zaa (dv 2) (zaa (zaf zaT (dv 2) zab) zac)))))))),λds S Q ex h=>by
  unfold zgL at h
  split at h
  ·rename_i N n
   obtain⟨⟨n2,n6,ok,sN⟩,h⟩:=h
   unfold rtS at h
   refine ifD (λc=>?_) (λc=>?_)
   ·rw[if_pos c] at h
    exact⟨⟨n2,n6,by omega,sN.neg⟩,h⟩
   ·have h0:0≤N:=by omega
    rw[if_neg c] at h
    refine⟨⟨n2,n6,h0,sN⟩,λr r0 sr r1 r2=>?_⟩
    have e:=zn9 r0 r1 r2
    unfold rt0 at h
    rw[← e] at h
    refine⟨⟨by omega,n6,sr.mono (by decide)⟩,?_⟩
    refine ifD (λe2=>?_) (λe2=>?_)
    ·rw[if_pos e2] at h
     exact h
    ·rw[if_neg e2] at h
     exact h
  ·exact h.elim⟩)
def zu2  (zm2:Df K mg "back_power" zmG zhe)(zfH:Fk P w K mg base 2 "joined" zeO zfO)(zdT:Fk P w K mg base 1 "part_between" zfC zfQ)(zcc:Fk P w K mg base 1 "opposite" zdI zdG)(zeI:Fk P w K mg base 5 "root" zcX zgL)(zbL:Fk P w K mg base 1 "raised" zdl zdi)(zaS:mg "max"=none):Fk P w K mg base 6 "back_power" zhe zhN:=
 zm2.mk' (zax (k:=5) zm2.F zhb (zti) λcdv A outer s H E hr=>⟨_,(zae (zam (i:=4) zhb.nd rfl (Or.inl rfl) (zan zbL hr (zaa (dv 3) (zaa (zaf zbl (dv 2) zab) zac)))) (zae (zam (i:=5) zhb.nd rfl (Or.inl rfl) (zat (zaa (zaf zaM (zad (dv 0) zab (λ_ _=>rfl)) (dv 4)) (zaa (zaf zaM (zad (dv 0) zab (λ_ _=>rfl)) (dv 4)) zac)))) (zae (zav (zas (zaI hr) (zaf za1 (dv 2) zab) zab (zaq _)) (zag (zak (zan zdT hr (zaa (dv 1) (zaa (zan zeI hr (zaa (zad (dv 5) zab (λ_ _=>rfl)) (zaa (dv 2) zac))) (zaa (zan zeI hr (zaa (zad (dv 5) zab (λ_ _=>rfl)) (zaa (dv 2) zac))) zac)))))) zaw) (zae (zav (zas zbi (zad (dv 5) zab (λ_ _=>rfl)) zab (zaq _)) (zag (zak za0)) zaw) (zae (zam (i:=6) zhb.nd rfl (Or.inl rfl) (zan zeI hr (zaa (zaP (zb8 rfl) rfl zaS Boot.«max» (zaa (zad (dv 5) zab (λ_ _=>rfl)) (zaa zab zac))) (zaa (dv 2) zac)))) (zae (zam (i:=7) zhb.nd rfl (Or.inl rfl) (zan zeI hr (zaa (zad (dv 5) zab (λ_ _=>rfl)) (zaa (dv 2) zac)))) (zag (zak (zan zfH hr (zaa (zan zdT hr (zaa (dv 1) (zaa (dv 6) (zaa (dv 7) zac)))) (zaa (zan zdT hr (zaa (dv 1) (zaa (zan zcc hr (zaa (dv 7) zac)) (zaa (zan zcc hr (zaa (dv 6) zac)) zac)))) zac))))))))))),λds S Q ex h=>by
  unfold zhN at h
  split at h
  ·rename_i z0 z1 x0 x1 n g
   obtain⟨⟨n2,n6,g1,sg,sz0,sz1⟩,hn,ht⟩:=h
   refine⟨⟨by omega,by omega,sg.mono (by decide)⟩,?_⟩
   have sgp:Sz 181 (g^(n-1).toNat):=(sg.pow _).mono (by omega)
   refine⟨zaL sz0 sgp,zaL sz1 sgp,?_⟩
   have slo:Sz 1300 (z0*g^(n-1).toNat):=(sz0.mul sgp).mono (by decide)
   have shi:Sz 1300 (z1*g^(n-1).toNat):=(sz1.mul sgp).mono (by decide)
   unfold bpS at hn ht
   dsimp only at hn ht
   generalize g^(n-1).toNat=G at *
   refine ifD (λe=>?_) (λe=>?_)
   ·rw[if_pos e] at hn ht
    exact⟨⟨n2,n6,.inl e,slo⟩,⟨n2,n6,.inl e,shi⟩,hn,ht⟩
   ·rw[if_neg e] at hn ht
    refine ifD (λe2=>?_) (λe2=>?_)
    ·exact hn (if_pos e2)
    ·rw[if_neg e2] at hn ht
     refine⟨⟨n2,n6,.inr (zb4 _),(by show Sz 1300 (mx0 (z0*G)); unfold mx0; split; exact Sz.of 0 (by decide) (Nat.pow_pos (by decide)); exact slo)⟩,?_⟩
     refine⟨⟨n2,n6,.inr (by omega),shi⟩,?_⟩
     refine⟨λq1=>?_,λp1 q1=>?_⟩
     ·refine⟨λq2=>hn ?_,λp2 q2=>ht _ ?_⟩
      ·rw[q1,q2]; rfl
      ·rw[q1,q2]; rfl
     ·refine⟨λq2=>ht _ ?_,λp2 q2=>?_⟩
      ·rw[q1,q2]; rfl
      ·have z:=ht (if p2.1<p1.1 then p2.1 else p1.1,if p2.2 > p1.2 then p2.2 else p1.2) (by rw[q1,q2]; rfl)
       exact z
  ·exact h.elim⟩)
def zt0  (zal:zbx K mg)(zao:zbA K mg)(zap:zbB K mg)(zai:zbr K mg)(zaj:zbt K mg)(zah:zbw K mg)(zmP:Dm K zal.C "back" "Power.back" zlN zit)(zoQ:Fk P w K mg base 6 "back_power" zhe zhN):Fm P w K mg base 7 zal.C "back" zit (zfi zao.C zap.C zai.C zaj.C zah.C zal.C):=
 zmP.mk' (zax (k:=6) zmP.F zqS (zuh zao.C zap.C zai.C zaj.C zah.C zal.C) λcdv A outer s H E hr=>⟨_,(zae (zam (i:=4) zqS.nd rfl (Or.inl rfl) (zan zoQ hr (zaa (dv 2) (zaa (zaG (dv 1) (zaY zal.cl zal.n_one (dv 0)) (λ_ _=>rfl)) (zaa (zaY zal.cl zal.n_many (dv 0)) (zaa (dv 3) zac)))))) (zae (zav (zas zbN (dv 4) za0 (zaq _)) (zag (zak za0)) zaw) (zag (zak (za8 (zaa (zat (zaa (zaY zal.cl zal.n_one (dv 0)) (zaa (dv 4) zac))) zac)))))),λds S Q ex h=>by
  unfold zfi at h
  split at h
  ·rename_i n w z0 z1 g
   obtain⟨i,m,vs,q,hn,hw,ok,hs,⟨hz,sz0,sz1⟩,hg,h1,h2⟩:=h
   refine zaQ (n:=n) (λK hK=>by exact hK) hn rfl ?_
   refine zaB (o:=.lst (vs.map frD)) hw (zaK ok.1) ?_
   refine zaQ (n:=n) (λK hK=>by exact hK) hn rfl ?_
   have sg:Sz 30 g:=Sz.of 1000000 (by omega)
   refine⟨⟨ok.2.1,ok.2.2,hg.1,sg,sz0.mono (by decide),sz1.mono (by decide)⟩,λe=>?_,λx' e=>?_⟩
   ·refine h1 ?_
    show (match bpS (z0,z1) (gt vs i) m g with | none=>none | some x=>some [(i,x)])=none
    rw[show bpS (z0,z1) (gt vs i) m g=none from e]
   ·refine zaQ (n:=n) (λK hK=>by exact hK) hn rfl ?_
    refine h2 [(i,x')] ?_
    show (match bpS (z0,z1) (gt vs i) m g with | none=>none | some x=>some [(i,x)])=_
    rw[show bpS (z0,z1) (gt vs i) m g=some x' from e]
  ·exact h.elim⟩)
def zw9  (zal:zbx K mg)(zah:zbw K mg)(zaj:zbt K mg)(zai:zbr K mg)(zap:zbB K mg)(zao:zbA K mg)(zlO:Df K mg "spans_back" ziD zgt)(znK:Fm P w K mg base 7 zal.C "back" zit (zfi zao.C zap.C zai.C zaj.C zah.C zal.C))(znT:Fm P w K mg base 6 zah.C "back" zgi (zfn zao.C zap.C zai.C zaj.C zah.C zal.C))(zoJ:Fm P w K mg base 3 zaj.C "back" zir (zeK zao.C zap.C zai.C zaj.C zah.C zal.C))(zo7:Fm P w K mg base 3 zai.C "back" zgc (zeE zao.C zap.C zai.C zaj.C zah.C zal.C))(zo2:Fm P w K mg base 1 zap.C "back" zg6 (zfh zao.C zap.C zai.C zaj.C zah.C zal.C))(zo1:Fm P w K mg base 1 zao.C "back" zhh (zfN zao.C zap.C zai.C zaj.C zah.C zal.C))(zet:Fk P w K mg base 3 "kind_of" zfw (zfg zao.C zap.C zai.C zaj.C zah.C zal.C))(zoh:Fk P w K mg base 2 "asked_of" ziu zhJ)(zfS:Fk P w K mg base 4 "worths" zfs zfA)(zbh:mg "range"=none):Fk P w K mg base 8 "spans_back" zgt zgB:=
 zlO.mk' (zax (k:=7) zlO.F zef (zvY) λcdv A outer s H E hr=>⟨_,(zae (zam (i:=4) zef.nd rfl (Or.inl rfl) (zad (dv 1) zab (λ_ _=>rfl))) (zae (zam (i:=5) zef.nd rfl (Or.inl rfl) (zan zfS hr (zaa (zdK (dv 0) zeV (zcO (zaf zaT (dv 4) zab))) (zaa (dv 2) (zaa (dv 3) zac))))) (zae (zam (i:=6) zef.nd rfl (Or.inl rfl) (zan zoh hr (zaa (zad (dv 1) zab (λ_ _=>rfl)) (zaa (zaG (dv 5) (dv 4) (λ_ _=>rfl)) zac)))) (zae (zav (zas zbN (dv 6) za0 (zaq _)) (zag (zak za0)) zaw) (zae (zdO (dv 5) (dv 4) (dv 6)) (zae (zsn (i:=7) PassesOwn.never rfl zef.nd rfl (Or.inl rfl) rfl zbh (zaa (dv 4) (zaa (zbF zbM zab) (zaa (zbF zbM zab) zac))) (zae (zam (i:=8) zef.nd rfl (Or.inl rfl) (zq0 (zan zet hr (zaa (zaG (dv 0) (dv 7) (λ_ _=>rfl)) zac)) (zcw zao.cl zo1 (hr.mono (by decide)) (zcw zap.cl zo2 (hr.mono (by decide)) (zcw zai.cl zo7 (hr.mono (by decide)) (zcw zaj.cl zoJ (hr.mono (by decide)) (zcw zah.cl znT (hr.mono (by decide)) (zcw zal.cl znK (hr.mono (by decide)) zqD)))))) zcF (zaa (dv 5) (zaa (zaG (dv 5) (dv 7) (λ_ _=>rfl)) (zaa (dv 3) zac))))) (zae (zav (zas zbN (dv 8) za0 (zaq _)) (zag (zak za0)) zaw) (zag (zda (i:=9) PassesOwn.never rfl zef.nd rfl (Or.inl rfl) (dv 8) (zag (zdO (dv 5) (zad (dv 9) zab (λ_ _=>rfl)) (zad (dv 9) zab (λ_ _=>rfl))))))))) (zag (zak (dv 5))))))))),λds S Q ex h=>by
  unfold zgB at h
  split at h
  ·rename_i a w k b g
   obtain⟨ns,ws,bs,zero,ha,hb,hw,⟨k0,k1⟩,net,sb,hg,hl,h1,h2⟩:=h
   have disp:∀v:Nd,∃C fs sd,v.ob zao.C zap.C zai.C zaj.C zah.C zal.C=.ins C fs∧(C,sd)∈[(zao.C,zfN zao.C zap.C zai.C zaj.C zah.C zal.C),(zap.C,zfh zao.C zap.C zai.C zaj.C zah.C zal.C),(zai.C,zeE zao.C zap.C zai.C zaj.C zah.C zal.C),(zaj.C,zeK zao.C zap.C zai.C zaj.C zah.C zal.C),(zah.C,zfn zao.C zap.C zai.C zaj.C zah.C zal.C),(zal.C,zfi zao.C zap.C zai.C zaj.C zah.C zal.C)]∧fs.lookup ("back":Str)=none∧∀(n w:Nat) (z:Int×Int) (g q:Int) (S:Sto) (Q:DK) (ex:Addr→Sto→Prop) (vs:List (Int×Int)),S[n]?=some (v.ob zao.C zap.C zai.C zaj.C zah.C zal.C)→S[w]?=some (.lst (vs.map frD))→v.ok vs.length q→Spn 1000 vs→(z.1≤z.2∧Sz 1000 z.1∧Sz 1000 z.2)→(1≤g∧g≤1000000)→(v.bk vs z g=none→Q .non S)→(∀l,v.bk vs z g=some l→Q (.ref S.length) (S++[.lst (l.map ptD)]))→sd [.ref n,.ref w,frD z,.int g] S Q ex:=by
    intro v
    cases v with
    | number x y=>exact⟨_,_,_,rfl,(.head _),rfl,λn w z g q S Q ex vs a1 a2 a3 a4 a5 a6 q1 q2=>⟨x,y,vs,q,a1,a2,a3,a4,a5,a6,q1,q2⟩⟩
    | unknown k=>exact⟨_,_,_,rfl,(.tail _ (.head _)),rfl,λn w z g q S Q ex vs a1 a2 a3 a4 a5 a6 q1 q2=>⟨k,vs,q,a1,a2,a3,a4,a5,a6,q1,q2⟩⟩
    | plus i j=>exact⟨_,_,_,rfl,(.tail _ (.tail _ (.head _))),rfl,λn w z g q S Q ex vs a1 a2 a3 a4 a5 a6 q1 q2=>⟨i,j,vs,q,a1,a2,a3,a4,a5,a6,q1,q2⟩⟩
    | minus i j=>exact⟨_,_,_,rfl,(.tail _ (.tail _ (.tail _ (.head _)))),rfl,λn w z g q S Q ex vs a1 a2 a3 a4 a5 a6 q1 q2=>⟨i,j,vs,q,a1,a2,a3,a4,a5,a6,q1,q2⟩⟩
    | times i j=>exact⟨_,_,_,rfl,(.tail _ (.tail _ (.tail _ (.tail _ (.head _))))),rfl,λn w z g q S Q ex vs a1 a2 a3 a4 a5 a6 q1 q2=>⟨i,j,vs,q,a1,a2,a3,a4,a5,a6,q1,q2⟩⟩
    | power i m=>exact⟨_,_,_,rfl,(.tail _ (.tail _ (.tail _ (.tail _ (.tail _ (.head _)))))),rfl,λn w z g q S Q ex vs a1 a2 a3 a4 a5 a6 q1 q2=>⟨i,m,vs,q,a1,a2,a3,a4,a5,a6,q1,q2⟩⟩
   obtain⟨kn,rfl⟩:∃kn:Nat,k=(kn:Int):=⟨k.toNat,by omega⟩
   rw[Vad] at h1 h2
   have hk:kn<ns.length:=by omega
   refine zds (n:=a) (o:=.lst (ns.map Nd.d)) (lo:=none) (hi:=some ((kn:Int)+1)) (S3:=S) (λK hK=>by exact hK) (λK hK=>by exact hK) (λK hK=>by exact hK) ha ?_
   have ec:zaZ (ns.map Nd.d) none (some ((kn:Int)+1))=(ns.take (kn+1)).map Nd.d:=by
    rw[zhk (by omega) (by rw[Vaa]; omega),List.map_take]
    rfl
   rw[show zaz (Ob.lst (ns.map Nd.d))=ns.map Nd.d from rfl,ec]
   refine⟨ns.take (kn+1),ws.take (kn+1),bs,zaD _ _,zaC hb,net.take _,sb,hg,by rw[Vah]; omega,λT m pr lm hf=>?_⟩
   have prS:Pre S T:=λn o e=>pr n o (zaC e)
   have lm':S.length≤m:=by
    have z:(S++[Ob.lst ((ns.take (kn+1)).map Nd.d)]).length≤m:=lm
    rw[Van] at z
    omega
   have s1:Spn 1000 (zaE bs g (ns.take (kn+1))):=zex net rfl sb hg (kn+1) (by omega)
   have l1:(zaE bs g (ns.take (kn+1))).length=kn+1:=by rw[zcd,Vah]; omega
   have ik:inR (((zaE bs g (ns.take (kn+1))).length:Nat):Int) (kn:Int):=⟨by omega,by omega⟩
   have a1:=s1.at ik
   refine zaB (o:=.lst ((zaE bs g (ns.take (kn+1))).map frD)) hf (zaK ik) ?_
   refine⟨zero,hw,λe=>?_,λwd e=>?_⟩
   ·refine h1 ?_ T prS
    unfold sbS
    rw[show zfJ zero (gt (zaE bs g (ns.take (kn+1))) (kn:Int))=none from e]
   have es:sbS ns zero kn bs g=zca g ns (kn+1) ((zaE bs g (ns.take (kn+1))).set kn wd):=by
    unfold sbS
    rw[show zfJ zero (gt (zaE bs g (ns.take (kn+1))) (kn:Int))=some wd from e]
   have zw:=Sz.in2 a1.2.1 a1.2.2 (zkQ wd e)
   refine zdc (n:=m) (k:=(kn:Int)) (j:=kn) (xs:=(zaE bs g (ns.take (kn+1))).map frD) (v:=frD wd) (λK hK=>by exact hK) (λK hK=>by exact hK) (λK hK=>by exact hK) hf (by rw[Vaa,zc3 ik]; rfl) ?_
   rw[zdy]
   refine⟨rfl,⟨by omega,by omega,by omega,by omega⟩,λt dl' S'=>t≤kn+1∧Pre S S'∧∃us:List (Int×Int),S'[m]?=some (.lst (us.map frD))∧us.length=kn+1∧Spn 1000 us∧zca g ns (kn+1-t) us=sbS ns zero kn bs g∧∃u7 u8 u9:Option D,dl'=[some (.ref a),some (.tup [.str w,.int (kn:Int)]),some (.ref b),some (.int g),some (.int (kn:Int)),some (.ref m),some (frD wd),u7,u8,u9],⟨by omega,zbn prS lm',_,zbk hf,by rw[VaA]; exact l1,s1.set2 zw,es.symm,_,_,_,rfl⟩,?_⟩
   rintro t dl' S' ⟨ht,prt,us,hu,lu,su,eb,u7,u8,u9,rfl⟩
   refine zf9 (λtc=>?_) (λtc=>?_)
   ·have tc':t<kn+1:=by
     have z:t<((kn:Int) - -1).toNat:=tc
     omega
    obtain⟨j,ej⟩:∃j:Nat,kn=j+t:=⟨kn-t,by omega⟩
    have en:(kn:Int)-(t:Int)=(j:Int):=by omega
    have ek:kn+1-t=j+1:=by omega
    have hv:ns[j]?=some ns[j]:=Vag (by omega)
    generalize ns[j]=v at hv
    have ok:v.ok us.length bs.length:=zog (by omega) (net.ok j v hv).1
    have ij:inR ((us.length:Nat):Int) (j:Int):=⟨by omega,by omega⟩
    obtain⟨C,fs,sd,eo,hm,hf2,go⟩:=disp v
    have N1:=zaD S' (v.ob zao.C zap.C zai.C zaj.C zah.C zal.C)
    rw[en]
    rw[ek] at eb
    refine zrM (n:=S'.length) (C:=C) (sd:=sd) (fs:=fs) (S1:=S'++[v.ob zao.C zap.C zai.C zaj.C zah.C zal.C]) (λK hK=>?_) (by rw[← eo]; exact N1) hm hf2 ?_
    ·refine zaB (o:=.lst (ns.map Nd.d)) (prt _ _ ha) (zpT hv) ?_
     exact⟨v,rfl,by exact hK⟩
    refine zaB (o:=.lst (us.map frD)) (zaC hu) (zaK ij) ?_
    refine go _ _ (gt us (j:Int)) _ bs.length _ _ _ us N1 (zaC hu) ok su (su.at ij) hg (λe=>?_) (λl e=>?_)
    ·refine h1 ?_ _ (zc2 prt _)
     rw[← eb,zn0 hv e]
    have P:=v.bk_pts su (su.at ij).1 hg.1 l ok e
    rw[zo4 hv e] at eb
    have lS:m<S'.length:=zbQ hu
    refine zc6 (n:=(S'++[v.ob zao.C zap.C zai.C zaj.C zah.C zal.C]).length) (o:=.lst (l.map ptD)) (λi dl2 S2=>i≤l.length∧Pre S S2∧S2[m]?=some (.lst ((zbY us (l.take i)).map frD))∧S2[(S'++[v.ob zao.C zap.C zai.C zaj.C zah.C zal.C]).length]?=some (.lst (l.map ptD))∧∃u9:Option D,dl2=[some (.ref a),some (.tup [.str w,.int (kn:Int)]),some (.ref b),some (.int g),some (.int (kn:Int)),some (.ref m),some (frD wd),some (.int (j:Int)),some (.ref (S'++[v.ob zao.C zap.C zai.C zaj.C zah.C zal.C]).length),u9]) ⟨Vao _,zc2 (zc2 prt _) _,zaC (zaC hu),zaD _ _,_,rfl⟩ (λi dl2 S2 z=>z.2.2.2.1) ?_ ?_
    ·rintro i x dl2 S2 nx ct ex' ⟨hi,pr2,hu2,hl2,u9,rfl⟩ hn
     have ex2:(l.map ptD)[i]?=some x:=ex'
     rw[Vai] at ex2
     obtain⟨p,hp,rfl⟩:=Vaq.mp ex2
     have hi':=(Vac.mp hp).1
     have Pp:=P.2 p (Vat hp)
     have ipp:inR (((zbY us (l.take i)).length:Nat):Int) p.1:=by rw[zeb]; exact Pp.1
     refine zdc (n:=m) (k:=p.1) (j:=p.1.toNat) (xs:=(zbY us (l.take i)).map frD) (v:=frD p.2) (λK hK=>by exact hK) (λK hK=>by exact hK) (λK hK=>by exact hK) hu2 (by rw[Vaa]; exact zc3 ipp) ?_
     rw[zdy,← zvs,← zce hp]
     refine hn _ _ ⟨by omega,zbn pr2 lm',zbk hu2,zaU hl2 (by rw[Van]; omega),_,rfl⟩
    ·rintro dl2 S2 ⟨hi,pr2,hu2,hl2,u9,rfl⟩
     have e9:l.take (zaz (Ob.lst (l.map ptD))).length=l:=by
      show l.take (l.map ptD).length=l
      rw[Vaa,VaK]
     rw[e9] at hu2
     refine⟨by omega,pr2,_,hu2,by rw[zeb]; exact lu,zl4 l us su λp hp=>(P.2 p hp).2,?_,_,_,_,rfl⟩
     rw[show kn+1-(t+1)=j by omega]
     exact eb
   ·have tc':¬ t<kn+1:=λz=>tc (show t<((kn:Int) - -1).toNat by omega)
    rw[show kn+1-t=0 by omega] at eb
    exact h2 us S' m eb.symm prt lm' hu
  ·exact h.elim⟩)
def zsN  (zju:Df K mg "narrowed" ziw zeY)(znO:Fk P w K mg base 8 "spans_back" zgt zgB)(zcy:mg "enumerate"=none)(zba:mg "list"=none):Fk P w K mg base 9 "narrowed" zeY zfD:=
 zju.mk' (zax (k:=8) zju.F zhM (zs0) λcdv A outer s H E hr=>⟨_,(zae (zam (i:=4) zhM.nd rfl (Or.inl rfl) (zan znO hr (zaa (dv 0) (zaa (dv 1) (zaa (dv 2) (zaa (dv 3) zac)))))) (zae (zav (zas zbN (dv 4) za0 (zaq _)) (zag (zak za0)) zaw) (zae (zam (i:=5) zhM.nd rfl (Or.inl rfl) (zdo (za7 zdH) rfl zba Boot.«list» (zaa (dv 2) zac))) (zae (zqk (is:=[6,7]) PassesOwn.never rfl zhM.nd (Nms.cons (i:=6) rfl (Or.inl rfl) (by first | exact .inl rfl | exact .inr rfl) (Nms.cons (i:=7) rfl (Or.inl rfl) (by first | exact .inl rfl | exact .inr rfl) Nms.nil)) rfl rfl zcy Boot.«enumerate» (zaa (dv 4) zac) (zae (zam (i:=8) zhM.nd rfl (Or.inl rfl) (zaG (dv 0) (dv 6) (λ_ _=>rfl))) (zag (zav (zas (zaI hr) (zad (dv 8) zab (λ_ _=>rfl)) zaH (zaq _)) (zag (zdO (dv 5) (zad (dv 8) zab (λ_ _=>rfl)) (dv 7))) zaw)))) (zag (zak (dv 5))))))),λds S Q ex h=>by
  unfold zfD at h
  split at h
  ·rename_i a w k b g
   obtain⟨ns,ws,bs,zero,ha,hb,hw,⟨k0,k1⟩,net,sb,hg,hl,h1,h2⟩:=h
   obtain⟨kn,rfl⟩:∃kn:Nat,k=(kn:Int):=⟨k.toNat,by omega⟩
   rw[Vad] at h1 h2
   refine⟨ns,ws,bs,zero,ha,hb,hw,⟨k0,k1⟩,net,sb,hg,hl,?_,?_⟩
   ·rw[Vad]
    intro e T pr
    exact h1 (by unfold nwS; rw[e]; rfl) T pr
   ·rw[Vad]
    intro us T m e pr lm hu
    have lu:=zq2 net sb hg (show kn<ns.length by omega) e
    have lz:(ns.zip us).length=kn+1:=by rw[List.length_zip]; omega
    have en:nwS ns zero kn bs g=some (zb2 bs (ns.zip us)):=by unfold nwS; rw[e]; rfl
    have lS:m<T.length:=zbQ hu
    refine zdt (zbg (pr _ _ hb) rfl) ?_
    refine zqr (n:=m) (xs:=us.map frD) (S1:=T++[.lst (bs.map frD)]) (λi dl' S'=>i≤us.length∧Pre S S'∧S'[m]?=some (.lst (us.map frD))∧S'[T.length]?=some (.lst ((zb2 bs ((ns.zip us).take i)).map frD))∧∃u6 u7 u8:Option D,dl'=[some (.ref a),some (.tup [.str w,.int (kn:Int)]),some (.ref b),some (.int g),some (.ref m),some (.ref T.length),u6,u7,u8]) (λK hK=>by exact hK) (λi dl' S' z=>z.2.2.1) ⟨Vao _,zc2 pr _,zaC hu,zaD _ _,_,_,_,rfl⟩ ?_ ?_
    ·rintro i x dl' S' nx ct ex' ⟨hi,pr',hu',hl',u6,u7,u8,rfl⟩ hn
     rw[Vai] at ex'
     obtain⟨p,hp,rfl⟩:=Vaq.mp ex'
     have hi':=(Vac.mp hp).1
     have hv:ns[i]?=some ns[i]:=Vag (by omega)
     generalize ns[i]=v at hv
     have hz:=zs3 hv hp
     have lp:=(zo0 net rfl (us:=us) (bs:=bs) (λ_ _=>True) (λ_ _=>trivial) (λ_ _ _ _=>trivial) i (by omega)).1
     have es:zb2 bs ((ns.zip us).take (i+1))=match v with
      | .unknown u=>(zb2 bs ((ns.zip us).take i)).set u.toNat p
      | _=>zb2 bs ((ns.zip us).take i):=by
      rw[zce hz,zpL]
      cases v <;> rfl
     have okv:=(net.ok i v hv).1
     refine zaB (o:=.lst (ns.map Nd.d)) (pr' _ _ ha) (zpT hv) ?_
     cases v with
     | unknown u=>
      have oku:inR (((zb2 bs ((ns.zip us).take i)).length:Nat):Int) u:=by rw[lp]; exact okv
      refine zdc (n:=T.length) (k:=u) (j:=u.toNat) (xs:=(zb2 bs ((ns.zip us).take i)).map frD) (v:=frD p) (λK hK=>by exact hK) (λK hK=>by exact hK) (λK hK=>by exact hK) hl' (by rw[Vaa]; exact zc3 oku) ?_
      rw[zdy]
      refine hn _ _ ⟨by omega,zbn pr' (by omega),zaU hu' (by omega),?_,_,_,_,rfl⟩
      rw[es]
      exact zbk hl'
     | number _ _=>exact hn _ _ ⟨by omega,pr',hu',by rw[es]; exact hl',_,_,_,rfl⟩
     | plus _ _=>exact hn _ _ ⟨by omega,pr',hu',by rw[es]; exact hl',_,_,_,rfl⟩
     | minus _ _=>exact hn _ _ ⟨by omega,pr',hu',by rw[es]; exact hl',_,_,_,rfl⟩
     | times _ _=>exact hn _ _ ⟨by omega,pr',hu',by rw[es]; exact hl',_,_,_,rfl⟩
     | power _ _=>exact hn _ _ ⟨by omega,pr',hu',by rw[es]; exact hl',_,_,_,rfl⟩
    ·rintro dl' S' ⟨hi,pr',hu',hl',u6,u7,u8,rfl⟩
     rw[Vaa,List.take_of_length_le (by omega)] at hl'
     exact h2 _ S' T.length en pr' (by omega) hl'
  ·exact h.elim⟩)
def zss  (zmZ:Df K mg "_law_forth" zmx zgs)(zc0:Fk P w K mg base 1 "_law_power" zfe zeT)(zaS:mg "max"=none)(za9:mg "min"=none):Fk P w K mg base 2 "_law_forth" zgs zgv:=
 zmZ.mk' (zes (zax (k:=1) zmZ.F zdD (zfP (zt6)) λcdv A outer s H E hr=>⟨_,(zae (zav (zas (zaI hr) (zad (dv 0) zab (λ_ _=>rfl)) zaH (zaq _)) (zag (zak (zat (zaa (zaf zbo (zaf zaM (zad (dv 0) zab (λ_ _=>rfl)) (dv 3)) (zad (dv 0) zab (λ_ _=>rfl))) (zaa (zbF zbM (zaf zbo (zaf zaM (zbF zbM (zad (dv 0) zab (λ_ _=>rfl))) (dv 3)) (zad (dv 0) zab (λ_ _=>rfl)))) zac))))) zaw) (zae (zav (zas (zaI hr) (zad (dv 0) zab (λ_ _=>rfl)) zaH (zaq _)) (zag (zak (zaG (dv 2) (zad (dv 0) zab (λ_ _=>rfl)) (λ_ _=>rfl)))) zaw) (zae (zam (i:=4) zdD.nd rfl (Or.inl rfl) (zaG (dv 1) (zad (dv 0) zab (λ_ _=>rfl)) (λ_ _=>rfl))) (zae (zav (zas (zaI hr) (zad (dv 0) zab (λ_ _=>rfl)) zaH (zaq _)) (zae (zam (i:=5) zdD.nd rfl (Or.inl rfl) (zan zc0 hr (zaa (dv 3) (zaa (zaf zbl (zad (dv 0) zab (λ_ _=>rfl)) zab) zac)))) (zae (zam (i:=6) zdD.nd rfl (Or.inl rfl) (za8 (zaa (zan zc0 hr (zaa (zad (dv 4) zab (λ_ _=>rfl)) (zaa (zad (dv 0) zab (λ_ _=>rfl)) zac))) (zaa (zan zc0 hr (zaa (zad (dv 4) zab (λ_ _=>rfl)) (zaa (zad (dv 0) zab (λ_ _=>rfl)) zac))) zac)))) (zae (zam (i:=7) zdD.nd rfl (Or.inl rfl) (zaP (za7 (zdh rfl)) rfl za9 Boot.«min» (zaa (dv 6) zac))) (zae (zav (PDW.pt (zct (zas (zaI hr) (zaf za1 (zad (dv 0) zab (λ_ _=>rfl)) zab) zab (zaq _)) (zc4 (znA zd6 zd6 (zad (dv 4) zab (λ_ _=>rfl)) zab (zad (dv 4) zab (λ_ _=>rfl)))))) (zag (zam (i:=7) zdD.nd rfl (Or.inl rfl) zab)) zaw) (zag (zak (zat (zaa (zaf zbo (dv 7) (dv 5)) (zaa (zbF zbM (zaf zbo (zbF zbM (zaP (za7 (zb8 rfl)) rfl zaS Boot.«max» (zaa (dv 6) zac))) (dv 5))) zac))))))))) zaw) (zae (zam (i:=8) zdD.nd rfl (Or.inl rfl) (zaG (dv 1) (zad (dv 0) zab (λ_ _=>rfl)) (λ_ _=>rfl))) (zae (zav (zas (zaI hr) (zad (dv 0) zab (λ_ _=>rfl)) zaH (zaq _)) (zag (zak (zat (zaa (zaf zaT (zad (dv 4) zab (λ_ _=>rfl)) (zad (dv 8) zab (λ_ _=>rfl))) (zaa (zaf zaT (zad (dv 4) zab (λ_ _=>rfl)) (zad (dv 8) zab (λ_ _=>rfl))) zac))))) zaw) (zae (zav (zas (zaI hr) (zad (dv 0) zab (λ_ _=>rfl)) zaH (zaq _)) (zag (zak (zat (zaa (zaf zbl (zad (dv 4) zab (λ_ _=>rfl)) (zad (dv 8) zab (λ_ _=>rfl))) (zaa (zaf zbl (zad (dv 4) zab (λ_ _=>rfl)) (zad (dv 8) zab (λ_ _=>rfl))) zac))))) zaw) (zae (zam (i:=6) zdD.nd rfl (Or.inl rfl) (za8 (zaa (zaf zaM (zad (dv 4) zab (λ_ _=>rfl)) (zad (dv 8) zab (λ_ _=>rfl))) (zaa (zaf zaM (zad (dv 4) zab (λ_ _=>rfl)) (zad (dv 8) zab (λ_ _=>rfl))) (zaa (zaf zaM (zad (dv 4) zab (λ_ _=>rfl)) (zad (dv 8) zab (λ_ _=>rfl))) (zaa (zaf zaM (zad (dv 4) zab (λ_ _=>rfl)) (zad (dv 8) zab (λ_ _=>rfl))) zac)))))) (zag (zak (zat (zaa (zaf zbo (zaP (za7 (zdh rfl)) rfl za9 Boot.«min» (zaa (dv 6) zac)) (dv 3)) (zaa (zbF zbM (zaf zbo (zbF zbM (zaP (za7 (zb8 rfl)) rfl zaS Boot.«max» (zaa (dv 6) zac))) (dv 3))) zac))))))))))))),λds S Q ex h=>by
  obtain⟨Q0,ex0,rfl,rfl,h⟩:=h
  unfold zgv at h
  split at h
  ·rename_i d w p g
   obtain⟨v,vs,bs,rfl,hw,hp,ok,s1,hg,h⟩:=h
   have sg:Sz 21 g:=Sz.of 1000000 (by omega)
   cases v with
   | number x y=>
    have sx:Sz 31 x:=Sz.of (10^9) ok.2.2
    have sy:Sz 31 y:=Sz.of (10^9) (by have:=ok.1; omega)
    refine⟨zaL sx sg,sy.fd (by have:=ok.1; omega),zaL sx.neg sg,sy.fd (by have:=ok.1; omega),Pre.refl,zcf,?_⟩
    have e:-x*g=-(x*g):=Val _ _
    show Q0 (.tup [.int (x*g/y),.int (-(-x*g/y))]) S
    rw[e]
    exact h
   | unknown k=>exact zaB (o:=.lst (bs.map frD)) hp (zaK ok) ⟨Pre.refl,zxV _,h⟩
   | power i m=>
    have a:=s1.at ok.1
    obtain⟨ok1,m2,m6⟩:=ok
    refine zaB (o:=.lst (vs.map frD)) hw (zaK ok1) ?_
    refine⟨⟨by omega,by omega,sg.mono (by decide)⟩,?_⟩
    refine⟨⟨by omega,m6,a.2.1.mono (by decide)⟩,⟨by omega,m6,a.2.2.mono (by decide)⟩,?_⟩
    have gp:(0:Int)<g^(m.toNat-1):=Vaz (by omega)
    have egs:(m-1).toNat=m.toNat-1:=by omega
    have zs:Sz 200 (g^(m.toNat-1)):=(sg.pow _).mono (by omega)
    have zf:CFd 0 (g^(m-1).toNat):=by rw[egs]; exact zs.fd gp
    have fin:∀lo hi:Int,lo=zcu (gt vs i).1 (gt vs i).2 m.toNat→hi=zcT (gt vs i).1 (gt vs i).2 m.toNat→Q0 (.tup [.int (lo/g^(m-1).toNat),.int (-(-hi/g^(m-1).toNat))]) S:=λlo hi e1 e2=>by
     subst e1 e2
     rw[egs]
     exact h
    refine zbS (n:=S.length) (o:=.lst [.int ((gt vs i).1^m.toNat),.int ((gt vs i).2^m.toNat)]) (xs:=[(gt vs i).1^m.toNat,(gt vs i).2^m.toNat]) (zaD _ _) rfl (by simp) λmn q1 q2=>?_
    simp only[Vaf,Vay,or_false] at q1
    have q3:=q2 ((gt vs i).1^m.toNat) (by simp)
    have q4:=q2 ((gt vs i).2^m.toNat) (by simp)
    refine ifD (λe=>?_) (λe=>?_)
    ·refine ifD (λc1=>?_) (λc1=>?_)
     ·refine ifD (λc2=>?_) (λc2=>?_)
      ·skip
       refine⟨zf,?_⟩
       refine zbS (n:=S.length) (o:=.lst [.int ((gt vs i).1^m.toNat),.int ((gt vs i).2^m.toNat)]) (xs:=[(gt vs i).1^m.toNat,(gt vs i).2^m.toNat]) (zaD _ _) rfl (by simp) λmx x1 x2=>?_
       simp only[Vaf,Vay,or_false] at x1
       have x3:=x2 ((gt vs i).1^m.toNat) (by simp)
       have x4:=x2 ((gt vs i).2^m.toNat) (by simp)
       refine⟨zf,Pre.refl.push,zcf,fin _ _ ?_ ?_⟩
       ·unfold zcu
        rw[if_pos ⟨by omega,c1,c2⟩]
       ·unfold zcT
        omega
      ·skip
       refine⟨zf,?_⟩
       refine zbS (n:=S.length) (o:=.lst [.int ((gt vs i).1^m.toNat),.int ((gt vs i).2^m.toNat)]) (xs:=[(gt vs i).1^m.toNat,(gt vs i).2^m.toNat]) (zaD _ _) rfl (by simp) λmx x1 x2=>?_
       simp only[Vaf,Vay,or_false] at x1
       have x3:=x2 ((gt vs i).1^m.toNat) (by simp)
       have x4:=x2 ((gt vs i).2^m.toNat) (by simp)
       refine⟨zf,Pre.refl.push,zcf,fin _ _ ?_ ?_⟩
       ·unfold zcu
        rw[if_neg (λc=>c2 c.2.2)]
        omega
       ·unfold zcT
        omega
     ·skip
      refine⟨zf,?_⟩
      refine zbS (n:=S.length) (o:=.lst [.int ((gt vs i).1^m.toNat),.int ((gt vs i).2^m.toNat)]) (xs:=[(gt vs i).1^m.toNat,(gt vs i).2^m.toNat]) (zaD _ _) rfl (by simp) λmx x1 x2=>?_
      simp only[Vaf,Vay,or_false] at x1
      have x3:=x2 ((gt vs i).1^m.toNat) (by simp)
      have x4:=x2 ((gt vs i).2^m.toNat) (by simp)
      refine⟨zf,Pre.refl.push,zcf,fin _ _ ?_ ?_⟩
      ·unfold zcu
       rw[if_neg (λc=>c1 c.2.1)]
       omega
      ·unfold zcT
       omega
    ·skip
     refine⟨zf,?_⟩
     refine zbS (n:=S.length) (o:=.lst [.int ((gt vs i).1^m.toNat),.int ((gt vs i).2^m.toNat)]) (xs:=[(gt vs i).1^m.toNat,(gt vs i).2^m.toNat]) (zaD _ _) rfl (by simp) λmx x1 x2=>?_
     simp only[Vaf,Vay,or_false] at x1
     have x3:=x2 ((gt vs i).1^m.toNat) (by simp)
     have x4:=x2 ((gt vs i).2^m.toNat) (by simp)
     refine⟨zf,Pre.refl.push,zcf,fin _ _ ?_ ?_⟩
     ·unfold zcu
      rw[if_neg (λc=>e (by have:=c.1; omega))]
      omega
     ·unfold zcT
      omega
   | times i j=>
    have a:=s1.at ok.1
    have b:=s1.at ok.2
    refine zaB (o:=.lst (vs.map frD)) hw (zaK ok.1) ?_
    refine zaB (o:=.lst (vs.map frD)) hw (zaK ok.2) ?_
    refine⟨zaL a.2.1 b.2.1,zaL a.2.1 b.2.2,zaL a.2.2 b.2.1,zaL a.2.2 b.2.2,?_⟩
    apply zbS
    ·exact zaD _ _
    ·rfl
    ·simp
    intro mn n1 n2
    refine⟨sg.fd (by omega),?_⟩
    apply zbS
    ·exact zaD _ _
    ·rfl
    ·simp
    intro mx x1 x2
    refine⟨sg.fd (by omega),Pre.refl.push,zcf,?_⟩
    obtain⟨rfl,rfl⟩:=(zej.of n1 n2 x1 x2).eq
    exact h
   | plus i j=>
    refine zaB (o:=.lst (vs.map frD)) hw (zaK ok.1) ?_
    refine zaB (o:=.lst (vs.map frD)) hw (zaK ok.2) ?_
    exact⟨Pre.refl,zcf,h⟩
   | minus i j=>
    refine zaB (o:=.lst (vs.map frD)) hw (zaK ok.1) ?_
    refine zaB (o:=.lst (vs.map frD)) hw (zaK ok.2) ?_
    exact⟨Pre.refl,zcf,h⟩
  ·exact h.elim⟩))
def ztS  (zlM:Df K mg "_law_worths" zlh zhZ)(znx:Fk P w K mg base 2 "_law_forth" zgs zgv):Fk P w K mg base 3 "_law_worths" zhZ zhR:=
 zlM.mk' (zax (k:=2) zlM.F zny (ztp) λcdv A outer s H E hr=>⟨_,(zae (zam (i:=3) zny.nd rfl (Or.inl rfl) (za8 zac)) (zae (zda (i:=4) PassesOwn.never rfl zny.nd rfl (Or.inl rfl) (dv 0) (zag (zbJ (zbK (dv 3) (zan znx hr (zaa (dv 4) (zaa (dv 3) (zaa (dv 1) (zaa (dv 2) zac))))))))) (zag (zak (dv 3))))),λds S Q ex h=>by
  unfold zhR at h
  split at h
  ·rename_i a b g
   obtain⟨ns,ws,bs,ha,hb,net,sb,hg,hl,h⟩:=h
   refine zc6 (n:=a) (o:=.lst (ns.map Nd.d)) (λk dl' S'=>k≤ns.length∧Pre S S'∧S'[S.length]?=some (.lst ((zaE bs g (ns.take k)).map frD))∧∃u:Option D,dl'=[some (.ref a),some (.ref b),some (.int g),some (.ref S.length),u]) ⟨Vao _,Pre.refl.push,zaD _ _,_,rfl⟩ (λk dl' S' w=>w.2.1 _ _ ha) ?_ ?_
   ·rintro k x dl' S' nx ct ex' ⟨hk,pr,hf,u,rfl⟩ hn
    have ex2:(ns.map Nd.d)[k]?=some x:=ex'
    rw[Vai] at ex2
    obtain⟨v,hv,rfl⟩:=Vaq.mp ex2
    have hk':=(Vac.mp hv).1
    have ln:(zaE bs g (ns.take k)).length=k:=by rw[zcd,Vah]; omega
    have okv:v.ok (zaE bs g (ns.take k)).length bs.length:=by rw[ln]; exact(net.ok k v hv).1
    refine zp1 (n:=S.length) (S1:=S') (S2:=S') (xs:=(zaE bs g (ns.take k)).map frD) (y:=frD (v.fw (zaE bs g (ns.take k)) bs g)) (λK hK=>by exact hK) hf (λK hK=>?_) hf (by rw[Vaa,ln]; omega) ?_
    ·exact⟨v,_,bs,rfl,hf,pr _ _ hb,okv,(zex net rfl sb hg k hk).mono (by decide),hg,hK⟩
    ·refine hn _ _ ⟨by omega,zbn pr (Vab _),?_,_,rfl⟩
     rw[zce hv,zff,Vaw]
     exact zbk hf
   ·rintro dl' S' ⟨hk,pr,hf,u,rfl⟩
    refine h _ _ pr (Vab _) ?_
    have e:ns.take (zaz (.lst (ns.map Nd.d))).length=ns:=by
     show ns.take (ns.map Nd.d).length=ns
     rw[Vaa,VaK]
    rw[e] at hf
    exact hf
  ·exact h.elim⟩)
def zxz  (zko:Df K mg "_law_barred" zlj zh6)(zo6:Fk P w K mg base 3 "_law_worths" zhZ zhR):Fk P w K mg base 4 "_law_barred" zh6 zhz:=
 zko.mk' (zax (k:=3) zko.F zpR (zwK) λcdv A outer s H E hr=>⟨_,(zae (zam (i:=4) zpR.nd rfl (Or.inl rfl) (zaG (zan zo6 hr (zaa (zdK (dv 0) zeV (zcO (zaf zaT (zad (dv 1) zab (λ_ _=>rfl)) zab))) (zaa (dv 2) (zaa (dv 3) zac)))) (zad (dv 1) zab (λ_ _=>rfl)) (λ_ _=>rfl))) (zae (zav (zas (zaI hr) (zad (dv 1) zab (λ_ _=>rfl)) zaH (zaq _)) (zag (zak (zoR (zb6 zcZ (zad (dv 4) zab (λ_ _=>rfl)) zab (zaq _)) (ze5 (zb6 zbi (zad (dv 4) zab (λ_ _=>rfl)) zab (zaq _)))))) zaw) (zag (zak (zb6 zbi (zad (dv 4) zab (λ_ _=>rfl)) zab (zaq _)))))),λds S Q ex h=>by
  unfold zhz at h
  split at h
  ·rename_i a w k b g
   obtain⟨ns,ws,bs,zero,ha,hb,hw,⟨k0,k1⟩,net,sb,hg,hl,h⟩:=h
   obtain⟨kn,rfl⟩:∃kn:Nat,k=(kn:Int):=⟨k.toNat,by omega⟩
   rw[Vad] at h
   refine zds (n:=a) (o:=.lst (ns.map Nd.d)) (lo:=none) (hi:=some ((kn:Int)+1)) (S3:=S) (λK hK=>by exact hK) (λK hK=>by exact hK) (λK hK=>by exact hK) ha ?_
   have ec:zaZ (ns.map Nd.d) none (some ((kn:Int)+1))=(ns.take (kn+1)).map Nd.d:=by
    rw[zhk (by omega) (by rw[Vaa]; omega),List.map_take]
    rfl
   rw[show zaz (Ob.lst (ns.map Nd.d))=ns.map Nd.d from rfl,ec]
   refine⟨ns.take (kn+1),ws.take (kn+1),bs,zaD _ _,zaC hb,net.take _,sb,hg,by rw[Vah]; omega,λT m pr lm hf=>?_⟩
   have prS:Pre S T:=λn o e=>pr n o (zaC e)
   have l1:(zaE bs g (ns.take (kn+1))).length=kn+1:=by rw[zcd,Vah]; omega
   have ik:inR (((zaE bs g (ns.take (kn+1))).length:Nat):Int) (kn:Int):=⟨by omega,by omega⟩
   refine zaB (o:=.lst ((zaE bs g (ns.take (kn+1))).map frD)) hf (zaK ik) ?_
   have z:=h T prS
   unfold ibS brS at z
   rcases hw with ⟨rfl,rfl⟩ | ⟨rfl,rfl⟩
   ·refine ifD (λc=>?_) (λc=>?_)
    ·rw[if_pos rfl,decide_eq_true c,Bool.true_or] at z
     exact z
    ·rw[if_pos rfl,decide_eq_false c,Bool.false_or] at z
     exact z
   ·exact z
  ·exact h.elim⟩)
def zwm  (ziL:Df K mg "_law_with" ziY zhU)(zba:mg "list"=none):Fk P w K mg base 1 "_law_with" zhU zf0:=
 ziL.mk' (zax (k:=0) ziL.F zpH (zwo) λcdv A outer s H E hr=>⟨_,(zae (zam (i:=3) zpH.nd rfl (Or.inl rfl) (zdo (za7 zdH) rfl zba Boot.«list» (zaa (dv 0) zac))) (zae (zdO (dv 3) (dv 1) (dv 2)) (zag (zak (dv 3))))),λds S Q ex h=>by
  unfold zf0 at h
  split at h
  ·rename_i b k d
   obtain⟨bs,p,hb,ik,l4,rfl,h⟩:=h
   refine zdt (zbg hb rfl) ?_
   refine zdc (n:=S.length) (k:=k) (j:=k.toNat) (xs:=bs.map frD) (v:=frD p) (λK hK=>by exact hK) (λK hK=>by exact hK) (λK hK=>by exact hK) (zaD _ _) (by rw[Vaa]; exact zc3 ik) ?_
   rw[zdy,zoF]
   exact h _ _ Pre.refl.push (Vab _) (zaD _ _)
  ·exact h.elim⟩)
def zuS  (ziE:Df K mg "_law_shaves" ziR zfU)(zfT:Fk P w K mg base 4 "_law_barred" zh6 zhz)(zlG:Fk P w K mg base 1 "_law_with" zhU zf0)(zbh:mg "range"=none)(zaR:mg "len"=none)(za9:mg "min"=none)(zaS:mg "max"=none)(zba:mg "list"=none):Fk P w K mg base 5 "_law_shaves" zfU zhV:=
 ziE.mk' (zax (k:=4) ziE.F zdB (zxr) λcdv A outer s H E hr=>⟨_,(zae (zav (zbq (zan zfT hr (zaa (dv 0) (zaa (dv 1) (zaa (dv 2) (zaa (dv 3) zac)))))) (zag (zak (zat (zaa (za8 zac) (zaa za0 zac))))) zaw) (zae (zam (i:=5) zdB.nd rfl (Or.inl rfl) (za8 zac)) (zae (zam (i:=6) zdB.nd rfl (Or.inl rfl) (zdo (za7 zdH) rfl zba Boot.«list» (zaa (dv 2) zac))) (zae (zav (zas zbN (dv 4) za0 (zaq _)) (zag (zak (zat (zaa (dv 5) (zaa (dv 6) zac))))) zaw) (zae (zn6 (i:=7) PassesOwn.never rfl zdB.nd rfl (Or.inl rfl) rfl zbh (zaa (zaP (za7 zbC) rfl zaR Boot.«len» (zaa (dv 2) zac)) zac) (zae (zam (i:=8) zdB.nd rfl (Or.inl rfl) (zaf zbl (zad (zaG (dv 4) (dv 7) (λ_ _=>rfl)) zab (λ_ _=>rfl)) zab)) (zae (zam (i:=9) zdB.nd rfl (Or.inl rfl) (zat (zaa (zad (zaG (dv 6) (dv 7) (λ_ _=>rfl)) zab (λ_ _=>rfl)) (zaa (zaP (zb8 rfl) rfl zaS Boot.«max» (zaa (dv 8) (zaa (zad (zaG (dv 6) (dv 7) (λ_ _=>rfl)) zab (λ_ _=>rfl)) zac))) zac)))) (zae (zav (PDW.pt (zct (zas zcZ (dv 8) (zad (zaG (dv 6) (dv 7) (λ_ _=>rfl)) zab (λ_ _=>rfl)) (zaq _)) (zc4 (zbq (zan zfT hr (zaa (dv 0) (zaa (dv 1) (zaa (zan zlG hr (zaa (dv 6) (zaa (dv 7) (zaa (dv 9) zac)))) (zaa (dv 3) zac))))))))) (zae (zbJ (zbK (dv 5) (zat (zaa (dv 7) (zaa (dv 8) (zaa zab zac)))))) (zag (zdO (dv 6) (dv 7) (zat (zaa (dv 8) (zaa (zad (zaG (dv 6) (dv 7) (λ_ _=>rfl)) zab (λ_ _=>rfl)) zac)))))) zaw) (zae (zam (i:=8) zdB.nd rfl (Or.inl rfl) (zaf zaT (zad (zaG (dv 4) (dv 7) (λ_ _=>rfl)) zab (λ_ _=>rfl)) zab)) (zae (zam (i:=9) zdB.nd rfl (Or.inl rfl) (zat (zaa (zaP (zdh rfl) rfl za9 Boot.«min» (zaa (dv 8) (zaa (zad (zaG (dv 6) (dv 7) (λ_ _=>rfl)) zab (λ_ _=>rfl)) zac))) (zaa (zad (zaG (dv 6) (dv 7) (λ_ _=>rfl)) zab (λ_ _=>rfl)) zac)))) (zag (zav (PDW.pt (zct (zas zbi (dv 8) (zad (zaG (dv 6) (dv 7) (λ_ _=>rfl)) zab (λ_ _=>rfl)) (zaq _)) (zc4 (zbq (zan zfT hr (zaa (dv 0) (zaa (dv 1) (zaa (zan zlG hr (zaa (dv 6) (zaa (dv 7) (zaa (dv 9) zac)))) (zaa (dv 3) zac))))))))) (zae (zbJ (zbK (dv 5) (zat (zaa (dv 7) (zaa (dv 8) (zaa zab zac)))))) (zag (zdO (dv 6) (dv 7) (zat (zaa (zad (zaG (dv 6) (dv 7) (λ_ _=>rfl)) zab (λ_ _=>rfl)) (zaa (dv 8) zac)))))) zaw)))))))) (zag (zak (zat (zaa (dv 5) (zaa (dv 6) zac)))))))))),λds S Q ex h=>by
  unfold zhV at h
  split at h
  ·rename_i a w k b g fd
   obtain⟨ns,ws,bs,zero,ha,hb,hw,hk,net,sb,hg,hl,l4,hfd,h⟩:=h
   obtain⟨kn,rfl⟩:∃kn:Nat,k=(kn:Int):=⟨k.toNat,by have:=hk.1; omega⟩
   have hkn:kn<ns.length:=by have:=hk.2; omega
   rw[Vad] at h hfd
   refine⟨ns,ws,bs,zero,ha,hb,hw,hk,net,sb,hg,hl,λT pr=>?_⟩
   rw[Vad]
   unfold shS at h
   have lST:=zgE pr
   have lST2:S.length≤(T++[Ob.lst []]).length:=by rw[Van]; omega
   cases hi:ibS ns zero kn bs g with
   | true=>
    rw[hi] at h
    exact h _ T.length .non (zc2 pr _) lST (zaD _ _) (.inl ⟨rfl,rfl⟩)
   | false=>
    rw[hi] at h
    refine zdt (zbg (zaC (pr _ _ hb)) rfl) ?_
    rcases hfd with ⟨rfl,e⟩ | ⟨r,mf,rfl,e,hr,_⟩
    ·rw[e] at h
     exact h _ T.length (.ref (T++[Ob.lst []]).length) (λn o q=>zaC (zaC (pr _ _ q))) lST (zaC (zaD _ _)) (.inr ⟨bs,_,rfl,rfl,zaD _ _,lST2⟩)
    ·rw[e] at h
     obtain⟨lr,sr⟩:=znc net sb hg hkn e
     have W:=zwT net sb hg hkn e
     have nlc:T.length≠(T++[Ob.lst []]).length:=by rw[Van]; have e1:([Ob.lst []]:Sto).length=1:=rfl; omega
     refine zck (zaC (zaC (pr _ _ hb))) ?_
     rw[Vaa]
     refine⟨⟨by omega,by omega⟩,λi dl' S'=>i≤bs.length∧Pre S S'∧S'[T.length]?=some (.lst ((shN ns zero kn g bs r i).1.map Ct.d))∧S'[(T++[Ob.lst []]).length]?=some (.lst ((shN ns zero kn g bs r i).2.map frD))∧∃u7 u8 u9:Option D,dl'=[some (.ref a),some (.tup [.str w,.int (kn:Int)]),some (.ref b),some (.int g),some (.ref mf),some (.ref T.length),some (.ref (T++[Ob.lst []]).length),u7,u8,u9],⟨Vao _,λn o q=>zaC (zaC (pr _ _ q)),zaC (zaD _ _),zaD _ _,_,_,_,rfl⟩,?_⟩
     rintro i dl' S' ⟨hi',pr',hc',hl',u7,u8,u9,rfl⟩
     refine zf9 (λic=>?_) (λic=>?_)
     ·have hib:i<bs.length:=by
       have z:i<((bs.length:Nat):Int).toNat:=ic
       omega
      have hir:i<r.length:=by omega
      have ir:inR ((r.length:Nat):Int) (i:Int):=⟨by omega,by omega⟩
      have K0:=zgD (ns:=ns) (zero:=zero) (k:=kn) (g:=g) sb lr i (by omega)
      have K1:=K0.step (c:=⟨i,(gt r (i:Int)).1-1,false⟩) (by show i<_; omega) (by show 2*i+0=_; omega)
      refine zsg (λdl2 S2=>Pre S S2∧S2[T.length]?=some (.lst ((zaJ ns zero kn g (shN ns zero kn g bs r i) (⟨i,(gt r (i:Int)).1-1,false⟩:Ct)).1.map Ct.d))∧S2[(T++[Ob.lst []]).length]?=some (.lst ((zaJ ns zero kn g (shN ns zero kn g bs r i) (⟨i,(gt r (i:Int)).1-1,false⟩:Ct)).2.map frD))∧∃u8 u9:Option D,dl2=[some (.ref a),some (.tup [.str w,.int (kn:Int)]),some (.ref b),some (.int g),some (.ref mf),some (.ref T.length),some (.ref (T++[Ob.lst []]).length),some (.int (i:Int)),u8,u9]) (λnx hn=>?_) ?_
      ·have iI:inR (((shN ns zero kn g bs r i).2.length:Nat):Int) (i:Int):=⟨by omega,by rw[K0.len]; omega⟩
       have sI:=K0.spn.at iI
       refine zaB (o:=.lst (r.map frD)) (pr' _ _ hr) (zaK ir) ?_
       refine zaB (o:=.lst ((shN ns zero kn g bs r i).2.map frD)) hl' (zaK iI) ?_
       refine zaB (o:=.lst ((shN ns zero kn g bs r i).2.map frD)) hl' (zaK iI) ?_
       have no:isS ns zero kn g (shN ns zero kn g bs r i).2 (⟨i,(gt r (i:Int)).1-1,false⟩:Ct)=false→∀T9:Sto,Pre S' T9→nx [some (.ref a),some (.tup [.str w,.int (kn:Int)]),some (.ref b),some (.int g),some (.ref mf),some (.ref T.length),some (.ref (T++[Ob.lst []]).length),some (.int (i:Int)),some (.int ((gt r (i:Int)).1-1)),some (.tup [.int (gt (shN ns zero kn g bs r i).2 (i:Int)).1,.int (if (gt (shN ns zero kn g bs r i).2 (i:Int)).1 > (gt r (i:Int)).1-1 then (gt (shN ns zero kn g bs r i).2 (i:Int)).1 else (gt r (i:Int)).1-1)])] T9:=λe T9 p9=>hn _ _ ⟨λn o q=>p9 _ _ (pr' _ _ q),by rw[zke e]; exact p9 _ _ hc',by rw[zke e]; exact p9 _ _ hl',_,_,rfl⟩
       refine zaB (o:=.lst ((shN ns zero kn g bs r i).2.map frD)) hl' (zaK iI) ?_
       refine ifD (λe1=>?_) (λe1=>no (zrH (λz=>e1 (show _ from z.1))) S' Pre.refl)
       have b1:(gt (shN ns zero kn g bs r i).2 (i:Int)).1<(gt r (i:Int)).1-1:=e1
       have b2:(gt r (i:Int)).1-1<(gt (shN ns zero kn g bs r i).2 (i:Int)).2:=zvG W sr lr hir
       have qz:=zjs (c:=(⟨i,(gt r (i:Int)).1-1,false⟩:Ct)) b1 b2 sI.2.1 sI.2.2
       refine⟨(shN ns zero kn g bs r i).2,Ct.off (⟨i,(gt r (i:Int)).1-1,false⟩:Ct) (gt (shN ns zero kn g bs r i).2 (i:Int)),hl',iI,by rw[K0.len]; exact l4,(by show D.tup [_,.int (if _ > _ then _ else _)]=_; rw[if_neg (by omega)]; rfl),λT5 m5 p5 lm5 h5=>?_⟩
       rw[Vad] at h5
       refine⟨ns,ws,_,zero,p5 _ _ (pr' _ _ ha),h5,hw,hk,by rw[VaA,K0.len]; exact net,K0.spn.set2 qz.2,hg,hl,λT6 p6=>?_⟩
       rw[Vad]
       have ei:=zrE (ns:=ns) (zero:=zero) (k:=kn) (g:=g) (bs:=(shN ns zero kn g bs r i).2) (c:=(⟨i,(gt r (i:Int)).1-1,false⟩:Ct)) b1 b2
       cases hs:ibS ns zero kn ((shN ns zero kn g bs r i).2.set i (Ct.off (⟨i,(gt r (i:Int)).1-1,false⟩:Ct) (gt (shN ns zero kn g bs r i).2 (i:Int)))) g with
       | false=>exact no (ei.trans hs) T6 (p5.trans p6)
       | true=>
        have es:isS ns zero kn g (shN ns zero kn g bs r i).2 (⟨i,(gt r (i:Int)).1-1,false⟩:Ct)=true:=ei.trans hs
        have hc6:=p6 _ _ (p5 _ _ hc')
        have hl6:=p6 _ _ (p5 _ _ hl')
        refine zb1 (n:=T.length) (S1:=T6) (xs:=(shN ns zero kn g bs r i).1.map Ct.d) (y:=Ct.d (⟨i,(gt r (i:Int)).1-1,false⟩:Ct)) (λK hK=>by exact hK) hc6 (λK hK=>by exact hK) (by rw[Vaa]; have:=K0.few; omega) ?_
        refine zdc (n:=(T++[Ob.lst []]).length) (k:=(i:Int)) (j:=i) (xs:=(shN ns zero kn g bs r i).2.map frD) (v:=frD (Ct.back (⟨i,(gt r (i:Int)).1-1,false⟩:Ct) (gt (shN ns zero kn g bs r i).2 (i:Int)))) (λK hK=>?_) (λK hK=>by exact hK) (λK hK=>by exact hK) (zaU hl6 nlc) (by rw[Vaa,zc3 iI]; rfl) ?_
        ·refine zaB (o:=.lst ((shN ns zero kn g bs r i).2.map frD)) (zaU hl6 nlc) (zaK iI) ?_
         exact hK
        rw[zdy]
        refine hn _ _ ⟨zbn (zbn (λn o q=>p6 _ _ (p5 _ _ (pr' _ _ q))) lST) lST2,?_,?_,_,_,rfl⟩
        ·rw[zkG es,Vaw]
         exact zaU (zbk hc6) (Ne.symm nlc)
        ·rw[zkG es]
         exact zbk (zaU hl6 nlc)
      clear hc' hl' pr'
      rintro dl2 S' ⟨pr',hc',hl',u8,u9,rfl⟩
      refine zvC (λdl2 S2=>Pre S S2∧S2[T.length]?=some (.lst ((zaJ ns zero kn g (zaJ ns zero kn g (shN ns zero kn g bs r i) ⟨i,(gt r (i:Int)).1-1,false⟩) (⟨i,(gt r (i:Int)).2+1,true⟩:Ct)).1.map Ct.d))∧S2[(T++[Ob.lst []]).length]?=some (.lst ((zaJ ns zero kn g (zaJ ns zero kn g (shN ns zero kn g bs r i) ⟨i,(gt r (i:Int)).1-1,false⟩) (⟨i,(gt r (i:Int)).2+1,true⟩:Ct)).2.map frD))∧∃u8 u9:Option D,dl2=[some (.ref a),some (.tup [.str w,.int (kn:Int)]),some (.ref b),some (.int g),some (.ref mf),some (.ref T.length),some (.ref (T++[Ob.lst []]).length),some (.int (i:Int)),u8,u9]) (λnx hn=>?_) ?_
      ·have iI:inR (((zaJ ns zero kn g (shN ns zero kn g bs r i) ⟨i,(gt r (i:Int)).1-1,false⟩).2.length:Nat):Int) (i:Int):=⟨by omega,by rw[K1.len]; omega⟩
       have sI:=K1.spn.at iI
       refine zaB (o:=.lst (r.map frD)) (pr' _ _ hr) (zaK ir) ?_
       refine zaB (o:=.lst ((zaJ ns zero kn g (shN ns zero kn g bs r i) ⟨i,(gt r (i:Int)).1-1,false⟩).2.map frD)) hl' (zaK iI) ?_
       refine zaB (o:=.lst ((zaJ ns zero kn g (shN ns zero kn g bs r i) ⟨i,(gt r (i:Int)).1-1,false⟩).2.map frD)) hl' (zaK iI) ?_
       have no:isS ns zero kn g (zaJ ns zero kn g (shN ns zero kn g bs r i) ⟨i,(gt r (i:Int)).1-1,false⟩).2 (⟨i,(gt r (i:Int)).2+1,true⟩:Ct)=false→∀T9:Sto,Pre S' T9→nx [some (.ref a),some (.tup [.str w,.int (kn:Int)]),some (.ref b),some (.int g),some (.ref mf),some (.ref T.length),some (.ref (T++[Ob.lst []]).length),some (.int (i:Int)),some (.int ((gt r (i:Int)).2+1)),some (.tup [.int (if (gt (zaJ ns zero kn g (shN ns zero kn g bs r i) ⟨i,(gt r (i:Int)).1-1,false⟩).2 (i:Int)).2<(gt r (i:Int)).2+1 then (gt (zaJ ns zero kn g (shN ns zero kn g bs r i) ⟨i,(gt r (i:Int)).1-1,false⟩).2 (i:Int)).2 else (gt r (i:Int)).2+1),.int (gt (zaJ ns zero kn g (shN ns zero kn g bs r i) ⟨i,(gt r (i:Int)).1-1,false⟩).2 (i:Int)).2])] T9:=λe T9 p9=>hn _ _ ⟨λn o q=>p9 _ _ (pr' _ _ q),by rw[zke e]; exact p9 _ _ hc',by rw[zke e]; exact p9 _ _ hl',_,_,rfl⟩
       refine zaB (o:=.lst ((zaJ ns zero kn g (shN ns zero kn g bs r i) ⟨i,(gt r (i:Int)).1-1,false⟩).2.map frD)) hl' (zaK iI) ?_
       refine ifD (λe1=>?_) (λe1=>no (zrH (λz=>e1 (show _ from z.2))) S' Pre.refl)
       have b1:(gt (zaJ ns zero kn g (shN ns zero kn g bs r i) ⟨i,(gt r (i:Int)).1-1,false⟩).2 (i:Int)).1<(gt r (i:Int)).2+1:=zyr W sr lr hir sb
       have b2:(gt r (i:Int)).2+1<(gt (zaJ ns zero kn g (shN ns zero kn g bs r i) ⟨i,(gt r (i:Int)).1-1,false⟩).2 (i:Int)).2:=e1
       have qz:=zjs (c:=(⟨i,(gt r (i:Int)).2+1,true⟩:Ct)) b1 b2 sI.2.1 sI.2.2
       refine⟨(zaJ ns zero kn g (shN ns zero kn g bs r i) ⟨i,(gt r (i:Int)).1-1,false⟩).2,Ct.off (⟨i,(gt r (i:Int)).2+1,true⟩:Ct) (gt (zaJ ns zero kn g (shN ns zero kn g bs r i) ⟨i,(gt r (i:Int)).1-1,false⟩).2 (i:Int)),hl',iI,by rw[K1.len]; exact l4,(by show D.tup [.int (if _<_ then _ else _),_]=_; rw[if_neg (by omega)]; rfl),λT5 m5 p5 lm5 h5=>?_⟩
       rw[Vad] at h5
       refine⟨ns,ws,_,zero,p5 _ _ (pr' _ _ ha),h5,hw,hk,by rw[VaA,K1.len]; exact net,K1.spn.set2 qz.2,hg,hl,λT6 p6=>?_⟩
       rw[Vad]
       have ei:=zrE (ns:=ns) (zero:=zero) (k:=kn) (g:=g) (bs:=(zaJ ns zero kn g (shN ns zero kn g bs r i) ⟨i,(gt r (i:Int)).1-1,false⟩).2) (c:=(⟨i,(gt r (i:Int)).2+1,true⟩:Ct)) b1 b2
       cases hs:ibS ns zero kn ((zaJ ns zero kn g (shN ns zero kn g bs r i) ⟨i,(gt r (i:Int)).1-1,false⟩).2.set i (Ct.off (⟨i,(gt r (i:Int)).2+1,true⟩:Ct) (gt (zaJ ns zero kn g (shN ns zero kn g bs r i) ⟨i,(gt r (i:Int)).1-1,false⟩).2 (i:Int)))) g with
       | false=>exact no (ei.trans hs) T6 (p5.trans p6)
       | true=>
        have es:isS ns zero kn g (zaJ ns zero kn g (shN ns zero kn g bs r i) ⟨i,(gt r (i:Int)).1-1,false⟩).2 (⟨i,(gt r (i:Int)).2+1,true⟩:Ct)=true:=ei.trans hs
        have hc6:=p6 _ _ (p5 _ _ hc')
        have hl6:=p6 _ _ (p5 _ _ hl')
        refine zb1 (n:=T.length) (S1:=T6) (xs:=(zaJ ns zero kn g (shN ns zero kn g bs r i) ⟨i,(gt r (i:Int)).1-1,false⟩).1.map Ct.d) (y:=Ct.d (⟨i,(gt r (i:Int)).2+1,true⟩:Ct)) (λK hK=>by exact hK) hc6 (λK hK=>by exact hK) (by rw[Vaa]; have:=K1.few; omega) ?_
        refine zdc (n:=(T++[Ob.lst []]).length) (k:=(i:Int)) (j:=i) (xs:=(zaJ ns zero kn g (shN ns zero kn g bs r i) ⟨i,(gt r (i:Int)).1-1,false⟩).2.map frD) (v:=frD (Ct.back (⟨i,(gt r (i:Int)).2+1,true⟩:Ct) (gt (zaJ ns zero kn g (shN ns zero kn g bs r i) ⟨i,(gt r (i:Int)).1-1,false⟩).2 (i:Int)))) (λK hK=>?_) (λK hK=>by exact hK) (λK hK=>by exact hK) (zaU hl6 nlc) (by rw[Vaa,zc3 iI]; rfl) ?_
        ·refine zaB (o:=.lst ((zaJ ns zero kn g (shN ns zero kn g bs r i) ⟨i,(gt r (i:Int)).1-1,false⟩).2.map frD)) (zaU hl6 nlc) (zaK iI) ?_
         exact hK
        rw[zdy]
        refine hn _ _ ⟨zbn (zbn (λn o q=>p6 _ _ (p5 _ _ (pr' _ _ q))) lST) lST2,?_,?_,_,_,rfl⟩
        ·rw[zkG es,Vaw]
         exact zaU (zbk hc6) (Ne.symm nlc)
        ·rw[zkG es]
         exact zbk (zaU hl6 nlc)
      rintro dl2 S2 ⟨pr2,hc2,hl2,u8,u9,rfl⟩
      exact⟨by omega,pr2,hc2,hl2,_,_,_,rfl⟩
     ·have ei:i=r.length:=by
       have z:¬ i<((bs.length:Nat):Int).toNat:=ic
       omega
      subst ei
      exact h S' T.length (.ref (T++[Ob.lst []]).length) pr' lST hc' (.inr ⟨_,_,rfl,rfl,hl',lST2⟩)
  ·exact h.elim⟩)
def zvZ  (zni:Df K mg "bars" zm9 zg0):Fk P w K mg base 1 "bars" zg0 zhm:=
 zni.mk' (zax (k:=0) zni.F zsK (zvN) λcdv A outer s H E hr=>⟨_,(zae (zav (zas (zaI hr) (dv 0) zaH (zaq _)) (zag (zak (zoR (zb6 zcZ (zad (dv 1) zab (λ_ _=>rfl)) zab (zaq _)) (ze5 (zb6 zbi (zad (dv 1) zab (λ_ _=>rfl)) zab (zaq _)))))) zaw) (zag (zak (zb6 zbi (zad (dv 1) zab (λ_ _=>rfl)) zab (zaq _))))),λds S Q ex h=>by
  unfold zhm at h
  split at h
  ·rcases h with ⟨rfl,h⟩ | ⟨rfl,h⟩
   ·refine ifD (λc=>?_) (λc=>?_)
    ·rw[decide_eq_true c,Bool.true_or] at h
     exact h
    ·rw[decide_eq_false c,Bool.false_or] at h
     exact h
   ·exact h
  ·exact h.elim⟩)
def zwB  (zlB:Df K mg "is_barred" zjw zfm)(zo8:Fk P w K mg base 1 "bars" zg0 zhm)(zfS:Fk P w K mg base 4 "worths" zfs zfA):Fk P w K mg base 5 "is_barred" zfm ze7:=
 zlB.mk' (zax (k:=4) zlB.F zpw (zve) λcdv A outer s H E hr=>⟨_,(zae (zam (i:=4) zpw.nd rfl (Or.inl rfl) (zad (dv 1) zab (λ_ _=>rfl))) (zag (zak (zan zo8 hr (zaa (zad (dv 1) zab (λ_ _=>rfl)) (zaa (zaG (zan zfS hr (zaa (zdK (dv 0) zeV (zcO (zaf zaT (dv 4) zab))) (zaa (dv 2) (zaa (dv 3) zac)))) (dv 4) (λ_ _=>rfl)) zac)))))),λds S Q ex h=>by
  unfold ze7 at h
  split at h
  ·rename_i a w k b g
   obtain⟨ns,ws,bs,zero,ha,hb,hw,⟨k0,k1⟩,net,sb,hg,hl,h⟩:=h
   obtain⟨kn,rfl⟩:∃kn:Nat,k=(kn:Int):=⟨k.toNat,by omega⟩
   rw[Vad] at h
   refine zds (n:=a) (o:=.lst (ns.map Nd.d)) (lo:=none) (hi:=some ((kn:Int)+1)) (S3:=S) (λK hK=>by exact hK) (λK hK=>by exact hK) (λK hK=>by exact hK) ha ?_
   have ec:zaZ (ns.map Nd.d) none (some ((kn:Int)+1))=(ns.take (kn+1)).map Nd.d:=by
    rw[zhk (by omega) (by rw[Vaa]; omega),List.map_take]
    rfl
   rw[show zaz (Ob.lst (ns.map Nd.d))=ns.map Nd.d from rfl,ec]
   refine⟨ns.take (kn+1),ws.take (kn+1),bs,zaD _ _,zaC hb,net.take _,sb,hg,by rw[Vah]; omega,λT m pr lm hf=>?_⟩
   have prS:Pre S T:=λn o e=>pr n o (zaC e)
   have l1:(zaE bs g (ns.take (kn+1))).length=kn+1:=by rw[zcd,Vah]; omega
   have ik:inR (((zaE bs g (ns.take (kn+1))).length:Nat):Int) (kn:Int):=⟨by omega,by omega⟩
   refine zaB (o:=.lst ((zaE bs g (ns.take (kn+1))).map frD)) hf (zaK ik) ?_
   rcases hw with ⟨rfl,rfl⟩ | ⟨rfl,rfl⟩
   ·exact .inl ⟨rfl,h T prS⟩
   ·exact .inr ⟨rfl,h T prS⟩
  ·exact h.elim⟩)
def zwD  (znp:Df K mg "with_span" ziJ zhw):Fk P w K mg base 1 "with_span" zhw zfY:=
 znp.mk' (zax (k:=0) znp.F zxk (ztF) λcdv A outer s H E hr=>⟨_,(zag (zak (zaf znR (zaf znR (zdK (dv 0) zeV (zcO (dv 1))) (za8 (zaa (dv 2) zac))) (zdK (dv 0) (zcO (zaf zaT (dv 1) zab)) zeV)))),λds S Q ex h=>by
  unfold zfY at h
  split at h
  ·rename_i b k d
   obtain⟨bs,p,hb,⟨k0,k1⟩,l4,rfl,h⟩:=h
   obtain⟨kn,rfl⟩:∃kn:Nat,k=(kn:Int):=⟨k.toNat,by omega⟩
   rw[Vad] at h
   have c1:=zoT (α:=Nat) (xs:=bs.map frD) (lo:=none) (hi:=some (kn:Int))
   have c2:=zoT (α:=Nat) (xs:=bs.map frD) (lo:=some ((kn:Int)+1)) (hi:=none)
   rw[Vaa] at c1 c2
   refine zds (n:=b) (o:=.lst (bs.map frD)) (lo:=none) (hi:=some (kn:Int)) (S3:=S) (λK hK=>by exact hK) (λK hK=>by exact hK) (λK hK=>by exact hK) hb ?_
   rw[show zaz (Ob.lst (bs.map frD))=bs.map frD from rfl]
   refine zoL (n:=S.length) (m:=(S++[Ob.lst (zaZ (bs.map frD) none (some (kn:Int)))]).length) (xs:=zaZ (bs.map frD) none (some (kn:Int))) (ys:=[frD p]) (zaC (zaD _ _)) (zaD _ _) (by show (zaZ (bs.map frD) none (some (kn:Int))).length+1≤1000; omega) ?_
   refine zds (n:=b) (o:=.lst (bs.map frD)) (lo:=some ((kn:Int)+1)) (hi:=none) (S3:=S++[Ob.lst (zaZ (bs.map frD) none (some (kn:Int)))]++[Ob.lst [frD p]]++[Ob.lst (zaZ (bs.map frD) none (some (kn:Int))++[frD p])]) (λK hK=>by exact hK) (λK hK=>by exact hK) (λK hK=>by exact hK) (zaC (zaC (zaC hb))) ?_
   rw[show zaz (Ob.lst (bs.map frD))=bs.map frD from rfl]
   refine zoL (xs:=zaZ (bs.map frD) none (some (kn:Int))++[frD p]) (ys:=zaZ (bs.map frD) (some ((kn:Int)+1)) none) (zaC (zaD _ _)) (zaD _ _) (by rw[Van]; show (zaZ (bs.map frD) none (some (kn:Int))).length+1+_≤1000; omega) ?_
   rw[zr1 (α:=Nat) (by omega)]
   refine h _ _ ?_ ?_ (zaD _ _)
   ·exact λn o e=>zaC (zaC (zaC (zaC (zaC e))))
   ·simp only[Van]
    omega
  ·exact h.elim⟩)
def zxa  (zk0:Df K mg "cut_off" zma zgq):Fk P w K mg base 1 "cut_off" zgq zf5:=
 zk0.mk' (zax (k:=0) zk0.F zyL (zxs) λcdv A outer s H E hr=>⟨_,(zag (zak (zc5 (zas (zaI hr) (zad (dv 1) zab (λ_ _=>rfl)) zab (zaq _)) (zat (zaa (zad (dv 0) zab (λ_ _=>rfl)) (zaa (zad (dv 1) zab (λ_ _=>rfl)) zac))) (zat (zaa (zad (dv 1) zab (λ_ _=>rfl)) (zaa (zad (dv 0) zab (λ_ _=>rfl)) zac)))))),λds S Q ex h=>by
  unfold zf5 at h
  split at h
  ·rename_i a b d
   obtain⟨⟨k,p,s⟩,rfl,h⟩:=h
   cases s <;> exact h
  ·exact h.elim⟩)
def zwa  (zjI:Df K mg "is_shave" zlC zh8)(zfd:Fk P w K mg base 5 "is_barred" zfm ze7)(zpq:Fk P w K mg base 1 "with_span" zhw zfY)(zpp:Fk P w K mg base 1 "cut_off" zgq zf5):Fk P w K mg base 6 "is_shave" zh8 zgZ:=
 zjI.mk' (zax (k:=5) zjI.F zn5 (zyD) λcdv A outer s H E hr=>⟨_,(zae (zam (i:=5) zn5.nd rfl (Or.inl rfl) (zad (dv 4) zab (λ_ _=>rfl))) (zae (zam (i:=6) zn5.nd rfl (Or.inl rfl) (zaG (dv 2) (dv 5) (λ_ _=>rfl))) (zae (zav (zcs (znA zbi zbi (zad (dv 6) zab (λ_ _=>rfl)) (zad (dv 4) zab (λ_ _=>rfl)) (zad (dv 6) zab (λ_ _=>rfl)))) (zag (zak zcx)) zaw) (zag (zak (zan zfd hr (zaa (dv 0) (zaa (dv 1) (zaa (zan zpq hr (zaa (dv 2) (zaa (dv 5) (zaa (zan zpp hr (zaa (dv 6) (zaa (dv 4) zac))) zac)))) (zaa (dv 3) zac)))))))))),λds S Q ex h=>by
  unfold zgZ at h
  split at h
  ·rename_i a w k b g d
   obtain⟨ns,ws,bs,zero,c,ha,hb,hw,hk,net,sb,hg,hl,rfl,hc,l4,h⟩:=h
   have ik:inR ((bs.length:Nat):Int) (c.k:Int):=⟨by omega,by omega⟩
   have sz:=sb.at ik
   refine zaB (o:=.lst (bs.map frD)) hb (zaK ik) ?_
   have no:¬ ((gt bs (c.k:Int)).1<c.p∧c.p<(gt bs (c.k:Int)).2)→Q (.bl false) S:=λn=>by
    have z:=h S Pre.refl
    have e:isS ns zero k.toNat g bs c=false:=by
     unfold isS
     rw[show (decide ((gt bs (c.k:Int)).1<c.p)&&decide (c.p<(gt bs (c.k:Int)).2))=false by
      rw[← Bool.not_eq_true,Bool.and_eq_true,decide_eq_true_eq,decide_eq_true_eq]
      exact n]
     rfl
    rw[e] at z
    exact z
   refine ifD (λc1=>?_) (λc1=>no λz=>c1 z.1)
   refine ifN (λc2=>no λz=>c2 z.2) (λc2=>?_)
   have q:=zjs (c:=c) c1 c2 sz.2.1 sz.2.2
   refine⟨c,rfl,?_⟩
   refine⟨bs,c.off (gt bs (c.k:Int)),hb,ik,l4,rfl,λT m pr lm hT=>?_⟩
   rw[Vad] at hT
   have ln:(bs.set c.k (c.off (gt bs (c.k:Int)))).length=bs.length:=VaA ..
   refine⟨ns,ws,_,zero,pr _ _ ha,hT,hw,hk,by rw[ln]; exact net,sb.set2 q.2,hg,hl,λT2 pr2=>?_⟩
   have z:=h T2 (pr.trans pr2)
   have e:isS ns zero k.toNat g bs c=ibS ns zero k.toNat (bs.set c.k (c.off (gt bs (c.k:Int)))) g:=by
    unfold isS
    rw[decide_eq_true c1,decide_eq_true c2]
    rfl
   rw[e] at z
   exact z
  ·exact h.elim⟩)
def zt4  (zjE:Df K mg "cut_back" zmS zgf):Fk P w K mg base 1 "cut_back" zgf zhl:=
 zjE.mk' (zax (k:=0) zjE.F zr3 (zxE) λcdv A outer s H E hr=>⟨_,(zag (zak (zc5 (zas (zaI hr) (zad (dv 1) zab (λ_ _=>rfl)) zab (zaq _)) (zat (zaa (zad (dv 1) zab (λ_ _=>rfl)) (zaa (zad (dv 0) zab (λ_ _=>rfl)) zac))) (zat (zaa (zad (dv 0) zab (λ_ _=>rfl)) (zaa (zad (dv 1) zab (λ_ _=>rfl)) zac)))))),λds S Q ex h=>by
  unfold zhl at h
  split at h
  ·rename_i a b d
   obtain⟨⟨k,p,s⟩,rfl,h⟩:=h
   cases s <;> exact h
  ·exact h.elim⟩)
def zyU  (zm1:Df K mg "shaves" zlS zhr)(zn2:Fk P w K mg base 6 "is_shave" zh8 zgZ)(zo3:Fk P w K mg base 1 "cut_back" zgf zhl)(zez:Fk P w K mg base 9 "narrowed" zeY zfD)(zfd:Fk P w K mg base 5 "is_barred" zfm ze7)(zcy:mg "enumerate"=none)(zba:mg "list"=none):Fk P w K mg base 10 "shaves" zhr zhB:=
 zm1.mk' (zax (k:=9) zm1.F zeR (zul) λcdv A outer s H E hr=>⟨_,(zae (zav (zbq (zan zfd hr (zaa (dv 0) (zaa (dv 1) (zaa (dv 2) (zaa (dv 3) zac)))))) (zag (zak (zat (zaa (za8 zac) (zaa za0 zac))))) zaw) (zae (zam (i:=4) zeR.nd rfl (Or.inl rfl) (zdo (za7 zdH) rfl zba Boot.«list» (zaa (dv 2) zac))) (zae (zam (i:=5) zeR.nd rfl (Or.inl rfl) (zan zez hr (zaa (dv 0) (zaa (dv 1) (zaa (dv 2) (zaa (dv 3) zac)))))) (zae (zav (zas zbN (dv 5) za0 (zaq _)) (zag (zak (zat (zaa (za8 zac) (zaa (dv 4) zac))))) zaw) (zae (zam (i:=6) zeR.nd rfl (Or.inl rfl) (za8 zac)) (zae (zqk (is:=[7,8]) PassesOwn.never rfl zeR.nd (Nms.cons (i:=7) rfl (Or.inl rfl) (by first | exact .inl rfl | exact .inr rfl) (Nms.cons (i:=8) rfl (Or.inl rfl) (by first | exact .inl rfl | exact .inr rfl) Nms.nil)) rfl rfl zcy Boot.«enumerate» (zaa (dv 5) zac) (zag (zt7 (i:=9) PassesOwn.never rfl zeR.nd rfl (Or.inl rfl) (zat (zaa (zat (zaa (dv 7) (zaa (zaf zbl (zad (dv 8) zab (λ_ _=>rfl)) zab) (zaa zab zac)))) (zaa (zat (zaa (dv 7) (zaa (zaf zaT (zad (dv 8) zab (λ_ _=>rfl)) zab) (zaa zab zac)))) zac))) (zag (zav (zbq (zan zn2 hr (zaa (dv 0) (zaa (dv 1) (zaa (dv 4) (zaa (dv 3) (zaa (dv 9) zac))))))) (zae (zbJ (zbK (dv 6) (dv 9))) (zag (zdO (dv 4) (dv 7) (zan zo3 hr (zaa (zaG (dv 4) (dv 7) (λ_ _=>rfl)) (zaa (dv 9) zac)))))) zaw))))) (zag (zak (zat (zaa (dv 6) (zaa (dv 4) zac))))))))))),λds S Q ex h=>by
  unfold zhB at h
  split at h
  ·rename_i a w k b g
   obtain⟨ns,ws,bs,zero,ha,hb,hw,hk,net,sb,hg,hl,l4,h⟩:=h
   obtain⟨kn,rfl⟩:∃kn:Nat,k=(kn:Int):=⟨k.toNat,by have:=hk.1; omega⟩
   have hkn:kn<ns.length:=by have:=hk.2; omega
   rw[Vad] at h
   refine⟨ns,ws,bs,zero,ha,hb,hw,hk,net,sb,hg,hl,λT pr=>?_⟩
   rw[Vad]
   unfold shS at h
   cases hi:ibS ns zero kn bs g with
   | true=>
    rw[hi] at h
    exact h _ T.length .non (zc2 pr _) (by have:=zgE pr; omega) (zaD _ _) (.inl ⟨rfl,rfl⟩)
   | false=>
    rw[hi] at h
    have lST:=zgE pr
    refine zdt (zbg (pr _ _ hb) rfl) ?_
    refine⟨ns,ws,bs,zero,zaC (pr _ _ ha),zaC (pr _ _ hb),hw,hk,net,sb,hg,hl,?_,?_⟩
    ·rw[Vad]
     intro e T2 pr2
     rw[e] at h
     have lT2:T.length<T2.length:=zbQ (pr2 _ _ (zaD T (.lst (bs.map frD))))
     exact h _ T2.length (.ref T.length) (λn o e=>zaC (pr2 _ _ (zaC (pr _ _ e)))) (by omega) (zaD _ _) (.inr ⟨bs,T.length,rfl,rfl,zaC (pr2 _ _ (zaD _ _)),lST⟩)
    ·rw[Vad]
     intro r T2 m2 e pr2 lm2 hr2
     rw[e] at h
     obtain⟨lr,sr⟩:=znc net sb hg hkn e
     have lT2:T.length<T2.length:=zbQ (pr2 _ _ (zaD T (.lst (bs.map frD))))
     have lm2':T.length<m2:=by
      have z:(T++[Ob.lst (bs.map frD)]).length≤m2:=lm2
      rw[Van] at z
      have e1:([Ob.lst (bs.map frD)]:Sto).length=1:=rfl
      omega
     have l22:m2<T2.length:=zbQ hr2
     have hml:T2[T.length]?=some (.lst (bs.map frD)):=pr2 _ _ (zaD _ _)
     have prS2:Pre S T2:=λn o e=>pr2 _ _ (zaC (pr _ _ e))
     have nlc:T.length≠T2.length:=by omega
     have nuc:m2≠T2.length:=by omega
     have nul:m2≠T.length:=by omega
     have lmc:S.length≤T2.length:=by omega
     have lml:S.length≤T.length:=by omega
     refine zqr (n:=m2) (xs:=r.map frD) (S1:=T2++[.lst []]) (λi dl' S'=>i≤r.length∧Pre S S'∧S'[m2]?=some (.lst (r.map frD))∧S'[T2.length]?=some (.lst ((shN ns zero kn g bs r i).1.map Ct.d))∧S'[T.length]?=some (.lst ((shN ns zero kn g bs r i).2.map frD))∧∃u7 u8 u9:Option D,dl'=[some (.ref a),some (.tup [.str w,.int (kn:Int)]),some (.ref b),some (.int g),some (.ref T.length),some (.ref m2),some (.ref T2.length),u7,u8,u9]) (λK hK=>by exact hK) (λi dl' S' z=>z.2.2.1) ⟨Vao _,zc2 prS2 _,zaC hr2,zaD _ _,zaC hml,_,_,_,rfl⟩ ?_ ?_
     ·rintro i x dl' S' nx ct ex' ⟨hi',pr',hu',hc',hl',u7,u8,u9,rfl⟩ hn
      rw[Vai] at ex'
      obtain⟨p,hp,rfl⟩:=Vaq.mp ex'
      have hii:=(Vac.mp hp).1
      have ep:p=gt r (i:Int):=(gt_at hp).symm
      subst ep
      let qj:Nat→Nat→List Ct×List (Int×Int):=λi j=>((cand i (gt r (i:Int))).take j).foldl (zaJ ns zero kn g) (shN ns zero kn g bs r i)
      have C0:=zgD (ns:=ns) (zero:=zero) (k:=kn) (g:=g) sb lr i (by omega)
      have C1:zdF ns zero kn g bs (2*i+1) (qj i 1):=C0.step (c:=⟨i,(gt r (i:Int)).1-1,false⟩) (by show i<_; omega) (by show 2*i+0=_; omega)
      refine⟨λj dl2 S2=>j≤2∧Pre S S2∧S2[m2]?=some (.lst (r.map frD))∧S2[T2.length]?=some (.lst ((qj i j).1.map Ct.d))∧S2[T.length]?=some (.lst ((qj i j).2.map frD))∧∃u9:Option D,dl2=[some (.ref a),some (.tup [.str w,.int (kn:Int)]),some (.ref b),some (.int g),some (.ref T.length),some (.ref m2),some (.ref T2.length),some (.int (i:Int)),some (frD (gt r (i:Int))),u9],⟨by decide,pr',hu',hc',hl',_,rfl⟩,?_⟩
      rintro j dl2 S2 ⟨hj,pr4,hu4,hc4,hl4,u9,rfl⟩
      rcases j with _ | _ | j
      ·skip
       refine⟨ns,ws,(shN ns zero kn g bs r i).2,zero,(⟨i,(gt r (i:Int)).1-1,false⟩:Ct),pr4 _ _ ha,hl4,hw,hk,by rw[C0.len]; exact net,C0.spn,hg,hl,rfl,by rw[C0.len]; show i<_; omega,by rw[C0.len]; exact l4,λT5 pr5=>?_⟩
       rw[Vad]
       have iI:inR (((shN ns zero kn g bs r i).2.length:Nat):Int) (i:Int):=⟨by omega,by rw[C0.len]; omega⟩
       have pr6:Pre S T5:=λn o e=>pr5 _ _ (pr4 _ _ e)
       cases hs:isS ns zero kn g (shN ns zero kn g bs r i).2 (⟨i,(gt r (i:Int)).1-1,false⟩:Ct) with
       | false=>
        refine⟨by omega,pr6,pr5 _ _ hu4,?_,?_,_,rfl⟩
        ·rw[show qj i 1=zaJ ns zero kn g (shN ns zero kn g bs r i) ⟨i,(gt r (i:Int)).1-1,false⟩ from rfl,zaJ,if_neg (by rw[hs]; decide)]
         exact pr5 _ _ hc4
        ·rw[show qj i 1=zaJ ns zero kn g (shN ns zero kn g bs r i) ⟨i,(gt r (i:Int)).1-1,false⟩ from rfl,zaJ,if_neg (by rw[hs]; decide)]
         exact pr5 _ _ hl4
       | true=>
        refine zb1 (n:=T2.length) (S1:=T5) (xs:=(shN ns zero kn g bs r i).1.map Ct.d) (y:=Ct.d (⟨i,(gt r (i:Int)).1-1,false⟩:Ct)) (λK hK=>by exact hK) (pr5 _ _ hc4) (λK hK=>by exact hK) (by rw[Vaa]; have:=C0.few; omega) ?_
        refine zdc (n:=T.length) (k:=(i:Int)) (j:=i) (xs:=(shN ns zero kn g bs r i).2.map frD) (v:=frD (Ct.back (⟨i,(gt r (i:Int)).1-1,false⟩:Ct) (gt (shN ns zero kn g bs r i).2 (i:Int)))) (λK hK=>?_) (λK hK=>by exact hK) (λK hK=>by exact hK) (zaU (pr5 _ _ hl4) (Ne.symm nlc)) (by rw[Vaa,zc3 iI]; rfl) ?_
        ·refine zaB (o:=.lst ((shN ns zero kn g bs r i).2.map frD)) (zaU (pr5 _ _ hl4) (Ne.symm nlc)) (zaK iI) ?_
         exact⟨(⟨i,(gt r (i:Int)).1-1,false⟩:Ct),rfl,hK⟩
        rw[zdy]
        refine⟨by omega,zbn (zbn pr6 lmc) lml,zaU (zaU (pr5 _ _ hu4) (Ne.symm nuc)) (Ne.symm nul),?_,?_,_,rfl⟩
        ·rw[show qj i 1=zaJ ns zero kn g (shN ns zero kn g bs r i) ⟨i,(gt r (i:Int)).1-1,false⟩ from rfl,zaJ,if_pos hs,Vaw]
         exact zaU (zbk (pr5 _ _ hc4)) nlc
        ·rw[show qj i 1=zaJ ns zero kn g (shN ns zero kn g bs r i) ⟨i,(gt r (i:Int)).1-1,false⟩ from rfl,zaJ,if_pos hs]
         exact zbk (zaU (pr5 _ _ hl4) (Ne.symm nlc))
      ·skip
       refine⟨ns,ws,(qj i 1).2,zero,(⟨i,(gt r (i:Int)).2+1,true⟩:Ct),pr4 _ _ ha,hl4,hw,hk,by rw[C1.len]; exact net,C1.spn,hg,hl,rfl,by rw[C1.len]; show i<_; omega,by rw[C1.len]; exact l4,λT5 pr5=>?_⟩
       rw[Vad]
       have iI:inR (((qj i 1).2.length:Nat):Int) (i:Int):=⟨by omega,by rw[C1.len]; omega⟩
       have pr6:Pre S T5:=λn o e=>pr5 _ _ (pr4 _ _ e)
       cases hs:isS ns zero kn g (qj i 1).2 (⟨i,(gt r (i:Int)).2+1,true⟩:Ct) with
       | false=>
        refine⟨by omega,pr6,pr5 _ _ hu4,?_,?_,_,rfl⟩
        ·rw[show qj i 2=zaJ ns zero kn g (qj i 1) ⟨i,(gt r (i:Int)).2+1,true⟩ from rfl,zaJ,if_neg (by rw[hs]; decide)]
         exact pr5 _ _ hc4
        ·rw[show qj i 2=zaJ ns zero kn g (qj i 1) ⟨i,(gt r (i:Int)).2+1,true⟩ from rfl,zaJ,if_neg (by rw[hs]; decide)]
         exact pr5 _ _ hl4
       | true=>
        refine zb1 (n:=T2.length) (S1:=T5) (xs:=(qj i 1).1.map Ct.d) (y:=Ct.d (⟨i,(gt r (i:Int)).2+1,true⟩:Ct)) (λK hK=>by exact hK) (pr5 _ _ hc4) (λK hK=>by exact hK) (by rw[Vaa]; have:=C1.few; omega) ?_
        refine zdc (n:=T.length) (k:=(i:Int)) (j:=i) (xs:=(qj i 1).2.map frD) (v:=frD (Ct.back (⟨i,(gt r (i:Int)).2+1,true⟩:Ct) (gt (qj i 1).2 (i:Int)))) (λK hK=>?_) (λK hK=>by exact hK) (λK hK=>by exact hK) (zaU (pr5 _ _ hl4) (Ne.symm nlc)) (by rw[Vaa,zc3 iI]; rfl) ?_
        ·refine zaB (o:=.lst ((qj i 1).2.map frD)) (zaU (pr5 _ _ hl4) (Ne.symm nlc)) (zaK iI) ?_
         exact⟨(⟨i,(gt r (i:Int)).2+1,true⟩:Ct),rfl,hK⟩
        rw[zdy]
        refine⟨by omega,zbn (zbn pr6 lmc) lml,zaU (zaU (pr5 _ _ hu4) (Ne.symm nuc)) (Ne.symm nul),?_,?_,_,rfl⟩
        ·rw[show qj i 2=zaJ ns zero kn g (qj i 1) ⟨i,(gt r (i:Int)).2+1,true⟩ from rfl,zaJ,if_pos hs,Vaw]
         exact zaU (zbk (pr5 _ _ hc4)) nlc
        ·rw[show qj i 2=zaJ ns zero kn g (qj i 1) ⟨i,(gt r (i:Int)).2+1,true⟩ from rfl,zaJ,if_pos hs]
         exact zbk (zaU (pr5 _ _ hl4) (Ne.symm nlc))
      ·have ej:j=0:=by omega
       subst ej
       exact hn _ _ ⟨by omega,pr4,hu4,hc4,hl4,_,_,_,rfl⟩
     ·rintro dl' S' ⟨hi',pr',hu',hc',hl',u7,u8,u9,rfl⟩
      rw[Vaa] at hc' hl'
      exact h S' T2.length (.ref T.length) pr' lmc hc' (.inr ⟨_,T.length,rfl,rfl,hl',lml⟩)
  ·exact h.elim⟩)
def zwh  (zkx:Df K mg "_law_whole" zna zel)(zbp:mg "isinstance"=none)(zdW:mg "bool"=none)(zdr:mg "int"=none)(zew:Kit K "bool")(zeo:Kit K "int"):Fk P w K mg base 1 "_law_whole" zel zfy:=
 zkx.mk' (zax (k:=0) zkx.F zs8 (zt8) λcdv A outer s H E hr=>⟨_,(zag (zak (zf2 (zgr zeo rfl zbp rfl zdr Boot.«int» (dv 0)) (ze5 (zu8 (zgr zew rfl zbp rfl zdW Boot.«bool» (dv 0))))))),λds S Q ex h=>by
  unfold zfy at h
  split at h
  ·exact h
  ·exact h.elim⟩)
def zsa  (zkA:Df K mg "_law_span_is" zm4 zhK)(zdj:Fk P w K mg base 1 "_law_whole" zel zfy)(zaR:mg "len"=none)(zbp:mg "isinstance"=none)(zcm:mg "tuple"=none)(zcN:Kit K "tuple"):Fk P w K mg base 2 "_law_span_is" zhK zhi:=
 zkA.mk' (zax (k:=1) zkA.F ztD (zxu) λcdv A outer s H E hr=>⟨_,(zae (zav (PDW.pt (zbV (zcs (zbq (zgr zcN rfl zbp rfl zcm Boot.«tuple» (dv 0)))) (zcG (zas (ziQ hr) (zaP zbC rfl zaR Boot.«len» (zaa (dv 0) zac)) zab (zaq _))))) (zag (zak zcx)) zaw) (zag (zak (zf2 (zan zdj hr (zaa (zad (dv 0) zab (λ_ _=>rfl)) zac)) (zf2 (zan zdj hr (zaa (zad (dv 0) zab (λ_ _=>rfl)) zac)) (ze5 (zb6 zd6 (zad (dv 0) zab (λ_ _=>rfl)) (zad (dv 0) zab (λ_ _=>rfl)) (zaq _)))))))),λds S Q ex h=>by
  unfold zhi at h
  split at h
  ·obtain⟨hab,h⟩:=h
   exact qt (Q:=Q) (decide_eq_true hab) h
  ·exact h.elim⟩)
def zva  (zne:Df K mg "_law_spans_are" zlR zfp)(zoD:Fk P w K mg base 2 "_law_span_is" zhK zhi)(zaR:mg "len"=none)(zbp:mg "isinstance"=none)(zba:mg "list"=none):Fk P w K mg base 3 "_law_spans_are" zfp zeu:=
 zne.mk' (zax (k:=2) zne.F zrh (ztf) λcdv A outer s H E hr=>⟨_,(zae (zav (PDW.pt (zbV (zcs (zbq (zrL (zqw _) rfl zbp rfl zba Boot.«list» (dv 0)))) (zcG (zas (ziQ hr) (zaP (za7 zbC) rfl zaR Boot.«len» (zaa (dv 0) zac)) (dv 1) (zaq _))))) (zag (zak zcx)) zaw) (zae (zda (i:=2) PassesOwn.never rfl zrh.nd rfl (Or.inl rfl) (dv 0) (zag (zav (zcs (zbq (zan zoD hr (zaa (dv 2) zac)))) (zag (zak zcx)) zaw))) (zag (zak zcx)))),λds S Q ex h=>by
  unfold zeu at h
  split at h
  ·rename_i a m
   obtain⟨vs,h1,rfl,hp,h⟩:=h
   refine zpu (n:=a) (λK hK=>by exact hK) h1 ?_
   refine zbO ?_
   refine zck h1 ?_
   rw[Vaa]
   refine ifN (λc=>absurd rfl c) (λ_=>?_)
   refine zc6 (n:=a) (o:=.lst (vs.map frD)) (λk dl' S'=>S'=S∧∃u:Option D,dl'=[some (.ref a),some (.int (vs.length:Nat)),u]) ⟨rfl,_,rfl⟩ (λk dl' S' w=>by rw[w.1]; exact h1) ?_ (λdl' S' w=>by rw[w.1]; exact h)
   rintro k x dl' S' nx ct ex' ⟨rfl,u,rfl⟩ hn
   obtain⟨p,hpm,rfl⟩:=List.mem_map.mp (Vat ex')
   refine⟨hp p hpm,?_⟩
   exact hn _ _ ⟨rfl,_,rfl⟩
  ·exact h.elim⟩)
def zwZ  (zi0:Df K mg "_law_cuts_are" zmg zhn)(zer:Fk P w K mg base 3 "_law_spans_are" zfp zeu)(zdj:Fk P w K mg base 1 "_law_whole" zel zfy)(zaR:mg "len"=none)(zbp:mg "isinstance"=none)(zcm:mg "tuple"=none)(zba:mg "list"=none)(zcN:Kit K "tuple"):Fk P w K mg base 4 "_law_cuts_are" zhn zg2:=
 zi0.mk' (zax (k:=3) zi0.F zp2 (zsA) λcdv A outer s H E hr=>⟨_,(zae (zav (PDW.pt (zbV (zcs (zbq (zgr zcN rfl zbp rfl zcm Boot.«tuple» (dv 0)))) (zbV (zas (ziQ hr) (zaP (za7 zbC) rfl zaR Boot.«len» (zaa (dv 0) zac)) zab (zaq _)) (zcG (zcs (zbq (zrL (zqw _) rfl zbp rfl zba Boot.«list» (zad (dv 0) zab (λ_ _=>rfl))))))))) (zag (zak zcx)) zaw) (zae (zda (i:=2) PassesOwn.never rfl zp2.nd rfl (Or.inl rfl) (zad (dv 0) zab (λ_ _=>rfl)) (zae (zav (PDW.pt (zbV (zcs (zbq (zgr zcN rfl zbp rfl zcm Boot.«tuple» (dv 2)))) (zcG (zas (ziQ hr) (zaP (za7 zbC) rfl zaR Boot.«len» (zaa (dv 2) zac)) zab (zaq _))))) (zag (zak zcx)) zaw) (zae (zav (PDW.pt (zbV (zcs (zbq (zan zdj hr (zaa (zad (dv 2) zab (λ_ _=>rfl)) zac)))) (zbV (zcs (zbq (zan zdj hr (zaa (zad (dv 2) zab (λ_ _=>rfl)) zac)))) (zcG (zcs (zbq (zan zdj hr (zaa (zad (dv 2) zab (λ_ _=>rfl)) zac)))))))) (zag (zak zcx)) zaw) (zag (zav (PDW.pt (zbV (zas zbi (zad (dv 2) zab (λ_ _=>rfl)) zab (zaq _)) (zbV (zas zqy (zad (dv 2) zab (λ_ _=>rfl)) (dv 1) (zaq _)) (zbV (zas zbi (zad (dv 2) zab (λ_ _=>rfl)) zab (zaq _)) (zcG (zas zcZ (zad (dv 2) zab (λ_ _=>rfl)) zab (zaq _))))))) (zag (zak zcx)) zaw))))) (zag (zak (zoR (zb6 zbN (zad (dv 0) zab (λ_ _=>rfl)) za0 (zaq _)) (ze5 (zan zer hr (zaa (zad (dv 0) zab (λ_ _=>rfl)) (zaa (dv 1) zac))))))))),λds S Q ex h=>by
  unfold zg2 at h
  split at h
  ·rename_i c fd m
   obtain⟨cs,hc,hm,hf,h⟩:=h
   refine zrB (xs:=[.ref c,fd]) ?_
   refine zpu (n:=c) (λK hK=>by exact hK) hc ?_
   refine zc6 (n:=c) (o:=.lst (cs.map Ct.d)) (λi dl' S'=>S=S'∧∃u:Option D,dl'=[some (.tup [.ref c,fd]),some (.int m),u]) ⟨rfl,_,rfl⟩ (λi dl' S' z=>z.1 ▸ hc) ?_ ?_
   ·rintro i x dl' S' nx ct ex' ⟨rfl,u,rfl⟩ hn
    have ex2:(cs.map Ct.d)[i]?=some x:=ex'
    rw[Vai] at ex2
    obtain⟨cc,hp,rfl⟩:=Vaq.mp ex2
    have lk:(cc.k:Int)<m:=hm _ (Vat hp)
    refine zrB (xs:=[.int (cc.k:Int),.int cc.p,.int (if cc.s then 1 else 0)]) ?_
    refine ifD (λe=>absurd e (by omega)) (λ_=>?_)
    refine ifD (λe=>absurd e (by omega)) (λ_=>?_)
    have s0:¬ (if cc.s then (1:Int) else 0)<0:=by cases cc.s <;> decide
    have s1:¬ (if cc.s then (1:Int) else 0) > 1:=by cases cc.s <;> decide
    refine ifD (λe=>absurd e s1) (λ_=>?_)
    exact hn _ _ ⟨rfl,_,rfl⟩
   ·rintro dl' S' ⟨rfl,u,rfl⟩
    rcases hf with rfl | ⟨vs,mf,rfl,h1,h2,h3⟩
    ·exact h
    ·exact⟨vs,h1,h2,h3,h⟩
  ·exact h.elim⟩)
def zyp  (zly:Df K mg "law" zec zjb)(zjY:Fk P w K mg base 10 "shaves" zhr zhB)(znC:Fk P w K mg base 4 "_law_cuts_are" zhn zg2)(zof:Fk P w K mg base 5 "_law_shaves" zfU zhV)(zer:Fk P w K mg base 3 "_law_spans_are" zfp zeu)(zez:Fk P w K mg base 9 "narrowed" zeY zfD)(zn7:Fk P w K mg base 6 "_law_drawn" zic zgk)(zba:mg "list"=none)(zaR:mg "len"=none):Fk P w K mg base 11 "law" zjb zeA:=
 zly.mk' (zax (k:=10) zly.F zdM ztT λcdv A outer s H E hr=>⟨_,(zae (zua (is:=[1,2,3,4]) rfl zdM.nd (Nms.cons (i:=1) rfl (Or.inl rfl) (by first | exact .inl rfl | exact .inr rfl) (Nms.cons (i:=2) rfl (Or.inl rfl) (by first | exact .inl rfl | exact .inr rfl) (Nms.cons (i:=3) rfl (Or.inl rfl) (by first | exact .inl rfl | exact .inr rfl) (Nms.cons (i:=4) rfl (Or.inl rfl) (by first | exact .inl rfl | exact .inr rfl) Nms.nil)))) (zan zn7 hr (zaa (dv 0) zac))) (zae (zam (i:=5) zdM.nd rfl (Or.inl rfl) (zaP (za7 zbC) rfl zaR Boot.«len» (zaa (dv 2) zac))) (zae (zam (i:=6) zdM.nd rfl (Or.inl rfl) (zdo (za7 zdH) rfl zba Boot.«list» (zaa (dv 3) zac))) (zae (zam (i:=7) zdM.nd rfl (Or.inl rfl) (zdo (za7 zdH) rfl zba Boot.«list» (zaa (dv 2) zac))) (zae (zam (i:=8) zdM.nd rfl (Or.inl rfl) (zan zez hr (zaa (zdo (za7 zdH) rfl zba Boot.«list» (zaa (dv 3) zac)) (zaa (dv 4) (zaa (zdo (za7 zdH) rfl zba Boot.«list» (zaa (dv 2) zac)) (zaa (dv 1) zac)))))) (zae (zav (PDW.pt (zct (zas zry (dv 8) za0 (zaq _)) (zc4 (zcs (zbq (zan zer hr (zaa (dv 8) (zaa (dv 5) zac)))))))) (zag (zak zcx)) zaw) (zae (zam (i:=9) zdM.nd rfl (Or.inl rfl) (zan zof hr (zaa (dv 3) (zaa (dv 4) (zaa (dv 2) (zaa (dv 1) (zaa (dv 8) zac))))))) (zae (zam (i:=10) zdM.nd rfl (Or.inl rfl) (zan zjY hr (zaa (dv 6) (zaa (dv 4) (zaa (dv 7) (zaa (dv 1) zac)))))) (zae (zav (PDW.pt (zbV (zcs (zbq (zan znC hr (zaa (dv 10) (zaa (dv 5) zac))))) (zcG (zas (znv hr) (dv 10) (dv 9) (zaq _))))) (zag (zak zcx)) zaw) (zae (zbJ (zbK (zad (dv 10) zab (λ_ _=>rfl)) (zat (zaa zab (zaa zab (zaa zab zac)))))) (zae (zav (zas zry (zad (dv 10) zab (λ_ _=>rfl)) za0 (zaq _)) (zag (zdO (zad (dv 10) zab (λ_ _=>rfl)) zab (zat (zaa zab (zaa zab zac))))) zaw) (zag (zak (zf2 (zb6 (zkn hr) (zan zjY hr (zaa (dv 6) (zaa (dv 4) (zaa (dv 7) (zaa (dv 1) zac))))) (dv 9) (zaq _)) (zf2 (zb6 (zq3 hr) (dv 6) (dv 3) (zaq _)) (ze5 (zb6 (zq3 hr) (dv 7) (dv 2) (zaq _)))))))))))))))))),λds S Q ex h=>by
  obtain⟨ns,rfl,rfl,hl,h⟩:=h
  refine⟨ns,rfl,rfl,hl,λT0 g k bs vs ws m1 m2 w zero pr0 hg hB hN net sb lb l70 hw lk=>?_⟩
  have hkk:inR ((vs.length:Nat):Int) (k:Int):=⟨by omega,by omega⟩
  refine⟨rfl,?_⟩
  refine zck hB ?_
  rw[Vaa]
  refine zdt (zbg hN rfl) ?_
  refine zdt (zbg (zaC hB) rfl) ?_
  have H1:=zaC (T:=[.lst (bs.map frD)]) (zaD T0 (.lst (vs.map Nd.d)))
  have O1:=zaD (T0++[.lst (vs.map Nd.d)]) (.lst (bs.map frD))
  have lf:∀ {n:Nat} {o:Ob},T0[n]?=some o→(T0++[Ob.lst (vs.map Nd.d)]++[Ob.lst (bs.map frD)])[n]?=some o:=λe=>zaC (zaC e)
  have N1:=lf hN
  have B1:=lf hB
  dsimp only
  refine zn3 (λdl2 S3=>Pre (T0++[Ob.lst (vs.map Nd.d)]++[Ob.lst (bs.map frD)]) S3∧∃fd:D,zcK (nwS vs zero k bs g) 0 S3 fd∧dl2=[some (.ref 0),some (.int g),some (.ref m1),some (.ref m2),some (.tup [.str w,.int (k:Int)]),some (.int ((bs.length:Nat):Int)),some (.ref T0.length),some (.ref (T0++[Ob.lst (vs.map Nd.d)]).length),some fd,none,none]) (λnx hn=>?_) ?_
  ·refine zdt (zbg N1 rfl) ?_
   refine zdt (zbg (zaC B1) rfl) ?_
   refine⟨vs,ws,bs,zero,zaC (zaD _ _),zaD _ _,hw,hkk,net,sb,hg,l70,?_,?_⟩
   ·rw[Vad]
    intro e T3 pr3
    exact hn _ _ ⟨λn o q=>pr3 _ _ (zaC (zaC q)),.non,.inl ⟨rfl,e⟩,rfl⟩
   ·rw[Vad]
    intro r T3 mf e pr3 lm3 hr
    obtain⟨lr,sr⟩:=znc net sb hg lk e
    refine⟨r,hr,by rw[lr],λp hp=>(sr p hp).1,?_⟩
    exact hn _ _ ⟨λn o q=>pr3 _ _ (zaC (zaC q)),.ref mf,.inr ⟨r,mf,rfl,e,hr,Vao _⟩,rfl⟩
  rintro dl2 S3 ⟨prU,fd,hfd,rfl⟩
  refine⟨vs,ws,bs,zero,prU _ _ N1,prU _ _ B1,hw,hkk,net,sb,hg,l70,lb.2,by rw[Vad]; exact hfd,λT4 mc4 fd4 pr4 lm4 hc4 hf4=>?_⟩
  rw[Vad] at hc4 hf4
  refine⟨vs,ws,bs,zero,pr4 _ _ (prU _ _ H1),pr4 _ _ (prU _ _ O1),hw,hkk,net,sb,hg,l70,lb.2,λT5 mc fd5 pr5 lm5 hc5 hf5=>?_⟩
  rw[Vad] at hc5 hf5
  have lU:(T0++[Ob.lst (vs.map Nd.d)]++[Ob.lst (bs.map frD)]).length≤S3.length:=zgE prU
  have l34:S3.length≤T4.length:=zgE pr4
  have l4c:=zbQ hc4
  have cok:(∀x∈(shS vs zero k bs g).1,x.k<bs.length)∧(∀left,(shS vs zero k bs g).2=some left→left.length=bs.length∧∀p∈left,p.1≤p.2)∧(shS vs zero k bs g).1.length≤8:=by
   cases hb:ibS vs zero k bs g with
   | true=>
    rw[ztn hb]
    exact⟨λx hx=>(nomatch hx),λleft e=>(by cases e),Vao _⟩
   | false=>
    obtain⟨left,el,C⟩:=ztZ net sb hg lk hb
    refine⟨λx hx=>?_,λl2 e2=>?_,?_⟩
    ·obtain⟨i,hi⟩:=List.mem_iff_getElem?.mp hx
     exact(C.is i x hi).2
    ·rw[el] at e2
     cases e2
     exact⟨C.len,λp hp=>(C.spn p hp).1⟩
    ·have z:(shS vs zero k bs g).1.length≤2*bs.length:=C.few
     omega
  have alike:∀(T:Sto) (a b:Nat) (da db:D),T[a]?=some (.lst ((shS vs zero k bs g).1.map Ct.d))→T[b]?=some (.lst ((shS vs zero k bs g).1.map Ct.d))→zcK (shS vs zero k bs g).2 0 T da→zcK (shS vs zero k bs g).2 0 T db→[D.ref a,da].length=[D.ref b,db].length∧∀(i:Nat) (x y:D),[D.ref a,da][i]?=some x→[D.ref b,db][i]?=some y→Alk T 5 x y:=λT a b da db ha hb hda hdb=>by
   refine⟨rfl,λi x y hx hy=>?_⟩
   rcases i with _ | _ | i
   ·cases hx
    cases hy
    exact zrc (zv7 (n:=3)) ha hb
   ·cases hx
    cases hy
    rcases hda with ⟨rfl,e7⟩ | ⟨r7,m7,rfl,e7,h7,_⟩
    ·rcases hdb with ⟨rfl,_⟩ | ⟨r,mf,rfl,e,hr,_⟩
     ·exact alk0 rfl 5
     ·rw[e7] at e
      cases e
    ·rcases hdb with ⟨rfl,e⟩ | ⟨r,mf,rfl,e,hr,_⟩
     ·rw[e7] at e
      cases e
     ·rw[e7] at e
      cases e
      exact zrc (zwR (n:=3)) h7 hr
   ·simp at hx
  have fdm:∀ {L:Nat} {T U:Sto} {d:D},zcK (shS vs zero k bs g).2 L T d→(∀n o,n<T4.length→T4[n]?=some o→U[n]?=some o)→T=T4→zcK (shS vs zero k bs g).2 0 U d:=λhd kp e=>by
   subst e
   rcases hd with z | ⟨r,mf,e1,e2,e3,_⟩
   ·exact .inl z
   ·exact .inr ⟨r,mf,e1,e2,kp _ _ (zbQ e3) e3,Vao _⟩
  have fd5':zcK (shS vs zero k bs g).2 0 T5 fd5:=by
   rcases hf5 with z | ⟨r,mf,e1,e2,e3,_⟩
   ·exact .inl z
   ·exact .inr ⟨r,mf,e1,e2,e3,Vao _⟩
  refine⟨_,hc5,λx hx=>?_,?_,?_⟩
  ·have:=cok.1 x hx
   omega
  ·rcases hf5 with ⟨rfl,_⟩ | ⟨r,mf,rfl,e,hr,_⟩
   ·exact .inl rfl
   ·have z:=cok.2.1 r e
    exact .inr ⟨r,mf,rfl,hr,by rw[z.1],z.2⟩
  refine⟨alike T5 mc mc4 fd5 fd4 hc5 (pr5 _ _ hc4) fd5' (fdm hf4 (λn o _ q=>pr5 _ _ q) rfl),?_⟩
  refine zbO ?_
  dsimp only[L3.zoC]
  refine zn3 (λdl2 S7=>(∀n o,n<T4.length→T4[n]?=some o→S7[n]?=some o)∧dl2=[some (.ref 0),some (.int g),some (.ref m1),some (.ref m2),some (.tup [.str w,.int (k:Int)]),some (.int ((bs.length:Nat):Int)),some (.ref T0.length),some (.ref (T0++[Ob.lst (vs.map Nd.d)]).length),some fd,some (.tup [.ref mc4,fd4]),some (.tup [.ref mc,fd5])]) (λnx hn=>?_) ?_
  ·refine zb1 (n:=mc) (S1:=T5) (xs:=(shS vs zero k bs g).1.map Ct.d) (y:=.tup [.int 0,.int 0,.int 0]) (λK hK=>by exact hK) hc5 (λK hK=>by exact hK) (by rw[Vaa]; omega) ?_
   rcases hf5 with ⟨rfl,_⟩ | ⟨r,mf,rfl,e,hr,lmf⟩
   ·exact hn _ _ ⟨λn o l q=>zaU (pr5 _ _ q) (by omega),rfl⟩
   ·have z:=cok.2.1 r e
    by_cases em:mf=mc
    ·subst em
     rw[hc5] at hr
     injection hr with hr
     injection hr with hr
     obtain⟨p,r',rfl⟩:∃p r',r=p::r':=by
      cases r with
      | nil=>
       have y:0=bs.length:=z.1
       omega
      | cons p r'=>exact⟨p,r',rfl⟩
     generalize (shS vs zero k bs g).1=cs at hr
     cases cs with
     | nil=>cases hr
     | cons c cs=>
      injection hr with h1 h2
      have l:=congrArg (λd:D=>match d with | .tup xs=>xs.length | _=>0) h1
      exact absurd (show (3:Nat)=2 from l) (by decide)
    ·refine zdc (n:=mf) (k:=0) (j:=0) (xs:=r.map frD) (v:=frD (0,1)) (λK hK=>by exact hK) (λK hK=>by exact hK) (λK hK=>by exact hK) (zaU hr (Ne.symm em)) (by rw[Vaa]; exact zc3 ⟨by decide,by omega⟩) ?_
     exact hn _ _ ⟨λn o l q=>zaU (zaU (pr5 _ _ q) (by omega)) (by omega),rfl⟩
  rintro dl2 S7 ⟨k7,rfl⟩
  have kU:∀ {n:Nat} {o:Ob},(T0++[Ob.lst (vs.map Nd.d)]++[Ob.lst (bs.map frD)])[n]?=some o→S7[n]?=some o:=λ{n o} q=>k7 n o (by have:=zbQ q; omega) (pr4 _ _ (prU _ _ q))
  refine⟨vs,ws,bs,zero,kU H1,kU O1,hw,hkk,net,sb,hg,l70,lb.2,λT8 mc8 fd8 pr8 lm8 hc8 hf8=>?_⟩
  rw[Vad] at hc8 hf8
  have fd8':zcK (shS vs zero k bs g).2 0 T8 fd8:=by
   rcases hf8 with z | ⟨r,mf,e1,e2,e3,_⟩
   ·exact .inl z
   ·exact .inr ⟨r,mf,e1,e2,e3,Vao _⟩
  refine⟨alike T8 mc8 mc4 fd8 fd4 hc8 (pr8 _ _ (k7 _ _ l4c hc4)) fd8' (fdm hf4 (λn o l q=>pr8 _ _ (k7 _ _ l q)) rfl),?_⟩
  refine zrd (b:=true) (pr8 _ _ (kU H1)) (pr8 _ _ (kU N1)) (zqe _) ?_
  refine zrd (b:=true) (pr8 _ _ (kU O1)) (pr8 _ _ (kU B1)) (zqH _) ?_
  exact h _⟩)
end
theorem zv0 {l:PySem.W.OpenLaw}{w:World}{K:PySem.W.Frag}{h:Heap}{mg:Str→Option Value}{fa:Addr}(X:K.In h)(G:h.Ns mainGlobals mg)(hfa:mg "law"=some (.ref fa))
  {zcj:Addr}(zjd:PySem.W.nsIn K mainGlobals "Number"=some (some (.ref zcj)))(ziC:PySem.W.plainGet K zcj Str.empty=true)(zm5:PySem.W.hasDictIn K zcj=true)(zmn:PySem.W.plainOver K zcj=true)(zjX:PySem.W.findIn K (.ref zcj) "__setattr__"=some (some (.builtin "object.__setattr__")))(zlL:PySem.W.makesIn K zcj=true)(zms:PySem.W.keepIn K (.ref zcj)=true)
  (zmv:PySem.W.findIn K (.ref zcj) "bottom"=some none)
  (zkb:PySem.W.findIn K (.ref zcj) "top"=some none)
  {zcp:Addr}(zks:PySem.W.nsIn K mainGlobals "Unknown"=some (some (.ref zcp)))(zjz:PySem.W.plainGet K zcp Str.empty=true)(zj4:PySem.W.hasDictIn K zcp=true)(zjS:PySem.W.plainOver K zcp=true)(zlJ:PySem.W.findIn K (.ref zcp) "__setattr__"=some (some (.builtin "object.__setattr__")))(zlE:PySem.W.makesIn K zcp=true)(zjn:PySem.W.keepIn K (.ref zcp)=true)
  (zk5:PySem.W.findIn K (.ref zcp) "place"=some none)
  {zbR:Addr}(zmj:PySem.W.nsIn K mainGlobals "Plus"=some (some (.ref zbR)))(zjU:PySem.W.plainGet K zbR Str.empty=true)(zjG:PySem.W.hasDictIn K zbR=true)(zk7:PySem.W.plainOver K zbR=true)(zjp:PySem.W.findIn K (.ref zbR) "__setattr__"=some (some (.builtin "object.__setattr__")))(zjH:PySem.W.makesIn K zbR=true)(zlb:PySem.W.keepIn K (.ref zbR)=true)
  (zmF:PySem.W.findIn K (.ref zbR) "other"=some none)
  (zng:PySem.W.findIn K (.ref zbR) "one"=some none)
  {zbU:Addr}(zkZ:PySem.W.nsIn K mainGlobals "Minus"=some (some (.ref zbU)))(ziA:PySem.W.plainGet K zbU Str.empty=true)(zk4:PySem.W.hasDictIn K zbU=true)(zm3:PySem.W.plainOver K zbU=true)(ziK:PySem.W.findIn K (.ref zbU) "__setattr__"=some (some (.builtin "object.__setattr__")))(zlm:PySem.W.makesIn K zbU=true)(zix:PySem.W.keepIn K (.ref zbU)=true)
  (zmd:PySem.W.findIn K (.ref zbU) "other"=some none)
  (zmo:PySem.W.findIn K (.ref zbU) "one"=some none)
  {zbP:Addr}(zmT:PySem.W.nsIn K mainGlobals "Times"=some (some (.ref zbP)))(zkf:PySem.W.plainGet K zbP Str.empty=true)(zkJ:PySem.W.hasDictIn K zbP=true)(ziS:PySem.W.plainOver K zbP=true)(zmr:PySem.W.findIn K (.ref zbP) "__setattr__"=some (some (.builtin "object.__setattr__")))(zjL:PySem.W.makesIn K zbP=true)(zlT:PySem.W.keepIn K (.ref zbP)=true)
  (zjc:PySem.W.findIn K (.ref zbP) "other"=some none)
  (zka:PySem.W.findIn K (.ref zbP) "one"=some none)
  {zb9:Addr}(zlc:PySem.W.nsIn K mainGlobals "Power"=some (some (.ref zb9)))(zj8:PySem.W.plainGet K zb9 Str.empty=true)(zmU:PySem.W.hasDictIn K zb9=true)(znt:PySem.W.plainOver K zb9=true)(zmA:PySem.W.findIn K (.ref zb9) "__setattr__"=some (some (.builtin "object.__setattr__")))(zmW:PySem.W.makesIn K zb9=true)(zkp:PySem.W.keepIn K (.ref zb9)=true)
  (zjl:PySem.W.findIn K (.ref zb9) "many"=some none)
  (zm6:PySem.W.findIn K (.ref zb9) "one"=some none)
  {f0 h0:Addr}{m0:Value}(a0:nsA K "_law_grid" f0)(l0:lkA K f0 "_law_grid" "_law_grid" zme m0 h0)(c0:cdA K h0 "_law_grid")
  {f1 h1:Addr}{m1:Value}(a1:nsA K "_law_divisor" f1)(l1:lkA K f1 "_law_divisor" "_law_divisor" zlt m1 h1)(c1:cdA K h1 "_law_divisor")
  {f2 h2:Addr}{m2:Value}(a2:nsA K "_law_fraction" f2)(l2:lkA K f2 "_law_fraction" "_law_fraction" zkH m2 h2)(c2:cdA K h2 "_law_fraction")
  {f3 h3:Addr}{m3:Value}(a3:nsA K "_law_point" f3)(l3:lkA K f3 "_law_point" "_law_point" zmk m3 h3)(c3:cdA K h3 "_law_point")
  {f4 h4:Addr}{m4:Value}(a4:nsA K "_law_number" f4)(l4:lkA K f4 "_law_number" "_law_number" zjR m4 h4)(c4:cdA K h4 "_law_number")
  {f5 h5:Addr}{m5:Value}(a5:nsA K "_law_node" f5)(l5:lkA K f5 "_law_node" "_law_node" zkP m5 h5)(c5:cdA K h5 "_law_node")
  {f6 h6:Addr}{m6:Value}(a6:nsA K "_law_weight" f6)(l6:lkA K f6 "_law_weight" "_law_weight" zkc m6 h6)(c6:cdA K h6 "_law_weight")
  {f7 h7:Addr}{m7:Value}(a7:nsA K "_law_net" f7)(l7:lkA K f7 "_law_net" "_law_net" ze2 m7 h7)(c7:cdA K h7 "_law_net")
  {f8 h8:Addr}{m8:Value}(a8:nsA K "_law_put" f8)(l8:lkA K f8 "_law_put" "_law_put" zl1 m8 h8)(c8:cdA K h8 "_law_put")
  {f9 h9:Addr}{m9:Value}(a9:nsA K "_law_power" f9)(l9:lkA K f9 "_law_power" "_law_power" zlH m9 h9)(c9:cdA K h9 "_law_power")
  {f10 h10:Addr}{m10:Value}(a10:nsA K "_law_exact" f10)(l10:lkA K f10 "_law_exact" "_law_exact" znj m10 h10)(c10:cdA K h10 "_law_exact")
  {f11 h11:Addr}{m11:Value}(a11:nsA K "_law_exacts" f11)(l11:lkA K f11 "_law_exacts" "_law_exacts" zlx m11 h11)(c11:cdA K h11 "_law_exacts")
  {f12 h12:Addr}{m12:Value}(a12:nsA K "_law_met_row" f12)(l12:lkA K f12 "_law_met_row" "_law_met_row" zkS m12 h12)(c12:cdA K h12 "_law_met_row")
  {f13 h13:Addr}{m13:Value}(a13:nsA K "_law_row_by" f13)(l13:lkA K f13 "_law_row_by" "_law_row_by" zld m13 h13)(c13:cdA K h13 "_law_row_by")
  {f14 h14:Addr}{m14:Value}(a14:nsA K "_law_digit_span" f14)(l14:lkA K f14 "_law_digit_span" "_law_digit_span" znm m14 h14)(c14:cdA K h14 "_law_digit_span")
  {f15 h15:Addr}{m15:Value}(a15:nsA K "_law_digit_node" f15)(l15:lkA K f15 "_law_digit_node" "_law_digit_node" zkK m15 h15)(c15:cdA K h15 "_law_digit_node")
  {f16 h16:Addr}{m16:Value}(a16:nsA K "_law_by_digits" f16)(l16:lkA K f16 "_law_by_digits" "_law_by_digits" zfK m16 h16)(c16:cdA K h16 "_law_by_digits")
  {f17 h17:Addr}{m17:Value}(a17:nsA K "_law_cell" f17)(l17:lkA K f17 "_law_cell" "_law_cell" zjo m17 h17)(c17:cdA K h17 "_law_cell")
  {f18 h18:Addr}{m18:Value}(a18:nsA K "_law_span" f18)(l18:lkA K f18 "_law_span" "_law_span" zmH m18 h18)(c18:cdA K h18 "_law_span")
  {f19 h19:Addr}{m19:Value}(a19:nsA K "_law_drawn" f19)(l19:lkA K f19 "_law_drawn" "_law_drawn" zgT m19 h19)(c19:cdA K h19 "_law_drawn")
  {f20 h20:Addr}{m20:Value}(a20:nsA K "less" f20)(l20:lkA K f20 "less" "less" zi8 m20 h20)(c20:cdA K h20 "less")
  {f21 h21:Addr}{m21:Value}(a21:nsA K "rounded_up" f21)(l21:lkA K f21 "rounded_up" "rounded_up" zlX m21 h21)(c21:cdA K h21 "rounded_up")
  {f22 h22:Addr}{m22:Value}(a22:nsA K "span_of" f22)(l22:lkA K f22 "span_of" "span_of" zjr m22 h22)(c22:cdA K h22 "span_of")
  {f23 h23:Addr}{m23:Value}(a23:fdA K zcj "forth" f23)(l23:lkA K f23 "forth" "Number.forth" zll m23 h23)(c23:cdA K h23 "Number.forth")
  {f24 h24:Addr}{m24:Value}(a24:fdA K zcp "forth" f24)(l24:lkA K f24 "forth" "Unknown.forth" zl7 m24 h24)(c24:cdA K h24 "Unknown.forth")
  {f25 h25:Addr}{m25:Value}(a25:nsA K "add_spans" f25)(l25:lkA K f25 "add_spans" "add_spans" zl3 m25 h25)(c25:cdA K h25 "add_spans")
  {f26 h26:Addr}{m26:Value}(a26:fdA K zbR "forth" f26)(l26:lkA K f26 "forth" "Plus.forth" zmu m26 h26)(c26:cdA K h26 "Plus.forth")
  {f27 h27:Addr}{m27:Value}(a27:nsA K "take_spans" f27)(l27:lkA K f27 "take_spans" "take_spans" zkg m27 h27)(c27:cdA K h27 "take_spans")
  {f28 h28:Addr}{m28:Value}(a28:fdA K zbU "forth" f28)(l28:lkA K f28 "forth" "Minus.forth" zkL m28 h28)(c28:cdA K h28 "Minus.forth")
  {f29 h29:Addr}{m29:Value}(a29:nsA K "mul_spans" f29)(l29:lkA K f29 "mul_spans" "mul_spans" zlI m29 h29)(c29:cdA K h29 "mul_spans")
  {f30 h30:Addr}{m30:Value}(a30:fdA K zbP "forth" f30)(l30:lkA K f30 "forth" "Times.forth" znl m30 h30)(c30:cdA K h30 "Times.forth")
  {f31 h31:Addr}{m31:Value}(a31:nsA K "raised" f31)(l31:lkA K f31 "raised" "raised" zmN m31 h31)(c31:cdA K h31 "raised")
  {f32 h32:Addr}{m32:Value}(a32:nsA K "raise_span" f32)(l32:lkA K f32 "raise_span" "raise_span" zgC m32 h32)(c32:cdA K h32 "raise_span")
  {f33 h33:Addr}{m33:Value}(a33:fdA K zb9 "forth" f33)(l33:lkA K f33 "forth" "Power.forth" zlQ m33 h33)(c33:cdA K h33 "Power.forth")
  {f34 h34:Addr}{m34:Value}(a34:fdA K zb9 "__init__" f34)(l34:lkA K f34 "__init__" "Power.__init__" zmD m34 h34)(c34:cdA K h34 "Power.__init__")
  {f35 h35:Addr}{m35:Value}(a35:fdA K zcj "__init__" f35)(l35:lkA K f35 "__init__" "Number.__init__" zjq m35 h35)(c35:cdA K h35 "Number.__init__")
  {f36 h36:Addr}{m36:Value}(a36:fdA K zcp "__init__" f36)(l36:lkA K f36 "__init__" "Unknown.__init__" zj0 m36 h36)(c36:cdA K h36 "Unknown.__init__")
  {f37 h37:Addr}{m37:Value}(a37:fdA K zbR "__init__" f37)(l37:lkA K f37 "__init__" "Pair.__init__" zmq m37 h37)(c37:cdA K h37 "Pair.__init__")
  {f38 h38:Addr}{m38:Value}(a38:fdA K zbU "__init__" f38)(l38:lkA K f38 "__init__" "Pair.__init__" ziH m38 h38)(c38:cdA K h38 "Pair.__init__")
  {f39 h39:Addr}{m39:Value}(a39:fdA K zbP "__init__" f39)(l39:lkA K f39 "__init__" "Pair.__init__" zkR m39 h39)(c39:cdA K h39 "Pair.__init__")
  {f40 h40:Addr}{m40:Value}(a40:nsA K "kind_of" f40)(l40:lkA K f40 "kind_of" "kind_of" zjA m40 h40)(c40:cdA K h40 "kind_of")
  {f41 h41:Addr}{m41:Value}(a41:nsA K "worths" f41)(l41:lkA K f41 "worths" "worths" zlZ m41 h41)(c41:cdA K h41 "worths")
  {f42 h42:Addr}{m42:Value}(a42:nsA K "common" f42)(l42:lkA K f42 "common" "common" zlF m42 h42)(c42:cdA K h42 "common")
  {f43 h43:Addr}{m43:Value}(a43:nsA K "asked_of" f43)(l43:lkA K f43 "asked_of" "asked_of" zjB m43 h43)(c43:cdA K h43 "asked_of")
  {f44 h44:Addr}{m44:Value}(a44:fdA K zcj "back" f44)(l44:lkA K f44 "back" "Number.back" zlv m44 h44)(c44:cdA K h44 "Number.back")
  {f45 h45:Addr}{m45:Value}(a45:fdA K zcp "back" f45)(l45:lkA K f45 "back" "Unknown.back" zlu m45 h45)(c45:cdA K h45 "Unknown.back")
  {f46 h46:Addr}{m46:Value}(a46:fdA K zbR "first_left" f46)(l46:lkA K f46 "first_left" "Plus.first_left" zjy m46 h46)(c46:cdA K h46 "Plus.first_left")
  {f47 h47:Addr}{m47:Value}(a47:fdA K zbR "second_left" f47)(l47:lkA K f47 "second_left" "Plus.second_left" zl5 m47 h47)(c47:cdA K h47 "Plus.second_left")
  {f48 h48:Addr}{m48:Value}(a48:fdA K zbR "back" f48)(l48:lkA K f48 "back" "Pair.back" zje m48 h48)(c48:cdA K h48 "Pair.back")
  {f49 h49:Addr}{m49:Value}(a49:fdA K zbU "first_left" f49)(l49:lkA K f49 "first_left" "Minus.first_left" zjJ m49 h49)(c49:cdA K h49 "Minus.first_left")
  {f50 h50:Addr}{m50:Value}(a50:fdA K zbU "second_left" f50)(l50:lkA K f50 "second_left" "Minus.second_left" zj1 m50 h50)(c50:cdA K h50 "Minus.second_left")
  {f51 h51:Addr}{m51:Value}(a51:fdA K zbU "back" f51)(l51:lkA K f51 "back" "Pair.back" ziV m51 h51)(c51:cdA K h51 "Pair.back")
  {f52 h52:Addr}{m52:Value}(a52:nsA K "holds_nought" f52)(l52:lkA K f52 "holds_nought" "holds_nought" znn m52 h52)(c52:cdA K h52 "holds_nought")
  {f53 h53:Addr}{m53:Value}(a53:nsA K "part_between" f53)(l53:lkA K f53 "part_between" "part_between" znb m53 h53)(c53:cdA K h53 "part_between")
  {f54 h54:Addr}{m54:Value}(a54:nsA K "quotient" f54)(l54:lkA K f54 "quotient" "quotient" ziT m54 h54)(c54:cdA K h54 "quotient")
  {f55 h55:Addr}{m55:Value}(a55:nsA K "back_by_side" f55)(l55:lkA K f55 "back_by_side" "back_by_side" zmm m55 h55)(c55:cdA K h55 "back_by_side")
  {f56 h56:Addr}{m56:Value}(a56:nsA K "hull" f56)(l56:lkA K f56 "hull" "hull" zjk m56 h56)(c56:cdA K h56 "hull")
  {f57 h57:Addr}{m57:Value}(a57:nsA K "joined" f57)(l57:lkA K f57 "joined" "joined" zmI m57 h57)(c57:cdA K h57 "joined")
  {f58 h58:Addr}{m58:Value}(a58:nsA K "opposite" f58)(l58:lkA K f58 "opposite" "opposite" zk1 m58 h58)(c58:cdA K h58 "opposite")
  {f59 h59:Addr}{m59:Value}(a59:nsA K "back_times" f59)(l59:lkA K f59 "back_times" "back_times" zl6 m59 h59)(c59:cdA K h59 "back_times")
  {f60 h60:Addr}{m60:Value}(a60:fdA K zbP "first_left" f60)(l60:lkA K f60 "first_left" "Times.first_left" zjO m60 h60)(c60:cdA K h60 "Times.first_left")
  {f61 h61:Addr}{m61:Value}(a61:fdA K zbP "second_left" f61)(l61:lkA K f61 "second_left" "Times.second_left" zlK m61 h61)(c61:cdA K h61 "Times.second_left")
  {f62 h62:Addr}{m62:Value}(a62:fdA K zbP "back" f62)(l62:lkA K f62 "back" "Pair.back" ziI m62 h62)(c62:cdA K h62 "Pair.back")
  {f63 h63:Addr}{m63:Value}(a63:nsA K "next_guess" f63)(l63:lkA K f63 "next_guess" "next_guess" zjZ m63 h63)(c63:cdA K h63 "next_guess")
  {f64 h64:Addr}{m64:Value}(a64:nsA K "root_below" f64)(l64:lkA K f64 "root_below" "root_below" zmJ m64 h64)(c64:cdA K h64 "root_below")
  {f65 h65:Addr}{m65:Value}(a65:nsA K "root" f65)(l65:lkA K f65 "root" "root" zhE m65 h65)(c65:cdA K h65 "root")
  {f66 h66:Addr}{m66:Value}(a66:nsA K "back_power" f66)(l66:lkA K f66 "back_power" "back_power" zmG m66 h66)(c66:cdA K h66 "back_power")
  {f67 h67:Addr}{m67:Value}(a67:fdA K zb9 "back" f67)(l67:lkA K f67 "back" "Power.back" zlN m67 h67)(c67:cdA K h67 "Power.back")
  {f68 h68:Addr}{m68:Value}(a68:nsA K "spans_back" f68)(l68:lkA K f68 "spans_back" "spans_back" ziD m68 h68)(c68:cdA K h68 "spans_back")
  {f69 h69:Addr}{m69:Value}(a69:nsA K "narrowed" f69)(l69:lkA K f69 "narrowed" "narrowed" ziw m69 h69)(c69:cdA K h69 "narrowed")
  {f70 h70:Addr}{m70:Value}(a70:nsA K "_law_forth" f70)(l70:lkA K f70 "_law_forth" "_law_forth" zmx m70 h70)(c70:cdA K h70 "_law_forth")
  {f71 h71:Addr}{m71:Value}(a71:nsA K "_law_worths" f71)(l71:lkA K f71 "_law_worths" "_law_worths" zlh m71 h71)(c71:cdA K h71 "_law_worths")
  {f72 h72:Addr}{m72:Value}(a72:nsA K "_law_barred" f72)(l72:lkA K f72 "_law_barred" "_law_barred" zlj m72 h72)(c72:cdA K h72 "_law_barred")
  {f73 h73:Addr}{m73:Value}(a73:nsA K "_law_with" f73)(l73:lkA K f73 "_law_with" "_law_with" ziY m73 h73)(c73:cdA K h73 "_law_with")
  {f74 h74:Addr}{m74:Value}(a74:nsA K "_law_shaves" f74)(l74:lkA K f74 "_law_shaves" "_law_shaves" ziR m74 h74)(c74:cdA K h74 "_law_shaves")
  {f75 h75:Addr}{m75:Value}(a75:nsA K "bars" f75)(l75:lkA K f75 "bars" "bars" zm9 m75 h75)(c75:cdA K h75 "bars")
  {f76 h76:Addr}{m76:Value}(a76:nsA K "is_barred" f76)(l76:lkA K f76 "is_barred" "is_barred" zjw m76 h76)(c76:cdA K h76 "is_barred")
  {f77 h77:Addr}{m77:Value}(a77:nsA K "with_span" f77)(l77:lkA K f77 "with_span" "with_span" ziJ m77 h77)(c77:cdA K h77 "with_span")
  {f78 h78:Addr}{m78:Value}(a78:nsA K "cut_off" f78)(l78:lkA K f78 "cut_off" "cut_off" zma m78 h78)(c78:cdA K h78 "cut_off")
  {f79 h79:Addr}{m79:Value}(a79:nsA K "is_shave" f79)(l79:lkA K f79 "is_shave" "is_shave" zlC m79 h79)(c79:cdA K h79 "is_shave")
  {f80 h80:Addr}{m80:Value}(a80:nsA K "cut_back" f80)(l80:lkA K f80 "cut_back" "cut_back" zmS m80 h80)(c80:cdA K h80 "cut_back")
  {f81 h81:Addr}{m81:Value}(a81:nsA K "shaves" f81)(l81:lkA K f81 "shaves" "shaves" zlS m81 h81)(c81:cdA K h81 "shaves")
  {f82 h82:Addr}{m82:Value}(a82:nsA K "_law_whole" f82)(l82:lkA K f82 "_law_whole" "_law_whole" zna m82 h82)(c82:cdA K h82 "_law_whole")
  {f83 h83:Addr}{m83:Value}(a83:nsA K "_law_span_is" f83)(l83:lkA K f83 "_law_span_is" "_law_span_is" zm4 m83 h83)(c83:cdA K h83 "_law_span_is")
  {f84 h84:Addr}{m84:Value}(a84:nsA K "_law_spans_are" f84)(l84:lkA K f84 "_law_spans_are" "_law_spans_are" zlR m84 h84)(c84:cdA K h84 "_law_spans_are")
  {f85 h85:Addr}{m85:Value}(a85:nsA K "_law_cuts_are" f85)(l85:lkA K f85 "_law_cuts_are" "_law_cuts_are" zmg m85 h85)(c85:cdA K h85 "_law_cuts_are")
  {f86 h86:Addr}{m86:Value}(a86:nsA K "law" f86)(l86:lkA K f86 "law" "law" zec m86 h86)(c86:cdA K h86 "law")
  (zbT:PySem.W.nsIn K mainGlobals "abs"=some none)
  (zaR:PySem.W.nsIn K mainGlobals "len"=some none)
  (zbh:PySem.W.nsIn K mainGlobals "range"=some none)
  (zaS:PySem.W.nsIn K mainGlobals "max"=some none)
  (za9:PySem.W.nsIn K mainGlobals "min"=some none)
  (zcy:PySem.W.nsIn K mainGlobals "enumerate"=some none)
  (zba:PySem.W.nsIn K mainGlobals "list"=some none)
  (zbp:PySem.W.nsIn K mainGlobals "isinstance"=some none)
  (zdW:PySem.W.nsIn K mainGlobals "bool"=some none)
  (zdr:PySem.W.nsIn K mainGlobals "int"=some none)
  (zcm:PySem.W.nsIn K mainGlobals "tuple"=some none)
  (zew:Kit K "bool")
  (zeo:Kit K "int")
  (zcN:Kit K "tuple")
  :∃fd:FuncData,(∀(s:Shared) (v:Value),BindsTo s fd ⟨[v],[]⟩ [("_law_script",v)])∧∀base:Heap,K.In base→base.Ns mainGlobals mg→zbc l.prog w K mg base (CXE l.prog w) 11 fa fd ["_law_script"] (upF K zeA):=by
 have e:=hfa.symm.trans (PySem.W.mg_of X G a86)
 cases e
 let zao:zbA K mg:=⟨zcj,PySem.W.mg_of X G zjd,⟨ziC,zm5,zmn,zjX⟩,zmv,zkb,zlL,zms⟩
 let zap:zbB K mg:=⟨zcp,PySem.W.mg_of X G zks,⟨zjz,zj4,zjS,zlJ⟩,zk5,zlE,zjn⟩
 let zai:zbr K mg:=⟨zbR,PySem.W.mg_of X G zmj,⟨zjU,zjG,zk7,zjp⟩,zmF,zng,zjH,zlb⟩
 let zaj:zbt K mg:=⟨zbU,PySem.W.mg_of X G zkZ,⟨ziA,zk4,zm3,ziK⟩,zmd,zmo,zlm,zix⟩
 let zah:zbw K mg:=⟨zbP,PySem.W.mg_of X G zmT,⟨zkf,zkJ,ziS,zmr⟩,zjc,zka,zjL,zlT⟩
 let zal:zbx K mg:=⟨zb9,PySem.W.mg_of X G zlc,⟨zj8,zmU,znt,zmA⟩,zjl,zm6,zmW,zkp⟩
 let zjF:Df K mg "_law_grid" zme zia:=dfo X G a0 l0 c0 λ_ _ _ _ _ _=>ln1 λ_=>rfl
 let zmh:Df K mg "_law_divisor" zlt zgz:=dfo X G a1 l1 c1 λ_ _ _ _ _ _=>ln2 λ_ _=>rfl
 let zlf:Df K mg "_law_fraction" zkH zdw:=dfo X G a2 l2 c2 λ_ _ _ _ _ _=>ln2 λ_ _=>rfl
 let znk:Df K mg "_law_point" zmk zh4:=dfo X G a3 l3 c3 λ_ _ _ _ _ _=>ln3 λ_ _ _=>rfl
 let zkW:Df K mg "_law_number" zjR zho:=dfo X G a4 l4 c4 λ_ _ _ _ _ _=>ln1 λ_=>rfl
 let zj7:Df K mg "_law_node" zkP zhI:=dfo X G a5 l5 c5 λ_ _ _ _ _ _=>ln3 λ_ _ _=>rfl
 let zmK:Df K mg "_law_weight" zkc zfb:=dfo X G a6 l6 c6 λ_ _ _ _ _ _=>ln2 λ_ _=>rfl
 let zmM:Df K mg "_law_net" ze2 zhW:=dfo X G a7 l7 c7 λ_ _ _ _ _ _=>ln5 λ_ _ _ _ _=>rfl
 let zlq:Df K mg "_law_put" zl1 zhS:=dfo X G a8 l8 c8 λ_ _ _ _ _ _=>ln2 λ_ _=>rfl
 let zm7:Df K mg "_law_power" zlH zfe:=dfo X G a9 l9 c9 λ_ _ _ _ _ _=>ln2 λ_ _=>rfl
 let zi2:Df K mg "_law_exact" znj zfZ:=dfo X G a10 l10 c10 λ_ _ _ _ _ _=>ln3 λ_ _ _=>rfl
 let zkM:Df K mg "_law_exacts" zlx zhc:=dfo X G a11 l11 c11 λ_ _ _ _ _ _=>ln2 λ_ _=>rfl
 let zmy:Df K mg "_law_met_row" zkS zhL:=dfo X G a12 l12 c12 λ_ _ _ _ _ _=>ln4 λ_ _ _ _=>rfl
 let ziN:Df K mg "_law_row_by" zld zgM:=dfo X G a13 l13 c13 λ_ _ _ _ _ _=>ln4 λ_ _ _ _=>rfl
 let zku:Df K mg "_law_digit_span" znm zhD:=dfo X G a14 l14 c14 λ_ _ _ _ _ _=>ln1 λ_=>rfl
 let zkl:Df K mg "_law_digit_node" zkK zge:=dfo X G a15 l15 c15 λ_ _ _ _ _ _=>ln3 λ_ _ _=>rfl
 let zln:Df K mg "_law_by_digits" zfK zgj:=dfo X G a16 l16 c16 λ_ _ _ _ _ _=>ln1 λ_=>rfl
 let zjD:Df K mg "_law_cell" zjo zih:=dfo X G a17 l17 c17 λ_ _ _ _ _ _=>ln2 λ_ _=>rfl
 let zkX:Df K mg "_law_span" zmH zgm:=dfo X G a18 l18 c18 λ_ _ _ _ _ _=>ln1 λ_=>rfl
 let zjT:Df K mg "_law_drawn" zgT zic:=dfo X G a19 l19 c19 λ_ _ _ _ _ _=>ln1 λ_=>rfl
 let zmi:Df K mg "less" zi8 zif:=dfo X G a20 l20 c20 λ_ _ _ _ _ _=>ln2 λ_ _=>rfl
 let zkq:Df K mg "rounded_up" zlX zdP:=dfo X G a21 l21 c21 λ_ _ _ _ _ _=>ln2 λ_ _=>rfl
 let znq:Df K mg "span_of" zjr zgF:=dfo X G a22 l22 c22 λ_ _ _ _ _ _=>ln3 λ_ _ _=>rfl
 let zmL:Dm K zao.C "forth" "Number.forth" zll zh0:=dmo a23 l23 c23 λ_ _ _ _ _ _=>ln4 λ_ _ _ _=>rfl
 let zkh:Dm K zap.C "forth" "Unknown.forth" zl7 zhj:=dmo a24 l24 c24 λ_ _ _ _ _ _=>ln4 λ_ _ _ _=>rfl
 let zkI:Df K mg "add_spans" zl3 ze3:=dfo X G a25 l25 c25 λ_ _ _ _ _ _=>ln2 λ_ _=>rfl
 let zkw:Dm K zai.C "forth" "Plus.forth" zmu zh3:=dmo a26 l26 c26 λ_ _ _ _ _ _=>ln4 λ_ _ _ _=>rfl
 let zkk:Df K mg "take_spans" zkg zdE:=dfo X G a27 l27 c27 λ_ _ _ _ _ _=>ln2 λ_ _=>rfl
 let ziM:Dm K zaj.C "forth" "Minus.forth" zkL zhX:=dmo a28 l28 c28 λ_ _ _ _ _ _=>ln4 λ_ _ _ _=>rfl
 let zlW:Df K mg "mul_spans" zlI zhT:=dfo X G a29 l29 c29 λ_ _ _ _ _ _=>ln3 λ_ _ _=>rfl
 let znr:Dm K zah.C "forth" "Times.forth" znl zgb:=dmo a30 l30 c30 λ_ _ _ _ _ _=>ln4 λ_ _ _ _=>rfl
 let zi5:Df K mg "raised" zmN zdl:=dfo X G a31 l31 c31 λ_ _ _ _ _ _=>ln2 λ_ _=>rfl
 let zmB:Df K mg "raise_span" zgC zij:=dfo X G a32 l32 c32 λ_ _ _ _ _ _=>ln3 λ_ _ _=>rfl
 let zno:Dm K zal.C "forth" "Power.forth" zlQ zg7:=dmo a33 l33 c33 λ_ _ _ _ _ _=>ln4 λ_ _ _ _=>rfl
 let zlw:Dm K zal.C "__init__" "Power.__init__" zmD zgO:=dmo a34 l34 c34 λ_ _ _ _ _ _=>ln3 λ_ _ _=>rfl
 let zjj:Dm K zao.C "__init__" "Number.__init__" zjq zhY:=dmo a35 l35 c35 λ_ _ _ _ _ _=>ln3 λ_ _ _=>rfl
 let zkt:Dm K zap.C "__init__" "Unknown.__init__" zj0 zgY:=dmo a36 l36 c36 λ_ _ _ _ _ _=>ln2 λ_ _=>rfl
 let zmc:Dm K zai.C "__init__" "Pair.__init__" zmq zhq:=dmo a37 l37 c37 λ_ _ _ _ _ _=>ln3 λ_ _ _=>rfl
 let zls:Dm K zaj.C "__init__" "Pair.__init__" ziH zil:=dmo a38 l38 c38 λ_ _ _ _ _ _=>ln3 λ_ _ _=>rfl
 let zjm:Dm K zah.C "__init__" "Pair.__init__" zkR zf3:=dmo a39 l39 c39 λ_ _ _ _ _ _=>ln3 λ_ _ _=>rfl
 let zkr:Df K mg "kind_of" zjA zfw:=dfo X G a40 l40 c40 λ_ _ _ _ _ _=>ln1 λ_=>rfl
 let zmY:Df K mg "worths" zlZ zfs:=dfo X G a41 l41 c41 λ_ _ _ _ _ _=>ln3 λ_ _ _=>rfl
 let zj9:Df K mg "common" zlF zcY:=dfo X G a42 l42 c42 λ_ _ _ _ _ _=>ln2 λ_ _=>rfl
 let zjM:Df K mg "asked_of" zjB ziu:=dfo X G a43 l43 c43 λ_ _ _ _ _ _=>ln2 λ_ _=>rfl
 let znu:Dm K zao.C "back" "Number.back" zlv zhh:=dmo a44 l44 c44 λ_ _ _ _ _ _=>ln4 λ_ _ _ _=>rfl
 let zkT:Dm K zap.C "back" "Unknown.back" zlu zg6:=dmo a45 l45 c45 λ_ _ _ _ _ _=>ln4 λ_ _ _ _=>rfl
 let zlU:Dm K zai.C "first_left" "Plus.first_left" zjy zgN:=dmo a46 l46 c46 λ_ _ _ _ _ _=>ln5 λ_ _ _ _ _=>rfl
 let zjN:Dm K zai.C "second_left" "Plus.second_left" zl5 zh1:=dmo a47 l47 c47 λ_ _ _ _ _ _=>ln5 λ_ _ _ _ _=>rfl
 let zkd:Dm K zai.C "back" "Pair.back" zje zgc:=dmo a48 l48 c48 λ_ _ _ _ _ _=>ln4 λ_ _ _ _=>rfl
 let zlg:Dm K zaj.C "first_left" "Minus.first_left" zjJ zfX:=dmo a49 l49 c49 λ_ _ _ _ _ _=>ln5 λ_ _ _ _ _=>rfl
 let zkB:Dm K zaj.C "second_left" "Minus.second_left" zj1 zf1:=dmo a50 l50 c50 λ_ _ _ _ _ _=>ln5 λ_ _ _ _ _=>rfl
 let zle:Dm K zaj.C "back" "Pair.back" ziV zir:=dmo a51 l51 c51 λ_ _ _ _ _ _=>ln4 λ_ _ _ _=>rfl
 let zlV:Df K mg "holds_nought" znn zgR:=dfo X G a52 l52 c52 λ_ _ _ _ _ _=>ln1 λ_=>rfl
 let zl2:Df K mg "part_between" znb zfC:=dfo X G a53 l53 c53 λ_ _ _ _ _ _=>ln3 λ_ _ _=>rfl
 let zlk:Df K mg "quotient" ziT zgQ:=dfo X G a54 l54 c54 λ_ _ _ _ _ _=>ln2 λ_ _=>rfl
 let zjW:Df K mg "back_by_side" zmm zh7:=dfo X G a55 l55 c55 λ_ _ _ _ _ _=>ln3 λ_ _ _=>rfl
 let ziy:Df K mg "hull" zjk zh2:=dfo X G a56 l56 c56 λ_ _ _ _ _ _=>ln2 λ_ _=>rfl
 let zjK:Df K mg "joined" zmI zeO:=dfo X G a57 l57 c57 λ_ _ _ _ _ _=>ln2 λ_ _=>rfl
 let zm0:Df K mg "opposite" zk1 zdI:=dfo X G a58 l58 c58 λ_ _ _ _ _ _=>ln1 λ_=>rfl
 let zmC:Df K mg "back_times" zl6 zfR:=dfo X G a59 l59 c59 λ_ _ _ _ _ _=>ln4 λ_ _ _ _=>rfl
 let zmf:Dm K zah.C "first_left" "Times.first_left" zjO zfV:=dmo a60 l60 c60 λ_ _ _ _ _ _=>ln5 λ_ _ _ _ _=>rfl
 let znd:Dm K zah.C "second_left" "Times.second_left" zlK zgS:=dmo a61 l61 c61 λ_ _ _ _ _ _=>ln5 λ_ _ _ _ _=>rfl
 let zjf:Dm K zah.C "back" "Pair.back" ziI zgi:=dmo a62 l62 c62 λ_ _ _ _ _ _=>ln4 λ_ _ _ _=>rfl
 let zi1:Df K mg "next_guess" zjZ zgJ:=dfo X G a63 l63 c63 λ_ _ _ _ _ _=>ln3 λ_ _ _=>rfl
 let zjP:Df K mg "root_below" zmJ zfL:=dfo X G a64 l64 c64 λ_ _ _ _ _ _=>ln2 λ_ _=>rfl
 let zdm:Df K mg "root" zhE zcX:=dfo X G a65 l65 c65 λ_ _ _ _ _ _=>ln2 λ_ _=>rfl
 let zm2:Df K mg "back_power" zmG zhe:=dfo X G a66 l66 c66 λ_ _ _ _ _ _=>ln4 λ_ _ _ _=>rfl
 let zmP:Dm K zal.C "back" "Power.back" zlN zit:=dmo a67 l67 c67 λ_ _ _ _ _ _=>ln4 λ_ _ _ _=>rfl
 let zlO:Df K mg "spans_back" ziD zgt:=dfo X G a68 l68 c68 λ_ _ _ _ _ _=>ln4 λ_ _ _ _=>rfl
 let zju:Df K mg "narrowed" ziw zeY:=dfo X G a69 l69 c69 λ_ _ _ _ _ _=>ln4 λ_ _ _ _=>rfl
 let zmZ:Df K mg "_law_forth" zmx zgs:=dfo X G a70 l70 c70 λ_ _ _ _ _ _=>ln4 λ_ _ _ _=>rfl
 let zlM:Df K mg "_law_worths" zlh zhZ:=dfo X G a71 l71 c71 λ_ _ _ _ _ _=>ln3 λ_ _ _=>rfl
 let zko:Df K mg "_law_barred" zlj zh6:=dfo X G a72 l72 c72 λ_ _ _ _ _ _=>ln4 λ_ _ _ _=>rfl
 let ziL:Df K mg "_law_with" ziY zhU:=dfo X G a73 l73 c73 λ_ _ _ _ _ _=>ln3 λ_ _ _=>rfl
 let ziE:Df K mg "_law_shaves" ziR zfU:=dfo X G a74 l74 c74 λ_ _ _ _ _ _=>ln5 λ_ _ _ _ _=>rfl
 let zni:Df K mg "bars" zm9 zg0:=dfo X G a75 l75 c75 λ_ _ _ _ _ _=>ln2 λ_ _=>rfl
 let zlB:Df K mg "is_barred" zjw zfm:=dfo X G a76 l76 c76 λ_ _ _ _ _ _=>ln4 λ_ _ _ _=>rfl
 let znp:Df K mg "with_span" ziJ zhw:=dfo X G a77 l77 c77 λ_ _ _ _ _ _=>ln3 λ_ _ _=>rfl
 let zk0:Df K mg "cut_off" zma zgq:=dfo X G a78 l78 c78 λ_ _ _ _ _ _=>ln2 λ_ _=>rfl
 let zjI:Df K mg "is_shave" zlC zh8:=dfo X G a79 l79 c79 λ_ _ _ _ _ _=>ln5 λ_ _ _ _ _=>rfl
 let zjE:Df K mg "cut_back" zmS zgf:=dfo X G a80 l80 c80 λ_ _ _ _ _ _=>ln2 λ_ _=>rfl
 let zm1:Df K mg "shaves" zlS zhr:=dfo X G a81 l81 c81 λ_ _ _ _ _ _=>ln4 λ_ _ _ _=>rfl
 let zkx:Df K mg "_law_whole" zna zel:=dfo X G a82 l82 c82 λ_ _ _ _ _ _=>ln1 λ_=>rfl
 let zkA:Df K mg "_law_span_is" zm4 zhK:=dfo X G a83 l83 c83 λ_ _ _ _ _ _=>ln1 λ_=>rfl
 let zne:Df K mg "_law_spans_are" zlR zfp:=dfo X G a84 l84 c84 λ_ _ _ _ _ _=>ln2 λ_ _=>rfl
 let zi0:Df K mg "_law_cuts_are" zmg zhn:=dfo X G a85 l85 c85 λ_ _ _ _ _ _=>ln2 λ_ _=>rfl
 let zly:Df K mg "law" zec zjb:=dfo X G a86 l86 c86 λ_ _ _ _ _ _=>ln1 λ_=>rfl
 have zbT:=PySem.W.mg_none_of X G zbT
 have zaR:=PySem.W.mg_none_of X G zaR
 have zbh:=PySem.W.mg_none_of X G zbh
 have zaS:=PySem.W.mg_none_of X G zaS
 have za9:=PySem.W.mg_none_of X G za9
 have zcy:=PySem.W.mg_none_of X G zcy
 have zba:=PySem.W.mg_none_of X G zba
 have zbp:=PySem.W.mg_none_of X G zbp
 have zdW:=PySem.W.mg_none_of X G zdW
 have zdr:=PySem.W.mg_none_of X G zdr
 have zcm:=PySem.W.mg_none_of X G zcm
 refine⟨PySem.W.fnOf "law" "law" (zd3 zec) (zde zec) (zar zec) .none .none .none m86 none (.ref h86) .none,λs v=>.of_eq rfl,λbase _ _=>?_⟩
 let zoI:=zsR (P:=l.prog) (w:=w) (base:=base) zjF
 let zon:=zr9 (P:=l.prog) (w:=w) (base:=base) zmh
 let zb7:=zyX (P:=l.prog) (w:=w) (base:=base) zlf zon zbT
 let zoS:=zwf (P:=l.prog) (w:=w) (base:=base) znk zb7
 let zoB:=zui (P:=l.prog) (w:=w) (base:=base) zkW zb7
 let zoN:=zsY (P:=l.prog) (w:=w) (base:=base) zj7 zoB
 let zeP:=zsG (P:=l.prog) (w:=w) (base:=base) zmK
 let zpi:=zrN (P:=l.prog) (w:=w) (base:=base) zmM zeP zoN zaR zbh
 let zcJ:=zxU (P:=l.prog) (w:=w) (base:=base) zlq
 let zc0:=zsm (P:=l.prog) (w:=w) (base:=base) zm7 zbh
 let zoG:=zyq (P:=l.prog) (w:=w) (base:=base) zi2 zc0
 let znY:=zwd (P:=l.prog) (w:=w) (base:=base) zkM zoG
 let zpg:=zvv (P:=l.prog) (w:=w) (base:=base) zmy zcJ zb7 znY zbT zaR
 let zod:=ztl (P:=l.prog) (w:=w) (base:=base) ziN zpg zaS zaR
 let zpb:=ztA (P:=l.prog) (w:=w) (base:=base) zku
 let zpr:=zwP (P:=l.prog) (w:=w) (base:=base) zkl zb7
 let zoK:=zwX (P:=l.prog) (w:=w) (base:=base) zln zeP zpr zpb zaR zbh zbT
 let zdA:=zur (P:=l.prog) (w:=w) (base:=base) zjD zaR
 let zoM:=zrU (P:=l.prog) (w:=w) (base:=base) zkX za9
 let zn7:=zuv (P:=l.prog) (w:=w) (base:=base) zjT zod zdA zpi zoS zoM zoI zoK zbh
 let zoW:=zwL (P:=l.prog) (w:=w) (base:=base) zmi
 let zcn:=zyW (P:=l.prog) (w:=w) (base:=base) zkq
 let zok:=zwS (P:=l.prog) (w:=w) (base:=base) znq zcn zoW
 let zol:=zxw (P:=l.prog) (w:=w) (base:=base) zao zap zai zaj zah zal zmL zok
 let zoc:=ztx (P:=l.prog) (w:=w) (base:=base) zap zao zai zaj zah zal zkh
 let zfE:=zuu (P:=l.prog) (w:=w) (base:=base) zkI
 let zpa:=zyc (P:=l.prog) (w:=w) (base:=base) zai zao zap zaj zah zal zkw zfE
 let zco:=zum (P:=l.prog) (w:=w) (base:=base) zkk
 let znS:=zyR (P:=l.prog) (w:=w) (base:=base) zaj zao zap zai zah zal ziM zco
 let zom:=zxd (P:=l.prog) (w:=w) (base:=base) zlW zcn zaS za9
 let zoz:=zuk (P:=l.prog) (w:=w) (base:=base) zah zao zap zai zaj zal znr zom
 let zbL:=zux (P:=l.prog) (w:=w) (base:=base) zi5 zbh
 let zpj:=zxt (P:=l.prog) (w:=w) (base:=base) zmB zcn zbL zaS za9
 let zoq:=ztt (P:=l.prog) (w:=w) (base:=base) zal zao zap zai zaj zah zno zpj
 let zeZ:=zys (P:=l.prog) (w:=w) (base:=base) zal zlw
 let zfc:=ztG (P:=l.prog) (w:=w) (base:=base) zao zjj
 let zfI:=zw3 (P:=l.prog) (w:=w) (base:=base) zap zkt
 let zeJ:=zty (P:=l.prog) (w:=w) (base:=base) zai zmc
 let zem:=zs4 (P:=l.prog) (w:=w) (base:=base) zaj zls
 let zfl:=zt3 (P:=l.prog) (w:=w) (base:=base) zah zjm
 let zet:=zs5 (P:=l.prog) (w:=w) (base:=base) zal zah zaj zai zap zao zkr zeZ zfl zem zeJ zfI zfc
 let zfS:=zsV (P:=l.prog) (w:=w) (base:=base) zal zah zaj zai zap zao zmY zoq zoz znS zpa zoc zol zet
 let zbH:=zsO (P:=l.prog) (w:=w) (base:=base) zj9 za9 zaS
 let zoh:=zvW (P:=l.prog) (w:=w) (base:=base) zjM zbH zaS
 let zo1:=zyt (P:=l.prog) (w:=w) (base:=base) zao zap zai zaj zah zal znu
 let zo2:=zxi (P:=l.prog) (w:=w) (base:=base) zao zap zai zaj zah zal zkT
 let zgd:=zvQ (P:=l.prog) (w:=w) (base:=base) zai zlU zbH zco
 let zgA:=zwV (P:=l.prog) (w:=w) (base:=base) zai zjN zbH zco
 let zo7:=ztC (P:=l.prog) (w:=w) (base:=base) zai zao zap zaj zah zal zkd zgA zgd
 let zhx:=zsr (P:=l.prog) (w:=w) (base:=base) zaj zlg zbH zfE
 let zh9:=zyQ (P:=l.prog) (w:=w) (base:=base) zaj zkB zbH zco
 let zoJ:=zyu (P:=l.prog) (w:=w) (base:=base) zaj zao zap zai zah zal zle zh9 zhx
 let zkO:=zvg (P:=l.prog) (w:=w) (base:=base) zlV
 let zdT:=zv1 (P:=l.prog) (w:=w) (base:=base) zl2 za9 zaS
 let ziB:=ztk (P:=l.prog) (w:=w) (base:=base) zlk zcn
 let ziv:=zu5 (P:=l.prog) (w:=w) (base:=base) zjW zdT ziB
 let znz:=zuj (P:=l.prog) (w:=w) (base:=base) ziy zaS za9
 let zfH:=zuz (P:=l.prog) (w:=w) (base:=base) zjK znz
 let zcc:=ztB (P:=l.prog) (w:=w) (base:=base) zm0
 let zeU:=zuZ (P:=l.prog) (w:=w) (base:=base) zmC zfH ziv zcc zkO zaS
 let zgX:=zvX (P:=l.prog) (w:=w) (base:=base) zah zmf zeU
 let zgw:=zsl (P:=l.prog) (w:=w) (base:=base) zah znd zeU
 let znT:=zw1 (P:=l.prog) (w:=w) (base:=base) zah zao zap zai zaj zal zjf zgw zgX
 let zi9:=zxq (P:=l.prog) (w:=w) (base:=base) zi1 zbL
 let zfu:=zxp (P:=l.prog) (w:=w) (base:=base) zjP zi9
 let N_root:=Df.never (P:=l.prog) (w:=w) (base:=base) 0 zdm
 let zvA:=zwW (P:=l.prog) (w:=w) (base:=base) zdm zbL zfu zcc N_root
 let zeI:=zsF (P:=l.prog) (w:=w) (base:=base) zdm zbL zfu zcc zvA
 let zoQ:=zu2 (P:=l.prog) (w:=w) (base:=base) zm2 zfH zdT zcc zeI zbL zaS
 let znK:=zt0 (P:=l.prog) (w:=w) (base:=base) zal zao zap zai zaj zah zmP zoQ
 let znO:=zw9 (P:=l.prog) (w:=w) (base:=base) zal zah zaj zai zap zao zlO znK znT zoJ zo7 zo2 zo1 zet zoh zfS zbh
 let zez:=zsN (P:=l.prog) (w:=w) (base:=base) zju znO zcy zba
 let znx:=zss (P:=l.prog) (w:=w) (base:=base) zmZ zc0 zaS za9
 let zo6:=ztS (P:=l.prog) (w:=w) (base:=base) zlM znx
 let zfT:=zxz (P:=l.prog) (w:=w) (base:=base) zko zo6
 let zlG:=zwm (P:=l.prog) (w:=w) (base:=base) ziL zba
 let zof:=zuS (P:=l.prog) (w:=w) (base:=base) ziE zfT zlG zbh zaR za9 zaS zba
 let zo8:=zvZ (P:=l.prog) (w:=w) (base:=base) zni
 let zfd:=zwB (P:=l.prog) (w:=w) (base:=base) zlB zo8 zfS
 let zpq:=zwD (P:=l.prog) (w:=w) (base:=base) znp
 let zpp:=zxa (P:=l.prog) (w:=w) (base:=base) zk0
 let zn2:=zwa (P:=l.prog) (w:=w) (base:=base) zjI zfd zpq zpp
 let zo3:=zt4 (P:=l.prog) (w:=w) (base:=base) zjE
 let zjY:=zyU (P:=l.prog) (w:=w) (base:=base) zm1 zn2 zo3 zez zfd zcy zba
 let zdj:=zwh (P:=l.prog) (w:=w) (base:=base) zkx zbp zdW zdr zew zeo
 let zoD:=zsa (P:=l.prog) (w:=w) (base:=base) zkA zdj zaR zbp zcm zcN
 let zer:=zva (P:=l.prog) (w:=w) (base:=base) zne zoD zaR zbp zba
 let znC:=zwZ (P:=l.prog) (w:=w) (base:=base) zi0 zer zdj zaR zbp zcm zba zcN
 let G_law:=zyp (P:=l.prog) (w:=w) (base:=base) zly zjY znC zof zer zez zn7 zba zaR
 exact G_law.ok
end Mine
open PySem PySem.W PyProof.Rows
set_option maxRecDepth 100003 in
set_option maxHeartbeats 0 in
theorem PySem.Challenge.cw_boxnarrow_k38_whole_shaves_by_narrowing_holds : PySem.Challenge.rw_boxnarrow_k38_whole_shaves_by_narrowing.Holds := by
 w_on; refine PySem.W.holds_law Mine.ws_eq λsaid=>?_
 refine PySem.W.holds_open (q:=Mine.vw) (loose:=[]) (Xt:=Mine.xt) (XP:=XL Mine.vw []) (Yf:=Hook.obs (kHook Mine.kp Mine.ks Mine.zeC)) (Ya:=Hook.val (kHook Mine.kp Mine.ks Mine.zeC))
  (YP:=Hook.says (kHook Mine.kp Mine.ks Mine.zeC)) (N:=10858) Mine.left (Hook.of (kHook Mine.kp Mine.ks Mine.zeC)) (Hook.keeps (kHook Mine.kp Mine.ks Mine.zeC)) (λs e=>xl_of s (Bool.and_eq_true_iff.mp e).1) XL.keeps
  (by rfl) (by rfl) (by rfl) (λs e=>recFacts_of (Bool.and_eq_true_iff.mp e).2) (by rfl) (by first | assumption | decide +kernel)
  (by decide +kernel) ⟨rfl,rfl,rfl,rfl,rfl,by decide +kernel⟩ ?hw ?hc
 (case hw=>w_witness2)
 k_fill
 refine L3.zsz (l:=PySem.Challenge.rw_boxnarrow_k38_whole_shaves_by_narrowing) (x:="_law_script") 11 rfl rfl ⟨rfl,by decide,by decide⟩ (λw h Y=>PySem.W.kIn_of Y) ?F
 case F=>
  intro w mg fa h KX G hmg
  refine' Mine.zv0 KX G hmg (zjd:=?zjd) (ziC:=?ziC) (zm5:=?zm5) (zmn:=?zmn) (zjX:=?zjX) (zlL:=?zlL) (zms:=?zms) (zmv:=?zmv) (zkb:=?zkb) (zks:=?zks) (zjz:=?zjz) (zj4:=?zj4) (zjS:=?zjS) (zlJ:=?zlJ) (zlE:=?zlE) (zjn:=?zjn) (zk5:=?zk5) (zmj:=?zmj) (zjU:=?zjU) (zjG:=?zjG) (zk7:=?zk7) (zjp:=?zjp) (zjH:=?zjH) (zlb:=?zlb) (zmF:=?zmF) (zng:=?zng) (zkZ:=?zkZ) (ziA:=?ziA) (zk4:=?zk4) (zm3:=?zm3) (ziK:=?ziK) (zlm:=?zlm) (zix:=?zix) (zmd:=?zmd) (zmo:=?zmo) (zmT:=?zmT) (zkf:=?zkf) (zkJ:=?zkJ) (ziS:=?ziS) (zmr:=?zmr) (zjL:=?zjL) (zlT:=?zlT) (zjc:=?zjc) (zka:=?zka) (zlc:=?zlc) (zj8:=?zj8) (zmU:=?zmU) (znt:=?znt) (zmA:=?zmA) (zmW:=?zmW) (zkp:=?zkp) (zjl:=?zjl) (zm6:=?zm6) (a0:=?a0) (l0:=?l0) (c0:=?c0) (a1:=?a1) (l1:=?l1) (c1:=?c1) (a2:=?a2) (l2:=?l2) (c2:=?c2) (a3:=?a3) (l3:=?l3) (c3:=?c3) (a4:=?a4) (l4:=?l4) (c4:=?c4) (a5:=?a5) (l5:=?l5) (c5:=?c5) (a6:=?a6) (l6:=?l6) (c6:=?c6) (a7:=?a7) (l7:=?l7) (c7:=?c7) (a8:=?a8) (l8:=?l8) (c8:=?c8) (a9:=?a9) (l9:=?l9) (c9:=?c9) (a10:=?a10) (l10:=?l10) (c10:=?c10) (a11:=?a11) (l11:=?l11) (c11:=?c11) (a12:=?a12) (l12:=?l12) (c12:=?c12) (a13:=?a13) (l13:=?l13) (c13:=?c13) (a14:=?a14) (l14:=?l14) (c14:=?c14) (a15:=?a15) (l15:=?l15) (c15:=?c15) (a16:=?a16) (l16:=?l16) (c16:=?c16) (a17:=?a17) (l17:=?l17) (c17:=?c17) (a18:=?a18) (l18:=?l18) (c18:=?c18) (a19:=?a19) (l19:=?l19) (c19:=?c19) (a20:=?a20) (l20:=?l20) (c20:=?c20) (a21:=?a21) (l21:=?l21) (c21:=?c21) (a22:=?a22) (l22:=?l22) (c22:=?c22) (a23:=?a23) (l23:=?l23) (c23:=?c23) (a24:=?a24) (l24:=?l24) (c24:=?c24) (a25:=?a25) (l25:=?l25) (c25:=?c25) (a26:=?a26) (l26:=?l26) (c26:=?c26) (a27:=?a27) (l27:=?l27) (c27:=?c27) (a28:=?a28) (l28:=?l28) (c28:=?c28) (a29:=?a29) (l29:=?l29) (c29:=?c29) (a30:=?a30) (l30:=?l30) (c30:=?c30) (a31:=?a31) (l31:=?l31) (c31:=?c31) (a32:=?a32) (l32:=?l32) (c32:=?c32) (a33:=?a33) (l33:=?l33) (c33:=?c33) (a34:=?a34) (l34:=?l34) (c34:=?c34) (a35:=?a35) (l35:=?l35) (c35:=?c35) (a36:=?a36) (l36:=?l36) (c36:=?c36) (a37:=?a37) (l37:=?l37) (c37:=?c37) (a38:=?a38) (l38:=?l38) (c38:=?c38) (a39:=?a39) (l39:=?l39) (c39:=?c39) (a40:=?a40) (l40:=?l40) (c40:=?c40) (a41:=?a41) (l41:=?l41) (c41:=?c41) (a42:=?a42) (l42:=?l42) (c42:=?c42) (a43:=?a43) (l43:=?l43) (c43:=?c43) (a44:=?a44) (l44:=?l44) (c44:=?c44) (a45:=?a45) (l45:=?l45) (c45:=?c45) (a46:=?a46) (l46:=?l46) (c46:=?c46) (a47:=?a47) (l47:=?l47) (c47:=?c47) (a48:=?a48) (l48:=?l48) (c48:=?c48) (a49:=?a49) (l49:=?l49) (c49:=?c49) (a50:=?a50) (l50:=?l50) (c50:=?c50) (a51:=?a51) (l51:=?l51) (c51:=?c51) (a52:=?a52) (l52:=?l52) (c52:=?c52) (a53:=?a53) (l53:=?l53) (c53:=?c53) (a54:=?a54) (l54:=?l54) (c54:=?c54) (a55:=?a55) (l55:=?l55) (c55:=?c55) (a56:=?a56) (l56:=?l56) (c56:=?c56) (a57:=?a57) (l57:=?l57) (c57:=?c57) (a58:=?a58) (l58:=?l58) (c58:=?c58) (a59:=?a59) (l59:=?l59) (c59:=?c59) (a60:=?a60) (l60:=?l60) (c60:=?c60) (a61:=?a61) (l61:=?l61) (c61:=?c61) (a62:=?a62) (l62:=?l62) (c62:=?c62) (a63:=?a63) (l63:=?l63) (c63:=?c63) (a64:=?a64) (l64:=?l64) (c64:=?c64) (a65:=?a65) (l65:=?l65) (c65:=?c65) (a66:=?a66) (l66:=?l66) (c66:=?c66) (a67:=?a67) (l67:=?l67) (c67:=?c67) (a68:=?a68) (l68:=?l68) (c68:=?c68) (a69:=?a69) (l69:=?l69) (c69:=?c69) (a70:=?a70) (l70:=?l70) (c70:=?c70) (a71:=?a71) (l71:=?l71) (c71:=?c71) (a72:=?a72) (l72:=?l72) (c72:=?c72) (a73:=?a73) (l73:=?l73) (c73:=?c73) (a74:=?a74) (l74:=?l74) (c74:=?c74) (a75:=?a75) (l75:=?l75) (c75:=?c75) (a76:=?a76) (l76:=?l76) (c76:=?c76) (a77:=?a77) (l77:=?l77) (c77:=?c77) (a78:=?a78) (l78:=?l78) (c78:=?c78) (a79:=?a79) (l79:=?l79) (c79:=?c79) (a80:=?a80) (l80:=?l80) (c80:=?c80) (a81:=?a81) (l81:=?l81) (c81:=?c81) (a82:=?a82) (l82:=?l82) (c82:=?c82) (a83:=?a83) (l83:=?l83) (c83:=?c83) (a84:=?a84) (l84:=?l84) (c84:=?c84) (a85:=?a85) (l85:=?l85) (c85:=?c85) (a86:=?a86) (l86:=?l86) (c86:=?c86) (zbT:=?zbT) (zaR:=?zaR) (zbh:=?zbh) (zaS:=?zaS) (za9:=?za9) (zcy:=?zcy) (zba:=?zba) (zbp:=?zbp) (zdW:=?zdW) (zdr:=?zdr) (zcm:=?zcm) (zew:=?zew) (zeo:=?zeo) (zcN:=?zcN)
  (case zjd | ziC | zm5 | zmn | zjX | zlL | zms | zmv | zkb | zks | zjz | zj4 | zjS | zlJ | zlE | zjn | zk5 | zmj | zjU | zjG | zk7 | zjp | zjH | zlb | zmF | zng | zkZ | ziA | zk4 | zm3 | ziK | zlm | zix | zmd | zmo | zmT | zkf | zkJ | ziS | zmr | zjL | zlT | zjc | zka | zlc | zj8 | zmU | znt | zmA | zmW | zkp | zjl | zm6 | zbT | zaR | zbh | zaS | za9 | zcy | zba | zbp | zdW | zdr | zcm=>k_is)
  (case a0 | a1 | a2 | a3 | a4 | a5 | a6 | a7 | a8 | a9 | a10 | a11 | a12 | a13 | a14 | a15 | a16 | a17 | a18 | a19 | a20 | a21 | a22 | a25 | a27 | a29 | a31 | a32 | a40 | a41 | a42 | a43 | a52 | a53 | a54 | a55 | a56 | a57 | a58 | a59 | a63 | a64 | a65 | a66 | a68 | a69 | a70 | a71 | a72 | a73 | a74 | a75 | a76 | a77 | a78 | a79 | a80 | a81 | a82 | a83 | a84 | a85 | a86=>delta Mine.nsA; k_is)
  (case a23 | a24 | a26 | a28 | a30 | a33 | a34 | a35 | a36 | a37 | a38 | a39 | a44 | a45 | a46 | a47 | a48 | a49 | a50 | a51 | a60 | a61 | a62 | a67=>delta Mine.fdA; k_is)
  (case l0 | l1 | l2 | l3 | l4 | l5 | l6 | l7 | l8 | l9 | l10 | l11 | l12 | l13 | l14 | l15 | l16 | l17 | l18 | l19 | l20 | l21 | l22 | l23 | l24 | l25 | l26 | l27 | l28 | l29 | l30 | l31 | l32 | l33 | l34 | l35 | l36 | l37 | l38 | l39 | l40 | l41 | l42 | l43 | l44 | l45 | l46 | l47 | l48 | l49 | l50 | l51 | l52 | l53 | l54 | l55 | l56 | l57 | l58 | l59 | l60 | l61 | l62 | l63 | l64 | l65 | l66 | l67 | l68 | l69 | l70 | l71 | l72 | l73 | l74 | l75 | l76 | l77 | l78 | l79 | l80 | l81 | l82 | l83 | l84 | l85 | l86=>delta Mine.lkA; k_is)
  (case c0 | c1 | c2 | c3 | c4 | c5 | c6 | c7 | c8 | c9 | c10 | c11 | c12 | c13 | c14 | c15 | c16 | c17 | c18 | c19 | c20 | c21 | c22 | c23 | c24 | c25 | c26 | c27 | c28 | c29 | c30 | c31 | c32 | c33 | c34 | c35 | c36 | c37 | c38 | c39 | c40 | c41 | c42 | c43 | c44 | c45 | c46 | c47 | c48 | c49 | c50 | c51 | c52 | c53 | c54 | c55 | c56 | c57 | c58 | c59 | c60 | c61 | c62 | c63 | c64 | c65 | c66 | c67 | c68 | c69 | c70 | c71 | c72 | c73 | c74 | c75 | c76 | c77 | c78 | c79 | c80 | c81 | c82 | c83 | c84 | c85 | c86=>delta Mine.cdA; k_is)
  (case zew=>exact L3.znH _ _ (by simp))
  (case zeo=>exact L3.znH _ _ (by simp))
  (case zcN=>exact L3.znH _ _ (by simp))
