import PyProof.Rows.All
import Wide.All
import OpenK.AllK
import Wide.FinOn
import Lean
import PyProof.EqAt
import PyProof.EqKinds
import PyProof.TupleCall
import PySem.Challenge.RW_boxnarrow_k36_shaves_keep_answers
theorem Vaa:type_of% @Nat.le_refl:=@Nat.le_refl
theorem Vab:type_of% @List.getElem?_eq_some_iff:=@List.getElem?_eq_some_iff
theorem Vac:type_of% @List.length_map:=@List.length_map
theorem Vad:type_of% @Int.pow_succ:=@Int.pow_succ
theorem Vae:type_of% @Int.toNat_natCast:=@Int.toNat_natCast
theorem Vaf:type_of% @List.getElem?_eq_getElem:=@List.getElem?_eq_getElem
theorem Vag:type_of% @Int.mul_le_mul_of_nonneg_right:=@Int.mul_le_mul_of_nonneg_right
theorem Vah:type_of% @Int.neg_mul:=@Int.neg_mul
theorem Vai:type_of% @List.size_toArray:=@List.size_toArray
theorem Vaj:type_of% @List.length_take:=@List.length_take
theorem Vak:type_of% @List.getElem?_append_left:=@List.getElem?_append_left
theorem Val:type_of% @List.getElem?_map:=@List.getElem?_map
theorem Vam:type_of% @List.mem_cons:=@List.mem_cons
theorem Van:type_of% @Int.mul_nonneg:=@Int.mul_nonneg
theorem Vao:type_of% @Bool.false_ne_true:=@Bool.false_ne_true
theorem Vap:type_of% @List.length_append:=@List.length_append
theorem Vaq:type_of% @Option.map_eq_some_iff:=@Option.map_eq_some_iff
theorem Var:type_of% @Nat.lt_of_lt_of_le:=@Nat.lt_of_lt_of_le
theorem Vas:type_of% @Nat.ne_of_lt:=@Nat.ne_of_lt
theorem Vat:type_of% @List.map_cons:=@List.map_cons
theorem Vau:type_of% @List.mem_of_getElem?:=@List.mem_of_getElem?
theorem Vav:type_of% @List.lookup_cons:=@List.lookup_cons
theorem Vaw:type_of% @Int.pow_pos:=@Int.pow_pos
theorem Vax:type_of% @List.getD_eq_getElem?_getD:=@List.getD_eq_getElem?_getD
theorem Vay:type_of% @Int.le_of_lt:=@Int.le_of_lt
theorem Vaz:type_of% @List.length_cons:=@List.length_cons
theorem VaA:type_of% @Nat.zero_le:=@Nat.zero_le
theorem VaB:type_of% @Nat.le_trans:=@Nat.le_trans
theorem VaC:type_of% @Int.mul_comm:=@Int.mul_comm
theorem VaD:type_of% @List.length_set:=@List.length_set
theorem VaE:type_of% @List.map_append:=@List.map_append
theorem VaF:type_of% @List.mem_cons_of_mem:=@List.mem_cons_of_mem
theorem VaG:type_of% @Int.pow_nonneg:=@Int.pow_nonneg
theorem VaH:type_of% @List.mem_append_right:=@List.mem_append_right
theorem VaI:type_of% @List.mem_iff_getElem:=@List.mem_iff_getElem
theorem VaJ:type_of% @List.mem_singleton:=@List.mem_singleton
theorem VaK:type_of% @List.getElem?_eq_none_iff:=@List.getElem?_eq_none_iff
theorem VaL:type_of% @Nat.lt_irrefl:=@Nat.lt_irrefl
theorem VaM:type_of% @List.getElem?_append_right:=@List.getElem?_append_right
theorem VaN:type_of% @Int.le_refl:=@Int.le_refl
theorem VaO:type_of% @List.not_mem_nil:=@List.not_mem_nil
theorem VaP:type_of% @List.length_nil:=@List.length_nil
theorem VaQ:type_of% @Int.pow_zero:=@Int.pow_zero
theorem VaR:type_of% @Int.mul_pow:=@Int.mul_pow
theorem VaS:type_of% @Int.mul_pos:=@Int.mul_pos
theorem VaT:type_of% @List.mem_append:=@List.mem_append
theorem VaU:type_of% @List.getElem?_set_ne:=@List.getElem?_set_ne
theorem VaV:type_of% @List.find?_cons:=@List.find?_cons
theorem VaW:type_of% @Int.mul_zero:=@Int.mul_zero
theorem VaX:type_of% @List.take_length:=@List.take_length
theorem VaY:type_of% @Nat.le_of_lt:=@Nat.le_of_lt
theorem VaZ:type_of% @List.mem_cons_self:=@List.mem_cons_self
theorem Va0:type_of% @List.getElem?_set_self:=@List.getElem?_set_self
theorem Va1:type_of% @Nat.lt_of_le_of_lt:=@Nat.lt_of_le_of_lt
theorem Va2:type_of% @Int.le_of_mul_le_mul_right:=@Int.le_of_mul_le_mul_right
theorem Va3:type_of% @List.append_nil:=@List.append_nil
theorem Va4:type_of% @Int.mul_neg:=@Int.mul_neg
theorem Va5:type_of% @Int.le_trans:=@Int.le_trans
theorem Va6:type_of% @Nat.mod_two_eq_zero_or_one:=@Nat.mod_two_eq_zero_or_one
set_option Elab.async false
set_option linter.all false
set_option maxRecDepth 100000
set_option genSizeOf false
set_option maxHeartbeats 40000000
namespace L2
open PySem PySem.Spec PyProof.Rows
def zaJ (s:Stmt)(j:Nat):Stmt:=match s with
 | .ClassDef _ _ _ body _ _ _ _ _ _ _=>body.getD j (.Pass ⟨0,0,0,0⟩)
 | _=>.Pass ⟨0,0,0,0⟩
def zdJ (s:Stmt):Arguments:=match s with
 | .FunctionDef _ a _ _ _ _ _ _ _ _=>a
 | _=>{ posonlyargs:=[],args:=[],vararg:=none,kwonlyargs:=[],kw_defaults:=[],kwarg:=none,defaults:=[] }
def zcW (s:Stmt):List Stmt:=match s with
 | .FunctionDef _ _ b _ _ _ _ _ _ _=>b
 | _=>[]
def zaq (s:Stmt):Scope:=match s with
 | .FunctionDef _ _ _ _ _ _ sc _ _ _=>sc
 | _=>{ kind:=.function,names:=[],isGenerator:=false,isCoroutine:=false }
end L2
namespace L3
open PySem PySem.W PyProof.Rows PySem.Calls
theorem znm {α β γ δ:Type}{f:α→Option β}{A:β→γ}{B:β→δ}{a:γ}{b:δ}(h1:(λx=>(f x).map A)=λ_=>some a)(h2:(λx=>(f x).map B)=λ_=>some b):(λx=>(f x).map λs=>(A s,B s))=λ_=>some (a,b):=by
 funext x
 have e1:=congrFun h1 x
 have e2:=congrFun h2 x
 cases h:f x with
 | none=>rw[h] at e1; cases e1
 | some s=>
  rw[h] at e1 e2
  exact congrArg some (Prod.ext (Option.some.inj e1) (Option.some.inj e2))
def goT (tb:String→Option Builtin)(p:Program)(w:World)(n₀:Nat)(ann:Option Value):Nat→SharedT→Thread→Option SharedT
 | 0,_,_=>none
 | k+1,s,t=>bif through t then some s else bif stepOk n₀ ann t then (stepT (denote tb) p w s t).bind (λr=>goT tb p w n₀ ann k r.1 r.2) else none
theorem zqD {tb:String→Option Builtin}{p:Program}{w:World}{n₀:Nat}{ann:Option Value}:∀ {n:Nat} {s s':SharedT} {t:Thread},goT tb p w n₀ ann n s t=some s'→topRun tb p w n₀ ann n s.abs t=some s'.abs
 | 0,_,_,_,q=>nomatch q
 | n+1,s,s',t,q=>by
  unfold goT at q
  unfold topRun
  cases c1:through t
  ·rw[c1] at q
   cases c2:stepOk n₀ ann t
   ·rw[c2] at q
    exact nomatch q
   ·rw[c2] at q
    obtain⟨⟨s2,t2⟩,c3,q⟩:=Option.bind_eq_some_iff.mp q
    rw[stepT_spec c3]
    exact zqD q
  ·rw[c1] at q
   cases q
   rfl
def zoC (os:Array Obj):Nat→Nat→Nat→BT
 | 0,_,_=>.nil
 | f+1,a,b=>match os[b]? with
  | some o=>.node o (zoC os f (2*a) (a+b)) (zoC os f (2*a) (2*a+b))
  | none=>.nil
noncomputable def bootT (P:Params):BT:=zoC (boot_heap P).objs 6 1 0
noncomputable abbrev zce (w:World)(os:OsState):SharedT:=⟨bootT w.params,11,(boot_heap w.params).life,Array.mk [],boot_drawn,boot_toks,os⟩
def zjw (s:SharedT)(a:Addr):Option Obj:=if a<s.n then (match s.tree.get a with | some o=>alive o | none=>s.abs.heap.get? a) else none
theorem zwB (s:SharedT)(a:Addr):s.abs.heap.get? a=zjw s a:=by
 unfold zjw
 split
 ·rename_i h
  cases e:s.tree.get a with
  | none=>rfl
  | some o=>exact abs_get h e
 ·rename_i h
  exact abs_get_none h
theorem zx1 (l:List Addr)(s:SharedT):l.map s.abs.heap.get?=l.map (zjw s):=List.map_congr_left λa _=>zwB s a
noncomputable abbrev seenT (p q:Program)(loose:List Str)(Xt:Shared→Bool){α:Type}(YT:SharedT→α)(g0:Bool)(w:World)(s:SharedT):=
 ((staticsOk (importedModules p.main.body) (boot_heap w.params) s.abs.heap&&namesBound p s.abs.heap&&gensDone s.abs&&laidKept (boot_heap w.params) s.abs.heap),openSeen q loose (importedModules p.main.body) Xt g0 s.abs,YT s)
theorem zs0 {p q:Program}{loose:List Str}{Xt:Shared→Bool}{α:Type}{Yf:Shared→α}{YT:SharedT→α}{Ya:World→α}{N:Nat}{g0:Bool}{ann:Option Value}(hY:∀s:SharedT,Yf s.abs=YT s)(e:opening p=plainProg p.main.scope.names)(hN:Nat.ble 600 N=true)(f:∀s,fenceModules? p s=some s)
  (size:∀w:World,((boot_heap w.params).isNs mainGlobals&&(Array.mk []:Array GenState).size==0,(boot_heap w.params).objs.size,(boot_heap w.params).nsMap mainGlobals "__annotations__")=(true,11,ann))
  (run:∀w:World,(λos=>(goT treeTable p w 11 ann N (zce w os) (topStub p)).map λs=>seenT p q loose Xt YT g0 w s)=λ_=>some (true,openGood q loose,Ya w)):LeftO p q loose Xt Yf Ya N g0:=λw=>by
 obtain⟨⟨h,gs,d,k,os⟩,e1,e'⟩:=Vaq.mp (boot_open e hN f w)
 obtain⟨rfl,rfl,rfl,rfl⟩:h=boot_heap w.params∧gs=Array.mk []∧d=boot_drawn∧k=boot_toks:=by simpa using e'
 obtain⟨y1,y2,y3⟩:_∧_∧_:=by simpa only [Prod.mk.injEq] using size w
 obtain⟨s',r1,r2⟩:=Vaq.mp (congrFun (run w) os)
 obtain⟨l1,l2,l3⟩:_∧_∧_:=by simpa only [Prod.mk.injEq] using r2
 have r:topRun treeTable p w 11 ann N ⟨boot_heap w.params,Array.mk [],boot_drawn,boot_toks,os⟩ (topStub p)=some s'.abs:=by
  have z:=zqD r1
  exact z
 have t:topFrom treeTable p w N ⟨boot_heap w.params,Array.mk [],boot_drawn,boot_toks,os⟩=some s'.abs:=by
  unfold topFrom
  dsimp only
  rw[y1,y2,y3,r]
  show (match staticsOk (importedModules p.main.body) (boot_heap w.params) s'.abs.heap&&namesBound p s'.abs.heap&&gensDone s'.abs&&laidKept (boot_heap w.params) s'.abs.heap with | true=>_ | false=>_)=_
  rw[l1]
 unfold openEnds
 rw[e1]
 show Option.map _ (topFrom treeTable p w N _)=_
 rw[t]
 exact congrArg some (Prod.ext l2 ((hY s').trans l3))
noncomputable abbrev zol (p:Program)(w:World)(s:SharedT):Bool:=staticsOk (importedModules p.main.body) (boot_heap w.params) s.abs.heap&&namesBound p s.abs.heap&&gensDone s.abs&&laidKept (boot_heap w.params) s.abs.heap
theorem zre {p q:Program}{loose:List Str}{Xt:Shared→Bool}{α:Type}{Yf:Shared→α}{YT:SharedT→α}{Ya:World→α}{N:Nat}{g0:Bool}{ann:Option Value}(hY:∀s:SharedT,Yf s.abs=YT s)(e:opening p=plainProg p.main.scope.names)(hN:Nat.ble 600 N=true)(f:∀s,fenceModules? p s=some s)
  (size:∀w:World,((boot_heap w.params).isNs mainGlobals&&(Array.mk []:Array GenState).size==0,(boot_heap w.params).objs.size,(boot_heap w.params).nsMap mainGlobals "__annotations__")=(true,11,ann))
  (ra:∀w:World,(λos=>(goT treeTable p w 11 ann N (zce w os) (topStub p)).map λs=>(zol p w s,(openSeen q loose (importedModules p.main.body) Xt g0 s.abs).1))=λ_=>some (true,(openGood q loose).1))
  (rb:∀w:World,(λos=>(goT treeTable p w 11 ann N (zce w os) (topStub p)).map λs=>((openSeen q loose (importedModules p.main.body) Xt g0 s.abs).2.1,(openSeen q loose (importedModules p.main.body) Xt g0 s.abs).2.2.1))=λ_=>some ((openGood q loose).2.1,(openGood q loose).2.2.1))
  (rc:∀w:World,(λos=>(goT treeTable p w 11 ann N (zce w os) (topStub p)).map λs=>(openSeen q loose (importedModules p.main.body) Xt g0 s.abs).2.2.2)=λ_=>some (openGood q loose).2.2.2)
  (objs:∀w:World,(λos=>(goT treeTable p w 11 ann N (zce w os) (topStub p)).map YT)=λ_=>some (Ya w)):LeftO p q loose Xt Yf Ya N g0:=by
 refine zs0 hY e hN f size λw=>funext λos=>?_
 obtain⟨s1,a1,b1⟩:=Vaq.mp (congrFun (ra w) os)
 obtain⟨s2,a2,b2⟩:=Vaq.mp (congrFun (rb w) os)
 obtain⟨s3,a3,b3⟩:=Vaq.mp (congrFun (rc w) os)
 obtain⟨s4,a4,b4⟩:=Vaq.mp (congrFun (objs w) os)
 rw[a1] at a2 a3 a4
 cases a2
 cases a3
 cases a4
 obtain⟨l1,l2⟩:=Prod.mk.inj b1
 obtain⟨l3,l4⟩:=Prod.mk.inj b2
 have l5:openSeen q loose (importedModules p.main.body) Xt g0 s1.abs=openGood q loose:=Prod.ext l2 (Prod.ext l3 (Prod.ext l4 b3))
 rw[a1]
 show some (zol p w s1,openSeen q loose (importedModules p.main.body) Xt g0 s1.abs,YT s1)=some (true,openGood q loose,Ya w)
 rw[l1,l5,b4]
end L3
namespace Mine
open PySem PySem.Spec PyProof.Rows L2 L3
def top (i:Nat):Stmt:=PySem.Challenge.pw_boxnarrow_k36_shaves_keep_answers.main.body.getD i (.Pass ⟨0,0,0,0⟩)
theorem ws_eq:PySem.W.OpenLaw.wellSaid PySem.Challenge.rw_boxnarrow_k36_shaves_keep_answers=true:=by decide +kernel
def vw:Program:={ PySem.Challenge.pw_boxnarrow_k36_shaves_keep_answers with main:={ PySem.Challenge.pw_boxnarrow_k36_shaves_keep_answers.main with body:=[top 0,top 2,top 3,top 5,top 6,top 8,top 9,top 10,top 11,top 12,top 13,top 14,top 15,top 17,top 18,top 19,top 20,top 21,top 22,top 23,top 24,top 25,top 26,top 27,top 29,top 30,top 31,top 32,top 33,top 34,top 35,top 36,top 37,top 39,top 40,top 42,top 43,top 44,top 46,top 47,top 48,top 49,top 50,top 51,top 53,top 54,top 55,top 56,top 57,top 58,top 59,top 60,top 61,top 62,top 63,top 64,top 65,top 66,top 67,top 68,top 69,top 70,top 71,top 72,top 73,top 74,top 75,top 76,top 77] } }
noncomputable abbrev de (P:Params)(s:Str)(t:Tok)(v:Value):DictEntry:=⟨PySem.PyData.keyHash P s,.str s t,v⟩
abbrev co (n q:Str)(a b c d:Tok)(i k:Int)(r s:Addr)(y z:Value)(t:Addr)(j:Int):Obj:=⟨.type "code",none,.fields #[.str n a,.str q b,.str "/claim/cut.py" c,.int i 0,.int k 0,.int 0 0,.int 0 0,.int 3 0,.ref r,.bool Bool.true,.int 181 0,.ref s,.none,y,z,.ref t,.int j 0,.int i 0,.str "/claim/cut.py" d],#[]⟩
abbrev fo (n q:Str)(st:Stmt)(m:Value)(c:Addr):Obj:=⟨.type "function",none,.func (PySem.W.fnOf n q (zdJ st) (zcW st) (zaq st) .none .none .none m none (.ref c) .none),#[]⟩
noncomputable def kp:Params→PySem.W.Frag:=λP=>
 (nat_lit 3,(.mk (.type "dict") none (.dict #[(de P "__name__" 165 (.str "law_boxnarrow_k36_shaves_keep_answers" 1044)),(de P "__doc__" 166 .none),(de P "__package__" 167 .none),(de P "__loader__" 168 (.builtin "__main__.__loader__#opaque")),(de P "__spec__" 169 .none),(de P "__annotations__" 170 (.ref 6)),(de P "__builtins__" 171 (.ref 4)),(de P "__file__" 173 (.str "/claim/cut.py" 172)),(de P "__cached__" 174 .none),(de P "_wall" 193 (.ref 21)),(de P "BoxError" 213 (.ref 31)),(de P "NoSpan" 229 (.ref 44)),(de P "raised" 241 (.ref 53)),(de P "less" 249 (.ref 60)),(de P "rounded_up" 259 (.ref 67)),(de P "span_of" 268 (.ref 74)),(de P "add_spans" 276 (.ref 81)),(de P "take_spans" 284 (.ref 88)),(de P "mul_spans" 294 (.ref 95)),(de P "raise_span" 300 (.ref 100)),(de P "common" 310 (.ref 107)),(de P "hull" 318 (.ref 114)),(de P "holds_nought" 327 (.ref 121)),(de P "opposite" 334 (.ref 128)),(de P "joined" 342 (.ref 135)),(de P "part_between" 351 (.ref 142)),(de P "quotient" 359 (.ref 149)),(de P "back_by_side" 372 (.ref 156)),(de P "back_times" 385 (.ref 163)),(de P "root_below" 395 (.ref 170)),(de P "next_guess" 404 (.ref 177)),(de P "root" 413 (.ref 184)),(de P "back_power" 427 (.ref 191)),(de P "Node" 449 (.ref 201)),(de P "Number" 517 (.ref 250)),(de P "Unknown" 582 (.ref 297)),(de P "Pair" 632 (.ref 330)),(de P "Plus" 701 (.ref 377)),(de P "Minus" 770 (.ref 424)),(de P "Times" 839 (.ref 471)),(de P "Power" 907 (.ref 518)),(de P "kind_of" 914 (.ref 527)),(de P "worths" 927 (.ref 534)),(de P "bars" 935 (.ref 541)),(de P "asked_of" 945 (.ref 548)),(de P "spans_back" 961 (.ref 555)),(de P "narrowed" 976 (.ref 562)),(de P "with_span" 987 (.ref 569)),(de P "is_barred" 998 (.ref 576)),(de P "cut_off" 1006 (.ref 583)),(de P "cut_back" 1014 (.ref 590)),(de P "is_shave" 1027 (.ref 597)),(de P "shaves" 1043 (.ref 604)),(de P "_law_cell" 1053 (.ref 611)),(de P "_law_whole" 1060 (.ref 618)),(de P "_law_span_is" 1067 (.ref 625)),(de P "_law_spans_are" 1076 (.ref 632)),(de P "_law_divisor" 1085 (.ref 639)),(de P "_law_fraction" 1094 (.ref 646)),(de P "_law_grid" 1102 (.ref 653)),(de P "_law_span" 1113 (.ref 660)),(de P "_law_power" 1123 (.ref 667)),(de P "_law_number" 1132 (.ref 674)),(de P "_law_node" 1144 (.ref 681)),(de P "_law_weight" 1152 (.ref 688)),(de P "_law_net" 1158 (.ref 693)),(de P "_law_exact" 1169 (.ref 700)),(de P "_law_exacts" 1179 (.ref 707)),(de P "_law_point" 1193 (.ref 714)),(de P "_law_in" 1202 (.ref 721)),(de P "_law_within" 1212 (.ref 728)),(de P "_law_put" 1220 (.ref 735)),(de P "_law_met_row" 1236 (.ref 742)),(de P "_law_row_by" 1247 (.ref 749)),(de P "_law_meets" 1257 (.ref 756)),(de P "_law_cuts_are" 1266 (.ref 763)),(de P "_law_beyond" 1277 (.ref 770)),(de P "law" 1283 (.ref 775))] 78) #[]))::
 (nat_lit 30,(.mk (.type "dict") none (.dict #[(de P "__module__" 203 (.str "boxnarrow.errors" 194)),(de P "__firstlineno__" 207 (.int 5 206)),(de P "__static_attributes__" 208 (.ref 29)),(de P "__weakref__" 210 (.ref 32)),(de P "__doc__" 211 .none)] 3) #[]))::
 (nat_lit 31,(.mk (.type "type") none (.cls (PySem.ClassData.mk "BoxError" [(.type "ValueError")] [(.ref 31),(.type "ValueError"),(.type "Exception"),(.type "BaseException"),(.type "object")] 30 "BoxError" Bool.true [] [(.ref 44)] Bool.false none Bool.false)) #[(some (.ref 22)),none,(some (.str "BoxError" 196)),(some (.str "BoxError" 204)),(some (.builtin "ValueError.__new__")),(some (.bool Bool.true))]))::
 (nat_lit 43,(.mk (.type "dict") none (.dict #[(de P "__module__" 221 (.str "boxnarrow.errors" 194)),(de P "__firstlineno__" 225 (.int 7 224)),(de P "__static_attributes__" 226 (.ref 42)),(de P "__doc__" 227 .none)] 2) #[]))::
 (nat_lit 44,(.mk (.type "type") none (.cls (PySem.ClassData.mk "NoSpan" [(.ref 31)] [(.ref 44),(.ref 31),(.type "ValueError"),(.type "Exception"),(.type "BaseException"),(.type "object")] 43 "NoSpan" Bool.true [] [] Bool.false none Bool.false)) #[(some (.ref 35)),none,(some (.str "NoSpan" 214)),(some (.str "NoSpan" 222)),(some (.builtin "ValueError.__new__")),(some (.bool Bool.true))]))::
 (nat_lit 52,co "raised" "raised" 232 233 234 240 10 2 47 48 (.ref 49) (.ref 50) 51 239)::
 (nat_lit 53,fo "raised" "raised" (top 5) (.str "boxnarrow.fractions" 230) 52)::
 (nat_lit 59,co "less" "less" 242 243 244 248 15 2 54 55 (.ref 56) (.ref 57) 58 247)::
 (nat_lit 60,fo "less" "less" (top 6) (.str "boxnarrow.fractions" 230) 59)::
 (nat_lit 66,co "rounded_up" "rounded_up" 252 253 254 258 18 2 61 62 (.ref 63) (.ref 64) 65 257)::
 (nat_lit 67,fo "rounded_up" "rounded_up" (top 8) (.str "boxnarrow.spans" 250) 66)::
 (nat_lit 73,co "span_of" "span_of" 260 261 262 267 20 3 68 69 (.ref 70) (.ref 71) 72 266)::
 (nat_lit 74,fo "span_of" "span_of" (top 9) (.str "boxnarrow.spans" 250) 73)::
 (nat_lit 80,co "add_spans" "add_spans" 269 270 271 275 24 2 75 76 (.ref 77) (.ref 78) 79 274)::
 (nat_lit 81,fo "add_spans" "add_spans" (top 10) (.str "boxnarrow.spans" 250) 80)::
 (nat_lit 87,co "take_spans" "take_spans" 277 278 279 283 26 2 82 83 (.ref 84) (.ref 85) 86 282)::
 (nat_lit 88,fo "take_spans" "take_spans" (top 11) (.str "boxnarrow.spans" 250) 87)::
 (nat_lit 94,co "mul_spans" "mul_spans" 285 286 287 293 28 3 89 90 (.ref 91) (.ref 92) 93 292)::
 (nat_lit 95,fo "mul_spans" "mul_spans" (top 12) (.str "boxnarrow.spans" 250) 94)::
 (nat_lit 99,co "raise_span" "raise_span" 295 296 297 299 31 3 96 97 .none .none 98 298)::
 (nat_lit 100,fo "raise_span" "raise_span" (top 13) (.str "boxnarrow.spans" 250) 99)::
 (nat_lit 106,co "common" "common" 301 302 303 309 38 2 101 102 (.ref 103) (.ref 104) 105 308)::
 (nat_lit 107,fo "common" "common" (top 14) (.str "boxnarrow.spans" 250) 106)::
 (nat_lit 113,co "hull" "hull" 311 312 313 317 44 2 108 109 (.ref 110) (.ref 111) 112 316)::
 (nat_lit 114,fo "hull" "hull" (top 15) (.str "boxnarrow.spans" 250) 113)::
 (nat_lit 120,co "holds_nought" "holds_nought" 321 322 323 326 47 1 115 116 (.ref 117) (.ref 118) 119 325)::
 (nat_lit 121,fo "holds_nought" "holds_nought" (top 17) (.str "boxnarrow.backs" 319) 120)::
 (nat_lit 127,co "opposite" "opposite" 328 329 330 333 49 1 122 123 (.ref 124) (.ref 125) 126 332)::
 (nat_lit 128,fo "opposite" "opposite" (top 18) (.str "boxnarrow.backs" 319) 127)::
 (nat_lit 134,co "joined" "joined" 335 336 337 341 51 2 129 130 (.ref 131) (.ref 132) 133 340)::
 (nat_lit 135,fo "joined" "joined" (top 19) (.str "boxnarrow.backs" 319) 134)::
 (nat_lit 141,co "part_between" "part_between" 343 344 345 350 57 3 136 137 (.ref 138) (.ref 139) 140 349)::
 (nat_lit 142,fo "part_between" "part_between" (top 20) (.str "boxnarrow.backs" 319) 141)::
 (nat_lit 148,co "quotient" "quotient" 352 353 354 358 61 2 143 144 (.ref 145) (.ref 146) 147 357)::
 (nat_lit 149,fo "quotient" "quotient" (top 21) (.str "boxnarrow.backs" 319) 148)::
 (nat_lit 155,co "back_by_side" "back_by_side" 360 361 362 371 63 3 150 151 (.ref 152) (.ref 153) 154 370)::
 (nat_lit 156,fo "back_by_side" "back_by_side" (top 22) (.str "boxnarrow.backs" 319) 155)::
 (nat_lit 162,co "back_times" "back_times" 373 374 375 384 69 4 157 158 (.ref 159) (.ref 160) 161 383)::
 (nat_lit 163,fo "back_times" "back_times" (top 23) (.str "boxnarrow.backs" 319) 162)::
 (nat_lit 169,co "root_below" "root_below" 386 387 388 394 80 2 164 165 (.ref 166) (.ref 167) 168 393)::
 (nat_lit 170,fo "root_below" "root_below" (top 24) (.str "boxnarrow.backs" 319) 169)::
 (nat_lit 176,co "next_guess" "next_guess" 396 397 398 403 89 3 171 172 (.ref 173) (.ref 174) 175 402)::
 (nat_lit 177,fo "next_guess" "next_guess" (top 25) (.str "boxnarrow.backs" 319) 176)::
 (nat_lit 183,co "root" "root" 405 406 407 412 91 2 178 179 (.ref 180) (.ref 181) 182 411)::
 (nat_lit 184,fo "root" "root" (top 26) (.str "boxnarrow.backs" 319) 183)::
 (nat_lit 190,co "back_power" "back_power" 414 415 416 426 98 4 185 186 (.ref 187) (.ref 188) 189 425)::
 (nat_lit 191,fo "back_power" "back_power" (top 27) (.str "boxnarrow.backs" 319) 190)::
 (nat_lit 200,(.mk (.type "dict") none (.dict #[(de P "__module__" 437 (.str "boxnarrow.kinds" 428)),(de P "__firstlineno__" 441 (.int 109 440)),(de P "__static_attributes__" 442 (.ref 199)),(de P "__dict__" 444 (.ref 202)),(de P "__weakref__" 446 (.ref 203)),(de P "__doc__" 447 .none)] 4) #[]))::
 (nat_lit 201,(.mk (.type "type") none (.cls (PySem.ClassData.mk "Node" [(.type "object")] [(.ref 201),(.type "object")] 200 "Node" Bool.true [] [(.ref 250),(.ref 297),(.ref 330),(.ref 518)] Bool.false none Bool.false)) #[none,none,(some (.str "Node" 430)),(some (.str "Node" 438)),(some (.builtin "object.__new__")),(some (.bool Bool.true))]))::
 (nat_lit 218,co "__init__" "Number.__init__" 462 463 464 469 113 3 213 214 (.ref 215) (.ref 216) 217 468)::
 (nat_lit 219,fo "__init__" "Number.__init__" (zaJ (top 30) 0) (.str "boxnarrow.kinds" 428) 218)::
 (nat_lit 232,co "forth" "Number.forth" 480 481 482 489 120 4 227 228 (.ref 229) (.ref 230) 231 488)::
 (nat_lit 233,fo "forth" "Number.forth" (zaJ (top 30) 2) (.str "boxnarrow.kinds" 428) 232)::
 (nat_lit 239,co "back" "Number.back" 491 492 493 499 124 4 234 235 (.ref 236) (.ref 237) 238 498)::
 (nat_lit 240,fo "back" "Number.back" (zaJ (top 30) 3) (.str "boxnarrow.kinds" 428) 239)::
 (nat_lit 249,(.mk (.type "dict") none (.dict #[(de P "__module__" 457 (.str "boxnarrow.kinds" 428)),(de P "__firstlineno__" 461 (.int 111 460)),(de P "__init__" 470 (.ref 219)),(de P "exact" 479 (.ref 226)),(de P "forth" 490 (.ref 233)),(de P "back" 500 (.ref 240)),(de P "slope" 511 (.ref 247)),(de P "__static_attributes__" 514 (.ref 248)),(de P "__doc__" 515 .none)] 2) #[]))::
 (nat_lit 250,(.mk (.type "type") none (.cls (PySem.ClassData.mk "Number" [(.ref 201)] [(.ref 250),(.ref 201),(.type "object")] 249 "Number" Bool.true [] [] Bool.false none Bool.false)) #[(some (.ref 206)),none,(some (.str "Number" 450)),(some (.str "Number" 458)),(some (.builtin "object.__new__")),(some (.bool Bool.true))]))::
 (nat_lit 265,co "__init__" "Unknown.__init__" 530 531 532 536 131 2 260 261 (.ref 262) (.ref 263) 264 535)::
 (nat_lit 266,fo "__init__" "Unknown.__init__" (zaJ (top 31) 0) (.str "boxnarrow.kinds" 428) 265)::
 (nat_lit 279,co "forth" "Unknown.forth" 547 548 549 555 137 4 274 275 (.ref 276) (.ref 277) 278 554)::
 (nat_lit 280,fo "forth" "Unknown.forth" (zaJ (top 31) 2) (.str "boxnarrow.kinds" 428) 279)::
 (nat_lit 286,co "back" "Unknown.back" 557 558 559 565 140 4 281 282 (.ref 283) (.ref 284) 285 564)::
 (nat_lit 287,fo "back" "Unknown.back" (zaJ (top 31) 3) (.str "boxnarrow.kinds" 428) 286)::
 (nat_lit 296,(.mk (.type "dict") none (.dict #[(de P "__module__" 525 (.str "boxnarrow.kinds" 428)),(de P "__firstlineno__" 529 (.int 129 528)),(de P "__init__" 537 (.ref 266)),(de P "exact" 546 (.ref 273)),(de P "forth" 556 (.ref 280)),(de P "back" 566 (.ref 287)),(de P "slope" 577 (.ref 294)),(de P "__static_attributes__" 579 (.ref 295)),(de P "__doc__" 580 .none)] 2) #[]))::
 (nat_lit 297,(.mk (.type "type") none (.cls (PySem.ClassData.mk "Unknown" [(.ref 201)] [(.ref 297),(.ref 201),(.type "object")] 296 "Unknown" Bool.true [] [] Bool.false none Bool.false)) #[(some (.ref 253)),none,(some (.str "Unknown" 518)),(some (.str "Unknown" 526)),(some (.builtin "object.__new__")),(some (.bool Bool.true))]))::
 (nat_lit 312,co "__init__" "Pair.__init__" 595 596 597 602 147 3 307 308 (.ref 309) (.ref 310) 311 601)::
 (nat_lit 313,fo "__init__" "Pair.__init__" (zaJ (top 32) 0) (.str "boxnarrow.kinds" 428) 312)::
 (nat_lit 319,co "back" "Pair.back" 604 605 606 614 151 4 314 315 (.ref 316) (.ref 317) 318 613)::
 (nat_lit 320,fo "back" "Pair.back" (zaJ (top 32) 1) (.str "boxnarrow.kinds" 428) 319)::
 (nat_lit 329,(.mk (.type "dict") none (.dict #[(de P "__module__" 590 (.str "boxnarrow.kinds" 428)),(de P "__firstlineno__" 594 (.int 145 593)),(de P "__init__" 603 (.ref 313)),(de P "back" 615 (.ref 320)),(de P "slope" 626 (.ref 327)),(de P "__static_attributes__" 629 (.ref 328)),(de P "__doc__" 630 .none)] 2) #[]))::
 (nat_lit 330,(.mk (.type "type") none (.cls (PySem.ClassData.mk "Pair" [(.ref 201)] [(.ref 330),(.ref 201),(.type "object")] 329 "Pair" Bool.true [] [(.ref 377),(.ref 424),(.ref 471)] Bool.false none Bool.false)) #[(some (.ref 300)),none,(some (.str "Pair" 583)),(some (.str "Pair" 591)),(some (.builtin "object.__new__")),(some (.bool Bool.true))]))::
 (nat_lit 352,co "forth" "Plus.forth" 654 655 656 662 168 4 347 348 (.ref 349) (.ref 350) 351 661)::
 (nat_lit 353,fo "forth" "Plus.forth" (zaJ (top 33) 1) (.str "boxnarrow.kinds" 428) 352)::
 (nat_lit 359,co "first_left" "Plus.first_left" 664 665 666 673 171 5 354 355 (.ref 356) (.ref 357) 358 672)::
 (nat_lit 360,fo "first_left" "Plus.first_left" (zaJ (top 33) 2) (.str "boxnarrow.kinds" 428) 359)::
 (nat_lit 366,co "second_left" "Plus.second_left" 675 676 677 684 174 5 361 362 (.ref 363) (.ref 364) 365 683)::
 (nat_lit 367,fo "second_left" "Plus.second_left" (zaJ (top 33) 3) (.str "boxnarrow.kinds" 428) 366)::
 (nat_lit 376,(.mk (.type "dict") none (.dict #[(de P "__module__" 640 (.str "boxnarrow.kinds" 428)),(de P "__firstlineno__" 644 (.int 163 643)),(de P "exact" 653 (.ref 346)),(de P "forth" 663 (.ref 353)),(de P "first_left" 674 (.ref 360)),(de P "second_left" 685 (.ref 367)),(de P "slope_of_both" 697 (.ref 374)),(de P "__static_attributes__" 698 (.ref 375)),(de P "__doc__" 699 .none)] 2) #[]))::
 (nat_lit 377,(.mk (.type "type") none (.cls (PySem.ClassData.mk "Plus" [(.ref 330)] [(.ref 377),(.ref 330),(.ref 201),(.type "object")] 376 "Plus" Bool.true [] [] Bool.false none Bool.false)) #[(some (.ref 333)),none,(some (.str "Plus" 633)),(some (.str "Plus" 641)),(some (.builtin "object.__new__")),(some (.bool Bool.true))]))::
 (nat_lit 399,co "forth" "Minus.forth" 723 724 725 731 184 4 394 395 (.ref 396) (.ref 397) 398 730)::
 (nat_lit 400,fo "forth" "Minus.forth" (zaJ (top 34) 1) (.str "boxnarrow.kinds" 428) 399)::
 (nat_lit 406,co "first_left" "Minus.first_left" 733 734 735 742 187 5 401 402 (.ref 403) (.ref 404) 405 741)::
 (nat_lit 407,fo "first_left" "Minus.first_left" (zaJ (top 34) 2) (.str "boxnarrow.kinds" 428) 406)::
 (nat_lit 413,co "second_left" "Minus.second_left" 744 745 746 753 190 5 408 409 (.ref 410) (.ref 411) 412 752)::
 (nat_lit 414,fo "second_left" "Minus.second_left" (zaJ (top 34) 3) (.str "boxnarrow.kinds" 428) 413)::
 (nat_lit 423,(.mk (.type "dict") none (.dict #[(de P "__module__" 709 (.str "boxnarrow.kinds" 428)),(de P "__firstlineno__" 713 (.int 179 712)),(de P "exact" 722 (.ref 393)),(de P "forth" 732 (.ref 400)),(de P "first_left" 743 (.ref 407)),(de P "second_left" 754 (.ref 414)),(de P "slope_of_both" 766 (.ref 421)),(de P "__static_attributes__" 767 (.ref 422)),(de P "__doc__" 768 .none)] 2) #[]))::
 (nat_lit 424,(.mk (.type "type") none (.cls (PySem.ClassData.mk "Minus" [(.ref 330)] [(.ref 424),(.ref 330),(.ref 201),(.type "object")] 423 "Minus" Bool.true [] [] Bool.false none Bool.false)) #[(some (.ref 380)),none,(some (.str "Minus" 702)),(some (.str "Minus" 710)),(some (.builtin "object.__new__")),(some (.bool Bool.true))]))::
 (nat_lit 446,co "forth" "Times.forth" 792 793 794 800 200 4 441 442 (.ref 443) (.ref 444) 445 799)::
 (nat_lit 447,fo "forth" "Times.forth" (zaJ (top 35) 1) (.str "boxnarrow.kinds" 428) 446)::
 (nat_lit 453,co "first_left" "Times.first_left" 802 803 804 811 203 5 448 449 (.ref 450) (.ref 451) 452 810)::
 (nat_lit 454,fo "first_left" "Times.first_left" (zaJ (top 35) 2) (.str "boxnarrow.kinds" 428) 453)::
 (nat_lit 460,co "second_left" "Times.second_left" 813 814 815 822 206 5 455 456 (.ref 457) (.ref 458) 459 821)::
 (nat_lit 461,fo "second_left" "Times.second_left" (zaJ (top 35) 3) (.str "boxnarrow.kinds" 428) 460)::
 (nat_lit 470,(.mk (.type "dict") none (.dict #[(de P "__module__" 778 (.str "boxnarrow.kinds" 428)),(de P "__firstlineno__" 782 (.int 195 781)),(de P "exact" 791 (.ref 440)),(de P "forth" 801 (.ref 447)),(de P "first_left" 812 (.ref 454)),(de P "second_left" 823 (.ref 461)),(de P "slope_of_both" 835 (.ref 468)),(de P "__static_attributes__" 836 (.ref 469)),(de P "__doc__" 837 .none)] 2) #[]))::
 (nat_lit 471,(.mk (.type "type") none (.cls (PySem.ClassData.mk "Times" [(.ref 330)] [(.ref 471),(.ref 330),(.ref 201),(.type "object")] 470 "Times" Bool.true [] [] Bool.false none Bool.false)) #[(some (.ref 427)),none,(some (.str "Times" 771)),(some (.str "Times" 779)),(some (.builtin "object.__new__")),(some (.bool Bool.true))]))::
 (nat_lit 486,co "__init__" "Power.__init__" 852 853 854 859 213 3 481 482 (.ref 483) (.ref 484) 485 858)::
 (nat_lit 487,fo "__init__" "Power.__init__" (zaJ (top 36) 0) (.str "boxnarrow.kinds" 428) 486)::
 (nat_lit 500,co "forth" "Power.forth" 870 871 872 878 220 4 495 496 (.ref 497) (.ref 498) 499 877)::
 (nat_lit 501,fo "forth" "Power.forth" (zaJ (top 36) 2) (.str "boxnarrow.kinds" 428) 500)::
 (nat_lit 507,co "back" "Power.back" 880 881 882 889 223 4 502 503 (.ref 504) (.ref 505) 506 888)::
 (nat_lit 508,fo "back" "Power.back" (zaJ (top 36) 3) (.str "boxnarrow.kinds" 428) 507)::
 (nat_lit 517,(.mk (.type "dict") none (.dict #[(de P "__module__" 847 (.str "boxnarrow.kinds" 428)),(de P "__firstlineno__" 851 (.int 211 850)),(de P "__init__" 860 (.ref 487)),(de P "exact" 869 (.ref 494)),(de P "forth" 879 (.ref 501)),(de P "back" 890 (.ref 508)),(de P "slope" 901 (.ref 515)),(de P "__static_attributes__" 904 (.ref 516)),(de P "__doc__" 905 .none)] 2) #[]))::
 (nat_lit 518,(.mk (.type "type") none (.cls (PySem.ClassData.mk "Power" [(.ref 201)] [(.ref 518),(.ref 201),(.type "object")] 517 "Power" Bool.true [] [] Bool.false none Bool.false)) #[(some (.ref 474)),none,(some (.str "Power" 840)),(some (.str "Power" 848)),(some (.builtin "object.__new__")),(some (.bool Bool.true))]))::
 (nat_lit 526,co "kind_of" "kind_of" 908 909 910 913 231 1 521 522 (.ref 523) (.ref 524) 525 912)::
 (nat_lit 527,fo "kind_of" "kind_of" (top 37) (.str "boxnarrow.kinds" 428) 526)::
 (nat_lit 533,co "worths" "worths" 917 918 919 926 244 3 528 529 (.ref 530) (.ref 531) 532 925)::
 (nat_lit 534,fo "worths" "worths" (top 39) (.str "boxnarrow.worths" 915) 533)::
 (nat_lit 540,co "bars" "bars" 928 929 930 934 249 2 535 536 (.ref 537) (.ref 538) 539 933)::
 (nat_lit 541,fo "bars" "bars" (top 40) (.str "boxnarrow.worths" 915) 540)::
 (nat_lit 547,co "asked_of" "asked_of" 938 939 940 944 254 2 542 543 (.ref 544) (.ref 545) 546 943)::
 (nat_lit 548,fo "asked_of" "asked_of" (top 42) (.str "boxnarrow.narrow" 936) 547)::
 (nat_lit 554,co "spans_back" "spans_back" 946 947 948 960 258 4 549 550 (.ref 551) (.ref 552) 553 959)::
 (nat_lit 555,fo "spans_back" "spans_back" (top 43) (.str "boxnarrow.narrow" 936) 554)::
 (nat_lit 561,co "narrowed" "narrowed" 962 963 964 975 272 4 556 557 (.ref 558) (.ref 559) 560 974)::
 (nat_lit 562,fo "narrowed" "narrowed" (top 44) (.str "boxnarrow.narrow" 936) 561)::
 (nat_lit 568,co "with_span" "with_span" 979 980 981 986 283 3 563 564 (.ref 565) (.ref 566) 567 985)::
 (nat_lit 569,fo "with_span" "with_span" (top 46) (.str "boxnarrow.shaving" 977) 568)::
 (nat_lit 575,co "is_barred" "is_barred" 988 989 990 997 285 4 570 571 (.ref 572) (.ref 573) 574 996)::
 (nat_lit 576,fo "is_barred" "is_barred" (top 47) (.str "boxnarrow.shaving" 977) 575)::
 (nat_lit 582,co "cut_off" "cut_off" 999 1000 1001 1005 288 2 577 578 (.ref 579) (.ref 580) 581 1004)::
 (nat_lit 583,fo "cut_off" "cut_off" (top 48) (.str "boxnarrow.shaving" 977) 582)::
 (nat_lit 589,co "cut_back" "cut_back" 1007 1008 1009 1013 290 2 584 585 (.ref 586) (.ref 587) 588 1012)::
 (nat_lit 590,fo "cut_back" "cut_back" (top 49) (.str "boxnarrow.shaving" 977) 589)::
 (nat_lit 596,co "is_shave" "is_shave" 1015 1016 1017 1026 292 5 591 592 (.ref 593) (.ref 594) 595 1025)::
 (nat_lit 597,fo "is_shave" "is_shave" (top 50) (.str "boxnarrow.shaving" 977) 596)::
 (nat_lit 603,co "shaves" "shaves" 1028 1029 1030 1042 298 4 598 599 (.ref 600) (.ref 601) 602 1041)::
 (nat_lit 604,fo "shaves" "shaves" (top 51) (.str "boxnarrow.shaving" 977) 603)::
 (nat_lit 610,co "_law_cell" "_law_cell" 1046 1047 1048 1052 313 2 605 606 (.ref 607) (.ref 608) 609 1051)::
 (nat_lit 611,fo "_law_cell" "_law_cell" (top 53) (.str "law_boxnarrow_k36_shaves_keep_answers" 1044) 610)::
 (nat_lit 617,co "_law_whole" "_law_whole" 1054 1055 1056 1059 317 1 612 613 (.ref 614) (.ref 615) 616 1058)::
 (nat_lit 618,fo "_law_whole" "_law_whole" (top 54) (.str "law_boxnarrow_k36_shaves_keep_answers" 1044) 617)::
 (nat_lit 624,co "_law_span_is" "_law_span_is" 1061 1062 1063 1066 319 1 619 620 (.ref 621) (.ref 622) 623 1065)::
 (nat_lit 625,fo "_law_span_is" "_law_span_is" (top 55) (.str "law_boxnarrow_k36_shaves_keep_answers" 1044) 624)::
 (nat_lit 631,co "_law_spans_are" "_law_spans_are" 1068 1069 1070 1075 323 2 626 627 (.ref 628) (.ref 629) 630 1074)::
 (nat_lit 632,fo "_law_spans_are" "_law_spans_are" (top 56) (.str "law_boxnarrow_k36_shaves_keep_answers" 1044) 631)::
 (nat_lit 638,co "_law_divisor" "_law_divisor" 1077 1078 1079 1084 330 2 633 634 (.ref 635) (.ref 636) 637 1083)::
 (nat_lit 639,fo "_law_divisor" "_law_divisor" (top 57) (.str "law_boxnarrow_k36_shaves_keep_answers" 1044) 638)::
 (nat_lit 645,co "_law_fraction" "_law_fraction" 1086 1087 1088 1093 336 2 640 641 (.ref 642) (.ref 643) 644 1092)::
 (nat_lit 646,fo "_law_fraction" "_law_fraction" (top 58) (.str "law_boxnarrow_k36_shaves_keep_answers" 1044) 645)::
 (nat_lit 652,co "_law_grid" "_law_grid" 1095 1096 1097 1101 339 1 647 648 (.ref 649) (.ref 650) 651 1100)::
 (nat_lit 653,fo "_law_grid" "_law_grid" (top 59) (.str "law_boxnarrow_k36_shaves_keep_answers" 1044) 652)::
 (nat_lit 659,co "_law_span" "_law_span" 1103 1104 1105 1112 342 1 654 655 (.ref 656) (.ref 657) 658 1111)::
 (nat_lit 660,fo "_law_span" "_law_span" (top 60) (.str "law_boxnarrow_k36_shaves_keep_answers" 1044) 659)::
 (nat_lit 666,co "_law_power" "_law_power" 1114 1115 1116 1122 356 2 661 662 (.ref 663) (.ref 664) 665 1121)::
 (nat_lit 667,fo "_law_power" "_law_power" (top 61) (.str "law_boxnarrow_k36_shaves_keep_answers" 1044) 666)::
 (nat_lit 673,co "_law_number" "_law_number" 1124 1125 1126 1131 361 1 668 669 (.ref 670) (.ref 671) 672 1130)::
 (nat_lit 674,fo "_law_number" "_law_number" (top 62) (.str "law_boxnarrow_k36_shaves_keep_answers" 1044) 673)::
 (nat_lit 680,co "_law_node" "_law_node" 1133 1134 1135 1143 368 3 675 676 (.ref 677) (.ref 678) 679 1142)::
 (nat_lit 681,fo "_law_node" "_law_node" (top 63) (.str "law_boxnarrow_k36_shaves_keep_answers" 1044) 680)::
 (nat_lit 687,co "_law_weight" "_law_weight" 1145 1146 1147 1151 382 2 682 683 (.ref 684) (.ref 685) 686 1150)::
 (nat_lit 688,fo "_law_weight" "_law_weight" (top 64) (.str "law_boxnarrow_k36_shaves_keep_answers" 1044) 687)::
 (nat_lit 692,co "_law_net" "_law_net" 1153 1154 1155 1157 388 5 689 690 .none .none 691 1156)::
 (nat_lit 693,fo "_law_net" "_law_net" (top 65) (.str "law_boxnarrow_k36_shaves_keep_answers" 1044) 692)::
 (nat_lit 699,co "_law_exact" "_law_exact" 1159 1160 1161 1168 402 3 694 695 (.ref 696) (.ref 697) 698 1167)::
 (nat_lit 700,fo "_law_exact" "_law_exact" (top 66) (.str "law_boxnarrow_k36_shaves_keep_answers" 1044) 699)::
 (nat_lit 706,co "_law_exacts" "_law_exacts" 1170 1171 1172 1178 416 2 701 702 (.ref 703) (.ref 704) 705 1177)::
 (nat_lit 707,fo "_law_exacts" "_law_exacts" (top 67) (.str "law_boxnarrow_k36_shaves_keep_answers" 1044) 706)::
 (nat_lit 713,co "_law_point" "_law_point" 1180 1181 1182 1192 421 3 708 709 (.ref 710) (.ref 711) 712 1191)::
 (nat_lit 714,fo "_law_point" "_law_point" (top 68) (.str "law_boxnarrow_k36_shaves_keep_answers" 1044) 713)::
 (nat_lit 720,co "_law_in" "_law_in" 1194 1195 1196 1201 432 3 715 716 (.ref 717) (.ref 718) 719 1200)::
 (nat_lit 721,fo "_law_in" "_law_in" (top 69) (.str "law_boxnarrow_k36_shaves_keep_answers" 1044) 720)::
 (nat_lit 727,co "_law_within" "_law_within" 1203 1204 1205 1211 434 3 722 723 (.ref 724) (.ref 725) 726 1210)::
 (nat_lit 728,fo "_law_within" "_law_within" (top 70) (.str "law_boxnarrow_k36_shaves_keep_answers" 1044) 727)::
 (nat_lit 734,co "_law_put" "_law_put" 1213 1214 1215 1219 439 2 729 730 (.ref 731) (.ref 732) 733 1218)::
 (nat_lit 735,fo "_law_put" "_law_put" (top 71) (.str "law_boxnarrow_k36_shaves_keep_answers" 1044) 734)::
 (nat_lit 741,co "_law_met_row" "_law_met_row" 1221 1222 1223 1235 443 4 736 737 (.ref 738) (.ref 739) 740 1234)::
 (nat_lit 742,fo "_law_met_row" "_law_met_row" (top 72) (.str "law_boxnarrow_k36_shaves_keep_answers" 1044) 741)::
 (nat_lit 748,co "_law_row_by" "_law_row_by" 1237 1238 1239 1246 459 4 743 744 (.ref 745) (.ref 746) 747 1245)::
 (nat_lit 749,fo "_law_row_by" "_law_row_by" (top 73) (.str "law_boxnarrow_k36_shaves_keep_answers" 1044) 748)::
 (nat_lit 755,co "_law_meets" "_law_meets" 1248 1249 1250 1256 464 3 750 751 (.ref 752) (.ref 753) 754 1255)::
 (nat_lit 756,fo "_law_meets" "_law_meets" (top 74) (.str "law_boxnarrow_k36_shaves_keep_answers" 1044) 755)::
 (nat_lit 762,co "_law_cuts_are" "_law_cuts_are" 1258 1259 1260 1265 469 2 757 758 (.ref 759) (.ref 760) 761 1264)::
 (nat_lit 763,fo "_law_cuts_are" "_law_cuts_are" (top 75) (.str "law_boxnarrow_k36_shaves_keep_answers" 1044) 762)::
 (nat_lit 769,co "_law_beyond" "_law_beyond" 1267 1268 1269 1276 480 3 764 765 (.ref 766) (.ref 767) 768 1275)::
 (nat_lit 770,fo "_law_beyond" "_law_beyond" (top 76) (.str "law_boxnarrow_k36_shaves_keep_answers" 1044) 769)::
 (nat_lit 774,co "law" "law" 1278 1279 1280 1282 488 1 771 772 .none .none 773 1281)::
 (nat_lit 775,fo "law" "law" (top 77) (.str "law_boxnarrow_k36_shaves_keep_answers" 1044) 774)::[]
def ks:List Addr:=nat_lit 3::nat_lit 30::nat_lit 31::nat_lit 43::nat_lit 44::nat_lit 52::nat_lit 53::nat_lit 59::nat_lit 60::nat_lit 66::nat_lit 67::nat_lit 73::nat_lit 74::nat_lit 80::nat_lit 81::nat_lit 87::nat_lit 88::nat_lit 94::nat_lit 95::nat_lit 99::nat_lit 100::nat_lit 106::nat_lit 107::nat_lit 113::nat_lit 114::nat_lit 120::nat_lit 121::nat_lit 127::nat_lit 128::nat_lit 134::nat_lit 135::nat_lit 141::nat_lit 142::nat_lit 148::nat_lit 149::nat_lit 155::nat_lit 156::nat_lit 162::nat_lit 163::nat_lit 169::nat_lit 170::nat_lit 176::nat_lit 177::nat_lit 183::nat_lit 184::nat_lit 190::nat_lit 191::nat_lit 200::nat_lit 201::nat_lit 218::nat_lit 219::nat_lit 232::nat_lit 233::nat_lit 239::nat_lit 240::nat_lit 249::nat_lit 250::nat_lit 265::nat_lit 266::nat_lit 279::nat_lit 280::nat_lit 286::nat_lit 287::nat_lit 296::nat_lit 297::nat_lit 312::nat_lit 313::nat_lit 319::nat_lit 320::nat_lit 329::nat_lit 330::nat_lit 352::nat_lit 353::nat_lit 359::nat_lit 360::nat_lit 366::nat_lit 367::nat_lit 376::nat_lit 377::nat_lit 399::nat_lit 400::nat_lit 406::nat_lit 407::nat_lit 413::nat_lit 414::nat_lit 423::nat_lit 424::nat_lit 446::nat_lit 447::nat_lit 453::nat_lit 454::nat_lit 460::nat_lit 461::nat_lit 470::nat_lit 471::nat_lit 486::nat_lit 487::nat_lit 500::nat_lit 501::nat_lit 507::nat_lit 508::nat_lit 517::nat_lit 518::nat_lit 526::nat_lit 527::nat_lit 533::nat_lit 534::nat_lit 540::nat_lit 541::nat_lit 547::nat_lit 548::nat_lit 554::nat_lit 555::nat_lit 561::nat_lit 562::nat_lit 568::nat_lit 569::nat_lit 575::nat_lit 576::nat_lit 582::nat_lit 583::nat_lit 589::nat_lit 590::nat_lit 596::nat_lit 597::nat_lit 603::nat_lit 604::nat_lit 610::nat_lit 611::nat_lit 617::nat_lit 618::nat_lit 624::nat_lit 625::nat_lit 631::nat_lit 632::nat_lit 638::nat_lit 639::nat_lit 645::nat_lit 646::nat_lit 652::nat_lit 653::nat_lit 659::nat_lit 660::nat_lit 666::nat_lit 667::nat_lit 673::nat_lit 674::nat_lit 680::nat_lit 681::nat_lit 687::nat_lit 688::nat_lit 692::nat_lit 693::nat_lit 699::nat_lit 700::nat_lit 706::nat_lit 707::nat_lit 713::nat_lit 714::nat_lit 720::nat_lit 721::nat_lit 727::nat_lit 728::nat_lit 734::nat_lit 735::nat_lit 741::nat_lit 742::nat_lit 748::nat_lit 749::nat_lit 755::nat_lit 756::nat_lit 762::nat_lit 763::nat_lit 769::nat_lit 770::nat_lit 774::nat_lit 775::[]
theorem zfk (P:Params):ks=(kp P).map (·.1):=by kernel_rfl
noncomputable abbrev hk:PySem.W.Hook:=PySem.W.kHook kp ks zfk
abbrev xt (s:Shared):Bool:=PySem.W.xlAt vw [] s&&PySem.W.recOk (PySem.W.RowW.records (PySem.W.OpenRow.toRowW (PySem.W.OpenLaw.row PySem.Challenge.rw_boxnarrow_k36_shaves_keep_answers))) s
theorem zn9:PySem.W.opening PySem.Challenge.pw_boxnarrow_k36_shaves_keep_answers=PySem.W.plainProg PySem.Challenge.pw_boxnarrow_k36_shaves_keep_answers.main.scope.names:=by kernel_rfl
theorem fe_eq (s:Shared):PySem.fenceModules? PySem.Challenge.pw_boxnarrow_k36_shaves_keep_answers s=some s:=by kernel_rfl
theorem si_eq (w:World):((PySem.W.boot_heap w.params).isNs mainGlobals&&(Array.mk []:Array GenState).size==0,(PySem.W.boot_heap w.params).objs.size,(PySem.W.boot_heap w.params).nsMap mainGlobals "__annotations__")=(true,11,some (.ref 6)):=by kernel_rfl
open PySem.W PySem.Calls in
theorem zwR (w:World):(λos=>(L3.goT PySem.treeTable PySem.Challenge.pw_boxnarrow_k36_shaves_keep_answers w 11 (some (.ref 6)) 10512 (L3.zce w os) (PySem.W.topStub PySem.Challenge.pw_boxnarrow_k36_shaves_keep_answers)).map λs=>(L3.zol PySem.Challenge.pw_boxnarrow_k36_shaves_keep_answers w s))=λ_=>some (true):=by kernel_rfl
open PySem.W PySem.Calls in
theorem ztB (w:World):(λos=>(L3.goT PySem.treeTable PySem.Challenge.pw_boxnarrow_k36_shaves_keep_answers w 11 (some (.ref 6)) 10512 (L3.zce w os) (PySem.W.topStub PySem.Challenge.pw_boxnarrow_k36_shaves_keep_answers)).map λs=>(seen ((recsOf vw).map (·.name)) (ownsOf vw) [] { s.abs with gens:=#[] }))=λ_=>some (expectedOf vw):=by kernel_rfl
open PySem.W PySem.Calls in
theorem zvQ (w:World):(λos=>(L3.goT PySem.treeTable PySem.Challenge.pw_boxnarrow_k36_shaves_keep_answers w 11 (some (.ref 6)) 10512 (L3.zce w os) (PySem.W.topStub PySem.Challenge.pw_boxnarrow_k36_shaves_keep_answers)).map λs=>(s.abs.heap.bltView))=λ_=>some (bltViewBooted):=by kernel_rfl
open PySem.W PySem.Calls in
theorem zu2 (w:World):(λos=>(L3.goT PySem.treeTable PySem.Challenge.pw_boxnarrow_k36_shaves_keep_answers w 11 (some (.ref 6)) 10512 (L3.zce w os) (PySem.W.topStub PySem.Challenge.pw_boxnarrow_k36_shaves_keep_answers)).map λs=>(s.abs.heap.keysOk (looseW vw []) ((recsOf vw).map (·.name)) ((litsOf vw).map (·.1)) ((clssOf vw (looseW vw [])).map (·.name))&&s.abs.heap.accountedOkI (importedModules PySem.Challenge.pw_boxnarrow_k36_shaves_keep_answers.main.body)&&s.abs.heap.isNs mainGlobals&&s.abs.heap.isNs builtinsNs&&tablesOk vw s.abs.heap&&xt s.abs&&(if true then s.abs.gens.size==0 else !leftWithCleanup s.abs.gens)))=λ_=>some (true):=by kernel_rfl
open PySem.W PySem.Calls in
theorem zwC (w:World):(λos=>(L3.goT PySem.treeTable PySem.Challenge.pw_boxnarrow_k36_shaves_keep_answers w 11 (some (.ref 6)) 10512 (L3.zce w os) (PySem.W.topStub PySem.Challenge.pw_boxnarrow_k36_shaves_keep_answers)).map λs=>(tabsOk vw s.abs))=λ_=>some (true):=by kernel_rfl
open PySem.W PySem.Calls in
theorem ztW (w:World):(λos=>(L3.goT PySem.treeTable PySem.Challenge.pw_boxnarrow_k36_shaves_keep_answers w 11 (some (.ref 6)) 10512 (L3.zce w os) (PySem.W.topStub PySem.Challenge.pw_boxnarrow_k36_shaves_keep_answers)).map λs=>(pinSeenD vw (drecsOf vw) s.abs,plainSeenE vw (looseW vw []) s.abs,plainSeenD vw [] s.abs,wideSeen vw s.abs,clsSeenW vw [] s.abs))=λ_=>some (pinGoodD (drecsOf vw),plainGoodE vw (looseW vw []),plainGoodD vw [],wideGood vw,clsGoodW vw []):=by kernel_rfl
theorem ob_eq (w:World):(λos=>(L3.goT PySem.treeTable PySem.Challenge.pw_boxnarrow_k36_shaves_keep_answers w 11 (some (.ref 6)) 10512 (L3.zce w os) (PySem.W.topStub PySem.Challenge.pw_boxnarrow_k36_shaves_keep_answers)).map λs=>ks.map (L3.zjw s))=λ_=>some (hk.val w):=by kernel_rfl
theorem left:PySem.W.LeftO PySem.Challenge.pw_boxnarrow_k36_shaves_keep_answers vw [] xt hk.obs hk.val 10512:=L3.zre (L3.zx1 ks) zn9 (by decide) fe_eq si_eq (λw=>L3.znm (zwR w) (ztB w)) (λw=>L3.znm (zvQ w) (zu2 w)) (λw=>L3.znm (zwC w) (ztW w)) ob_eq
end Mine
set_option Elab.async false
set_option linter.all false
set_option maxRecDepth 100000
namespace L2
open PySem PySem.Spec PyProof.Rows
abbrev Key:=Sum Int Str
def zqx:Key→Value→Bool
 | .inl k,v=>Value.isInt k v
 | .inr x,v=>Value.isStrOf x v
def keyH (w:World):Key→Int
 | .inl k=>hashInt k
 | .inr x=>hashStr w x
theorem zc3:∀ {k:Key} {v:Value},zqx k v=true→(∃i t,k=Sum.inl i∧v=Value.int i t)∨(∃x t,k=Sum.inr x∧v=Value.str x t)
 | .inl i,v,h=>by
  obtain⟨t,e⟩:=Value.isInt_shape (k:=i) (v:=v) h
  exact .inl ⟨i,t,rfl,e⟩
 | .inr x,v,h=>by
  obtain⟨t,e⟩:=Value.isStrOf_shape (x:=x) (v:=v) h
  exact .inr ⟨x,t,rfl,e⟩
theorem zvx (a b:Int):decide ((Sum.inl a:Key)=Sum.inl b)=(a==b):=by
 by_cases e:a=b
 ·subst e; simp
 ·have h:¬ (Sum.inl a:Key)=Sum.inl b:=λq=>e (Sum.inl.inj q)
  rw[decide_eq_false h]
  exact(beq_eq_false_iff_ne.mpr e).symm
theorem zsd (a b:Str):decide ((Sum.inr a:Key)=Sum.inr b)=decide (a=b):=by
 by_cases e:a=b
 ·subst e; simp
 ·have h:¬ (Sum.inr a:Key)=Sum.inr b:=λq=>e (Sum.inr.inj q)
  rw[decide_eq_false h,decide_eq_false e]
theorem zr9 (a:Int)(b:Str):decide ((Sum.inl a:Key)=Sum.inr b)=false:=decide_eq_false (λq=>nomatch q)
theorem zuU (a:Str)(b:Int):decide ((Sum.inr a:Key)=Sum.inl b)=false:=decide_eq_false (λq=>nomatch q)
def zp0 (prog:Program)(w:World):PySem.KeyKind prog w Key where
 is:=zqx
 hash:=keyH w
 inj:=λv a b ha hb=>by
  rcases zc3 ha with ⟨i,t,rfl,rfl⟩ | ⟨x,t,rfl,rfl⟩
  ·rcases zc3 hb with ⟨j,u,rfl,e⟩ | ⟨y,u,rfl,e⟩
   ·injection e with e1 _; rw[e1]
   ·exact nomatch e
  ·rcases zc3 hb with ⟨j,u,rfl,e⟩ | ⟨y,u,rfl,e⟩
   ·exact nomatch e
   ·injection e with e1 _; rw[e1]
 byValue:=λk v h=>by
  rcases zc3 h with ⟨i,t,rfl,rfl⟩ | ⟨x,t,rfl,rfl⟩ <;> rfl
 pyHash:=λhv h=>by
  rcases zc3 hv with ⟨i,t,rfl,rfl⟩ | ⟨x,t,rfl,rfl⟩
  ·exact wpAny_pyHash_int h
  ·exact wpAny_pyHash_str h
 eqBool:=λhu hv h=>by
  rcases zc3 hu with ⟨i,t,rfl,rfl⟩ | ⟨x,t,rfl,rfl⟩
  ·rcases zc3 hv with ⟨j,u,rfl,rfl⟩ | ⟨y,u,rfl,rfl⟩
   ·rw[zvx] at h; exact wpAny_eqBool_int h
   ·rw[zr9] at h; exact SeqAt.EqAt.int_str i t y u _ _ _ _ h
  ·rcases zc3 hv with ⟨j,u,rfl,rfl⟩ | ⟨y,u,rfl,rfl⟩
   ·rw[zuU] at h; exact SeqAt.EqAt.str_int x t j u _ _ _ _ h
   ·rw[zsd] at h; exact wpAny_eqBool_str h
 «strs»:=λk x t v h=>by
  rcases zc3 h with ⟨i,u,rfl,e⟩ | ⟨y,u,rfl,e⟩
  ·exact nomatch e
  ·injection e with e1 _
   subst e1
   cases v <;> rfl
end L2
namespace L2
open PySem PySem.Spec PyProof.Rows
inductive V where
 | non | bl (b:Bool) | int (i:Int) | str (x:Str) | byt (b:Array UInt8) | flt (b:UInt64) | ref (a:Addr) | ty (n:String)
 deriving DecidableEq
def zav:V→Value→Prop
 | .non,u=>u=Value.none
 | .bl b,u=>u=Value.bool b
 | .int i,u=>∃t,u=Value.int i t
 | .str x,u=>∃t,u=Value.str x t
 | .byt b,u=>∃t,u=Value.bytes b t
 | .flt b,u=>∃t,u=Value.float b t
 | .ref a,u=>u=Value.ref a
 | .ty n,u=>u=Value.type n
abbrev zay:List V→List Value→Prop:=Paired zav
theorem zay.length {xs:List V}{us:List Value}(r:zay xs us):xs.length=us.length:=Paired.length r
theorem zay.get:∀ {xs:List V} {us:List Value} {i:Nat} {x:V},zay xs us→xs[i]?=some x→∃u,us[i]?=some u∧zav x u
 | _,_,_,_,.nil,e=>by simp at e
 | _,_,0,_,.cons r _,e=>by simp at e; subst e; exact⟨_,rfl,r⟩
 | _,_,i+1,x,.cons _ t,e=>by
  obtain⟨u,h1,h2⟩:=zay.get (i:=i) (x:=x) t (by simpa using e)
  exact⟨u,by simpa using h1,h2⟩
theorem zay.set {x:V}{u:Value}(r:zav x u):∀ {xs:List V} {us:List Value} (i:Nat),zay xs us→zay (xs.set i x) (us.set i u)
 | _,_,_,.nil=>.nil
 | _,_,0,.cons _ t=>.cons r t
 | _,_,i+1,.cons q t=>.cons q (zay.set r i t)
theorem zay.append:∀ {xs ys:List V} {us ws:List Value},zay xs us→zay ys ws→zay (xs++ys) (us++ws)
 | _,_,_,_,.nil,s=>s
 | _,_,_,_,.cons r t,s=>.cons r (zay.append t s)
theorem zay.take:∀ {xs:List V} {us:List Value} (n:Nat),zay xs us→zay (xs.take n) (us.take n)
 | _,_,0,_=>.nil
 | _,_,_+1,.nil=>.nil
 | _,_,n+1,.cons r t=>.cons r (zay.take n t)
theorem zay.drop:∀ {xs:List V} {us:List Value} (n:Nat),zay xs us→zay (xs.drop n) (us.drop n)
 | _,_,0,r=>r
 | _,_,_+1,.nil=>.nil
 | _,_,n+1,.cons _ t=>zay.drop n t
theorem zay.none_of:∀ {xs:List V} {us:List Value} {i:Nat},zay xs us→xs[i]?=none→us[i]?=none:=λ{xs us i} r e=>by
 have h1:=r.length
 have h2:xs.length≤i:=VaK.mp e
 exact VaK.mpr (by omega)
def zbz:Option V→Option Value→Prop
 | some v,some u=>zav v u
 | none,none=>True
 | _,_=>False
def KV {κ:Type}:List (κ×V)→List (κ×Value)→Prop:=Paired λ(p:κ×V) (q:κ×Value)=>p.1=q.1∧zav p.2 q.2
def kV:Key→V
 | .inl i=>.int i
 | .inr x=>.str x
inductive HO where
  | lst (xs:List V)
  | tup (xs:List V)
  | dK (kvs:List (Key×V)) | dT (kvs:List (List Key×V))
  | set (S:Int→Bool) (n:Nat)
  | ins (C dx:Addr) (fs:List (Str×V))
  | own (x:Addr)
  | xd (fs:List (Str×V))
  | met (f x:Addr)
  | rng (lo hi:Int)
  | frz (o:Obj) (u:HO)
  | tbl (ps:Array Value)
  | ext (φ:Heap→Prop)
abbrev Hp:=Addr→Option HO
def upd (H:Hp)(a:Addr)(o:HO):Hp:=λb=>if b=a then some o else H b
theorem zcz {H:Hp}{a:Addr}{o:HO}:upd H a o a=some o:=by unfold upd; rw[if_pos rfl]
theorem za3 {H:Hp}{a b:Addr}{o:HO}(h:b≠a):upd H a o b=H b:=by unfold upd; rw[if_neg h]
theorem zmW {H:Hp}{a b:Addr}{o u:HO}(h:H a=some o)(h':H b=some u)(d:o≠u):a≠b:=by
 intro e; subst e; rw[h] at h'; exact d (Option.some.inj h')
theorem zdm {H:Hp}{a b:Addr}{o:HO}(h:H a=some o)(h':H b=none):a≠b:=by
 intro e; subst e; rw[h] at h'; cases h'
section
variable (P:Program)(w:World)
def zbq (H:Hp)(h:Heap)(a:Addr):HO→Prop
 | .lst xs=>xs.length≤sizeLine∧∃(its:List Value) (n:Nat),zay xs its∧h.get? a=some { cls:=.type "list",data:=.seq its.toArray n }
 | .tup xs=>xs.length≤sizeLine∧∃its:List Value,zay xs its∧IsTup h a its.toArray
 | .dK kvs=>kvs.length≤sizeLine∧(a==sysModules)=false∧∃vs,KV kvs vs∧h.DictOf (zp0 P w) a vs
 | .dT kvs=>kvs.length≤sizeLine∧(a==sysModules)=false∧∃xs:List (List Key×Addr×Value),
   Paired (λ(p:List Key×V) (q:List Key×Addr×Value)=>p.1=q.1∧H q.2.1=some (.tup (p.1.map kV))∧zav p.2 q.2.2) kvs xs∧
   ∃o es ep,h.get? a=some o∧o.ExactDict∧o.data=.dict es ep∧es.toList=xs.map (entryOfKey (tupleKind (zp0 P w)))∧(xs.map (·.1)).Nodup
 | .set S n=>h.SetOf (intKind P w) a S n
 | .ins C dx fs=>H dx=some (.own a)∧fs.length≤1000∧dx≠a∧h.get? a=some (PySem.W.instObj C dx)∧
   ∃mA,h.Ns1 dx mA∧(∀f,zbz (fs.lookup f) (mA f))∧PySem.Within mA (fs.map (·.1))
 | .own _=>∃o,h.get? a=some o
 | .xd fs=>∃mA,h.Ns1 a mA∧∀f,zbz (fs.lookup f) (mA f)
 | .rng lo hi=>∃t u v,h.get? a=some { cls:=.type "range",data:=.fields #[.int lo t,.int hi u,.int 1 v] }
 | .frz o u=>h.get? a=some o∧zbq H h a u
 | .tbl ps=>h.get? a=some { cls:=.none,data:=.fields ps }
 | .met f x=>h.get? a=some (PySem.W.methodObj (.ref f) (.ref x))
 | .ext φ=>φ h∧(∃o,h.get? a=some o)∧∀h1 h2:Heap,φ h1→(∀o,h1.get? a=some o→h2.get? a=some o)→φ h2
def HOk (H:Hp)(h:Heap):Prop:=∀a o,H a=some o→zbq P w H h a o
end
section
variable {P:Program}{w:World}{H H':Hp}{h h':Heap}{a:Addr}{o:HO}
theorem zbq.lt (x:zbq P w H h a o):a<h.objs.size:=by
 cases o with
 | lst xs=>obtain⟨_,_,_,_,e⟩:=x; exact Heap.lt_size e
 | tup xs=>obtain⟨_,_,_,p⟩:=x; exact p.lt
 | dK kvs=>obtain⟨_,_,_,_,o,_,_,e,_⟩:=x; exact Heap.lt_size e
 | dT kvs=>obtain⟨_,_,_,_,o,_,_,e,_⟩:=x; exact Heap.lt_size e
 | set S n=>obtain⟨o,_,_,_,e,_⟩:=x; exact Heap.lt_size e
 | ins C dx fs=>obtain⟨_,_,_,e,_⟩:=x; exact Heap.lt_size e
 | own y=>obtain⟨_,e⟩:=x; exact Heap.lt_size e
 | xd fs=>obtain⟨_,⟨_,_,_,e,_⟩,_⟩:=x; exact Heap.lt_size e
 | rng lo hi=>obtain⟨_,_,_,e⟩:=x; exact Heap.lt_size e
 | frz ob u=>obtain⟨e,_⟩:=x; exact Heap.lt_size e
 | tbl ps=>exact Heap.lt_size (show h.get? a=some _ from x)
 | met f y=>exact Heap.lt_size (show h.get? a=some _ from x)
 | ext φ=>obtain⟨_,⟨_,e⟩,_⟩:=x; exact Heap.lt_size e
theorem Paired.mapP {α β:Type}{F G:α→β→Prop}:∀ {l₁:List α} {l₂:List β},Paired F l₁ l₂→(∀a b,F a b→G a b)→Paired G l₁ l₂
 | _,_,.nil,_=>.nil
 | _,_,.cons r t,f=>.cons (f _ _ r) (Paired.mapP t f)
theorem zbq.stay (x:zbq P w H h a o)(k:∀b u,(b=a∨H b=some (.own a))→h.get? b=some u→h'.get? b=some u)
  (ho:∀b,H b=some (.own a)→H' b=some (.own a))(ht:∀b xs,H b=some (.tup xs)→H' b=some (.tup xs)):zbq P w H' h' a o:=by
 induction o with
 | lst xs=>obtain⟨z,its,n,r,e⟩:=x; exact⟨z,its,n,r,k _ _ (.inl rfl) e⟩
 | tup xs=>obtain⟨z,its,r,ob,e,c⟩:=x; exact⟨z,its,r,ob,k _ _ (.inl rfl) e,c⟩
 | dK kvs=>obtain⟨z,y,vs,r,ob,es,ep,e,c⟩:=x; exact⟨z,y,vs,r,ob,es,ep,k _ _ (.inl rfl) e,c⟩
 | dT kvs=>
  obtain⟨z,y,xs,r,ob,es,ep,e,c⟩:=x
  exact⟨z,y,xs,Paired.mapP r λp q z=>⟨z.1,ht _ _ z.2.1,z.2.2⟩,ob,es,ep,k _ _ (.inl rfl) e,c⟩
 | set S n=>obtain⟨ob,es,ep,t,e,c⟩:=x; exact⟨ob,es,ep,t,k _ _ (.inl rfl) e,c⟩
 | ins C dx fs=>
  obtain⟨d,z,ne,e,mA,⟨od,es,ep,e2,c⟩,r⟩:=x
  exact⟨ho _ d,z,ne,k _ _ (.inl rfl) e,mA,⟨od,es,ep,k _ _ (.inr d) e2,c⟩,r⟩
 | own y=>obtain⟨ob,e⟩:=x; exact⟨ob,k _ _ (.inl rfl) e⟩
 | xd fs=>obtain⟨mA,⟨od,es,ep,e,c⟩,r⟩:=x; exact⟨mA,⟨od,es,ep,k _ _ (.inl rfl) e,c⟩,r⟩
 | rng lo hi=>obtain⟨t,u,v,e⟩:=x; exact⟨t,u,v,k _ _ (.inl rfl) e⟩
 | frz ob u ih=>obtain⟨e,q⟩:=x; exact⟨k _ _ (.inl rfl) e,ih q⟩
 | tbl ps=>
  have e:h.get? a=some { cls:=.none,data:=.fields ps }:=x
  show h'.get? a=some { cls:=.none,data:=.fields ps }
  exact k a _ (.inl rfl) e
 | met f y=>
  have e:h.get? a=some (PySem.W.methodObj (.ref f) (.ref y)):=x
  show h'.get? a=some (PySem.W.methodObj (.ref f) (.ref y))
  exact k a _ (.inl rfl) e
 | ext φ=>obtain⟨p,⟨o,e⟩,st⟩:=x; exact⟨st _ _ p λo q=>k _ _ (.inl rfl) q,⟨o,k _ _ (.inl rfl) e⟩,st⟩
theorem HOk.lt (x:HOk P w H h)(e:H a=some o):a<h.objs.size:=(x a o e).lt
theorem HOk.fresh (x:HOk P w H h)(e:h.objs.size≤a):H a=none:=by
 cases q:H a with
 | none=>rfl
 | some u=>exact absurd (Var (x.lt q) e) (VaL _)
theorem HOk.kept (x:HOk P w H h)(k:∀b u,h.get? b=some u→h'.get? b=some u):HOk P w H h':=λa o e=>
 (x a o e).stay (λb u _ q=>k b u q) (λ_ q=>q) λ_ _ q=>q
theorem HOk.laid (x:HOk P w H h)(k:∀b u,h.get? b=some u→h'.get? b=some u)(hp:h.objs.size≤a)(new:zbq P w (upd H a o) h' a o):HOk P w (upd H a o) h':=λb u e=>by
 have hn:=x.fresh hp
 by_cases hb:b=a
 ·subst hb; rw[zcz] at e; cases e; exact new
 ·rw[za3 hb] at e
  exact(x b u e).stay (λc v _ q=>k c v q) (λc q=>by rw[za3 (zdm q hn)]; exact q) λc xs q=>by rw[za3 (zdm q hn)]; exact q
end
def Rd (H:Hp)(a:Addr)(u:HO):Prop:=H a=some u∨∃o,H a=some (.frz o u)
theorem Rd.of {H:Hp}{a:Addr}{u:HO}(h:H a=some u):Rd H a u:=.inl h
theorem Rd.ok {P:Program}{w:World}{H:Hp}{h:Heap}{a:Addr}{u:HO}(r:Rd H a u)(x:HOk P w H h):zbq P w H h a u:=by
 rcases r with r | ⟨o,r⟩
 ·exact x a u r
 ·obtain⟨_,q⟩:=x a _ r
  exact q
def Mut:Option HO→Prop
 | some (.lst _)=>True
 | some (.dK _)=>True
 | some (.dT _)=>True
 | some (.set _ _)=>True
 | some (.ins _ _ _)=>True
 | some (.ext _)=>True
 | _=>False
section
variable {P:Program}{w:World}{H:Hp}{h h':Heap}{x e:Addr}{o':HO}
theorem HOk.write (ok:HOk P w H h)(mu:Mut (H x))(he:e=x∨H e=some (.own x))(k:∀b u,b≠e→h.get? b=some u→h'.get? b=some u)(heo:∃u,h'.get? e=some u)
  (new:zbq P w (upd H x o') h' x o'):HOk P w (upd H x o') h':=λb u q=>by
 have nown:∀c y,H c=some (.own y)→c≠x:=λc y r z=>by subst z; rw[r] at mu; exact mu
 have ntup:∀c xs,H c=some (.tup xs)→c≠x:=λc xs r z=>by subst z; rw[r] at mu; exact mu
 by_cases hb:b=x
 ·subst hb; rw[zcz] at q; cases q; exact new
 ·rw[za3 hb] at q
  by_cases hbe:b=e
  ·have q':H b=some (.own x):=by
    rcases he with z | z
    ·exact absurd (hbe.trans z) hb
    ·rw[hbe]; exact z
   rw[q] at q'; cases q'
   obtain⟨v,hv⟩:=heo
   exact⟨v,by rw[hbe]; exact hv⟩
  ·refine(ok b u q).stay (λc v hc r=>k c v ?_ r) (λc r=>by rw[za3 (nown c b r)]; exact r) λc xs r=>by rw[za3 (ntup c xs r)]; exact r
   rcases hc with rfl | hc
   ·exact hbe
   ·rintro rfl
    rcases he with z | z
    ·exact nown c b hc z
    ·rw[hc] at z; cases z; exact hb rfl
end
structure Un (fs ex:List Addr)(H H':Hp)(h h':Heap):Prop where
 keep:∀b o,h.get? b=some o→H b=none→b ∉ fs→b ∉ ex→h'.get? b=some o
 slot:∀b o,h.get? b=some o→H b=none→b∈fs→b ∉ ex→∃sl,h'.get? b=some { o with slots:=sl }
 free:∀b o,h.get? b=some o→H b=none→b ∉ ex→H' b=none
 there:∀b o,h.get? b=some o→b ∉ ex→∃o',h'.get? b=some o'
 tups:∀b xs,H b=some (.tup xs)→H' b=some (.tup xs)
 frzs:∀b o u,H b=some (.frz o u)→H' b=some (.frz o u)
 tbls:∀b ps,H b=some (.tbl ps)→∃more,H' b=some (.tbl (ps++more))
section
variable {fs fs' ex ex':List Addr}{H H1 H2:Hp}{h h1 h2 h':Heap}{a x e:Addr}{o:HO}
theorem Un.any (u:Un fs ex H H1 h h1){b:Addr}{ob:Obj}(q:h.get? b=some ob)(n:H b=none)(hx:b ∉ ex):∃sl,h1.get? b=some { ob with slots:=sl }:=by
 by_cases hb:b∈fs
 ·exact u.slot b ob q n hb hx
 ·exact⟨ob.slots,u.keep b ob q n hb hx⟩
theorem Un.trans (a:Un fs ex H H1 h h1)(b:Un fs ex H1 H2 h1 h2):Un fs ex H H2 h h2 where
 keep:=λc ob q n hc hx=>b.keep c ob (a.keep c ob q n hc hx) (a.free c ob q n hx) hc hx
 slot:=λc ob q n hc hx=>by
  obtain⟨sl,e1⟩:=a.slot c ob q n hc hx
  obtain⟨sl',e2⟩:=b.slot c _ e1 (a.free c ob q n hx) hc hx
  exact⟨sl',e2⟩
 free:=λc ob q n hx=>by
  obtain⟨o',e1⟩:=a.there c ob q hx
  exact b.free c o' e1 (a.free c ob q n hx) hx
 there:=λc ob q hx=>by
  obtain⟨o',e1⟩:=a.there c ob q hx
  exact b.there c o' e1 hx
 tups:=λc xs q=>b.tups c xs (a.tups c xs q)
 frzs:=λc ob xs q=>b.frzs c ob xs (a.frzs c ob xs q)
 tbls:=λc ps q=>by
  obtain⟨m1,e1⟩:=a.tbls c ps q
  obtain⟨m2,e2⟩:=b.tbls c _ e1
  exact⟨m1++m2,by rw[e2,Array.append_assoc]⟩
theorem Un.kept (k:∀b u,h.get? b=some u→h'.get? b=some u):Un fs ex H H h h':=
 ⟨λb ob q _ _ _=>k b ob q,λb ob q _ _ _=>⟨ob.slots,k b ob q⟩,λ_ _ _ n _=>n,λb ob q _=>⟨ob,k b ob q⟩,λ_ _ q=>q,λ_ _ _ q=>q,λ_ ps q=>⟨#[],by rw[q]; simp⟩⟩
theorem Un.refl:Un fs ex H H h h:=Un.kept λ_ _ q=>q
theorem Un.laid (k:∀b u,h.get? b=some u→h'.get? b=some u)(hp:h.objs.size≤a)(hn:H a=none):Un fs ex H (upd H a o) h h' where
 keep:=λb u q _ _ _=>k b u q
 slot:=λb u q _ _ _=>⟨u.slots,k b u q⟩
 free:=λb u q n _=>by rw[za3 (Vas (Var (Heap.lt_size q) hp))]; exact n
 there:=λb u q _=>⟨u,k b u q⟩
 tups:=λb xs q=>by rw[za3 (zdm q hn)]; exact q
 frzs:=λb u xs q=>by rw[za3 (zdm q hn)]; exact q
 tbls:=λb ps q=>⟨#[],by rw[za3 (zdm q hn),q]; simp⟩
theorem Un.write (mu:Mut (H x))(he:e=x∨H e=some (.own x))(k:∀b u,b≠e→h.get? b=some u→h'.get? b=some u)(heo:∃u,h'.get? e=some u):Un fs ex H (upd H x o) h h':=by
 have hx:∀b,H b=none→b≠x:=λb n z=>by subst z; rw[n] at mu; exact mu
 have hb:∀b,H b=none→b≠e:=λb n z=>by
  subst z
  rcases he with r | r
  ·exact hx b n r
  ·rw[n] at r; cases r
 have hm:∀b u,H b=some u→¬ Mut (some u)→b≠x:=λb u q nm z=>by subst z; rw[q] at mu; exact nm mu
 refine⟨λb u q n _ _=>k b u (hb b n) q,λb u q n _ _=>⟨u.slots,k b u (hb b n) q⟩,λb u q n _=>by rw[za3 (hx b n)]; exact n,λb u q _=>?_,
  λb xs q=>by rw[za3 (hm b _ q λz=>z)]; exact q,λb u xs q=>by rw[za3 (hm b _ q λz=>z)]; exact q,λb ps q=>⟨#[],by rw[za3 (hm b _ q λz=>z),q]; simp⟩⟩
 by_cases hbe:b=e
 ·subst hbe; exact heo
 ·exact⟨u,k b u hbe q⟩
theorem Un.mono (u:Un fs ex H H1 h h1)(hs:∀b∈fs,b∈fs')(hx:∀b∈ex,b∈ex'):Un fs' ex' H H1 h h1:=
 ⟨λb ob q n hb he=>u.keep b ob q n (λz=>hb (hs b z)) λz=>he (hx b z),λ_ _ q n _ he=>u.any q n λz=>he (hx _ z),λb ob q n he=>u.free b ob q n λz=>he (hx b z),λb ob q he=>u.there b ob q λz=>he (hx b z),u.tups,u.frzs,u.tbls⟩
end
def trk (h:Heap)(H:Hp):List Addr:=(List.range h.objs.size).filter λa=>(H a).isSome
def zcV (h:Heap)(H:Hp):Heap:=PySem.W.hideAll h (trk h H)
theorem zrW (h:Heap)(H:Hp):(zcV h H).objs.size=h.objs.size:=PySem.W.hideAll_size _ _
theorem zs5 {h:Heap}{H:Hp}{b:Addr}{o:Obj}(e:h.get? b=some o)(n:H b=none):(zcV h H).get? b=some o:=
 PySem.W.hideAll_get _ e λhm=>by
  have q:(H b).isSome=true:=(List.mem_filter.mp hm).2
  rw[n] at q; simp at q
theorem zwQ {h:Heap}{H:Hp}{b:Addr}{o:Obj}(e:(zcV h H).get? b=some o):h.get? b=some o∧H b=none:=by
 have e':h.get? b=some o:=PySem.W.of_hideAll (trk h H) e
 refine⟨e',?_⟩
 cases q:H b with
 | none=>rfl
 | some x=>
  have hm:b∈trk h H:=List.mem_filter.mpr ⟨List.mem_range.mpr (Heap.lt_size e'),by simp[q]⟩
  have z:(zcV h H).get? b=none:=PySem.W.hideAll_none (trk h H) hm
  rw[z] at e; cases e
def zus (g h:Heap)(L:Addr):List (Addr×Obj):=(List.range h.objs.size).filterMap λa=>if a=L∨(g.get? a).isSome=true then none else (h.get? a).map λo=>(a,o)
def za9 (g h:Heap)(L d:Addr):List (Addr×Obj):=(zus g h L).filter λp=>decide (p.1≠d)
end L2
namespace L2
open PySem PySem.Spec PyProof.Rows
structure Mod (K:PySem.W.Frag)(mg:Str→Option Value)(base:Heap):Prop where
 kin:K.In base
 glob:base.Ns mainGlobals mg
 blt:∃mb,base.Ns builtinsNs mb∧∀x:Str,x≠"__name__"→mb x=bootBuiltins x
 nolimit:base.NoLimit
structure Cx where
 prog:Program
 w:World
 K:PySem.W.Frag
 mg:Str→Option Value
 base:Heap
 A:Around
 N:List Str
 s₀:Shared
 H₀:Hp
 env:Env
 outer:List Env
 stack:List Env
 ex:List Addr
 fn:Str→Bool
 calm:Bool
 pn:List (Addr×Obj)
 xe:Value→Shared→Prop
def frs (l:List Env):List Addr:=l.filterMap (·.frame)
abbrev Cx.fs (X:Cx):List Addr:=frs X.outer
def Vis (sc:Scope)(x:Str):Prop:=sc.names.lookup x=some .local∨sc.names.lookup x=some .cell∨sc.names.lookup x=some .free
def Loc (sc:Scope)(x:Str):Prop:=sc.names.lookup x=some .local∨sc.names.lookup x=some .cell
def Look (env:Env)(h:Heap)(m:Str→Option Value)(x:Str)(u:Value):Prop:=
 (env.kindOf x=some .local∧m x=some u)∨((env.kindOf x=some .cell∨env.kindOf x=some .free)∧∃c,env.cells.lookup x=some c∧h.IsCell c (some u))
structure Cx.Ok (X:Cx):Prop where
 mod:Mod X.K X.mg X.base
 kind:X.env.scope.kind=.function
 glob:X.env.globals=mainGlobals
 blt:X.env.builtins=builtinsNs
 above:X.s₀.heap.objs.size≤X.env.locals
 inj:∀x y c,X.env.cells.lookup x=some c→X.env.cells.lookup y=some c→x=y
 has:∀x,(X.env.kindOf x=some .cell∨X.env.kindOf x=some .free)→∃c,X.env.cells.lookup x=some c
 cab:∀x c,X.fn x=true→X.env.cells.lookup x=some c→X.s₀.heap.objs.size≤c
 hd:X.calm=true→X.A.handled=none
 frames:X.A.frames=some X.stack
 stk:X.stack=X.outer∨(X.stack=X.env::X.outer∧X.env.frame=some X.env.locals)
 exf:∀b∈X.ex,b≠X.env.locals∧∀x c,X.env.cells.lookup x=some c→c≠b
 bs:∀b o,X.base.get? b=some o→X.s₀.heap.get? b=some o∧X.H₀ b=none
 bsz:X.base.objs.size≤X.s₀.heap.objs.size
 noex:∀b o,X.base.get? b=some o→b ∉ X.ex
 exfs:∀b∈X.ex,b ∉ X.fs
 funs:X.s₀.heap.FunFrames X.base X.outer
 frf:∀b∈X.fs,X.H₀ b=none
structure Inv (X:Cx)(pins:List (Addr×Obj))(σ:List (Option V))(H:Hp)(s:Shared):Prop where
 ok:X.Ok
 os:s.os=X.s₀.os
 bare:AllBare s.gens
 base:Un X.fs X.ex X.H₀ H X.s₀.heap s.heap
 loc:∃m,s.heap.Ns X.env.locals m∧∀(i:Nat) (x:Str) (v:V),X.N[i]?=some x→σ[i]?=some (some v)→Vis X.env.scope x→∃u,zav v u∧Look X.env s.heap m x u
 cell:∀x c,X.env.cells.lookup x=some c→∃v,s.heap.IsCell c v
 free:H X.env.locals=none
 freeC:∀x c,X.env.cells.lookup x=some c→H c=none
 pin:∀p∈X.pn++pins,s.heap.get? p.1=some p.2∧H p.1=none∧p.1≠X.env.locals∧p.1 ∉ X.fs∧∀v,p.2.data≠.cell v
 hok:HOk X.prog X.w H s.heap
 len:σ.length=X.N.length
section
variable {X:Cx}{pins:List (Addr×Obj)}{σ:List (Option V)}{H H':Hp}{s:Shared}{h':Heap}
theorem Cx.Ok.nofr (ok:X.Ok){b:Addr}{o:Obj}(e:X.base.get? b=some o):b ∉ X.fs:=λhb=>by
 have:=(ok.funs.mem hb).1
 rw[e] at this; cases this
theorem Inv.bs (I:Inv X pins σ H s):∀b o,X.base.get? b=some o→s.heap.get? b=some o∧H b=none:=λb o e=>
 ⟨I.base.keep b o (I.ok.bs b o e).1 (I.ok.bs b o e).2 (I.ok.nofr e) (I.ok.noex b o e),I.base.free b o (I.ok.bs b o e).1 (I.ok.bs b o e).2 (I.ok.noex b o e)⟩
theorem Inv.bk (I:Inv X pins σ H s):∀b o,X.base.get? b=some o→s.heap.get? b=some o:=λb o e=>(I.bs b o e).1
theorem Inv.mod (I:Inv X pins σ H s):Mod X.K X.mg X.base:=I.ok.mod
theorem Inv.kIn (I:Inv X pins σ H s):X.K.In s.heap:=I.ok.mod.kin.keeps I.bk
theorem Inv.nolimit (I:Inv X pins σ H s):s.heap.NoLimit:=I.ok.mod.nolimit.keeps I.bk
theorem Inv.fr (I:Inv X pins σ H s):∃m,Fr X.base X.env.locals s.heap m:=
 let ⟨m,hn,_⟩:=I.loc
 ⟨m,hn,I.bk,VaB I.ok.bsz I.ok.above⟩
theorem Inv.lt (I:Inv X pins σ H s):X.env.locals<s.heap.objs.size:=let ⟨_,hn,_⟩:=I.loc; hn.lt
theorem Inv.sz (I:Inv X pins σ H s):X.s₀.heap.objs.size≤s.heap.objs.size:=VaB I.ok.above (VaY I.lt)
theorem Inv.nofs (I:Inv X pins σ H s){a:Addr}(h:s.heap.objs.size≤a):a ∉ X.fs:=λhb=>by
 obtain⟨_,o,ho,_⟩:=I.ok.funs.mem hb
 exact absurd (Var (Heap.lt_size ho) (VaB I.sz h)) (VaL _)
theorem Inv.cne (I:Inv X pins σ H s):∀x c,X.env.cells.lookup x=some c→c≠X.env.locals:=λx c e z=>by
 obtain⟨v,o,ho,hd⟩:=I.cell x c e
 obtain⟨m,⟨o',es,ep,ho',hd',_⟩,_⟩:=I.loc
 rw[z,ho'] at ho; cases ho; rw[hd'] at hd; cases hd
theorem Inv.funs (I:Inv X pins σ H s):s.heap.FunFrames X.base X.outer:=by
 have all:∀(l:List Env),(∀b∈frs l,b∈X.fs)→X.s₀.heap.FunFrames X.base l→s.heap.FunFrames X.base l:=by
  intro l
  induction l with
  | nil=>intro _ _; trivial
  | cons env r ih=>
   intro hs hl
   obtain⟨hk,⟨L,o,hf,hn,ho,hd⟩,hr⟩:=hl
   have hL:L∈X.fs:=hs L (by unfold frs; rw[List.filterMap_cons,hf]; exact VaZ)
   obtain⟨sl,e⟩:=I.base.slot L o ho (I.ok.frf L hL) hL λz=>I.ok.exfs L z hL
   exact⟨hk,⟨L,_,hf,hn,e,hd⟩,ih (λb hb=>hs b (by unfold frs; rw[List.filterMap_cons,hf]; exact VaF _ hb)) hr⟩
 exact all X.outer (λ_ hb=>hb) I.ok.funs
theorem Inv.stack (I:Inv X pins σ H s):s.heap.FunFrames X.base X.stack:=by
 rcases I.ok.stk with e | ⟨e,hf⟩
 ·rw[e]; exact I.funs
 ·rw[e]
  obtain⟨m,hn,_⟩:=I.loc
  refine .cons (by rw[I.ok.kind]; decide) hf hn ?_ I.funs
  exact Heap.get?_none_of_le (VaB I.ok.bsz I.ok.above)
theorem Inv.stkSub (I:Inv X pins σ H s):∀b∈frs X.stack,b∈X.env.locals::X.fs:=λb hb=>by
 rcases I.ok.stk with e | ⟨e,hf⟩
 ·rw[e] at hb; exact VaF _ hb
 ·rw[e] at hb
  unfold frs at hb
  rw[List.filterMap_cons,hf] at hb
  exact hb
theorem Inv.stkFree (I:Inv X pins σ H s):∀b∈frs X.stack,H b=none:=λb hb=>by
 rcases Vam.mp (I.stkSub b hb) with e | hb
 ·rw[e]; exact I.free
 ·obtain⟨_,o,ho,_⟩:=I.ok.funs.mem hb
  exact I.base.free b o ho (I.ok.frf b hb) λz=>I.ok.exfs b z hb
theorem Inv.step {g':Array GenState}{t':Nat}{d':Drawn}{ch:List Addr}(I:Inv X pins σ H s)
  (hch:∀b∈ch,(b∈X.ex∨X.s₀.heap.objs.size≤b)∧b≠X.env.locals∧(∀x c,X.env.cells.lookup x=some c→c≠b)∧∀p∈X.pn++pins,p.1≠b)
  (keep:∀b o,b≠X.env.locals→b ∉ X.fs→b ∉ ch→s.heap.get? b=some o→H b=none→h'.get? b=some o)
  (slot:∀b o,b≠X.env.locals→b∈X.fs→b ∉ ch→s.heap.get? b=some o→H b=none→∃sl,h'.get? b=some { o with slots:=sl })(free:∀b o,b ∉ ch→s.heap.get? b=some o→H b=none→H' b=none)
  (there:∀b o,b ∉ ch→s.heap.get? b=some o→∃o',h'.get? b=some o')
  (tups:∀b xs,H b=some (.tup xs)→H' b=some (.tup xs))(frzs:∀b o u,H b=some (.frz o u)→H' b=some (.frz o u))(tbls:∀b ps,H b=some (.tbl ps)→∃more,H' b=some (.tbl (ps++more)))
  (ns:∀m,s.heap.Ns X.env.locals m→h'.Ns X.env.locals m)(hok:HOk X.prog X.w H' h')(hg:AllBare g'):
  Inv X pins σ H' { s with heap:=h',gens:=g',drawn:=d',toks:=t' }:=by
 have neL:∀b o,X.s₀.heap.get? b=some o→b≠X.env.locals:=λb o e=>Vas (Var (Heap.lt_size e) I.ok.above)
 have neC:∀b o,X.s₀.heap.get? b=some o→b ∉ X.ex→b ∉ ch:=λb o e hx hb=>by
  rcases (hch b hb).1 with z | z
  ·exact hx z
  ·exact absurd (Var (Heap.lt_size e) z) (VaL _)
 have cellK:∀x c,X.env.cells.lookup x=some c→∀v,s.heap.IsCell c v→h'.IsCell c v:=λx c e v ⟨o,ho,hd⟩=>by
  have nch:c ∉ ch:=λz=>(hch c z).2.2.1 x c e rfl
  by_cases hc:c∈X.fs
  ·obtain⟨sl,q⟩:=slot c o (I.cne x c e) hc nch ho (I.freeC x c e)
   exact⟨_,q,hd⟩
  ·exact⟨o,keep c o (I.cne x c e) hc nch ho (I.freeC x c e),hd⟩
 refine⟨I.ok,I.os,hg,⟨λb o e n hb hx=>?_,λb o e n hb hx=>?_,λb o e n hx=>?_,λb o e hx=>?_,λb xs e=>tups b xs (I.base.tups b xs e),λb o xs e=>frzs b o xs (I.base.frzs b o xs e),λb ps e=>?_⟩,?_,λx c e=>?_,?_,λx c e=>?_,λp hp=>?_,hok,I.len⟩
 ·exact keep b o (neL b o e) hb (neC b o e hx) (I.base.keep b o e n hb hx) (I.base.free b o e n hx)
 ·obtain⟨sl,e1⟩:=I.base.slot b o e n hb hx
  obtain⟨sl',e2⟩:=slot b _ (neL b o e) hb (neC b o e hx) e1 (I.base.free b o e n hx)
  exact⟨sl',e2⟩
 ·obtain⟨o',e1⟩:=I.base.there b o e hx
  exact free b o' (neC b o e hx) e1 (I.base.free b o e n hx)
 ·obtain⟨o',e1⟩:=I.base.there b o e hx
  exact there b o' (neC b o e hx) e1
 ·obtain⟨m1,e1⟩:=I.base.tbls b ps e
  obtain⟨m2,e2⟩:=tbls b _ e1
  exact⟨m1++m2,by rw[e2,Array.append_assoc]⟩
 ·obtain⟨m,hn,hl⟩:=I.loc
  refine⟨m,ns m hn,λi x v e1 e2 e3=>?_⟩
  obtain⟨u,r,l⟩:=hl i x v e1 e2 e3
  refine⟨u,r,?_⟩
  rcases l with l | ⟨k,c,e,z⟩
  ·exact .inl l
  ·exact .inr ⟨k,c,e,cellK x c e _ z⟩
 ·obtain⟨v,z⟩:=I.cell x c e
  exact⟨v,cellK x c e v z⟩
 ·obtain⟨m,⟨o,_,_,ho,_⟩,_⟩:=I.loc
  exact free _ o (λz=>(hch _ z).2.1 rfl) ho I.free
 ·obtain⟨v,o,ho,hd⟩:=I.cell x c e
  exact free c o (λz=>(hch c z).2.2.1 x c e rfl) ho (I.freeC x c e)
 ·obtain⟨e,n,ne,nf,d⟩:=I.pin p hp
  have nch:p.1 ∉ ch:=λz=>(hch p.1 z).2.2.2 p hp rfl
  exact⟨keep p.1 p.2 ne nf nch e n,free p.1 p.2 nch e n,ne,nf,d⟩
theorem Inv.un {t':Nat}(I:Inv X pins σ H s)(u:Un X.fs [] H H' s.heap h')(hok:HOk X.prog X.w H' h'):Inv X pins σ H' { s with heap:=h',toks:=t' }:=by
 obtain⟨m,⟨o,es,ep,ho,r⟩,_⟩:=id I.loc
 obtain⟨sl,hL⟩:=u.any ho I.free (by simp)
 exact I.step (g':=s.gens) (d':=s.drawn) (ch:=[]) (λ_ z=>nomatch z) (λb o _ hb _ e n=>u.keep b o e n hb (by simp)) (λb o _ hb _ e n=>u.slot b o e n hb (by simp)) (λb o _ e n=>u.free b o e n (by simp)) (λb o _ e=>u.there b o e (by simp)) u.tups u.frzs u.tbls (λm' hm=>by
  obtain⟨o',es',ep',ho',r'⟩:=hm
  rw[ho] at ho'; cases ho'
  exact⟨_,es',ep',hL,r'⟩) hok I.bare
theorem Inv.call {g':Array GenState}{t':Nat}{d':Drawn}{ch:List Addr}(I:Inv X pins σ H s)(u:Un (frs X.stack) ch H H' s.heap h')(hok:HOk X.prog X.w H' h')(hg:AllBare g')
  (hch:∀b∈ch,(b∈X.ex∨X.s₀.heap.objs.size≤b)∧b≠X.env.locals∧(∀x c,X.env.cells.lookup x=some c→c≠b)∧∀p∈X.pn++pins,p.1≠b):
  Inv X pins σ H' { s with heap:=h',gens:=g',drawn:=d',toks:=t' }:=by
 obtain⟨m,⟨o,es,ep,ho,r⟩,_⟩:=id I.loc
 obtain⟨sl,hL⟩:=u.any ho I.free λz=>(hch _ z).2.1 rfl
 exact I.step (ch:=ch) hch (λb o hL hb hc e n=>u.keep b o e n (λz=>(Vam.mp (I.stkSub b z)).elim hL hb) hc) (λb o _ _ hc e n=>u.any e n hc) (λb o hc e n=>u.free b o e n hc) (λb o hc e=>u.there b o e hc) u.tups u.frzs u.tbls (λm' hm=>by
  obtain⟨o',es',ep',ho',r'⟩:=hm
  rw[ho] at ho'; cases ho'
  exact⟨_,es',ep',hL,r'⟩) hok hg
theorem Inv.turned {t':Nat}{it:Addr}(I:Inv X pins σ H s)(k:∀b o,b≠it→s.heap.get? b=some o→h'.get? b=some o)(hn:H it=none)(hL:it≠X.env.locals)
  (h1:it∈X.ex∨X.s₀.heap.objs.size≤it)(h2:∀x c,X.env.cells.lookup x=some c→c≠it)(h3:∀p∈X.pn++pins,p.1≠it):Inv X pins σ H { s with heap:=h',toks:=t' }:=by
 have nit:∀b u,H b=some u→b≠it:=λb u e z=>by rw[z,hn] at e; cases e
 refine I.step (g':=s.gens) (d':=s.drawn) (ch:=[it]) (λb hb=>?_) (λb o _ _ hc e _=>k b o (λz=>hc (by simp[z])) e) (λb o _ _ hc e _=>⟨o.slots,k b o (λz=>hc (by simp[z])) e⟩) (λ_ _ _ _ n=>n)
  (λb o hc e=>⟨o,k b o (λz=>hc (by simp[z])) e⟩) (λ_ _ e=>e) (λ_ _ _ e=>e) (λb ps e=>⟨#[],by rw[e]; simp⟩) (λm hm=>?_) (λb u e=>?_) I.bare
 ·have e:b=it:=by simpa using hb
  subst e
  exact⟨h1,hL,h2,h3⟩
 ·obtain⟨o,es,ep,ho,r⟩:=hm
  exact⟨o,es,ep,k _ o (Ne.symm hL) ho,r⟩
 ·refine(I.hok b u e).stay (λc v hc q=>k c v ?_ q) (λ_ q=>q) λ_ _ q=>q
  rcases hc with z | z
  ·rw[z]; exact nit b u e
  ·exact nit c _ z
theorem Inv.tok (I:Inv X pins σ H s)(t:Nat):Inv X pins σ H { s with toks:=t }:=I.un (h':=s.heap) (t':=t) Un.refl I.hok
theorem Inv.kept {t':Nat}(I:Inv X pins σ H s)(k:∀b u,s.heap.get? b=some u→h'.get? b=some u):Inv X pins σ H { s with heap:=h',toks:=t' }:=I.un (Un.kept k) (I.hok.kept k)
theorem Inv.laid {a:Addr}{o:HO}{t':Nat}(I:Inv X pins σ H s)(k:∀b u,s.heap.get? b=some u→h'.get? b=some u)(hp:s.heap.objs.size≤a)(new:zbq X.prog X.w (upd H a o) h' a o):
  Inv X pins σ (upd H a o) { s with heap:=h',toks:=t' }:=I.un (Un.laid k hp (I.hok.fresh hp)) (I.hok.laid k hp new)
theorem Inv.write {x e:Addr}{o:HO}{t':Nat}(I:Inv X pins σ H s)(mu:Mut (H x))(he:e=x∨H e=some (.own x))(k:∀b u,b≠e→s.heap.get? b=some u→h'.get? b=some u)(heo:∃u,h'.get? e=some u)
  (new:zbq X.prog X.w (upd H x o) h' x o):Inv X pins σ (upd H x o) { s with heap:=h',toks:=t' }:=I.un (Un.write mu he k heo) (I.hok.write mu he k heo new)
theorem Inv.pins_of {pins':List (Addr×Obj)}(I:Inv X pins σ H s)(h:∀p∈pins',s.heap.get? p.1=some p.2∧H p.1=none∧p.1≠X.env.locals∧p.1 ∉ X.fs∧∀v,p.2.data≠.cell v):Inv X pins' σ H s:=
 ⟨I.ok,I.os,I.bare,I.base,I.loc,I.cell,I.free,I.freeC,λp hp=>(VaT.mp hp).elim (λz=>I.pin p (List.mem_append_left _ z)) (h p),I.hok,I.len⟩
theorem zoN {N:List Str}(hN:N.Nodup){i j:Nat}{x:Str}(a:N[i]?=some x)(b:N[j]?=some x):i=j:=by
 obtain⟨h1,e1⟩:=Vab.mp a
 obtain⟨h2,e2⟩:=Vab.mp b
 exact(List.getElem_inj hN).mp (e1.trans e2.symm)
theorem zpP {M:Model}{A:Around}{E:Value→Shared→Prop}{i:Nat}{x:Str}{v:V}{u:Value}{Q:Unit→Shared→Prop}(I:Inv X pins σ H s)(hN:X.N.Nodup)(hi:X.N[i]?=some x)(hx:Loc X.env.scope x)(r:zav v u)
  (h:∀s',Inv X pins (σ.set i (some v)) H s'→(∃a,Heap.SameBut a s.heap s'.heap∧(a=X.env.locals∨X.env.cells.lookup x=some a))→Q () s')(hf:X.fn x=true∨X.env.scope.names.lookup x=some .local:=by first | exact .inl rfl | exact .inr rfl | assumption):wpAny M A (storeName X.env x u) Q E s:=by
 obtain⟨m,hn,hl⟩:=id I.loc
 have hcls:(X.env.scope.kind==.class||(X.env.scope.kind==.module&&X.env.locals != X.env.globals))=false:=by rw[I.ok.kind]; rfl
 have hiσ:i<σ.length:=by rw[I.len]; exact(Vab.mp hi).1
 have cne:=I.cne
 have tracked:∀ {a:Addr} {h':Heap},(∃o,s.heap.get? a=some o∧H a=none)→Heap.SameBut a s.heap h'→HOk X.prog X.w H h':=λ{a h'} ha hs b ob e=>by
  obtain⟨_,_,hfree⟩:=ha
  refine(I.hok b ob e).stay (λc w' hc q=>(hs.2 c ?_).trans q) (λ_ q=>q) λ_ _ q=>q
  rintro rfl
  rcases hc with rfl | hc
  ·rw[hfree] at e; cases e
  ·rw[hfree] at hc; cases hc
 rcases hx with hk | hk
 ·refine wpAny_storeName_local hk hn (λh' hn' hs=>?_) hcls
  obtain⟨oL,_,_,hoL,_⟩:=id hn
  refine h _ ⟨I.ok,I.os,I.bare,⟨λb o e n hb hx=>?_,λb o e n hb hx=>?_,I.base.free,λb o e hx=>?_,I.base.tups,I.base.frzs,I.base.tbls⟩,⟨_,hn',λj y v' e1 e2 e3=>?_⟩,λy c e=>?_,I.free,I.freeC,λp hp=>?_,tracked ⟨oL,hoL,I.free⟩ hs,by simpa using I.len⟩ ⟨_,hs,.inl rfl⟩
  ·exact(hs.2 b (Vas (Var (Heap.lt_size e) I.ok.above))).trans (I.base.keep b o e n hb hx)
  ·obtain⟨sl,e1⟩:=I.base.slot b o e n hb hx
   exact⟨sl,(hs.2 b (Vas (Var (Heap.lt_size e) I.ok.above))).trans e1⟩
  ·obtain⟨o',e1⟩:=I.base.there b o e hx
   exact⟨o',(hs.2 b (Vas (Var (Heap.lt_size e) I.ok.above))).trans e1⟩
  ·by_cases hj:j=i
   ·subst hj
    rw[hi] at e1; cases e1
    rw[Va0 hiσ] at e2
    cases e2
    exact⟨u,r,.inl ⟨hk,by simp⟩⟩
   ·rw[VaU (Ne.symm hj)] at e2
    obtain⟨u',r',q⟩:=hl j y v' e1 e2 e3
    refine⟨u',r',?_⟩
    rcases q with ⟨k,e⟩ | ⟨k,c,e,z⟩
    ·refine .inl ⟨k,?_⟩
     have:y≠x:=λe=>hj (zoN hN e1 (e ▸ hi))
     simp[this,e]
    ·exact .inr ⟨k,c,e,z.sameBut hs (cne y c e)⟩
  ·obtain⟨w',z⟩:=I.cell y c e
   exact⟨w',z.sameBut hs (cne y c e)⟩
  ·obtain⟨e,n,ne,nf,d⟩:=I.pin p hp
   exact⟨(hs.2 p.1 ne).trans e,n,ne,nf,d⟩
 ·have hfn:X.fn x=true:=by
   rcases hf with z | z
   ·exact z
   ·rw[z] at hk; cases hk
  obtain⟨c,hc⟩:=I.ok.has x (.inl hk)
  obtain⟨w',z⟩:=I.cell x c hc
  refine wpAny_storeName_cell I.ok.kind hk hc z (λh' hc' hs=>?_)
  obtain⟨oc,hoc,hocd⟩:=id z
  refine h { s with heap:=h' } ⟨I.ok,I.os,I.bare,⟨λb o e n hb hx=>?_,λb o e n hb hx=>?_,I.base.free,λb o e hx=>?_,I.base.tups,I.base.frzs,I.base.tbls⟩,⟨m,hn.sameBut hs (Ne.symm (cne x c hc)),λj y v' e1 e2 e3=>?_⟩,λy c' e=>?_,I.free,I.freeC,λp hp=>?_,tracked ⟨oc,hoc,I.freeC x c hc⟩ hs,by simpa using I.len⟩ ⟨c,hs,.inr hc⟩
  ·exact(hs.2 b (Vas (Var (Heap.lt_size e) (I.ok.cab x c hfn hc)))).trans (I.base.keep b o e n hb hx)
  ·obtain⟨sl,e1⟩:=I.base.slot b o e n hb hx
   exact⟨sl,(hs.2 b (Vas (Var (Heap.lt_size e) (I.ok.cab x c hfn hc)))).trans e1⟩
  ·obtain⟨o',e1⟩:=I.base.there b o e hx
   exact⟨o',(hs.2 b (Vas (Var (Heap.lt_size e) (I.ok.cab x c hfn hc)))).trans e1⟩
  ·by_cases hj:j=i
   ·subst hj
    rw[hi] at e1; cases e1
    rw[Va0 hiσ] at e2
    cases e2
    exact⟨u,r,.inr ⟨.inl hk,c,hc,hc'⟩⟩
   ·rw[VaU (Ne.symm hj)] at e2
    obtain⟨u',r',q⟩:=hl j y v' e1 e2 e3
    refine⟨u',r',?_⟩
    rcases q with q | ⟨k,c',e,z'⟩
    ·exact .inl q
    ·refine .inr ⟨k,c',e,z'.sameBut hs ?_⟩
     rintro rfl
     exact hj (zoN hN e1 (I.ok.inj _ _ _ e hc ▸ hi))
  ·by_cases hcc:c'=c
   ·subst hcc; exact⟨_,hc'⟩
   ·obtain⟨w2,z2⟩:=I.cell y c' e
    exact⟨w2,z2.sameBut hs hcc⟩
  ·obtain⟨e,n,ne,nf,d⟩:=I.pin p hp
   refine⟨(hs.2 p.1 ?_).trans e,n,ne,nf,d⟩
   intro q
   rw[q,hoc] at e
   have q':oc=p.2:=Option.some.inj e
   exact d w' (by rw[← q']; exact hocd)
theorem zqd {M:Model}{A:Around}{E:Value→Shared→Prop}{i:Nat}{x:Str}{v:V}{u:Value}{Q:Unit→Shared→Prop}(I:Inv X pins σ H s)(hN:X.N.Nodup)(hi:X.N[i]?=some x)(hx:Loc X.env.scope x)(r:zav v u)
  (h:∀s',Inv X pins (σ.set i (some v)) H s'→Q () s')(hf:X.fn x=true∨X.env.scope.names.lookup x=some .local:=by first | exact .inl rfl | exact .inr rfl | assumption):wpAny M A (storeName X.env x u) Q E s:=
 zpP I hN hi hx r (λs' I' _=>h s' I') hf
theorem Inv.call' {s':Shared}{ch:List Addr}(I:Inv X pins σ H s)(ho:s'.os=s.os)(u:Un (frs X.stack) ch H H' s.heap s'.heap)(hok:HOk X.prog X.w H' s'.heap)(hg:AllBare s'.gens)
  (hch:∀b∈ch,(b∈X.ex∨X.s₀.heap.objs.size≤b)∧b≠X.env.locals∧(∀x c,X.env.cells.lookup x=some c→c≠b)∧∀p∈X.pn++pins,p.1≠b):Inv X pins σ H' s':=by
 obtain⟨h',g',d',t',o'⟩:=s'
 have e:o'=s.os:=ho
 subst e
 exact I.call (g':=g') (t':=t') (d':=d') u hok hg hch
end
abbrev XK:=Value→Option Addr→Hp→Prop
abbrev St:=List (Option V)
abbrev VK:=V→Hp→Prop
abbrev TE:=St→Hp→VK→Prop
abbrev TT:=St→Hp→(Bool→Hp→Prop)→Prop
abbrev TA:=St→Hp→(List V→Hp→Prop)→Prop
structure zc2 where
 nx:St→Hp→Prop
 rt:VK
 bk:St→Hp→Prop:=λ_ _=>False
 ct:St→Hp→Prop:=λ_ _=>False
abbrev TS:=zc2→St→Hp→Prop
def EP (X:Cx)(pins:List (Addr×Obj))(σ:St)(Q:VK)(u:Value)(s':Shared):Prop:=∃v H',Inv X pins σ H' s'∧zav v u∧Q v H'
def TP (X:Cx)(pins:List (Addr×Obj))(σ:St)(Q:Bool→Hp→Prop)(b:Bool)(s':Shared):Prop:=∃H',Inv X pins σ H' s'∧Q b H'
def AP (X:Cx)(pins:List (Addr×Obj))(σ:St)(Q:List V→Hp→Prop)(us:List Value)(s':Shared):Prop:=∃vs H',Inv X pins σ H' s'∧zay vs us∧Q vs H'
def SP (X:Cx)(pins:List (Addr×Obj))(D:zc2)(f:Flow)(s':Shared):Prop:=
 match f with
 | .next=>∃σ' H',Inv X pins σ' H' s'∧D.nx σ' H'
 | .brk=>∃σ' H',Inv X pins σ' H' s'∧D.bk σ' H'
 | .cont=>∃σ' H',Inv X pins σ' H' s'∧D.ct σ' H'
 | .ret u=>∃v σ' H',Inv X pins σ' H' s'∧zav v u∧D.rt v H'
def PE (X:Cx)(e:Expr)(t:TE):Prop:=
 ∀(pins:List (Addr×Obj)) (s:Shared) (σ:St) (H:Hp) (Q:VK),Inv X pins σ H s→t σ H Q→wpAny (model X.prog X.w) X.A (eval e X.env) (EP X pins σ Q) X.xe s
def PT (X:Cx)(e:Expr)(t:TT):Prop:=
 ∀(pins:List (Addr×Obj)) (s:Shared) (σ:St) (H:Hp) (Q:Bool→Hp→Prop),Inv X pins σ H s→t σ H Q→wpAny (model X.prog X.w) X.A (isTrue e X.env (eval e X.env)) (TP X pins σ Q) X.xe s
def PW (X:Cx)(e:Expr)(t:TT):Prop:=
 ∀(whole:Sem Value) (pins:List (Addr×Obj)) (s:Shared) (σ:St) (H:Hp) (Q:Bool→Hp→Prop),Inv X pins σ H s→t σ H Q→wpAny (model X.prog X.w) X.A (isTrue e X.env whole) (TP X pins σ Q) X.xe s
theorem PW.pt {X:Cx}{e:Expr}{t:TT}(h:PW X e t):PT X e t:=h _
def PA (X:Cx)(es:List Expr)(t:TA):Prop:=
 ∀(pos:Pos) (pins:List (Addr×Obj)) (s:Shared) (σ:St) (H:Hp) (Q:List V→Hp→Prop),Inv X pins σ H s→t σ H Q→wpAny (model X.prog X.w) X.A (spliced (backTo pos (starEach es X.env))) (AP X pins σ Q) X.xe s
def PS (X:Cx)(st:Stmt)(t:TS):Prop:=
 ∀(pins:List (Addr×Obj)) (s:Shared) (σ:St) (H:Hp) (D:zc2),Inv X pins σ H s→t D σ H→wpAny (model X.prog X.w) X.A (exec st X.env) (SP X pins D) X.xe s
def PSs (X:Cx)(st:List Stmt)(t:TS):Prop:=
 ∀(pins:List (Addr×Obj)) (s:Shared) (σ:St) (H:Hp) (D:zc2),Inv X pins σ H s→t D σ H→wpAny (model X.prog X.w) X.A (execs st X.env) (SP X pins D) X.xe s
theorem thn {α:Type}{t:Sem α}{Q Q':α→Shared→Prop}{M:Model}{A:Around}{E:Value→Shared→Prop}{s:Shared}(h:wpAny M A t Q E s)(hQ:∀a s,Q a s→Q' a s):wpAny M A t Q' E s:=wpAny_mono h hQ λ_ _ x=>x
end L2
namespace L2
open PySem PySem.Spec PyProof.Rows
section
variable {X:Cx}
def tVar (i:Nat):TE:=λσ H Q=>∃v,σ[i]?=some (some v)∧Q v H
def tC (v:V):TE:=λ_ H Q=>Q v H
theorem zoQ {i:Nat}{x:Str}{pos:Pos}(hN:X.N[i]?=some x)(hv:Vis X.env.scope x)(hd:(x==("__debug__":Str))=false:=by decide)(hcd:(x==("__classdict__":Str))=false:=by decide):PE X (.Name x pos) (tVar i):=by
 intro pins s σ H Q I h
 obtain⟨v,e,h⟩:=h
 obtain⟨m,hn,hl⟩:=I.loc
 obtain⟨u,r,l⟩:=hl i x v hN e hv
 have fin:EP X pins σ Q u s:=⟨v,H,I,r,h⟩
 rcases l with ⟨hk,hm⟩ | ⟨hk,c,hc,hcell⟩
 ·exact wpAny_Name (wpAny_loadName_local I.ok.kind hk hn hm fin) hd
 ·rcases hk with hk | hk
  ·exact wpAny_Name (wpAny_loadName_cell I.ok.kind hk hc hcell fin) hd
  ·exact wpAny_Name (wpAny_loadName_free I.ok.kind hk hc hcell fin hcd) hd
theorem zxg {i j pos}:PE X (.Constant (.int i) j pos) (tC (.int i)):=λ_ _ _ H _ I h=>wpAny_Constant_int ⟨.int i,H,I.tok _,⟨_,rfl⟩,h⟩
theorem pe_bl {b j pos}:PE X (.Constant (.bool b) j pos) (tC (.bl b)):=λ_ _ _ H _ I h=>Constant_bool ⟨.bl b,H,I,rfl,h⟩
theorem zxp {j pos}:PE X (.Constant .none j pos) (tC .non):=λ_ _ _ H _ I h=>Constant_none ⟨.non,H,I,rfl,h⟩
theorem zrM {x j pos}:PE X (.Constant (.str x) j pos) (tC (.str x)):=λ_ _ _ H _ I h=>Calls.Constant_str ⟨.str x,H,I.tok _,⟨_,rfl⟩,h⟩
def Gl (X:Cx)(x:Str):Prop:=X.env.kindOf x=some .globalImplicit
theorem zpe {E:Value→Shared→Prop}{pins:List (Addr×Obj)}{s:Shared}{σ:St}{H:Hp}{x:Str}{u:Value}{pos:Pos}{Q:Value→Shared→Prop}(I:Inv X pins σ H s)(hg:Gl X x)(hm:X.mg x=some u)(h:Q u s)
  (hd:(x==("__debug__":Str))=false:=by decide):wpAny (model X.prog X.w) X.A (eval (.Name x pos) X.env) Q E s:=
 Calls.Name_function_global I.ok.kind hg (Calls.loadGlobal_global (by rw[I.ok.glob]; exact I.mod.glob.keeps I.bk) hm h) hd
theorem zfe {E:Value→Shared→Prop}{pins:List (Addr×Obj)}{s:Shared}{σ:St}{H:Hp}{x:Str}{u:Value}{pos:Pos}{Q:Value→Shared→Prop}(I:Inv X pins σ H s)(hg:Gl X x)(hm:X.mg x=none)(hv:bootBuiltins x=some u)(h:Q u s)
  (hn:x≠"__name__":=by decide)(hd:(x==("__debug__":Str))=false:=by decide):wpAny (model X.prog X.w) X.A (eval (.Name x pos) X.env) Q E s:=by
 obtain⟨mb,h1,h2⟩:=I.mod.blt
 exact Calls.Name_function_global I.ok.kind hg (Calls.loadGlobal_builtin (by rw[I.ok.glob]; exact I.mod.glob.keeps I.bk) hm (by rw[I.ok.blt]; exact h1.keeps I.bk) ((h2 x hn).trans hv) h) hd
theorem zpB {x:Str}{v:V}{u:Value}{pos:Pos}(hg:Gl X x)(hm:X.mg x=none)(hv:bootBuiltins x=some u)(r:zav v u)(hn:x≠"__name__":=by decide)(hd:(x==("__debug__":Str))=false:=by decide):PE X (.Name x pos) (tC v):=
 λ_ _ _ H _ I h=>zfe I hg hm hv ⟨v,H,I,r,h⟩ hn hd
variable {a b:Expr}{ta tb:TE}{pos:Pos}
def tB (t:TE):TT:=λσ H Q=>t σ H λx H1=>∃c,x=.bl c∧Q c H1
theorem zw5 {e:Expr}{t:TE}(h:PE X e t)(he:∀whole,isTrue e X.env whole=(do let v ← whole; standAt e.pos; holding [v] (truthy v)):=by intro _; rfl):PT X e (tB t):=by
 intro pins s σ H Q I hw
 refine isTrue_plain (thn (h pins s σ H _ I hw) λv s1 ⟨x,H1,I1,r1,q1⟩=>?_) (he _)
 obtain⟨d,rfl,q⟩:=q1
 cases r1
 exact wpAny_truthy_bool ⟨H1,I1,q⟩
variable {tA tB':TT}{za9:List Expr}
def tAnd (t u:TT):TT:=λσ H Q=>t σ H λc H1=>if c=true then u σ H1 Q else Q false H1
def tOr (t u:TT):TT:=λσ H Q=>t σ H λc H1=>if c=true then Q true H1 else u σ H1 Q
def tNot (t:TT):TT:=λσ H Q=>t σ H λc H1=>Q (!c) H1
theorem ztC (ha:PT X a tA):PW X (.BoolOp .And [a] pos) tA:=by
 intro wh pins s σ H Q I h
 refine isTrue_and (thn (ha pins s σ H Q I h) λc s1 e=>?_)
 cases c with
 | true=>exact isTrue_and_nil e
 | false=>exact e
theorem zxB (ha:PT X a tA):PW X (.BoolOp .Or [a] pos) tA:=by
 intro wh pins s σ H Q I h
 refine isTrue_or (thn (ha pins s σ H Q I h) λc s1 e=>?_)
 cases c with
 | false=>exact isTrue_or_nil e
 | true=>exact e
theorem zuM (ha:PT X a tA)(hb:PW X (.BoolOp .And (b::za9) pos) tB'):PW X (.BoolOp .And (a::b::za9) pos) (tAnd tA tB'):=by
 intro wh pins s σ H Q I h
 refine isTrue_and (thn (ha pins s σ H _ I h) λc s1 ⟨H1,I1,q1⟩=>?_)
 cases c with
 | true=>exact hb wh pins s1 σ H1 Q I1 q1
 | false=>exact⟨H1,I1,q1⟩
theorem pw_or (ha:PT X a tA)(hb:PW X (.BoolOp .Or (b::za9) pos) tB'):PW X (.BoolOp .Or (a::b::za9) pos) (tOr tA tB'):=by
 intro wh pins s σ H Q I h
 refine isTrue_or (thn (ha pins s σ H _ I h) λc s1 ⟨H1,I1,q1⟩=>?_)
 cases c with
 | true=>exact⟨H1,I1,q1⟩
 | false=>exact hb wh pins s1 σ H1 Q I1 q1
theorem zuD (ha:PT X a tA):PT X (.UnaryOp .Not a pos) (tNot tA):=by
 intro pins s σ H Q I h
 exact isTrue_not (ha pins s σ H (λc H1=>Q (!c) H1) I h)
def tAndV (ta tb:TE):TE:=λσ H Q=>ta σ H λx H1=>∃c,x=.bl c∧if c=true then tb σ H1 Q else Q (.bl false) H1
def tOrV (ta tb:TE):TE:=λσ H Q=>ta σ H λx H1=>∃c,x=.bl c∧if c=true then Q (.bl true) H1 else tb σ H1 Q
def tNotV (ta:TE):TE:=λσ H Q=>ta σ H λx H1=>∃c,x=.bl c∧Q (.bl (!c)) H1
theorem zw6 {op}{t:TE}(h:PE X a t):PE X (.BoolOp op [a] pos) t:=λpins s σ H Q I hw=>BoolOp_one (h pins s σ H Q I hw)
theorem zwV (ha:PE X a ta)(hb:PE X (.BoolOp .And (b::za9) pos) tb):PE X (.BoolOp .And (a::b::za9) pos) (tAndV ta tb):=by
 intro pins s σ H Q I h
 refine BoolOp_and (thn (ha pins s σ H _ I h) λv s1 ⟨x,H1,I1,r1,q1⟩=>?_)
 obtain⟨c,rfl,q1⟩:=q1
 cases r1
 refine wpAny_truthy_bool ?_
 cases c with
 | true=>exact hb pins s1 σ H1 Q I1 q1
 | false=>exact⟨.bl false,H1,I1,rfl,q1⟩
theorem pe_or (ha:PE X a ta)(hb:PE X (.BoolOp .Or (b::za9) pos) tb):PE X (.BoolOp .Or (a::b::za9) pos) (tOrV ta tb):=by
 intro pins s σ H Q I h
 refine BoolOp_or (thn (ha pins s σ H _ I h) λv s1 ⟨x,H1,I1,r1,q1⟩=>?_)
 obtain⟨c,rfl,q1⟩:=q1
 cases r1
 refine wpAny_truthy_bool ?_
 cases c with
 | false=>exact hb pins s1 σ H1 Q I1 q1
 | true=>exact⟨.bl true,H1,I1,rfl,q1⟩
theorem ztl (ha:PE X a ta):PE X (.UnaryOp .Not a pos) (tNotV ta):=by
 intro pins s σ H Q I h
 refine UnaryOp_ (thn (ha pins s σ H _ I h) λv s1 ⟨x,H1,I1,r1,q1⟩=>?_)
 obtain⟨c,rfl,q1⟩:=q1
 cases r1
 exact not_of (wpAny_truthy_bool ⟨.bl (!c),H1,I1,rfl,q1⟩)
def tIf (t:TT)(ta tb:TE):TE:=λσ H Q=>t σ H λc H1=>if c=true then ta σ H1 Q else tb σ H1 Q
theorem ztZ {c:Expr}(hc:PT X c tA)(ha:PE X a ta)(hb:PE X b tb):PE X (.IfExp c a b pos) (tIf tA ta tb):=by
 intro pins s σ H Q I h
 refine wpAny_IfExp (thn (hc pins s σ H _ I h) λd s1 ⟨H1,I1,q1⟩=>?_)
 cases d with
 | true=>exact ha pins s1 σ H1 Q I1 q1
 | false=>exact hb pins s1 σ H1 Q I1 q1
end
end L2
namespace L2
open PySem PySem.Spec PyProof.Rows
def SqL (K:PySem.W.Frag)(H:Hp)(a:Addr)(xs:List V):Prop:=
 Rd H a (.lst xs)∨
  ∃(o:Obj) (its:Array Value) (n:Nat),K.lookup a=some o∧o.cls=.type "list"∧o.dict=none∧o.data=.seq its n∧its.size≤sizeLine∧zay xs its.toList
def SqT (K:PySem.W.Frag)(H:Hp)(a:Addr)(xs:List V):Prop:=
 Rd H a (.tup xs)∨
  ∃(o:Obj) (its:Array Value) (n:Nat),K.lookup a=some o∧o.cls=.type "tuple"∧o.data=.seq its n∧its.size≤sizeLine∧zay xs its.toList
def absV:Value→Option V
 | .none=>some .non
 | .bool b=>some (.bl b)
 | .int i _=>some (.int i)
 | .str x _=>some (.str x)
 | .bytes b _=>some (.byt b)
 | .float b _=>some (.flt b)
 | .ref a=>some (.ref a)
 | .type n=>some (.ty n)
 | _=>none
theorem zav.abs {x:V}{u:Value}(r:zav x u):absV u=some x:=by
 cases x with
 | non=>cases r; rfl
 | bl _=>cases r; rfl
 | int _=>obtain⟨t,rfl⟩:=r; rfl
 | str _=>obtain⟨t,rfl⟩:=r; rfl
 | byt _=>obtain⟨t,rfl⟩:=r; rfl
 | flt _=>obtain⟨t,rfl⟩:=r; rfl
 | ref _=>cases r; rfl
 | ty _=>cases r; rfl
theorem zav.inj {x y:V}{u:Value}(r:zav x u)(q:zav y u):x=y:=Option.some.inj (r.abs.symm.trans q.abs)
theorem zay.inj:∀ {xs ys:List V} {us:List Value},zay xs us→zay ys us→xs=ys
 | _,_,_,.nil,.nil=>rfl
 | _,_,_,.cons r t,.cons r' t'=>by rw[r.inj r',zay.inj t t']
section
variable {X:Cx}{pins:List (Addr×Obj)}{σ:St}{H:Hp}{s:Shared}{a:Addr}{xs ys:List V}
theorem SqL.of {K:PySem.W.Frag}(h:H a=some (.lst xs)):SqL K H a xs:=.inl (.inl h)
theorem SqT.of {K:PySem.W.Frag}(h:H a=some (.tup xs)):SqT K H a xs:=.inl (.inl h)
theorem Inv.list (I:Inv X pins σ H s)(h:SqL X.K H a xs):∃its:List Value,zay xs its∧PlainL s.heap a its.toArray∧xs.length≤sizeLine:=by
 rcases h with h | ⟨o,its,n,hk,hc,hd,hs,hz,r⟩
 ·obtain⟨z,its,n,r,e⟩:=h.ok I.hok
  exact⟨its,r,⟨_,n,e,rfl,rfl,rfl⟩,z⟩
 ·refine⟨its.toList,r,⟨o,n,I.kIn a o hk,hc,hd,by simpa using hs⟩,?_⟩
  have e:=r.length
  simp only[Array.length_toList] at e
  omega
theorem Inv.tuple (I:Inv X pins σ H s)(h:SqT X.K H a xs):∃its:List Value,zay xs its∧IsTup s.heap a its.toArray∧xs.length≤sizeLine:=by
 rcases h with h | ⟨o,its,n,hk,hc,hs,hz,r⟩
 ·obtain⟨z,its,r,p⟩:=h.ok I.hok
  exact⟨its,r,p,z⟩
 ·refine⟨its.toList,r,⟨o,I.kIn a o hk,hc,n,by simpa using hs⟩,?_⟩
  have e:=r.length
  simp only[Array.length_toList] at e
  omega
theorem Inv.list_inj (I:Inv X pins σ H s)(h:SqL X.K H a xs)(h':SqL X.K H a ys):xs=ys:=by
 obtain⟨its,r,⟨o,n,e,_,_,d⟩,_⟩:=I.list h
 obtain⟨its',r',⟨o',n',e',_,_,d'⟩,_⟩:=I.list h'
 rw[e] at e'; cases e'
 rw[d] at d'
 injection d' with d1 _
 have:its=its':=by simpa using congrArg Array.toList d1
 subst this
 exact r.inj r'
theorem Inv.tuple_inj (I:Inv X pins σ H s)(h:SqT X.K H a xs)(h':SqT X.K H a ys):xs=ys:=by
 obtain⟨its,r,⟨o,e,_,n,d⟩,_⟩:=I.tuple h
 obtain⟨its',r',⟨o',e',_,n',d'⟩,_⟩:=I.tuple h'
 rw[e] at e'; cases e'
 rw[d] at d'
 injection d' with d1 _
 have:its=its':=by simpa using congrArg Array.toList d1
 subst this
 exact r.inj r'
end
abbrev Cx.wish (X:Cx)(E:Value→Shared→Prop):Cx:={ X with xe:=E }
abbrev Cx.nox (X:Cx):Cx:=X.wish λ_ _=>False
theorem Cx.Ok.wish {X:Cx}(ok:X.Ok)(E:Value→Shared→Prop):(X.wish E).Ok:=
 ⟨ok.mod,ok.kind,ok.glob,ok.blt,ok.above,ok.inj,ok.has,ok.cab,ok.hd,ok.frames,ok.stk,ok.exf,ok.bs,ok.bsz,ok.noex,ok.exfs,ok.funs,ok.frf⟩
theorem Cx.Ok.unwish {X:Cx}{E:Value→Shared→Prop}(ok:(X.wish E).Ok):X.Ok:=
 ⟨ok.mod,ok.kind,ok.glob,ok.blt,ok.above,ok.inj,ok.has,ok.cab,ok.hd,ok.frames,ok.stk,ok.exf,ok.bs,ok.bsz,ok.noex,ok.exfs,ok.funs,ok.frf⟩
section
variable {X:Cx}{pins:List (Addr×Obj)}{σ:St}{H:Hp}{s:Shared}{E:Value→Shared→Prop}
theorem Inv.wish (I:Inv X pins σ H s)(E:Value→Shared→Prop):Inv (X.wish E) pins σ H s:=⟨I.ok.wish E,I.os,I.bare,I.base,I.loc,I.cell,I.free,I.freeC,I.pin,I.hok,I.len⟩
theorem Inv.unwish (I:Inv (X.wish E) pins σ H s):Inv X pins σ H s:=⟨I.ok.unwish,I.os,I.bare,I.base,I.loc,I.cell,I.free,I.freeC,I.pin,I.hok,I.len⟩
theorem SP.unwish {D:zc2}{f:Flow}{s':Shared}(h:SP (X.wish E) pins D f s'):SP X pins D f s':=by
 cases f with
 | next=>obtain⟨σ',H',I,q⟩:=h; exact⟨σ',H',I.unwish,q⟩
 | brk=>obtain⟨σ',H',I,q⟩:=h; exact⟨σ',H',I.unwish,q⟩
 | cont=>obtain⟨σ',H',I,q⟩:=h; exact⟨σ',H',I.unwish,q⟩
 | ret u=>obtain⟨v,σ',H',I,r,q⟩:=h; exact⟨v,σ',H',I.unwish,r,q⟩
theorem PE.nox {e:Expr}{t:TE}(h:PE X.nox e t):PE X e t:=λpins s σ H Q I hw=>
 wpAny_mono (h pins s σ H Q (I.wish _) hw) (λ_ _ ⟨v,H',I',r,q⟩=>⟨v,H',I'.unwish,r,q⟩) λ_ _ z=>False.elim z
theorem PT.nox {e:Expr}{t:TT}(h:PT X.nox e t):PT X e t:=λpins s σ H Q I hw=>
 wpAny_mono (h pins s σ H Q (I.wish _) hw) (λ_ _ ⟨H',I',q⟩=>⟨H',I'.unwish,q⟩) λ_ _ z=>False.elim z
theorem PSs.nox {st:List Stmt}{t:TS}(h:PSs X.nox st t):PSs X st t:=λpins s σ H D I hw=>
 wpAny_mono (h pins s σ H D (I.wish _) hw) (λ_ _ q=>q.unwish) λ_ _ z=>False.elim z
end
section
variable {X:Cx}{st:Stmt}{za9:List Stmt}{t u:TS}{e:Expr}{te:TE}{pos:Pos}
def tNext:TS:=λD σ H=>D.nx σ H
def tSeq (t u:TS):TS:=λD σ H=>t { D with nx:=u D } σ H
theorem zq7:PSs X [] tNext:=λ_ _ σ H _ I h=>wpAny_execs_nil ⟨σ,H,I,h⟩
theorem zxO (h1:PS X st t)(h2:PSs X za9 u):PSs X (st::za9) (tSeq t u):=by
 intro pins s σ H D I h
 refine wpAny_execs_cons (thn (h1 pins s σ H { D with nx:=u D } I h) λf s1 q=>?_)
 cases f with
 | next=>
  obtain⟨σ',H',I',q⟩:=q
  exact h2 pins s1 σ' H' D I' q
 | ret v=>exact q
 | brk=>exact q
 | cont=>exact q
theorem zse (h1:PS X st t):PSs X [st] t:=by
 intro pins s σ H D I h
 refine wpAny_execs_cons (thn (h1 pins s σ H D I h) λf s1 q=>?_)
 cases f with
 | next=>exact wpAny_execs_nil q
 | ret v=>exact q
 | brk=>exact q
 | cont=>exact q
theorem Inv.quiet {pins:List (Addr×Obj)}{σ:St}{H:Hp}{s:Shared}(I:Inv X pins σ H s):interactive X.env=false:=by simp[interactive,I.ok.kind]
def tDrop (te:TE):TS:=λD σ H=>te σ H λ_ H1=>D.nx σ H1
theorem zsQ (he:PE X e te)(hs:swapsWith e none pos.line X.env=pure false:=by rfl):PS X (.Expr e pos) (tDrop te):=by
 intro pins s σ H D I h
 exact wpAny_Expr_any (thn (he pins s σ H _ I h) λv s1 ⟨x,H1,I1,r1,q1⟩=>⟨σ,H1,I1,q1⟩) I.quiet hs
def tRet (te:TE):TS:=λD σ H=>te σ H D.rt
theorem zrb (he:PE X e te):PS X (.Return (some e) pos) (tRet te):=by
 intro pins s σ H D I h
 exact wpAny_Return_some (thn (he pins s σ H _ I h) λv s1 ⟨x,H1,I1,r1,q1⟩=>⟨x,σ,H1,I1,r1,q1⟩)
def tIfS (c:TT)(t u:TS):TS:=λD σ H=>c σ H λb H1=>if b=true then t D σ H1 else u D σ H1
theorem ps_if {c:Expr}{a b:List Stmt}{tc:TT}(hc:PT X c tc)(ha:PSs X a t)(hb:PSs X b u):PS X (.If c a b pos) (tIfS tc t u):=by
 intro pins s σ H D I h
 refine wpAny_If (thn (hc pins s σ H _ I h) λd s1 ⟨H1,I1,q1⟩=>?_)
 cases d with
 | true=>exact ha pins s1 σ H1 D I1 q1
 | false=>exact hb pins s1 σ H1 D I1 q1
def zvC:TS:=λ_ _ _=>False
theorem zxR:PS X st zvC:=λ_ _ _ _ _ _ h=>h.elim
end
abbrev TG:=V→St→Hp→(St→Hp→Prop)→Prop
abbrev TGs:=List V→St→Hp→(St→Hp→Prop)→Prop
def PG (X:Cx)(target:Expr)(t:TG):Prop:=
 ∀(pins:List (Addr×Obj)) (s:Shared) (σ:St) (H:Hp) (v:V) (u:Value) (Q:St→Hp→Prop),Inv X pins σ H s→zav v u→t v σ H Q→
  wpAny (model X.prog X.w) X.A (assign target X.env u) (λ_ s'=>∃σ' H',Inv X pins σ' H' s'∧Q σ' H') X.xe s
def PGs (X:Cx)(ts:List Expr)(t:TGs):Prop:=
 ∀(pins:List (Addr×Obj)) (s:Shared) (σ:St) (H:Hp) (vs:List V) (us:List Value) (Q:St→Hp→Prop),Inv X pins σ H s→zay vs us→t vs σ H Q→
  wpAny (model X.prog X.w) X.A (assignInOrder ((assignEach ts X.env).map (·.2)) us) (λ_ s'=>∃σ' H',Inv X pins σ' H' s'∧Q σ' H') X.xe s
abbrev TSet:=V→V→V→Hp→(Hp→Prop)→Prop
def PSet (X:Cx)(t:TSet):Prop:=
 ∀(pins:List (Addr×Obj)) (s:Shared) (σ:St) (H:Hp) (o i v:V) (ov iv u:Value) (Q:Hp→Prop),Inv X pins σ H s→zav o ov→zav i iv→zav v u→t o i v H Q→
  wpAny (model X.prog X.w) X.A (setItem ov iv u) (λ_ s'=>∃H',Inv X pins σ H' s'∧Q H') X.xe s
section
variable {X:Cx}{pos:Pos}
def zqw (i:Nat):TG:=λv σ H Q=>Q (σ.set i (some v)) H
theorem zeV {i:Nat}{x:Str}(hN:X.N.Nodup)(hi:X.N[i]?=some x)(hx:Loc X.env.scope x)(hf:X.fn x=true∨X.env.scope.names.lookup x=some .local:=by first | exact .inl rfl | exact .inr rfl | assumption):PG X (.Name x pos) (zqw i):=by
 intro pins s σ H v u Q I r h
 exact wpAny_assign_Name (zqd I hN hi hx r (λs' I'=>⟨_,H,I',h⟩) hf)
def gNil:TGs:=λvs σ H Q=>vs=[]∧Q σ H
def gCons (t:TG)(u:TGs):TGs:=λvs σ H Q=>∃v r,vs=v::r∧t v σ H λσ' H'=>u r σ' H' Q
theorem zrP:PGs X [] gNil:=by
 intro pins s σ H vs us Q I r h
 obtain⟨e,h⟩:=h
 subst e
 cases r
 exact assignInOrder_nil ⟨σ,H,I,h⟩
theorem ztb {e:Expr}{es:List Expr}{t:TG}{u:TGs}(h1:PG X e t)(h2:PGs X es u)
  (hs:(assignEach (e::es) X.env).map (·.2)=assign e X.env::(assignEach es X.env).map (·.2):=by rfl):PGs X (e::es) (gCons t u):=by
 intro pins s σ H vs us Q I r h
 obtain⟨v,vr,e1,h⟩:=h
 subst e1
 cases r with
 | cons r rr=>
  rw[hs]
  refine assignInOrder_cons (thn (h1 pins s σ H _ _ _ I r h) λ_ s1 ⟨σ1,H1,I1,q1⟩=>?_)
  exact h2 pins s1 σ1 H1 _ _ Q I1 rr q1
def gTup (K:PySem.W.Frag)(n:Nat)(t:TGs):TG:=λv σ H Q=>∃a xs,v=.ref a∧SqT K H a xs∧xs.length=n∧t xs σ H Q
theorem zq0 {es:List Expr}{k:Nat}{t:TGs}{n:Nat}(hc:X.calm=true)(h:PGs X es t)
  (hn:(assignEach es X.env).length=n:=by rfl)(hst:(assignEach es X.env).findIdx? (·.1)=none:=by rfl):PG X (.Tuple es k pos) (gTup X.K n t):=by
 intro pins s σ H v u Q I r hw
 obtain⟨a,xs,e1,hq,hl,hw⟩:=hw
 subst e1
 cases r
 obtain⟨its,rv,ht,hz⟩:=I.tuple hq
 refine assign_Tuple_tuple (I.ok.hd hc) ht (by simp[hn,← hl,rv.length]) hst λh' hx=>?_
 have I1:Inv X pins σ H { s with heap:=h' }:=I.kept (t':=s.toks) λb o e=>hx b o (Vas (Heap.lt_size e)) e
 exact h pins _ σ H xs _ Q I1 (by simpa using rv) hw
def gSub (to ti:TE)(t:TSet):TG:=λv σ H Q=>to σ H λo H1=>ti σ H1 λi H2=>t o i v H2 λH3=>Q σ H3
theorem zuz {o i:Expr}{to ti:TE}{t:TSet}(ho:PE X o to)(hi:PE X i ti)(hs:PSet X t)
  (ha:∀v,assign (.Subscript o i pos) X.env v=(do
   let ov ← holding [v] (eval o X.env)
   let iv ← holding [v,ov] (eval i X.env)
   standAt pos
   holding [v,ov,iv] (setItem ov iv v)
   release [v,ov,iv] []):=by intro _; rfl):PG X (.Subscript o i pos) (gSub to ti t):=by
 intro pins s σ H v u Q I r h
 rw[ha]
 refine wpAny_bind (wpAny_holding (thn (ho pins s σ H _ I h) λov s1 ⟨x,H1,I1,r1,q1⟩=>?_))
 refine wpAny_bind (wpAny_holding (thn (hi pins s1 σ H1 _ I1 q1) λiv s2 ⟨y,H2,I2,r2,q2⟩=>?_))
 refine wpAny_bind (wpAny_standAt (wpAny_bind (wpAny_holding (thn (hs pins s2 σ H2 x y v ov iv u _ I2 r1 r2 r q2) λ_ s3 ⟨H3,I3,q3⟩=>?_))))
 exact wpAny_release ⟨σ,H3,I3,q3⟩
def tAsg (te:TE)(g:TG):TS:=λD σ H=>te σ H λx H1=>g x σ H1 D.nx
theorem zta {tg e:Expr}{te:TE}{g:TG}(he:PE X e te)(hg:PG X tg g)(hs:swapsWithSole [tg] e pos.line X.env=pure false:=by rfl)(hw:swappedStores [tg] e X.env=pure none:=by rfl)
  (h1:(assignEach [tg] X.env).map (·.2)=[assign tg X.env]:=by rfl):PS X (.Assign [tg] e pos) (tAsg te g):=by
 intro pins s σ H D I h
 refine wpAny_Assign_stores (thn (he pins s σ H _ I h) λv s1 ⟨x,H1,I1,r1,q1⟩=>?_) hs hw
 rw[h1]
 exact thn (hg pins s1 σ H1 x v _ I1 r1 q1) λ_ s2 q=>q
theorem zrj {i:Nat}{x:Str}{e:Expr}{te:TE}{pos':Pos}(hN:X.N.Nodup)(hi:X.N[i]?=some x)(hx:Loc X.env.scope x)(he:PE X e te)(hs:swapsWith e (some (.Name x pos')) pos.line X.env=pure false:=by rfl)(hf:X.fn x=true∨X.env.scope.names.lookup x=some .local:=by first | exact .inl rfl | exact .inr rfl | assumption):
  PS X (.Assign [.Name x pos'] e pos) (tAsg te (zqw i)):=by
 intro pins s σ H D I h
 refine wpAny_Assign_Name (thn (he pins s σ H _ I h) λv s1 ⟨y,H1,I1,r1,q1⟩=>?_) hs
 exact zqd I1 hN hi hx r1 (λs2 I2=>⟨_,H1,I2,q1⟩) hf
end
section
variable {X:Cx}{pos:Pos}
def zrp (c:TT)(tb:TS):TS:=λD σ H=>∃W:Nat→St→Hp→Prop,(∃m,W m σ H)∧∀m σ H,W m σ H→
 c σ H λb H1=>if b=true then ∃N:St→Hp→Prop,(∀σ' H',N σ' H'→∃m',m'<m∧W m' σ' H')∧tb { D with nx:=N,ct:=N,bk:=D.nx } σ H1 else D.nx σ H1
theorem zv5 {c:Expr}{body:List Stmt}{tc:TT}{tb:TS}(hp:PassesOwn (model X.prog X.w) X.A X.env X.xe)(hc:PT X c tc)(hb:PSs X body tb):PS X (.While c body [] pos) (zrp tc tb):=by
 intro pins s σ H D I h
 obtain⟨W,⟨m0,w0⟩,turn⟩:=h
 refine wpAny_While (codeAny_whileLoop (λn s'=>∃σ' H',Inv X pins σ' H' s'∧W n σ' H') ?_ m0 ⟨σ,H,I,w0⟩)
 rintro n s1 ⟨σ1,H1,I1,w1⟩
 refine wpAny_passesOwn hp (thn (hc pins s1 σ1 H1 _ I1 (turn n σ1 H1 w1)) λb s2 ⟨H2,I2,q2⟩=>?_)
 cases b with
 | true=>
  obtain⟨N,hN,q2⟩:=q2
  rw[if_pos rfl]
  refine wpAny_passesOwn hp (thn (hb pins s2 σ1 H2 _ I2 q2) λf s3 q3=>?_)
  cases f with
  | next=>
   obtain⟨σ3,H3,I3,n3⟩:=q3
   obtain⟨m',hm,w3⟩:=hN σ3 H3 n3
   exact⟨m',hm,σ3,H3,I3,w3⟩
  | cont=>
   obtain⟨σ3,H3,I3,n3⟩:=q3
   obtain⟨m',hm,w3⟩:=hN σ3 H3 n3
   exact⟨m',hm,σ3,H3,I3,w3⟩
  | brk=>exact q3
  | ret v=>exact q3
 | false=>
  rw[if_neg Vao]
  exact wpAny_execs_nil ⟨σ1,H2,I2,q2⟩
end
structure It where
 go:Nat→Hp→Prop
 yld:Nat→Hp→V→Hp→Prop
 stop:Nat→Hp→Prop
def zb3 (X:Cx)(pins:List (Addr×Obj))(H:Hp)(b:Addr):Prop:=
 H b=none∧b≠X.env.locals∧b ∉ X.fs∧(b∈X.ex∨X.s₀.heap.objs.size≤b)∧(∀x c,X.env.cells.lookup x=some c→c≠b)∧∀p∈X.pn++pins,p.1≠b
theorem Inv.fpOk {X:Cx}{pins:List (Addr×Obj)}{σ:St}{H H':Hp}{s:Shared}{b:Addr}(I:Inv X pins σ H s)(hb:s.heap.objs.size≤b)(hn:H' b=none):zb3 X pins H' b:=by
 refine⟨hn,Nat.ne_of_gt (Var I.lt hb),I.nofs hb,.inr (VaB I.sz hb),λx c e z=>?_,λp hp z=>?_⟩
 ·obtain⟨v,q⟩:=I.cell x c e
  exact absurd (Var q.lt (by rw[z]; exact hb)) (VaL _)
 ·exact absurd (Var (Heap.lt_size (I.pin p hp).1) (by rw[z]; exact hb)) (VaL _)
structure zeu (P:Program)(w:World)(K:PySem.W.Frag)(tg:Expr)(J:It)(fp:List Addr)(it:Addr)(tn:Nat→Heap→Prop):Prop where
 mem:it∈fp
 obj:∀i h,tn i h→∀b∈fp,∃o,h.get? b=some o∧∀v,o.data≠.cell v
 keep:∀i h h',tn i h→(∀b∈fp,∀o,h.get? b=some o→h'.get? b=some o)→tn i h'
 item:∀(X:Cx),X.prog=P→X.w=w→X.K=K→X.calm=true→∀(i:Nat) (pins:List (Addr×Obj)) (s:Shared) (σ:St) (H:Hp) (E:Value→Shared→Prop),Inv X pins σ H s→(∀b∈fp,zb3 X pins H b)→tn i s.heap→J.go i H→
  wpAny (model P w) X.A (pyNext (.ref it)) (λr s1=>∃u,r=some u∧
   wpAny (model P w) X.A (letOwnedTupleGo tg (.ref it) u) (λ_ s2=>∃x H',Inv X pins σ H' s2∧zav x u∧J.yld i H x H'∧tn (i+1) s2.heap∧∀b∈fp,H' b=none) E s1) E s
 done:∀(X:Cx),X.prog=P→X.w=w→X.K=K→X.calm=true→∀(i:Nat) (pins:List (Addr×Obj)) (s:Shared) (σ:St) (H:Hp) (E:Value→Shared→Prop),Inv X pins σ H s→(∀b∈fp,zb3 X pins H b)→tn i s.heap→J.stop i H→
  wpAny (model P w) X.A (pyNext (.ref it)) (λr s1=>r=none∧Inv X pins σ H s1) E s
 self:∀(A:Around) (i:Nat) (s:Shared) (Q:Value→Shared→Prop) (E:Value→Shared→Prop),tn i s.heap→Q (.ref it) s→wpAny (model P w) A (pyIter (.ref it)) Q E s
abbrev TI:=St→Hp→(It→Hp→Prop)→Prop
def PIE (X:Cx)(pins:List (Addr×Obj))(σ:St)(tg:Expr)(R:It→Hp→Prop)(itv:Value)(s2:Shared):Prop:=
 ∃(it:Addr) (fp:List Addr) (tn:Nat→Heap→Prop) (J:It) (H':Hp),itv=.ref it∧Inv X pins σ H' s2∧zeu X.prog X.w X.K tg J fp it tn∧tn 0 s2.heap∧(∀b∈fp,zb3 X pins H' b)∧R J H'
def PI (X:Cx)(tg iter:Expr)(wi:TI):Prop:=
 ∀(pins:List (Addr×Obj)) (s:Shared) (σ:St) (H:Hp) (R:It→Hp→Prop),Inv X pins σ H s→wi σ H R→
  wpAny (model X.prog X.w) X.A (eval iter X.env) (λv s1=>wpAny (model X.prog X.w) X.A (pyIter v) (PIE X pins σ tg R) X.xe s1) X.xe s
theorem zls {M:Model}{A:Around}{E:Value→Shared→Prop}{s:Shared}{tg:Expr}{it:Addr}{u:Value}{o:Obj}{n:String}{vs:Array Value}{Q:Unit→Shared→Prop}(ho:s.heap.get? it=some o)(hc:o.cls=.type n)(hd:o.data=.fields vs)
    (hn:["enumerate","zip","dict_itemiterator","dict_reverseitemiterator","odict_iterator","itertools.zip_longest","itertools.pairwise"].contains n=false)(hQ:Q () s):wpAny M A (letOwnedTupleGo tg (.ref it) u) Q E s:=by
  unfold letOwnedTupleGo
  cases tg <;> first
    | exact wpAny_pure hQ
    | (cases u <;> first
        | exact wpAny_pure hQ
        | (refine wpAny_bind (wpAny_load ho ?_)
           rw[hc,hd]
           show wpAny M A (if (["enumerate","zip","dict_itemiterator","dict_reverseitemiterator","odict_iterator","itertools.zip_longest","itertools.pairwise"].contains n&&vs[0]?==some (rawInt _))=true then _ else _) Q E s
           rw[if_neg (by intro h; rw[hn,Bool.false_and] at h; cases h)]
           exact wpAny_pure hQ))
def Itl (K:PySem.W.Frag)(a:Addr):It:=
 ⟨λi H=>∃xs x,SqL K H a xs∧xs[i]?=some x,λi H x H'=>H'=H∧∀xs,SqL K H a xs→xs[i]?=some x,λi H=>∃xs,SqL K H a xs∧xs.length≤i⟩
def Itt (K:PySem.W.Frag)(a:Addr):It:=
 ⟨λi H=>∃xs x,SqT K H a xs∧xs[i]?=some x,λi H x H'=>H'=H∧∀xs,SqT K H a xs→xs[i]?=some x,λi H=>∃xs,SqT K H a xs∧xs.length≤i⟩
def Itr (lo:Int)(n:Nat):It:=⟨λi _=>i<n,λi H x H'=>H'=H∧x=.int (lo+i),λi _=>n≤i⟩
theorem zud {P:Program}{w:World}{K:PySem.W.Frag}{tg:Expr}(a it:Addr):zeu P w K tg (Itl K a) [it] it (λi h=>h.IsListIter it a i) where
 mem:=by simp
 obj:=λi h st b hb=>by
  have e:b=it:=by simpa using hb
  subst e
  obtain⟨o,e,c,d⟩:=st
  exact⟨o,e,λv z=>by rw[d] at z; cases z⟩
 keep:=λi h h' st k=>st.at λo e=>k it (by simp) o e
 item:=by
  intro X hP hw hK hc i pins s σ H E I hf st hg
  subst hP hw hK
  obtain⟨xs,x,hq,hx⟩:=hg
  obtain⟨its,rv,p,hz⟩:=I.list hq
  obtain⟨u,hu,ru⟩:=rv.get hx
  obtain⟨f0,f1,f2,f3,f4,f5⟩:=hf it (by simp)
  refine wpAny_pyNext_list_item st p.isList (x:=u) (by simpa using hu) λh' st' sb=>?_
  have I1:Inv X pins σ H { s with heap:=h' }:=I.turned (t':=s.toks) (λb o hb e=>(sb.2 b hb).trans e) f0 f1 f3 f4 f5
  obtain⟨o,e,c,d⟩:=id st'
  exact⟨u,rfl,zls (s:={ s with heap:=h' }) e c d (by decide) ⟨x,H,I1,ru,⟨rfl,λys hy=>by rw[I.list_inj hy hq]; exact hx⟩,st',λb hb=>(hf b hb).1⟩⟩
 done:=by
  intro X hP hw hK hc i pins s σ H E I hf st hg
  subst hP hw hK
  obtain⟨xs,hq,hx⟩:=hg
  obtain⟨its,rv,p,hz⟩:=I.list hq
  obtain⟨f0,f1,f2,f3,f4,f5⟩:=hf it (by simp)
  have hl:=rv.length
  exact wpAny_pyNext_list_end (I.ok.hd hc) st p.isList (by simp; omega) λh' eb=>⟨rfl,I.turned (t':=s.toks) (λb o hb e=>eb b o hb e) f0 f1 f3 f4 f5⟩
 self:=λ_ _ _ _ _ st h=>wpAny_pyIter_listiter st h
theorem ztP {P:Program}{w:World}{K:PySem.W.Frag}{tg:Expr}(a it:Addr):zeu P w K tg (Itt K a) [it] it (λi h=>h.IsTupleIter it a i) where
 mem:=by simp
 obj:=λi h st b hb=>by
  have e:b=it:=by simpa using hb
  subst e
  obtain⟨o,e,c,d⟩:=st
  exact⟨o,e,λv z=>by rw[d] at z; cases z⟩
 keep:=λi h h' st k=>st.at λo e=>k it (by simp) o e
 item:=by
  intro X hP hw hK hc i pins s σ H E I hf st hg
  subst hP hw hK
  obtain⟨xs,x,hq,hx⟩:=hg
  obtain⟨its,rv,p,hz⟩:=I.tuple hq
  obtain⟨u,hu,ru⟩:=rv.get hx
  obtain⟨f0,f1,f2,f3,f4,f5⟩:=hf it (by simp)
  refine wpAny_pyNext_tuple_item st (show s.heap.IsTuple a its.toArray from p) (x:=u) (by simpa using hu) λh' st' sb=>?_
  have I1:Inv X pins σ H { s with heap:=h' }:=I.turned (t':=s.toks) (λb o hb e=>(sb.2 b hb).trans e) f0 f1 f3 f4 f5
  obtain⟨o,e,c,d⟩:=id st'
  exact⟨u,rfl,zls (s:={ s with heap:=h' }) e c d (by decide) ⟨x,H,I1,ru,⟨rfl,λys hy=>by rw[I.tuple_inj hy hq]; exact hx⟩,st',λb hb=>(hf b hb).1⟩⟩
 done:=by
  intro X hP hw hK hc i pins s σ H E I hf st hg
  subst hP hw hK
  obtain⟨xs,hq,hx⟩:=hg
  obtain⟨its,rv,p,hz⟩:=I.tuple hq
  obtain⟨f0,f1,f2,f3,f4,f5⟩:=hf it (by simp)
  have hl:=rv.length
  exact wpAny_pyNext_tuple_end (I.ok.hd hc) st (show s.heap.IsTuple a its.toArray from p) (by simp; omega) λh' eb=>⟨rfl,I.turned (t':=s.toks) (λb o hb e=>eb b o hb e) f0 f1 f3 f4 f5⟩
 self:=λ_ _ _ _ _ st h=>wpAny_pyIter_tupleiter st h
theorem zvr {P:Program}{w:World}{K:PySem.W.Frag}{tg:Expr}(it:Addr)(lo:Int)(n:Nat):zeu P w K tg (Itr lo n) [it] it (λi h=>IsRangeIter h it (lo+(i:Nat)*1) ((n:Int)-(i:Nat)) 1) where
 mem:=by simp
 obj:=λi h st b hb=>by
  have e:b=it:=by simpa using hb
  subst e
  exact⟨_,st,λv z=>by
   have z':Data.fields _=Data.cell v:=z
   cases z'⟩
 keep:=λi h h' st k=>k it (by simp) _ st
 item:=by
  intro X hP hw hK hc i pins s σ H E I hf st hg
  subst hP hw hK
  obtain⟨f0,f1,f2,f3,f4,f5⟩:=hf it (by simp)
  have W:=Walks.range (prog:=X.prog) (w:=X.w) (I.ok.hd hc) it lo 1 n
  refine W.item i s _ _ hg st λv h' tk hv st' kk=>?_
  obtain⟨t,rfl⟩:=hv
  have I1:Inv X pins σ H { s with heap:=h',toks:=tk }:=I.turned (λb o hb e=>kk b o (by simpa using hb) e) f0 f1 f3 f4 f5
  refine⟨_,rfl,zls (s:={ s with heap:=h',toks:=tk }) (n:="range_iterator") st' rfl rfl (by decide) ⟨.int (lo+i),H,I1,⟨t,?_⟩,⟨rfl,rfl⟩,st',λb hb=>(hf b hb).1⟩⟩
  rw[Int.mul_one]
 done:=by
  intro X hP hw hK hc i pins s σ H E I hf st hg
  subst hP hw hK
  obtain⟨f0,f1,f2,f3,f4,f5⟩:=hf it (by simp)
  exact wpAny_pyNext_range_end (I.ok.hd hc) st (by have:n≤i:=hg; omega) λh' eb=>⟨rfl,I.turned (t':=s.toks) (λb o hb e=>eb b o hb e) f0 f1 f3 f4 f5⟩
 self:=λ_ _ _ _ _ st h=>wpAny_pyIter_rangeiter st h
end L2
namespace L2
open PySem PySem.Spec PyProof.Rows
section
variable {X:Cx}{tg:Expr}
def zp8 (K:PySem.W.Frag)(tl:TE):TI:=λσ H R=>tl σ H λx H1=>∃a,x=.ref a∧(∃xs,SqL K H1 a xs)∧R (Itl K a) H1
def iTup (K:PySem.W.Frag)(tl:TE):TI:=λσ H R=>tl σ H λx H1=>∃a,x=.ref a∧(∃xs,SqT K H1 a xs)∧R (Itt K a) H1
theorem zpY {l:Expr}{tl:TE}(hl:PE X l tl):PI X tg l (zp8 X.K tl):=by
 intro pins s σ H R I h
 refine thn (hl pins s σ H _ I h) λv s1 ⟨x,H1,I1,r1,q1⟩=>?_
 obtain⟨a,e,⟨xs,hq⟩,q⟩:=q1
 subst e
 cases r1
 obtain⟨its,rv,p,hz⟩:=I1.list hq
 refine wpAny_pyIter_list p.isList ?_
 refine⟨s1.heap.objs.size,[s1.heap.objs.size],_,_,H1,rfl,I1.kept (t':=s1.toks) λb o e=>Heap.get?_push_of_some _ e,zud a _,⟨_,Heap.get?_push_size _ rfl,rfl,rfl⟩,λb hb=>?_,q⟩
 have e:b=s1.heap.objs.size:=by simpa using hb
 subst e
 exact I1.fpOk (Vaa _) (I1.hok.fresh (Vaa _))
theorem zsG {l:Expr}{tl:TE}(hl:PE X l tl):PI X tg l (iTup X.K tl):=by
 intro pins s σ H R I h
 refine thn (hl pins s σ H _ I h) λv s1 ⟨x,H1,I1,r1,q1⟩=>?_
 obtain⟨a,e,⟨xs,hq⟩,q⟩:=q1
 subst e
 cases r1
 obtain⟨its,rv,p,hz⟩:=I1.tuple hq
 refine wpAny_pyIter_tuple (show s1.heap.IsTuple a its.toArray from p) ?_
 refine⟨s1.heap.objs.size,[s1.heap.objs.size],_,_,H1,rfl,I1.kept (t':=s1.toks) λb o e=>Heap.get?_push_of_some _ e,ztP a _,⟨_,Heap.get?_push_size _ rfl,rfl,rfl⟩,λb hb=>?_,q⟩
 have e:b=s1.heap.objs.size:=by simpa using hb
 subst e
 exact I1.fpOk (Vaa _) (I1.hok.fresh (Vaa _))
theorem zt2 {pins:List (Addr×Obj)}{σ:St}{H:Hp}{s:Shared}{R:It→Hp→Prop}{E:Value→Shared→Prop}{lo hi:Int}{t u v:Tok}{tk:Nat}(I:Inv X pins σ H s)(h1:-(2^62)≤lo)(h2:lo<2^62)(h3:-(2^62)≤hi)(h4:hi<2^62)
  (q:R (Itr lo (hi-lo).toNat) H):wpAny (model X.prog X.w) X.A (pyIter (.ref s.heap.objs.size)) (PIE X pins σ tg R) E { s with heap:=s.heap.push { cls:=.type "range",data:=.fields #[.int lo t,.int hi u,.int 1 v] },toks:=tk }:=by
 refine wpAny_pyIter_range (IsRange.new ..) (small_one h1 h2 h3 h4) ?_
 have I1:Inv X pins σ H { s with heap:=s.heap.push { cls:=.type "range",data:=.fields #[.int lo t,.int hi u,.int 1 v] },toks:=tk }:=I.kept λb o e=>Heap.get?_push_of_some _ e
 refine⟨(s.heap.push { cls:=.type "range",data:=.fields #[.int lo t,.int hi u,.int 1 v] }).objs.size,[(s.heap.push { cls:=.type "range",data:=.fields #[.int lo t,.int hi u,.int 1 v] }).objs.size],_,_,H,rfl,
  I1.kept (t':=tk) λb o e=>Heap.get?_push_of_some _ e,zvr _ lo (hi-lo).toNat,?_,λb hb=>?_,q⟩
 ·have e1:lo+((0:Nat):Int)*1=lo:=by simp
  have e2:(((hi-lo).toNat:Nat):Int)-((0:Nat):Int)=Builtin.Range.rangeSize lo hi 1:=by rw[rangeSize_one]; split <;> omega
  show IsRangeIter _ _ (lo+((0:Nat):Int)*1) ((((hi-lo).toNat:Nat):Int)-((0:Nat):Int)) 1
  rw[e1,e2]
  exact Heap.get?_push_size _ rfl
 ·have e:b=(s.heap.push { cls:=.type "range",data:=.fields #[.int lo t,.int hi u,.int 1 v] }).objs.size:=by simpa using hb
  subst e
  exact I1.fpOk (Vaa _) (I1.hok.fresh (Vaa _))
def zpA (ta:TA):TI:=λσ H R=>ta σ H λvs H1=>∃j:Int,vs=[.int j]∧-(2^62)≤j∧j<2^62∧R (Itr 0 j.toNat) H1
theorem zm5 {a:Expr}{ta:TA}{p pos:Pos}(hg:Gl X "range")(hm:X.mg "range"=none)(ha:PA X [a] ta)(hs:starEach [a] X.env=[(false,eval a X.env)]:=by rfl):PI X tg (.Call (.Name "range" p) [a] [] pos) (zpA ta):=by
 intro pins s σ H R I h
 refine Call_ (zfe I hg hm boot_range (PyProof.Rows.callWith_type1 (thn (ha pos pins s σ H _ I h) λus s1 ⟨vs,H1,I1,r1,q1⟩=>?_) hs rfl))
 obtain⟨j,e,q1,q2,q⟩:=q1
 subst e
 cases r1 with
 | cons r rr=>
  cases rr
  obtain⟨t,rfl⟩:=r
  exact call_range_1 (zt2 I1 (by omega) (by omega) q1 q2 (by simpa using q))
def tFor (wi:TI)(g:TG)(tb:TS):TS:=λD σ H=>wi σ H λJ H1=>∃W:Nat→Nat→St→Hp→Prop,(∃m,W 0 m σ H1)∧∀i m σ H,W i m σ H→
 (J.stop i H∧D.nx σ H)∨(J.go i H∧∃N:St→Hp→Prop,(∀σ' H',N σ' H'→∃m',m'<m∧W (i+1) m' σ' H')∧∀x H',J.yld i H x H'→g x σ H' λσ2 H2=>tb { D with nx:=N,ct:=N,bk:=D.nx } σ2 H2)
def zhH (fp:List Addr)(h:Heap):List (Addr×Obj):=fp.filterMap λb=>(h.get? b).map λo=>(b,o)
theorem zhZ {fp:List Addr}{h:Heap}{b:Addr}{o:Obj}(hb:b∈fp)(e:h.get? b=some o):(b,o)∈zhH fp h:=List.mem_filterMap.mpr ⟨b,hb,by rw[e]; rfl⟩
theorem zr8 {fp:List Addr}{h:Heap}{p:Addr×Obj}(hp:p∈zhH fp h):p.1∈fp∧h.get? p.1=some p.2:=by
 obtain⟨b,hb,e⟩:=List.mem_filterMap.mp hp
 cases q:h.get? b with
 | none=>rw[q] at e; cases e
 | some o=>
  rw[q] at e
  have e':(b,o)=p:=Option.some.inj e
  subst e'
  exact⟨hb,q⟩
theorem Inv.pinned {pins:List (Addr×Obj)}{σ:St}{H:Hp}{s:Shared}{fp:List Addr}(I:Inv X pins σ H s)(hf:∀b∈fp,zb3 X pins H b)(ho:∀b∈fp,∃o,s.heap.get? b=some o∧∀v,o.data≠.cell v):Inv X (pins++zhH fp s.heap) σ H s:=
 I.pins_of λp hp=>(VaT.mp hp).elim (λz=>I.pin p (VaH _ z)) λz=>by
  obtain⟨hb,e⟩:=zr8 z
  obtain⟨f0,f1,f2,_⟩:=hf p.1 hb
  obtain⟨o,e',d⟩:=ho p.1 hb
  rw[e] at e'; cases e'
  exact⟨e,f0,f1,f2,d⟩
theorem Inv.unpinned {pins pl:List (Addr×Obj)}{σ:St}{H:Hp}{s:Shared}(I:Inv X (pins++pl) σ H s):Inv X pins σ H s:=I.pins_of λp hp=>I.pin p (VaH _ (List.mem_append_left _ hp))
theorem zha {iter:Expr}{body:List Stmt}{wi:TI}{g:TG}{tb:TS}{pos:Pos}(hp:PassesOwn (model X.prog X.w) X.A X.env X.xe)(hc:X.calm=true)(hi:PI X tg iter wi)(hg:PG X tg g)(hb:PSs X body tb)
  (hs:∀x,foldedSetIterable iter X.env x=pure x:=by intro _; rfl):PS X (.For tg iter body [] pos) (tFor wi g tb):=by
 intro pins s σ H D I h
 refine wpAny_For (thn (hi pins s σ H _ I h) λv s1 h1=>thn h1 λitv s2 h2=>?_) hs
 obtain⟨it,fp,tn,J,H2,e,I2,T,st2,f2,W,⟨m0,w0⟩,turn⟩:=h2
 subst e
 have stat:∀ {H':Hp},(∀b∈fp,H' b=none)→∀b∈fp,zb3 X pins H' b:=λhn b hb=>⟨hn b hb,(f2 b hb).2⟩
 refine codeAny_forLoop_any (λn s'=>∃i σ' H',Inv X pins σ' H' s'∧tn i s'.heap∧(∀b∈fp,H' b=none)∧W i n σ' H') ?_ m0 ⟨0,σ,H2,I2,st2,λb hb=>(f2 b hb).1,w0⟩
 rintro n s3 ⟨i,σ3,H3,I3,st3,fr3,w3⟩
 rcases turn i n σ3 H3 w3 with ⟨stop,qn⟩ | ⟨go,N,hN,step⟩
 ·refine wpAny_passesOwn hp (thn (T.done X rfl rfl rfl hc i pins s3 σ3 H3 X.xe I3 (stat fr3) st3 stop) λr s4 ⟨hr,I4⟩=>?_)
  subst hr
  exact wpAny_execs_nil ⟨σ3,H3,I4,qn⟩
 ·refine wpAny_passesOwn hp (thn (T.item X rfl rfl rfl hc i pins s3 σ3 H3 X.xe I3 (stat fr3) st3 go) λr s4 ⟨u,hr,h4⟩=>?_)
  subst hr
  refine wpAny_passesOwn hp (thn h4 λ_ s5 ⟨x,H5,I5,r5,y5,st5,fr5⟩=>?_)
  have I5':=I5.pinned (stat fr5) (T.obj _ _ st5)
  refine wpAny_passesOwn hp (thn (hg _ s5 σ3 H5 x u _ I5' r5 (step x H5 y5)) λ_ s6 ⟨σ6,H6,I6,q6⟩=>?_)
  refine wpAny_passesOwn hp (thn (hb _ s6 σ6 H6 _ I6 q6) λf s7 q7=>?_)
  have again:∀ {σ7:St} {H7:Hp},Inv X (pins++zhH fp s5.heap) σ7 H7 s7→N σ7 H7→∃m,m<n∧∃i σ' H',Inv X pins σ' H' s7∧tn i s7.heap∧(∀b∈fp,H' b=none)∧W i m σ' H':=λ{σ7 H7} I7 n7=>by
   obtain⟨m',hm,w7⟩:=hN σ7 H7 n7
   refine⟨m',hm,i+1,σ7,H7,I7.unpinned,T.keep _ _ _ st5 λb hb o e=>(I7.pin (b,o) (VaH _ (VaH _ (zhZ hb e)))).1,λb hb=>?_,w7⟩
   obtain⟨o,e,d⟩:=T.obj _ _ st5 b hb
   exact(I7.pin (b,o) (VaH _ (VaH _ (zhZ hb e)))).2.1
  cases f with
  | next=>obtain⟨σ7,H7,I7,n7⟩:=q7; exact again I7 n7
  | cont=>obtain⟨σ7,H7,I7,n7⟩:=q7; exact again I7 n7
  | brk=>obtain⟨σ7,H7,I7,q7⟩:=q7; exact⟨σ7,H7,I7.unpinned,q7⟩
  | ret v=>obtain⟨x7,σ7,H7,I7,r7,q7⟩:=q7; exact⟨x7,σ7,H7,I7.unpinned,r7,q7⟩
end
end L2
namespace L2
open PySem PySem.Spec PyProof.Rows
abbrev R2:=V→V→Hp→VK→Prop
def OpR (X:Cx)(f:Value→Value→Sem Value)(r:R2):Prop:=
 ∀(pins:List (Addr×Obj)) (s:Shared) (σ:St) (H:Hp) (x y:V) (v u:Value) (Q:VK),Inv X pins σ H s→zav x v→zav y u→r x y H Q→
  wpAny (model X.prog X.w) X.A (f v u) (EP X pins σ Q) X.xe s
def UnR (X:Cx)(f:Value→Sem Value)(r:V→Hp→VK→Prop):Prop:=
 ∀(pins:List (Addr×Obj)) (s:Shared) (σ:St) (H:Hp) (x:V) (v:Value) (Q:VK),Inv X pins σ H s→zav x v→r x H Q→
  wpAny (model X.prog X.w) X.A (f v) (EP X pins σ Q) X.xe s
def zbc (X:Cx)(f:Value)(r:List V→Hp→VK→Prop):Prop:=
 ∀(pins:List (Addr×Obj)) (s:Shared) (σ:St) (H:Hp) (xs:List V) (us:List Value) (Q:VK),Inv X pins σ H s→zay xs us→r xs H Q→
  wpAny (model X.prog X.w) X.A (call f us) (EP X pins σ Q) X.xe s
def tOp (r:R2)(ta tb:TE):TE:=λσ H Q=>ta σ H λx H1=>tb σ H1 λy H2=>r x y H2 Q
def tUn (r:V→Hp→VK→Prop)(ta:TE):TE:=λσ H Q=>ta σ H λx H1=>r x H1 Q
def rI (C:Int→Int→Prop)(g:Int→Int→V):R2:=λx y H Q=>∃i j,x=.int i∧y=.int j∧C i j∧Q (g i j) H
def rI0 (g:Int→Int→V):R2:=λx y H Q=>∃i j,x=.int i∧y=.int j∧Q (g i j) H
def rU (g:Int→V):V→Hp→VK→Prop:=λx H Q=>∃i,x=.int i∧Q (g i) H
section
variable {X:Cx}{a b c:Expr}{ta tb tc:TE}{pos:Pos}
theorem binT (ha:PE X a ta)(hb:PE X b tb){pins:List (Addr×Obj)}{s:Shared}{σ:St}{H:Hp}{R:V→V→Hp→Prop}(I:Inv X pins σ H s)
  (h:ta σ H λx H1=>tb σ H1 λy H2=>R x y H2){Q:Value→Shared→Prop}{f:Value→Value→Sem Value}
  (hf:∀v u s2 x y H2,Inv X pins σ H2 s2→zav x v→zav y u→R x y H2→wpAny (model X.prog X.w) X.A (f v u) Q X.xe s2):
  wpAny (model X.prog X.w) X.A (eval a X.env) (λv s₁=>wpAny (model X.prog X.w) X.A (eval b X.env) (λu s₂=>wpAny (model X.prog X.w) X.A (f v u) Q X.xe s₂) X.xe s₁) X.xe s:=by
 refine thn (ha pins s σ H _ I h) λv s1 ⟨x,H1,I1,r1,q1⟩=>?_
 refine thn (hb pins s1 σ H1 _ I1 q1) λu s2 ⟨y,H2,I2,r2,q2⟩=>?_
 exact hf v u s2 x y H2 I2 r1 r2 q2
theorem pe_op {op:Operator}{r:R2}(ho:OpR X (binaryOp op) r)(ha:PE X a ta)(hb:PE X b tb):PE X (.BinOp a op b pos) (tOp r ta tb):=by
 intro pins s σ H Q I h
 exact wpAny_BinOp (binT ha hb I h λv u s2 x y H2 I2 rx ry q=>ho pins s2 σ H2 x y v u Q I2 rx ry q)
theorem pe_un {op:UnaryOp}{r:V→Hp→VK→Prop}(ho:UnR X (unaryOp op) r)(ha:PE X a ta):PE X (.UnaryOp op a pos) (tUn r ta):=by
 intro pins s σ H Q I h
 exact UnaryOp_ (thn (ha pins s σ H _ I h) λv s1 ⟨x,H1,I1,r1,q1⟩=>ho pins s1 σ H1 x v Q I1 r1 q1)
theorem opI {f:Value→Value→Sem Value}{C:Int→Int→Prop}{g:Int→Int→Int}
  (rule:∀(i j:Int) (t u:Tok) (s:Shared) (Q:Value→Shared→Prop) (E:Value→Shared→Prop),C i j→Q (.int (g i j) s.toks) { s with toks:=s.toks+1 }→wpAny (model X.prog X.w) X.A (f (.int i t) (.int j u)) Q E s):
  OpR X f (rI C λi j=>.int (g i j)):=by
 intro pins s σ H x y v u Q I rx ry h
 obtain⟨i,j,rfl,rfl,hc,q⟩:=h
 obtain⟨t,rfl⟩:=rx
 obtain⟨t',rfl⟩:=ry
 exact rule i j t t' s _ _ hc ⟨.int (g i j),H,I.tok _,⟨_,rfl⟩,q⟩
theorem opI0 {f:Value→Value→Sem Value}{g:Int→Int→Int}
  (rule:∀(i j:Int) (t u:Tok) (s:Shared) (Q:Value→Shared→Prop) (E:Value→Shared→Prop),Q (.int (g i j) s.toks) { s with toks:=s.toks+1 }→wpAny (model X.prog X.w) X.A (f (.int i t) (.int j u)) Q E s):
  OpR X f (rI0 λi j=>.int (g i j)):=by
 intro pins s σ H x y v u Q I rx ry h
 obtain⟨i,j,rfl,rfl,q⟩:=h
 obtain⟨t,rfl⟩:=rx
 obtain⟨t',rfl⟩:=ry
 exact rule i j t t' s _ _ ⟨.int (g i j),H,I.tok _,⟨_,rfl⟩,q⟩
theorem zju {f:Value→Value→Sem Value}{g:Int→Int→Bool}
  (rule:∀(i j:Int) (t u:Tok) (s:Shared) (Q:Value→Shared→Prop) (E:Value→Shared→Prop),Q (.bool (g i j)) s→wpAny (model X.prog X.w) X.A (f (.int i t) (.int j u)) Q E s):
  OpR X f (rI0 λi j=>.bl (g i j)):=by
 intro pins s σ H x y v u Q I rx ry h
 obtain⟨i,j,rfl,rfl,q⟩:=h
 obtain⟨t,rfl⟩:=rx
 obtain⟨t',rfl⟩:=ry
 exact rule i j t t' s _ _ ⟨.bl (g i j),H,I,rfl,q⟩
def zmh (i j:Int):Prop:=0≤j∧j≤1000000∧i.natAbs<2^64
def CMul (i j:Int):Prop:=(-(2^64)<i∧i<2^64)∨(-(2^64)<j∧j<2^64)
theorem CMul.ok {i j:Int}(h:CMul i j):IntMulOk i j:=by
 rcases h with ⟨h1,h2⟩ | ⟨h1,h2⟩
 ·exact .of_left (intBits_le_64 h1 h2)
 ·exact .of_right (intBits_le_64 h1 h2)
theorem zvH:OpR X (binaryOp .Add) (rI0 λi j=>.int (i+j)):=opI0 λ_ _ _ _ _ _ _ q=>add_int q
theorem zxQ:OpR X (binaryOp .Sub) (rI0 λi j=>.int (i-j)):=opI0 λ_ _ _ _ _ _ _ q=>sub_int q
theorem zxP:OpR X (binaryOp .Mod) (rI (λ_ j=>0<j) λi j=>.int (i%j)):=opI λi j _ _ _ _ _ hc q=>by
 have h1:(0:Int)<j:=hc
 exact mod_int' (by omega) (by rw[Int.fmod_eq_emod_of_nonneg i (by omega)]; exact q)
theorem zuy:OpR X (binaryOp .Pow) (rI zmh λi j=>.int (i^j.toNat)):=opI λ_ _ _ _ _ _ _ hc q=>pow_int_small hc.1 hc.2.1 hc.2.2 q
theorem zrC:OpR X (binaryOp .LShift) (rI zmh λi j=>.int (i*2^j.toNat)):=opI λ_ _ _ _ _ _ _ hc q=>lshift_int_small hc.1 hc.2.1 hc.2.2 q
theorem unI {f:Value→Sem Value}{g:Int→Int}
  (rule:∀(i:Int) (t:Tok) (s:Shared) (Q:Value→Shared→Prop) (E:Value→Shared→Prop),Q (.int (g i) s.toks) { s with toks:=s.toks+1 }→wpAny (model X.prog X.w) X.A (f (.int i t)) Q E s):
  UnR X f (rU λi=>.int (g i)):=by
 intro pins s σ H x v Q I rx h
 obtain⟨i,rfl,q⟩:=h
 obtain⟨t,rfl⟩:=rx
 exact rule i t s _ _ ⟨.int (g i),H,I.tok _,⟨_,rfl⟩,q⟩
theorem zw4:UnR X (unaryOp .USub) (rU λi=>.int (-i)):=unI λ_ _ _ _ _ q=>neg_int q
end
def zlq:V→V→Bool
 | .non,.non=>true | .non,.int _=>true | .int _,.non=>true | .non,.bl _=>true | .bl _,.non=>true | .non,.str _=>true | .str _,.non=>true
 | .int _,.int _=>true | .bl _,.bl _=>true | .str _,.str _=>true | .byt _,.byt _=>true
 | .int _,.str _=>true | .str _,.int _=>true | .bl _,.str _=>true | .str _,.bl _=>true
 | _,_=>false
def rEq:R2:=λx y H Q=>zlq x y=true∧Q (.bl (decide (x=y))) H
def rNe:R2:=λx y H Q=>zlq x y=true∧Q (.bl (!decide (x=y))) H
theorem zpN {i j:Int}:decide (V.int i=V.int j)=(i==j):=by
 rw[Bool.eq_iff_iff]
 simp
theorem zpb {i j:Bool}:decide (V.bl i=V.bl j)=(i==j):=by
 rw[Bool.eq_iff_iff]
 simp
theorem zqs {i j:Str}:decide (V.str i=V.str j)=(i==j):=by
 rw[Bool.eq_iff_iff]
 simp
theorem zph {i j:Array UInt8}:decide (V.byt i=V.byt j)=(i.toList==j.toList):=by
 rw[Bool.eq_iff_iff]
 cases i
 cases j
 simp
section
variable {X:Cx}{a b c:Expr}{ta tb tc:TE}{pos:Pos}
theorem zaY {pins:List (Addr×Obj)}{σ:St}{H:Hp}{s:Shared}{Q:VK}{k k':Bool}(I:Inv X pins σ H s)(q:Q (.bl k) H)(e:k=k'):EP X pins σ Q (.bool k') s:=by
 subst e
 exact⟨.bl k,H,I,rfl,q⟩
theorem zn9:OpR X (compareOp .Eq) rEq:=by
 intro pins s σ H x y v u Q I rx ry h
 obtain⟨hs,q⟩:=h
 cases x with
 | non=>
  cases rx
  cases y with
  | non=>cases ry; exact PySem.EqNone.eq_none_none (zaY I q (by simp))
  | bl j=>cases ry; exact PySem.EqNone.eq_none_bool (zaY I q (by simp))
  | int j=>obtain⟨t',rfl⟩:=ry; exact PySem.EqNone.eq_none_int (zaY I q (by simp))
  | str j=>obtain⟨t',rfl⟩:=ry; exact PySem.EqNone.eq_none_str (zaY I q (by simp))
  | _=>exact absurd (show false=true from hs) Vao
 | bl i=>
  cases rx
  cases y with
  | non=>cases ry; exact PySem.EqNone.eq_bool_none (zaY I q (by simp))
  | bl j=>cases ry; exact eq_bool (zaY I q zpb)
  | str j=>obtain⟨t',rfl⟩:=ry; exact PySem.EqMixed.eq_bool_str (zaY I q (by simp))
  | _=>exact absurd (show false=true from hs) Vao
 | int i=>
  obtain⟨t,rfl⟩:=rx
  cases y with
  | non=>cases ry; exact PySem.EqNone.eq_int_none (zaY I q (by simp))
  | int j=>obtain⟨t',rfl⟩:=ry; exact eq_int (zaY I q zpN)
  | str j=>obtain⟨t',rfl⟩:=ry; exact PySem.EqMixed.eq_int_str (zaY I q (by simp))
  | _=>exact absurd (show false=true from hs) Vao
 | str i=>
  obtain⟨t,rfl⟩:=rx
  cases y with
  | non=>cases ry; exact PySem.EqNone.eq_str_none (zaY I q (by simp))
  | bl j=>cases ry; exact PySem.EqMixed.eq_str_bool (zaY I q (by simp))
  | int j=>obtain⟨t',rfl⟩:=ry; exact PySem.EqMixed.eq_str_int (zaY I q (by simp))
  | str j=>obtain⟨t',rfl⟩:=ry; exact eq_str (zaY I q zqs)
  | _=>exact absurd (show false=true from hs) Vao
 | byt i=>
  obtain⟨t,rfl⟩:=rx
  cases y with
  | byt j=>obtain⟨t',rfl⟩:=ry; exact PySem.W.eq_bytes (zaY I q zph)
  | _=>exact absurd (show false=true from hs) Vao
 | _=>cases y <;> exact absurd (show false=true from hs) Vao
theorem op_ne:OpR X (compareOp .NotEq) rNe:=by
 intro pins s σ H x y v u Q I rx ry h
 obtain⟨hs,q⟩:=h
 cases x with
 | non=>
  cases rx
  cases y with
  | non=>cases ry; exact PySem.EqNone.ne_none_none (zaY I q (by simp))
  | bl j=>cases ry; exact PySem.EqNone.ne_none_bool (zaY I q (by simp))
  | int j=>obtain⟨t',rfl⟩:=ry; exact PySem.EqNone.ne_none_int (zaY I q (by simp))
  | str j=>obtain⟨t',rfl⟩:=ry; exact PySem.EqNone.ne_none_str (zaY I q (by simp))
  | _=>exact absurd (show false=true from hs) Vao
 | bl i=>
  cases rx
  cases y with
  | non=>cases ry; exact PySem.EqNone.ne_bool_none (zaY I q (by simp))
  | bl j=>cases ry; exact ne_bool (zaY I q (congrArg not zpb))
  | str j=>obtain⟨t',rfl⟩:=ry; exact PySem.EqMixed.ne_bool_str (zaY I q (by simp))
  | _=>exact absurd (show false=true from hs) Vao
 | int i=>
  obtain⟨t,rfl⟩:=rx
  cases y with
  | non=>cases ry; exact PySem.EqNone.ne_int_none (zaY I q (by simp))
  | int j=>obtain⟨t',rfl⟩:=ry; exact ne_int (zaY I q (congrArg not zpN))
  | str j=>obtain⟨t',rfl⟩:=ry; exact PySem.EqMixed.ne_int_str (zaY I q (by simp))
  | _=>exact absurd (show false=true from hs) Vao
 | str i=>
  obtain⟨t,rfl⟩:=rx
  cases y with
  | non=>cases ry; exact PySem.EqNone.ne_str_none (zaY I q (by simp))
  | bl j=>cases ry; exact PySem.EqMixed.ne_str_bool (zaY I q (by simp))
  | int j=>obtain⟨t',rfl⟩:=ry; exact PySem.EqMixed.ne_str_int (zaY I q (by simp))
  | str j=>obtain⟨t',rfl⟩:=ry; exact ne_str (zaY I q (congrArg not zqs))
  | _=>exact absurd (show false=true from hs) Vao
 | byt i=>
  obtain⟨t,rfl⟩:=rx
  cases y with
  | byt j=>obtain⟨t',rfl⟩:=ry; exact PySem.W.ne_bytes (zaY I q (congrArg not zph))
  | _=>exact absurd (show false=true from hs) Vao
 | _=>cases y <;> exact absurd (show false=true from hs) Vao
theorem op_lt:OpR X (compareOp .Lt) (rI0 λi j=>.bl (decide (i<j))):=zju λ_ _ _ _ _ _ _ q=>lt_int q
theorem op_le:OpR X (compareOp .LtE) (rI0 λi j=>.bl (decide (i≤j))):=zju λ_ _ _ _ _ _ _ q=>le_int q
theorem op_gt:OpR X (compareOp .Gt) (rI0 λi j=>.bl (decide (j<i))):=zju λ_ _ _ _ _ _ _ q=>gt_int q
theorem op_ge:OpR X (compareOp .GtE) (rI0 λi j=>.bl (decide (j≤i))):=zju λ_ _ _ _ _ _ _ q=>ge_int q
theorem zwu:OpR X (compareOp .Is) (λx y H Q=>y=.non∧Q (.bl (decide (x=.non))) H):=by
 intro pins s σ H x y v u Q I rx ry h
 obtain⟨rfl,q⟩:=h
 cases ry
 refine is_none_gen (zaY I q ?_)
 cases x <;> first
  | (cases rx; rfl)
  | (obtain⟨t,rfl⟩:=rx; rfl)
theorem OpR.or {f:Value→Value→Sem Value}{r r':R2}(h:OpR X f r)(h':OpR X f r'):OpR X f (λx y H Q=>r x y H Q∨r' x y H Q):=by
 intro pins s σ H x y v u Q I rx ry q
 rcases q with q | q
 ·exact h pins s σ H x y v u Q I rx ry q
 ·exact h' pins s σ H x y v u Q I rx ry q
theorem zar (b:Expr){op:CmpOp}(h:op≠.In:=by decide)(h2:op≠.NotIn:=by decide):behindInMarks op b=false:=by
 have e1:(op==CmpOp.In)=false:=by cases op <;> first | rfl | exact absurd rfl h
 have e2:(op==CmpOp.NotIn)=false:=by cases op <;> first | rfl | exact absurd rfl h2
 cases b <;> simp[behindInMarks,e1,e2]
theorem zr3 {op:CmpOp}{r:R2}(ho:OpR X (compareOp op) r)(ha:PE X a ta)(hb:PE X b tb)(hm:behindInMarks op b=false):PE X (.Compare a [op] [b] pos) (tOp r ta tb):=by
 intro pins s σ H Q I h
 exact wpAny_Compare1 (binT ha hb I h λv u s2 x y H2 I2 rx ry q=>ho pins s2 σ H2 x y v u Q I2 rx ry q) hm
def zqH (t:TE):TT:=λσ H Q=>t σ H λx H'=>∃k,x=.bl k∧Q k H'
theorem zrF {op:CmpOp}{r:R2}(ho:OpR X (compareOp op) r)(ha:PE X a ta)(hb:PE X b tb)(hm:behindInMarks op b=false):PT X (.Compare a [op] [b] pos) (zqH (tOp r ta tb)):=by
 intro pins s σ H Q I h
 refine wpAny_isTrue_Compare1 (thn (ha pins s σ H _ I h) λv s1 ⟨x,H1,I1,r1,q1⟩=>thn (hb pins s1 σ H1 _ I1 q1) λu s2 ⟨y,H2,I2,r2,q2⟩=>
  thn (ho pins s2 σ H2 x y v u _ I2 r1 r2 q2) λc s3 ⟨z,H3,I3,r3,k,e,q3⟩=>?_) hm
 subst e
 cases r3
 exact wpAny_truthy_bool ⟨H3,I3,q3⟩
def zm0 (r r':R2)(ta tb tc:TE):TE:=λσ H Q=>ta σ H λx H1=>tb σ H1 λy H2=>r x y H2 λz H3=>∃k,z=.bl k∧
 (if k=true then tc σ H3 λw' H4=>r' y w' H4 Q else Q (.bl false) H3)
theorem zxE {op op':CmpOp}{r r':R2}(ho:OpR X (compareOp op) r)(ho':OpR X (compareOp op') r')(ha:PE X a ta)(hb:PE X b tb)(hc:PE X c tc)
  (hm:lastMarks [op,op'] [b,c]=false:=by with_unfolding_all rfl):PE X (.Compare a [op,op'] [b,c] pos) (zm0 r r' ta tb tc):=by
 intro pins s σ H Q I h
 refine Compare_chain (thn (ha pins s σ H _ I h) λv s1 ⟨x,H1,I1,r1,q1⟩=>chain_link (thn (hb pins s1 σ H1 _ I1 q1) λu s2 ⟨y,H2,I2,r2,q2⟩=>
  thn (ho pins s2 σ H2 x y v u _ I2 r1 r2 q2) λd s3 ⟨z,H3,I3,r3,k,e,q3⟩=>?_)) hm
 subst e
 cases r3
 refine wpAny_truthy_bool ?_
 cases k with
 | false=>exact ite_ff ⟨.bl false,H3,I3,rfl,q3⟩
 | true=>exact ite_tt (chain_last (thn (hc pins s3 σ H3 _ I3 q3) λw' s4 ⟨z',H4,I4,r4,q4⟩=>ho' pins s4 σ H4 y z' u w' Q I4 r2 r4 q4))
theorem zur {op op':CmpOp}{r r':R2}(ho:OpR X (compareOp op) r)(ho':OpR X (compareOp op') r')(ha:PE X a ta)(hb:PE X b tb)(hc:PE X c tc)
  (hm:lastMarks [op,op'] [b,c]=false:=by with_unfolding_all rfl):PT X (.Compare a [op,op'] [b,c] pos) (zqH (zm0 r r' ta tb tc)):=by
 intro pins s σ H Q I h
 refine isTrue_chain (thn (ha pins s σ H _ I h) λv s1 ⟨x,H1,I1,r1,q1⟩=>test_link (thn (hb pins s1 σ H1 _ I1 q1) λu s2 ⟨y,H2,I2,r2,q2⟩=>
  thn (ho pins s2 σ H2 x y v u _ I2 r1 r2 q2) λd s3 ⟨z,H3,I3,r3,k,e,q3⟩=>?_)) hm
 subst e
 cases r3
 refine wpAny_truthy_bool ?_
 cases k with
 | false=>
  obtain⟨k',e',q'⟩:=q3
  cases e'
  exact ite_ff ⟨H3,I3,q'⟩
 | true=>
  refine ite_tt (test_last (thn (hc pins s3 σ H3 _ I3 q3) λw' s4 ⟨z',H4,I4,r4,q4⟩=>thn (ho' pins s4 σ H4 y z' u w' _ I4 r2 r4 q4) λd' s5 ⟨z2,H5,I5,r5,k2,e2,q5⟩=>?_))
  subst e2
  cases r5
  exact wpAny_truthy_bool ⟨H5,I5,q5⟩
theorem zhS:(sizeLine:Nat)<2^63:=by rw[sizeLine_eq]; decide
theorem zeb {x:V}{us:List Value}(r:zay [x] us):∃u,us=[u]∧zav x u:=by
 cases r with
 | cons r1 r2=>cases r2; exact⟨_,rfl,r1⟩
theorem znr {x y:V}{us:List Value}(r:zay [x,y] us):∃u w',us=[u,w']∧zav x u∧zav y w':=by
 cases r with
 | cons r1 r2=>
  cases r2 with
  | cons r3 r4=>cases r4; exact⟨_,_,rfl,r1,r3⟩
theorem zuk:zbc X (.builtin "abs") (λxs H Q=>∃i,xs=[.int i]∧Q (.int (if i<0 then -i else i)) H):=by
 intro pins s σ H xs us Q I r h
 obtain⟨i,rfl,q⟩:=h
 obtain⟨u,rfl,t,rfl⟩:=zeb r
 exact call_abs_int λu tk=>⟨.int (if i<0 then -i else i),H,I.tok _,⟨_,rfl⟩,q⟩
theorem zuI (hc:X.calm=true):zbc X (.builtin "max") (λxs H Q=>∃i j,xs=[.int i,.int j]∧Q (.int (if j > i then j else i)) H):=by
 intro pins s σ H xs us Q I r h
 obtain⟨i,j,rfl,q⟩:=h
 obtain⟨u,w',rfl,⟨t,rfl⟩,⟨t',rfl⟩⟩:=znr r
 refine max_two_ints (I.ok.hd hc) λh' tk k=>⟨_,H,I.kept k,?_,q⟩
 by_cases hj:j > i
 ·rw[if_pos hj,if_pos hj]; exact⟨_,rfl⟩
 ·rw[if_neg hj,if_neg hj]; exact⟨_,rfl⟩
theorem zu3 (hc:X.calm=true):zbc X (.builtin "min") (λxs H Q=>∃i j,xs=[.int i,.int j]∧Q (.int (if j<i then j else i)) H):=by
 intro pins s σ H xs us Q I r h
 obtain⟨i,j,rfl,q⟩:=h
 obtain⟨u,w',rfl,⟨t,rfl⟩,⟨t',rfl⟩⟩:=znr r
 refine min_two_ints (I.ok.hd hc) λh' tk k=>⟨_,H,I.kept k,?_,q⟩
 by_cases hj:j<i
 ·rw[if_pos hj,if_pos hj]; exact⟨_,rfl⟩
 ·rw[if_neg hj,if_neg hj]; exact⟨_,rfl⟩
end
end L2
namespace L2
open PySem PySem.Spec PyProof.Rows
structure zdN (h:Heap)(x dx C:Addr)(mA:Str→Option Value):Prop where
 obj:h.get? x=some (PySem.W.instObj C dx)
 ns:h.Ns1 dx mA
 ne:dx≠x
theorem zrG {h:Heap}{dx:Addr}{mA:Str→Option Value}(n:h.Ns1 dx mA):∃od,h.get? dx=some od∧∀name,PySem.W.lookIn name od=some (mA name):=by
 obtain⟨o,es,ep,ho,hd,hk,_,hm⟩:=n
 refine⟨o,ho,λname=>?_⟩
 have e:=hm name
 unfold nsFind findBy at e
 rw[← Array.find?_toList] at e
 unfold PySem.W.lookIn
 rw[hd]
 dsimp only
 split
 ·rename_i y q
  rw[q] at e
  exact congrArg some e
 ·rename_i q
  rw[q] at e
  have a:es.toList.any (·.refKey)=false:=by
   rw[List.any_eq_false]
   intro y hy
   obtain⟨z,t,hkey⟩:=hk y (Array.mem_toList_iff.mp hy)
   simp[DictEntry.refKey,hkey]
  have a':¬ es.toList.any (·.refKey)=true:=by rw[a]; exact Vao
  rw[if_neg a']
  exact congrArg some e
theorem zdN.look {h:Heap}{x dx C:Addr}{mA:Str→Option Value}(I:zdN h x dx C mA):∃od,PySem.W.InstAt h x (PySem.W.instObj C dx) C (some od)∧∀name,PySem.W.lookIn name od=some (mA name):=
 let ⟨od,ho,hl⟩:=zrG I.ns
 ⟨od,⟨I.obj,rfl,rfl,ho⟩,hl⟩
section
variable {prog:Program}{w:World}{A:Around}{E:Value→Shared→Prop}{s:Shared}{K:PySem.W.Frag}{x dx C f:Addr}{mA:Str→Option Value}{name:Str}{v:Value}
theorem zv8 {expr:Bool}{Q:Value→Shared→Prop}(X:K.In s.heap)(I:zdN s.heap x dx C mA)(hg:PySem.W.plainGet K C name=true)(hh:PySem.W.hasDictIn K C=true)
  (ha:PySem.W.findIn K (.ref C) name=some none)(hv:mA name=some v)(hv':PySem.W.handedIn v=true)(h:Q v { s with toks:=s.toks+1 }):
  wpAny (model prog w) A (getAttr (.ref x) name expr) Q E s:=by
 obtain⟨od,J,hl⟩:=I.look
 exact PySem.W.get_value X J (PySem.W.plainGet_of hg).1 (PySem.W.findObj_own hh ha rfl (by rw[hl,hv])) hv' h
theorem zuf {pl:Sem Bool}{Q:Value×List Value→Shared→Prop}(X:K.In s.heap)(I:zdN s.heap x dx C mA)(hg:PySem.W.plainGet K C name=true)
  (hf:PySem.W.findIn K (.ref C) name=some (some (.ref f)))(ht:PySem.W.isFn K (.ref f)=true)(hv:mA name=none)(h:Q (.ref f,[.ref x]) s):
  wpAny (model prog w) A (getMethod (.ref x) name pl) Q E s:=by
 obtain⟨od,J,hl⟩:=I.look
 exact PySem.W.method_fn X J (PySem.W.plainGet_of hg).1 (PySem.W.plainGet_of hg).2 hf (beq_iff_eq.mp ht) (by show (PySem.W.lookIn name od).map (·.isSome)=some false; rw[hl,hv]; rfl) h
theorem ztd {ns:List Str}{Q:Unit→Shared→Prop}(X:K.In s.heap)(I:zdN s.heap x dx C mA)
  (hs:PySem.W.findIn K (.ref C) "__setattr__"=some (some (.builtin "object.__setattr__")))(hp:PySem.W.plainOver K C=true)(ht:PySem.W.takerIn K C name=some none)(hh:PySem.W.hasDictIn K C=true)
  (hw:PySem.Within mA ns)(hsz:ns.length≤sizeLine)
  (h:∀h',zdN h' x dx C (λy=>if y=name then some v else mA y)→Heap.SameBut dx s.heap h'→Q () { s with heap:=h',toks:=s.toks+2 }):
  wpAny (model prog w) A (setAttr (.ref x) name v) Q E s:=by
 obtain⟨od,J,hl⟩:=I.look
 refine PySem.W.set_plain X J hs (PySem.W.osa_open (s:={ s with toks:=s.toks+1 }) (r:=none) X J hp ht λb=>?_)
 obtain⟨cd,hc,hd'⟩:=PySem.W.any_some hh
 have hx:s.heap.get? x=some ⟨.ref C,some dx,.plain,#[]⟩:=I.obj
 refine wpAny_bind (wpAny_pure (wpAny_bind (wpAny_bind (wpAny_loadPart hx (wpAny_bind (PySem.W.Looks.here (s:={ s with toks:=s.toks+1 }) (PySem.W.looks_clsIn X hc) ?_))))))
 rw[hd']
 refine wpAny_pure (a:=some dx) (wpAny_bind (wpAny_pure (wpAny_bind ?_)))
 refine wpAny_nsSet1 (s:={ s with toks:=s.toks+1 }) I.ns λh' hn2 hs2=>?_
 obtain⟨oD,esD,epD,hoD,hdD,hcD⟩:=hn2.count (PySem.Within.cons name v hw)
 refine wpAny_bind (wpAny_lookBehind hoD (by rw[hdD]; exact pastItsLine_dict (VaB hcD (by rw[Vaz]; omega))) ?_)
 exact wpAny_pure (h _ ⟨(hs2.2 _ (Ne.symm I.ne)).trans I.obj,hn2,I.ne⟩ hs2)
theorem zrS {R:Result→Shared→Prop}{vs:List Value}{kw:List (Str×Value)}(X:K.In s.heap)(hm:PySem.W.makesIn K C=true)
  (hi:PySem.W.findIn K (.ref C) "__init__"=some (some (.ref f)))(hf:PySem.W.typeIn K (.ref f)=some (.type "function"))
  (h:codeAny (model prog w) (A.under (.builtin "type.__call__" ⟨.ref C::vs,kw⟩)) (.call (.ref f) ⟨.ref (s.heap.objs.size+1)::vs,kw⟩) (PySem.W.InitBack (s.heap.objs.size+1) R)
   { s with heap:=(s.heap.push PySem.W.emptyDict).push (PySem.W.instObj C s.heap.objs.size) }):
  codeAny (model prog w) A (.call (.ref C) ⟨vs,kw⟩) R s:=by
 obtain⟨hh,g,d,t,os⟩:=s
 exact PySem.W.make_core (PySem.W.makes_of X hm) (PySem.W.looks_findIn X hi) (λself=>PySem.W.bind_fn X self hf) (.inl rfl) h
end
def zbp (f:Str)(v:V):List (Str×V)→List (Str×V)
 | []=>[(f,v)]
 | (g,x)::r=>if g=f then (g,v)::r else (g,x)::zbp f v r
theorem zpa (f g:Str)(v:V):∀fs:List (Str×V),(zbp f v fs).lookup g=if g=f then some v else fs.lookup g
 | []=>by
  show List.lookup g [(f,v)]=_
  by_cases h:g=f
  ·have hb:(g==f)=true:=beq_iff_eq.mpr h
   simp only[List.lookup,hb,if_pos h]
  ·have hb:(g==f)=false:=beq_eq_false_iff_ne.mpr h
   simp only[List.lookup,hb,if_neg h]
 | (k,x)::r=>by
  have ih:=zpa f g v r
  rw[show zbp f v ((k,x)::r)=(if k=f then (k,v)::r else (k,x)::zbp f v r) from rfl]
  by_cases hk:k=f
  ·rw[if_pos hk]
   by_cases h:g=k
   ·have hb:(g==k)=true:=beq_iff_eq.mpr h
    simp only[List.lookup,hb,if_pos (h.trans hk)]
   ·have hb:(g==k)=false:=beq_eq_false_iff_ne.mpr h
    simp only[List.lookup,hb,if_neg (λe:g=f=>h (e.trans hk.symm))]
  ·rw[if_neg hk]
   by_cases h:g=k
   ·have hb:(g==k)=true:=beq_iff_eq.mpr h
    simp only[List.lookup,hb,if_neg (λe:g=f=>hk (h.symm.trans e))]
   ·have hb:(g==k)=false:=beq_eq_false_iff_ne.mpr h
    simp only[List.lookup,hb]
    exact ih
theorem zok (f:Str)(v:V):∀fs:List (Str×V),f∈(zbp f v fs).map (·.1)∧∀g,g∈fs.map (·.1)→g∈(zbp f v fs).map (·.1)
 | []=>⟨by simp[zbp],λg h=>by simp at h⟩
 | (k,x)::r=>by
  obtain⟨i1,i2⟩:=zok f v r
  rw[show zbp f v ((k,x)::r)=(if k=f then (k,v)::r else (k,x)::zbp f v r) from rfl]
  by_cases hk:k=f
  ·rw[if_pos hk]
   subst hk
   exact⟨by simp,λg h=>by simpa using h⟩
  ·rw[if_neg hk]
   refine⟨?_,λg h=>?_⟩
   ·rw[Vat]
    exact VaF _ i1
   ·rw[Vat] at h ⊢
    rcases Vam.mp h with e | e
    ·exact Vam.mpr (.inl e)
    ·exact VaF _ (i2 g e)
theorem zpc (f:Str)(v:V):∀fs:List (Str×V),(zbp f v fs).length≤fs.length+1
 | []=>by simp[zbp]
 | (k,x)::r=>by
  have ih:=zpc f v r
  rw[show zbp f v ((k,x)::r)=(if k=f then (k,v)::r else (k,x)::zbp f v r) from rfl]
  by_cases hk:k=f
  ·rw[if_pos hk,Vaz,Vaz]; omega
  ·rw[if_neg hk,Vaz,Vaz]; omega
theorem zbz.some_of {v:V}{o:Option Value}(r:zbz (some v) o):∃u,o=some u∧zav v u:=by
 cases o with
 | none=>exact(show False from r).elim
 | some u=>exact⟨u,rfl,r⟩
theorem zbz.none_of {o:Option Value}(r:zbz none o):o=none:=by
 cases o with
 | none=>rfl
 | some u=>exact(show False from r).elim
theorem zv0 {v:V}{u:Value}(r:zav v u):PySem.W.handedIn u=true:=by
 cases v with
 | non=>cases (show u=Value.none from r); rfl
 | bl b=>cases (show u=Value.bool b from r); rfl
 | int i=>obtain⟨t,e⟩:=(show ∃t,u=Value.int i t from r); cases e; rfl
 | str x=>obtain⟨t,e⟩:=(show ∃t,u=Value.str x t from r); cases e; rfl
 | byt b=>obtain⟨t,e⟩:=(show ∃t,u=Value.bytes b t from r); cases e; rfl
 | flt b=>obtain⟨t,e⟩:=(show ∃t,u=Value.float b t from r); cases e; rfl
 | ref a=>cases (show u=Value.ref a from r); rfl
 | ty n=>cases (show u=Value.type n from r); rfl
section
variable {P:Program}{w:World}{H H':Hp}{h h':Heap}{a C dx:Addr}{fs fs':List (Str×V)}
theorem zjn (hok:HOk P w H h)(e:H a=some (.ins C dx fs)):∃mA,zdN h a dx C mA∧(∀f,zbz (fs.lookup f) (mA f))∧PySem.Within mA (fs.map (·.1))∧fs.length≤1000∧H dx=some (.own a):=by
 obtain⟨d,z,ne,ob,mA,n,r,q⟩:=(show zbq P w H h a (.ins C dx fs) from hok a _ e)
 exact⟨mA,⟨ob,n,ne⟩,r,q,z,d⟩
end
structure Cls (K:PySem.W.Frag)(C:Addr):Prop where
 pg:PySem.W.plainGet K C Str.empty=true
 hd:PySem.W.hasDictIn K C=true
 po:PySem.W.plainOver K C=true
 sa:PySem.W.findIn K (.ref C) "__setattr__"=some (some (.builtin "object.__setattr__"))
theorem Cls.get {K:PySem.W.Frag}{C:Addr}(c:Cls K C)(f:Str):PySem.W.plainGet K C f=true:=c.pg
def zbl (K:PySem.W.Frag)(C:Addr)(f:Str):Prop:=PySem.W.findIn K (.ref C) f=some none
theorem zbl.taker {K:PySem.W.Frag}{C:Addr}{f:Str}(n:zbl K C f):PySem.W.takerIn K C f=some none:=by
 unfold PySem.W.takerIn
 rw[show PySem.W.findIn K (.ref C) f=some none from n]
 rfl
structure Con (K:PySem.W.Frag)(C:Addr)(f:Str)(v:V)(u:Value):Prop where
 at_:PySem.W.findIn K (.ref C) f=some (some u)
 rel:zav v u
 get:PySem.W.specialIn K u "__get__"=some none
 cp:PySem.W.copiedNames.contains f=false
structure zeU (K:PySem.W.Frag)(C:Addr)(m:Str)(f:Addr):Prop where
 at_:PySem.W.findIn K (.ref C) m=some (some (.ref f))
 fn:PySem.W.isFn K (.ref f)=true
 kp:PySem.W.keepIn K (.ref f)=true
section
variable {X:Cx}{pins:List (Addr×Obj)}{σ:St}{H:Hp}{s:Shared}{a C dx:Addr}{fs:List (Str×V)}{f:Str}{v:V}{A:Around}{E:Value→Shared→Prop}
theorem ztA {b:Bool}{Q:Value→Shared→Prop}(I:Inv X pins σ H s)(e:H a=some (.ins C dx fs))(c:Cls X.K C)(n:zbl X.K C f)(l:fs.lookup f=some v)
  (h:∀u s',Inv X pins σ H s'→zav v u→Q u s'):wpAny (model X.prog X.w) A (getAttr (.ref a) f b) Q E s:=by
 obtain⟨mA,O,r,_,_,_⟩:=zjn I.hok e
 obtain⟨u,hu,ru⟩:=zbz.some_of (v:=v) (o:=mA f) (by rw[← l]; exact r f)
 exact zv8 I.kIn O (c.get f) c.hd n hu (zv0 ru) (h u _ (I.tok _) ru)
theorem zqg {m:Str}{g:Addr}{pl:Sem Bool}{Q:Value×List Value→Shared→Prop}(I:Inv X pins σ H s)(e:H a=some (.ins C dx fs))(c:Cls X.K C)(k:zeU X.K C m g)(l:fs.lookup m=none)
  (h:Q (.ref g,[.ref a]) s):wpAny (model X.prog X.w) A (getMethod (.ref a) m pl) Q E s:=by
 obtain⟨mA,O,r,_,_,_⟩:=zjn I.hok e
 have hn:mA m=none:=zbz.none_of (by rw[← l]; exact r m)
 exact zuf I.kIn O (c.get m) k.at_ k.fn hn h
theorem zu0 {y:V}{u:Value}{Q:Unit→Shared→Prop}(I:Inv X pins σ H s)(e:H a=some (.ins C dx fs))(c:Cls X.K C)(n:zbl X.K C f)(hl:fs.length<1000)(ry:zav y u)
  (h:∀s',Inv X pins σ (upd H a (.ins C dx (zbp f y fs))) s'→Q () s'):wpAny (model X.prog X.w) A (setAttr (.ref a) f u) Q E s:=by
 obtain⟨mA,O,r,wi,_,ho⟩:=zjn I.hok e
 have hz:(fs.map (·.1)).length≤sizeLine:=by rw[Vac,sizeLine_eq]; omega
 refine ztd I.kIn O c.sa c.po n.taker c.hd wi hz λh' O' sb=>h _ ?_
 have hd:∃o,h'.get? dx=some o:=let ⟨o,_,_,e',_⟩:=O'.ns; ⟨o,e'⟩
 refine I.write (x:=a) (e:=dx) (by rw[e]; exact True.intro) (.inr ho) (λb q hb z=>(sb.2 b hb).trans z) hd ?_
 refine⟨by rw[za3 O.ne]; exact ho,?_,O.ne,O'.obj,_,O'.ns,λg=>?_,λg hg=>?_⟩
 ·have:=zpc f y fs; omega
 ·show zbz ((zbp f y fs).lookup g) (if g=f then some u else mA g)
  rw[zpa]
  by_cases q:g=f
  ·rw[if_pos q,if_pos q]; exact ry
  ·rw[if_neg q,if_neg q]; exact r g
 ·by_cases q:g=f
  ·rw[q]; exact(zok f y fs).1
  ·refine(zok f y fs).2 g (wi g λz=>hg ?_)
   show (if g=f then some u else mA g)=none
   rw[if_neg q]; exact z
theorem Inv.made (I:Inv X pins σ H s):Inv X pins σ (upd (upd H s.heap.objs.size (.own (s.heap.objs.size+1))) (s.heap.objs.size+1) (.ins C s.heap.objs.size []))
  { s with heap:=(s.heap.push PySem.W.emptyDict).push (PySem.W.instObj C s.heap.objs.size) }:=by
 have e1:(s.heap.push PySem.W.emptyDict).get? s.heap.objs.size=some PySem.W.emptyDict:=Heap.get?_push_size s.heap rfl
 have e2:((s.heap.push PySem.W.emptyDict).push (PySem.W.instObj C s.heap.objs.size)).get? (s.heap.objs.size+1)=some (PySem.W.instObj C s.heap.objs.size):=by
  have:=Heap.get?_push_size (s.heap.push PySem.W.emptyDict) (o:=PySem.W.instObj C s.heap.objs.size) rfl
  rwa [Heap.size_push] at this
 have e3:(s.heap.push PySem.W.emptyDict).Ns s.heap.objs.size (λ_=>none):=⟨PySem.W.emptyDict,#[],_,e1,rfl,(λe he=>absurd he (by simp)),λ_=>rfl⟩
 have I1:=I.laid (a:=s.heap.objs.size) (o:=.own (s.heap.objs.size+1)) (h':=s.heap.push PySem.W.emptyDict) (t':=s.toks) (λb u q=>Heap.get?_push_of_some _ q) (Vaa _) ⟨_,e1⟩
 refine I1.laid (a:=s.heap.objs.size+1) (o:=.ins C s.heap.objs.size []) (t':=s.toks) (λb u q=>Heap.get?_push_of_some _ q) (Nat.le_of_eq (Heap.size_push _ _)) ?_
 have ne:s.heap.objs.size≠s.heap.objs.size+1:=Vas (Nat.lt_succ_self _)
 refine⟨by rw[za3 ne,zcz],VaA _,ne,e2,λ_=>none,(Heap.Ns1.of_empty e3).at λo q=>Heap.get?_push_of_some _ q,λ_=>True.intro,λy hy=>absurd rfl hy⟩
theorem zwM {prog:Program}{w:World}{env:Env}{e:Expr}{f:Str}{pos:Pos}{s:Shared}{Q:Value→Shared→Prop}(hb:attributeBase e f env (eval e env)=eval e env)
  (h:wpAny (model prog w) A (eval e env) (λo s₁=>wpAny (model prog w) A (getAttr o f true) Q E s₁) E s):wpAny (model prog w) A (eval (.Attribute e f pos) env) Q E s:=
 Attribute_any_ h (by rw[arm_eval_Attribute,hb])
end
def tFld (K:PySem.W.Frag)(ta:TE)(f:Str):TE:=λσ H Q=>ta σ H λx H1=>∃a C dx fs v,x=.ref a∧H1 a=some (.ins C dx fs)∧Cls K C∧zbl K C f∧fs.lookup f=some v∧Q v H1
def sFld (K:PySem.W.Frag)(ta tv:TE)(f:Str):TS:=λD σ H=>tv σ H λy H1=>ta σ H1 λx H2=>∃a C dx fs,x=.ref a∧H2 a=some (.ins C dx fs)∧Cls K C∧zbl K C f∧fs.length<1000∧
 D.nx σ (upd H2 a (.ins C dx (zbp f y fs)))
section
variable {X:Cx}{o e value:Expr}{f:Str}{pos pos' tpos:Pos}{ta tv:TE}
theorem ztq (he:PE X e ta)(hb:attributeBase e f X.env (eval e X.env)=eval e X.env):PE X (.Attribute e f pos) (tFld X.K ta f):=by
 intro pins s σ H Q I h
 refine zwM hb (thn (he pins s σ H _ I h) λu s1 ⟨x,H1,I1,rx,a,C,dx,fs,v,ex,ea,c,n,l,q⟩=>?_)
 subst ex
 obtain rfl:u=Value.ref a:=rx
 exact ztA I1 ea c n l λu' s2 I2 ru=>⟨v,H1,I2,ru,q⟩
theorem zt5 (ha:PE X o ta)(hv:PE X value tv)(hs:swapsWith value (some (.Attribute o f pos')) pos.line X.env=pure false):PS X (.Assign [.Attribute o f pos'] value pos) (sFld X.K ta tv f):=by
 intro pins s σ H D I h
 refine plainObj_wpAny_Assign_Attribute (thn (hv pins s σ H _ I h) λu s1 ⟨y,H1,I1,ry,q⟩=>thn (ha pins s1 σ H1 _ I1 q) λov s2 ⟨x,H2,I2,rx,a,C,dx,fs,ex,ea,c,n,l,q2⟩=>?_) hs
 subst ex
 obtain rfl:ov=Value.ref a:=rx
 exact zu0 I2 ea c n l ry λs3 I3=>⟨σ,_,I3,q2⟩
end
section
variable {X:Cx}{pins:List (Addr×Obj)}{σ:St}{H:Hp}{s:Shared}{A:Around}{E:Value→Shared→Prop}{Q:Value→Shared→Prop}{c:Value}{b:Bool}
inductive zb1 (K:PySem.W.Frag)(H:Hp):V→Value→Prop where
 | non:zb1 K H .non (.type "NoneType")
 | bl (x:Bool):zb1 K H (.bl x) (.type "bool")
 | int (i:Int):zb1 K H (.int i) (.type "int")
 | str (x:Str):zb1 K H (.str x) (.type "str")
 | flt (x:UInt64):zb1 K H (.flt x) (.type "float")
 | lst {a:Addr} {xs:List V} (e:H a=some (.lst xs)):zb1 K H (.ref a) (.type "list")
 | frz {a:Addr} {o:Obj} {xs:List V} (e:H a=some (.frz o (.lst xs))):zb1 K H (.ref a) (.type "list")
 | tup {a:Addr} {xs:List V} (e:H a=some (.tup xs)):zb1 K H (.ref a) (.type "tuple")
 | dK {a:Addr} {kvs:List (Key×V)} (e:H a=some (.dK kvs)):zb1 K H (.ref a) (.type "dict")
 | dT {a:Addr} {kvs:List (List Key×V)} (e:H a=some (.dT kvs)):zb1 K H (.ref a) (.type "dict")
 | ins {a C dx:Addr} {fs:List (Str×V)} (e:H a=some (.ins C dx fs)) (cl:Cls K C) (ha:PySem.W.findIn K (.ref C) "__class__"=some (some (.builtin "object.__class__")))
   (hn:PySem.W.specialIn K (.builtin "object.__class__") "__get__"=some (some (.builtin "getset_descriptor.__get__"))) (htk:PySem.W.takesIn K (.builtin "object.__class__")=some true)
   (hm:PySem.W.mroIn K C (.type "object")=some true):zb1 K H (.ref a) (.ref C)
theorem zuK {x:V}{u t:Value}(I:Inv X pins σ H s)(rx:zav x u)(ty:zb1 X.K H x t)(e:PySem.W.kitOne X.K t c=some b)(h:∀tk,Q (.bool b) { s with toks:=tk }):
  wpAny (model X.prog X.w) A (call (.builtin "isinstance") [u,c]) Q E s:=by
 cases ty with
 | non=>cases (show u=Value.none from rx); exact PySem.W.kia_one PySem.W.kitx_none I.kIn True.intro e (λz=>nomatch z) h
 | bl y=>cases (show u=Value.bool y from rx); exact PySem.W.kia_one PySem.W.kitx_bool I.kIn True.intro e (λz=>nomatch z) h
 | int i=>obtain⟨t,q⟩:=(show ∃t,u=Value.int i t from rx); cases q; exact PySem.W.kia_one PySem.W.kitx_int I.kIn True.intro e (λz=>nomatch z) h
 | str y=>obtain⟨t,q⟩:=(show ∃t,u=Value.str y t from rx); cases q; exact PySem.W.kia_one PySem.W.kitx_str I.kIn True.intro e (λz=>nomatch z) h
 | flt y=>obtain⟨t,q⟩:=(show ∃t,u=Value.float y t from rx); cases q; exact PySem.W.kia_one PySem.W.kitx_float I.kIn True.intro e (λz=>nomatch z) h
 | @lst a xs ea=>
  cases (show u=Value.ref a from rx)
  obtain⟨_,_,n,_,h1⟩:=(show zbq X.prog X.w H s.heap a (.lst xs) from I.hok a _ ea)
  exact PySem.W.kia_one PySem.W.kitx_list I.kIn ⟨_,h1,rfl⟩ e (λz=>nomatch z) h
 | @frz a ob xs ea=>
  cases (show u=Value.ref a from rx)
  obtain⟨_,_,_,n,_,h1⟩:=(show zbq X.prog X.w H s.heap a (.frz ob (.lst xs)) from I.hok a _ ea)
  exact PySem.W.kia_one PySem.W.kitx_list I.kIn ⟨_,h1,rfl⟩ e (λz=>nomatch z) h
 | @tup a xs ea=>
  cases (show u=Value.ref a from rx)
  obtain⟨_,_,_,p⟩:=(show zbq X.prog X.w H s.heap a (.tup xs) from I.hok a _ ea)
  obtain⟨o,h1,h2,_⟩:=p
  exact PySem.W.kia_one PySem.W.kitx_tuple I.kIn ⟨o,h1,h2⟩ e (λz=>nomatch z) h
 | @dK a kvs ea=>
  cases (show u=Value.ref a from rx)
  obtain⟨_,_,vs,_,p⟩:=(show zbq X.prog X.w H s.heap a (.dK kvs) from I.hok a _ ea)
  obtain⟨o,es,ep,h1,h2,_⟩:=p
  exact PySem.W.kia_one PySem.W.kitx_dict I.kIn ⟨o,h1,h2.1⟩ e (λz=>nomatch z) h
 | @dT a kvs ea=>
  cases (show u=Value.ref a from rx)
  obtain⟨_,_,xs,_,o,es,ep,h1,h2,_⟩:=(show zbq X.prog X.w H s.heap a (.dT kvs) from I.hok a _ ea)
  exact PySem.W.kia_one PySem.W.kitx_dict I.kIn ⟨o,h1,h2.1⟩ e (λz=>nomatch z) h
 | @ins a C dx fs ea cl ha hn htk hm=>
  cases (show u=Value.ref a from rx)
  obtain⟨mA,O,_⟩:=zjn I.hok ea
  obtain⟨od,J,_⟩:=O.look
  exact PySem.W.kia_one (PySem.W.kitx_own (cl.get _) cl.hd ha hn htk hm) I.kIn J e (λz=>nomatch z) h
end
end L2
namespace L2
open PySem PySem.Spec PyProof.Rows
structure zaN (k:Nat)(A:Around):Prop where
 hd:A.handled=none
 dp:A.depth+3*k+5<recursionLimit
 un:A.units+16*k+200<cLine
theorem zaN.mono {j k:Nat}{A:Around}(r:zaN k A)(h:j≤k):zaN j A:=⟨r.hd,by have:=r.dp; omega,by have:=r.un; omega⟩
theorem zaN.deeper {k:Nat}{A:Around}(r:zaN (k+1) A)(env:Env):zaN k (A.deeper env):=
 ⟨r.hd,by have:=r.dp; show A.depth+1+3*k+5<_; omega,by have:=r.un; show A.units+3+16*k+200<_; omega⟩
theorem zaN.in1 {k:Nat}{A:Around}(r:zaN (k+1) A):zaN k A.in1:=
 ⟨r.hd,by have:=r.dp; show A.depth+3*k+5<_; omega,by have:=r.un; show A.units+1+16*k+200<_; omega⟩
theorem zub {A:Around}{C:Addr}{us:List Value}{kw:List (Str×Value)}:(A.under (.builtin "type.__call__" ⟨.ref C::us,kw⟩)).depth=A.depth+1:=by
 first | rfl | simp[Around.under,Code.weight,Code.isCreation,Code.isGuard,Code.isCaller,Code.frames,Code.isFrame,guardIds]
theorem zw7 {A:Around}{C:Addr}{us:List Value}{kw:List (Str×Value)}:(A.under (.builtin "type.__call__" ⟨.ref C::us,kw⟩)).units=A.units+1:=by
 first | rfl | simp[Around.under,Code.cUnits,Code.frames,Code.isFrame]
theorem zaN.make {k:Nat}{A:Around}(r:zaN (k+1) A)(C:Addr)(us:List Value)(kw:List (Str×Value)):zaN k (A.under (.builtin "type.__call__" ⟨.ref C::us,kw⟩)):=
 ⟨r.hd,by have:=r.dp; rw[zub]; omega,by have:=r.un; rw[zw7]; omega⟩
theorem zaN.depth {k:Nat}{A:Around}(r:zaN k A):A.depth<recursionLimit:=by have:=r.dp; omega
theorem zaN.units {k:Nat}{A:Around}(r:zaN k A):A.units+64<cLine:=by have:=r.un; omega
def tNil:TA:=λ_ H Q=>Q [] H
def tCons (ta:TE)(tr:TA):TA:=λσ H Q=>ta σ H λx H1=>tr σ H1 λxs H2=>Q (x::xs) H2
section
variable {X:Cx}{e:Expr}{es:List Expr}{te:TE}{t:TA}{pos:Pos}
theorem zhX:PA X [] tNil:=λ_ _ _ _ H Q I h=>Calls.spliced_nil ⟨[],H,I,.nil,h⟩
theorem zfc (ha:PE X e te)(hr:PA X es t)(hs:starEach (e::es) X.env=(false,eval e X.env)::starEach es X.env:=by rfl):PA X (e::es) (tCons te t):=by
 intro pos pins s σ H Q I h
 rw[hs]
 show wpAny _ _ (spliced ((false,eval e X.env)::backTo pos (starEach es X.env))) _ _ s
 refine Calls.spliced_cons (thn (ha pins s σ H _ I h) λu s1 ⟨x,H1,I1,r1,q1⟩=>?_)
 exact thn (hr pos pins s1 σ H1 _ I1 q1) λus s2 ⟨xs,H2,I2,r2,q2⟩=>⟨x::xs,H2,I2,.cons r1 r2,q2⟩
def tTup (t:TA):TE:=λσ H Q=>t σ H λxs H1=>xs.length≤sizeLine∧∀p,H1 p=none→Q (.ref p) (upd H1 p (.tup xs))
def tLst (t:TA):TE:=λσ H Q=>t σ H λxs H1=>xs.length≤sizeLine∧∀p,H1 p=none→Q (.ref p) (upd H1 p (.lst xs))
theorem zrh {x1}(h:PA X es t):PE X (.Tuple es x1 pos) (tTup t):=by
 intro pins s σ H Q I hq
 refine wpAny_Tuple_spliced (thn (h pos pins s σ H _ I hq) λus s1 ⟨xs,H1,I1,r,z,q⟩=>⟨by rw[← r.length]; exact z,?_⟩)
 have hf:H1 s1.heap.objs.size=none:=I1.hok.fresh (Vaa _)
 refine⟨.ref s1.heap.objs.size,upd H1 s1.heap.objs.size (.tup xs),I1.laid (t':=s1.toks) (λb u e=>Heap.get?_push_of_some _ e) (Vaa _) ?_,rfl,q _ hf⟩
 exact⟨z,us,r,⟨_,Heap.get?_push_size _ rfl,rfl,_,rfl⟩⟩
theorem zt6 (h:PA X es t):PE X (.List es pos) (tLst t):=by
 intro pins s σ H Q I hq
 refine wpAny_List_spliced (thn (h pos pins s σ H _ I hq) λus s1 ⟨xs,H1,I1,r,z,q⟩=>⟨by rw[← r.length]; exact z,?_⟩)
 have hf:H1 s1.heap.objs.size=none:=I1.hok.fresh (Vaa _)
 refine⟨.ref s1.heap.objs.size,upd H1 s1.heap.objs.size (.lst xs),I1.laid (t':=s1.toks) (λb u e=>Heap.get?_push_of_some _ e) (Vaa _) ?_,rfl,q _ hf⟩
 exact⟨z,us,0,r,Heap.get?_push_size _ rfl⟩
end
abbrev Sp:=List V→Hp→VK→XK→Prop
abbrev CXT:=List Env→Hp→Shared→XK→Value→Shared→Prop
structure zcr (P:Program)(w:World)(K:PySem.W.Frag)(mg:Str→Option Value)(base:Heap)(A:Around)(outer:List Env)(s:Shared)(H:Hp):Prop where
 frames:A.frames=some outer
 mod:Mod K mg base
 bs:∀b o,base.get? b=some o→s.heap.get? b=some o∧H b=none
 bsz:base.objs.size≤s.heap.objs.size
 funs:s.heap.FunFrames base outer
 frf:∀b∈frs outer,H b=none
 hok:HOk P w H s.heap
 bare:AllBare s.gens
def CE (outer:List Env)(P:Program)(w:World)(H:Hp)(s:Shared)(Q:VK)(u:Value)(s':Shared):Prop:=
 ∃v H',s'.os=s.os∧AllBare s'.gens∧Un (frs outer) [] H H' s.heap s'.heap∧HOk P w H' s'.heap∧zav v u∧Q v H'
def CR (CX:CXT)(outer:List Env)(P:Program)(w:World)(H:Hp)(s:Shared)(Q:VK)(E:XK)(r:Result)(s':Shared):Prop:=
 match r with
 | .ok (.ret u)=>CE outer P w H s Q u s'
 | .ok _=>False
 | .error e=>CX outer H s E e s'
structure za1 (P:Program)(w:World)(K:PySem.W.Frag)(mg:Str→Option Value)(base:Heap)(CX:CXT)(k:Nat)(f:Addr)(fd:FuncData)(ps:List Str)(sp:Sp):Prop where
 len:∀vs H Q E,sp vs H Q E→vs.length=ps.length
 run:∀(A:Around) (outer:List Env) (s:Shared) (H:Hp) (args:Args) (us:List Value) (vs:List V) (Q:VK) (E:XK),zaN k A→zcr P w K mg base A outer s H→BindsTo s fd args (ps.zip us)→zay vs us→sp vs H Q E→
  codeAny (model P w) A (.call (.ref f) args) (CR CX outer P w H s Q E) s
theorem za1.mono {P:Program}{w:World}{K:PySem.W.Frag}{mg:Str→Option Value}{base:Heap}{CX:CXT}{j k:Nat}{f:Addr}{fd:FuncData}{ps:List Str}{sp:Sp}(F:za1 P w K mg base CX j f fd ps sp)(h:j≤k):
  za1 P w K mg base CX k f fd ps sp:=⟨F.len,λA outer s H args us vs Q E hr=>F.run A outer s H args us vs Q E (hr.mono h)⟩
theorem za1.imp {P:Program}{w:World}{K:PySem.W.Frag}{mg:Str→Option Value}{base:Heap}{CX:CXT}{k:Nat}{f:Addr}{fd:FuncData}{ps:List Str}{sp sp':Sp}(F:za1 P w K mg base CX k f fd ps sp)
  (h:∀vs H Q E,sp' vs H Q E→sp vs H Q E):za1 P w K mg base CX k f fd ps sp':=
 ⟨λvs H Q E q=>F.len vs H Q E (h _ _ _ _ q),λA outer s H args us vs Q E hr he hb hv hs=>F.run A outer s H args us vs Q E hr he hb hv (h _ _ _ _ hs)⟩
theorem zcr.make {P:Program}{w:World}{K:PySem.W.Frag}{mg:Str→Option Value}{base:Heap}{A:Around}{outer:List Env}{s:Shared}{H:Hp}(e:zcr P w K mg base A outer s H)(C:Addr)(us:List Value)(kw:List (Str×Value)):
  zcr P w K mg base (A.under (.builtin "type.__call__" ⟨.ref C::us,kw⟩)) outer s H:=⟨by first | exact e.frames | (simpa [Around.under,Code.envs,Code.isFrame,pushEnvs] using e.frames),e.mod,e.bs,e.bsz,e.funs,e.frf,e.hok,e.bare⟩
theorem zcr.in1 {P:Program}{w:World}{K:PySem.W.Frag}{mg:Str→Option Value}{base:Heap}{A:Around}{outer:List Env}{s:Shared}{H:Hp}(e:zcr P w K mg base A outer s H):
  zcr P w K mg base A.in1 outer s H:=⟨e.frames,e.mod,e.bs,e.bsz,e.funs,e.frf,e.hok,e.bare⟩
section
variable {X:Cx}{pins:List (Addr×Obj)}{σ:St}{H:Hp}{s s':Shared}
theorem Inv.env0 (I:Inv X pins σ H s):zcr X.prog X.w X.K X.mg X.base X.A X.stack s H:=
 ⟨I.ok.frames,I.ok.mod,I.bs,VaB I.ok.bsz I.sz,I.stack,I.stkFree,I.hok,I.bare⟩
theorem Inv.after {Q:VK}{u:Value}(I:Inv X pins σ H s)(h:CE X.stack X.prog X.w H s Q u s'):EP X pins σ Q u s':=by
 obtain⟨v,H',os,bare,un,hok,r,q⟩:=h
 obtain⟨hh,g,d,t,os'⟩:=s'
 obtain rfl:os'=s.os:=os
 exact⟨v,H',I.call (h':=hh) (g':=g) (d':=d) (t':=t) (ch:=[]) un hok bare (λb z=>absurd z (by simp)),r,q⟩
end
def tMake (C:Addr)(sp:Sp)(dvs:List V)(E:XK)(t:TA):TE:=λσ H Q=>t σ H λvs H1=>∀x dx,H1 x=none→H1 dx=none→dx≠x→
 sp (.ref x::(vs++dvs)) (upd (upd H1 dx (.own x)) x (.ins C dx [])) (λv H2=>v=.non∧Q (.ref x) H2) E
def zbs (K:PySem.W.Frag)(fd:FuncData)(ps:List Str)(ds:List Value):Prop:=
 ∀(s:Shared) (us:List Value),K.In s.heap→(us++ds).length=ps.length→BindsTo s fd ⟨us,[]⟩ (ps.zip (us++ds))
theorem zbs.all {K:PySem.W.Frag}{fd:FuncData}{ps:List Str}(h:∀us:List Value,us.length=ps.length→bindArgs fd ⟨us,[]⟩=pure (ps.zip us)):zbs K fd ps []:=λs us _ hl=>by
 rw[Va3] at hl ⊢
 exact .of_eq (h us hl)
def ziV (CX:CXT)(X:Cx)(E:XK):Prop:=∀(pins:List (Addr×Obj)) (σ:St) (H:Hp) (s:Shared) (e:Value) (s':Shared),Inv X pins σ H s→CX X.stack H s E e s'→X.xe e s'
section
variable {X:Cx}{CX:CXT}{k:Nat}{f C:Addr}{fd:FuncData}{ps:List Str}{sp:Sp}{dvs:List V}{ds:List Value}{E:XK}{x m:Str}{p pos apos:Pos}{e o:Expr}{es:List Expr}{ta:TE}{t:TA}
structure Mk (K:PySem.W.Frag)(C f:Addr):Prop where
 makes:PySem.W.makesIn K C=true
 init:PySem.W.findIn K (.ref C) "__init__"=some (some (.ref f))
 fn:PySem.W.isFn K (.ref f)=true
 kp:PySem.W.keepIn K (.ref C)=true
theorem zwW {pins:List (Addr×Obj)}{σ:St}{H:Hp}{s:Shared}{Q:VK}{us:List Value}{vs:List V}(M:Mk X.K C f)(F:za1 X.prog X.w X.K X.mg X.base CX k f fd ps sp)(hr:zaN (k+1) X.A)(hb:zbs X.K fd ps ds)(hd:zay dvs ds)
  (hx:ziV CX X E)(I:Inv X pins σ H s)(r:zay vs us)
  (h:∀x dx,H x=none→H dx=none→dx≠x→sp (.ref x::(vs++dvs)) (upd (upd H dx (.own x)) x (.ins C dx [])) (λv H2=>v=.non∧Q (.ref x) H2) E):
  wpAny (model X.prog X.w) X.A (call (.ref C) us) (EP X pins σ Q) X.xe s:=by
 have hq:=h (s.heap.objs.size+1) s.heap.objs.size (I.hok.fresh (Nat.le_succ _)) (I.hok.fresh (Vaa _)) (Vas (Nat.lt_succ_self _))
 have I2:=Inv.made (C:=C) I
 have r2:zay (V.ref (s.heap.objs.size+1)::(vs++dvs)) (Value.ref (s.heap.objs.size+1)::(us++ds)):=.cons rfl (r.append hd)
 have hl:(Value.ref (s.heap.objs.size+1)::us++ds).length=ps.length:=by
  have e:=r2.length
  rw[F.len _ _ _ _ hq] at e
  exact e.symm
 refine wpAny_call (zrS (f:=f) I.kIn M.makes M.init (beq_iff_eq.mp M.fn) (codeAny_mono (F.run _ X.stack _ _ ⟨Value.ref (s.heap.objs.size+1)::us,[]⟩ (Value.ref (s.heap.objs.size+1)::(us++ds)) _ _ E (hr.make C us [])
  (I2.env0.make C us []) (hb _ (Value.ref (s.heap.objs.size+1)::us) I2.kIn hl) r2 hq) λr s' hq'=>?_))
 cases r with
 | error e=>exact hx pins σ _ _ e s' I2 hq'
 | ok fl=>
  cases fl with
  | ret u=>
   obtain⟨v,H',I3,rv,ev,q3⟩:=I2.after hq'
   subst ev
   exact⟨rv,⟨V.ref (s.heap.objs.size+1),H',I3,rfl,q3⟩⟩
  | next=>exact False.elim hq'
  | brk=>exact False.elim hq'
  | cont=>exact False.elim hq'
theorem zxD (M:Mk X.K C f)(F:za1 X.prog X.w X.K X.mg X.base CX k f fd ps sp)(hr:zaN (k+1) X.A)(hg:Gl X x)(hm:X.mg x=some (.ref C))(hb:zbs X.K fd ps ds)(hd:zay dvs ds)(hx:ziV CX X E)
  (ha:PA X (e::es) t)(hdb:(x==("__debug__":Str))=false:=by decide)(he:starEach (e::es) X.env=(false,eval e X.env)::starEach es X.env:=by rfl)(hpl:(backTo pos (starEach es X.env)).any (·.1)=false:=by rfl):
  PE X (.Call (.Name x p) (e::es) [] pos) (tMake C sp dvs E t):=by
 intro pins s σ H Q I h
 refine wpAny_Call_Name_kw (zpe I hg hm ?_ hdb)
 refine PySem.W.callWith_K (h₀:=X.base) I.ok.mod.kin M.kp (thn (ha pos pins s σ H _ I h) λus s1 ⟨vs,H1,I1,r,q⟩=>⟨I1.kIn,?_⟩) he hpl
 exact zwW M F hr hb hd hx I1 r q
end
section
variable {X:Cx}{CX:CXT}{k:Nat}{f C:Addr}{fd:FuncData}{ps ks:List Str}{sp:Sp}{E:XK}{x m:Str}{p pos apos kpos:Pos}{e o:Expr}{es:List Expr}{kws:List Keyword}{te ta:TE}{t tk:TA}{nm:Option Str}
structure KBinds (K:PySem.W.Frag)(fd:FuncData)(ps ks:List Str)(g:List Value→List Value→List Value)(gV:List V→List V→List V):Prop where
 to:∀(s:Shared) (us ws:List Value),K.In s.heap→(g us ws).length=ps.length→BindsTo s fd ⟨us,ks.zip ws⟩ (ps.zip (g us ws))
 rel:∀ {vs:List V} {us:List Value} {zs:List V} {ws:List Value},zay vs us→zay zs ws→zay (gV vs zs) (g us ws)
variable {g:List Value→List Value→List Value}{gV:List V→List V→List V}
end
structure zat (N P:List Str)(sc:Scope):Prop where
 kind:sc.kind=.function
 co:sc.isCoroutine=false
 gen:sc.isGenerator=false
 nd:N.Nodup
 pre:N.take P.length=P
 par:∀x∈P,sc.names.lookup x=some .local∨sc.names.lookup x=some .cell
 nofree:∀y∈sc.names,y.2≠.free
theorem zqc {kindOf:Str→Option NameKind}{x:Str}:∀ {binds:List (Str×Value)} {m:Str→Option Value},(∀v,(x,v) ∉ binds)→bindL kindOf binds m x=m x
 | [],_,_=>rfl
 | (n,v)::r,m,h=>by
  unfold bindL
  rw[zqc λw hw=>h w (VaF _ hw)]
  split
  ·have:x≠n:=by rintro rfl; exact h v VaZ
   simp[this]
  ·rfl
theorem zqb {kindOf:Str→Option NameKind}{x:Str}:∀ {binds:List (Str×Value)} {m:Str→Option Value},(∀v,(x,v) ∉ binds)→bindC kindOf binds m x=m x
 | [],_,_=>rfl
 | (n,v)::r,m,h=>by
  unfold bindC
  rw[zqb λw hw=>h w (VaF _ hw)]
  split
  ·rfl
  ·have:x≠n:=by rintro rfl; exact h v VaZ
   simp[this]
theorem zqP {kindOf:Str→Option NameKind}{x:Str}{v:Value}:∀ {P:List Str} {vs:List Value} {i:Nat} {m:Str→Option Value},P.Nodup→P[i]?=some x→vs[i]?=some v→kindOf x=some .local→
  bindL kindOf (P.zip vs) m x=some v
 | [],_,_,_,_,h,_,_=>by simp at h
 | _::_,[],_,_,_,_,h,_=>by simp at h
 | p::P,w::vs,0,m,nd,h1,h2,hk=>by
  simp at h1 h2; subst h1; subst h2
  show bindL kindOf ((p,w)::P.zip vs) m p=_
  unfold bindL
  rw[zqc λv hv=>(List.nodup_cons.mp nd).1 (List.of_mem_zip hv).1,if_pos hk]
  simp
 | p::P,w::vs,i+1,m,nd,h1,h2,hk=>by
  show bindL kindOf ((p,w)::P.zip vs) m x=_
  unfold bindL
  exact zqP (i:=i) (List.nodup_cons.mp nd).2 (by simpa using h1) (by simpa using h2) hk
theorem zqo {kindOf:Str→Option NameKind}{x:Str}{v:Value}:∀ {P:List Str} {vs:List Value} {i:Nat} {m:Str→Option Value},P.Nodup→P[i]?=some x→vs[i]?=some v→kindOf x≠some .local→
  bindC kindOf (P.zip vs) m x=some v
 | [],_,_,_,_,h,_,_=>by simp at h
 | _::_,[],_,_,_,_,h,_=>by simp at h
 | p::P,w::vs,0,m,nd,h1,h2,hk=>by
  simp at h1 h2; subst h1; subst h2
  show bindC kindOf ((p,w)::P.zip vs) m p=_
  unfold bindC
  rw[zqb λv hv=>(List.nodup_cons.mp nd).1 (List.of_mem_zip hv).1,if_neg hk]
  simp
 | p::P,w::vs,i+1,m,nd,h1,h2,hk=>by
  show bindC kindOf ((p,w)::P.zip vs) m x=_
  unfold bindC
  exact zqo (i:=i) (List.nodup_cons.mp nd).2 (by simpa using h1) (by simpa using h2) hk
def zci (N:List Str)(vs:List V):St:=vs.map some++List.replicate (N.length-vs.length) none
def zdW (CX:CXT)(P:Program)(w:World)(K:PySem.W.Frag)(mg:Str→Option Value)(base:Heap)(N:List Str)(qual:Str)(scope:Scope)(f:Addr)(cd:Value)(A:Around)(outer:List Env)(s:Shared)(H:Hp)(E:XK):Cx where
 prog:=P
 w:=w
 K:=K
 mg:=mg
 base:=base
 A:=A.deeper (envOfC qual scope s.heap.objs.size f cd)
 N:=N
 s₀:=s
 H₀:=H
 env:=envOfC qual scope s.heap.objs.size f cd
 outer:=outer
 stack:=envOfC qual scope s.heap.objs.size f cd::outer
 ex:=[]
 calm:=true
 fn:=λ_=>true
 pn:=[]
 xe:=λe s'=>wpAny (model P w) (A.deeper (envOfC qual scope s.heap.objs.size f cd)) (leaving (envOfC qual scope s.heap.objs.size f cd) e) (λ_ s''=>CX outer H s E e s'') (λe' s''=>CX outer H s E e' s'') s'
theorem zo5 {sc:Scope}{n:Nat}{x:Str}(h:sc.names.lookup x=some .cell):∃c,(cellsFrom n sc.names []).lookup x=some c:=by
 have q:=PySem.W.cellsFrom_some sc.names n [] (.inl h)
 exact Option.isSome_iff_exists.mp q
theorem zuV {CX:CXT}{P:Program}{w:World}{K:PySem.W.Frag}{mg:Str→Option Value}{base:Heap}{N ps:List Str}{qual:Str}{scope:Scope}{f:Addr}{cd:Value}{A:Around}{outer:List Env}{s s1:Shared}{H:Hp}{E:XK}{us:List Value}{vs:List V}
  (S:zat N ps scope)(hd:A.handled=none)(e0:zcr P w K mg base A outer s H)(hl:vs.length=ps.length)(r:zay vs us)
  (x:InCallC s s.heap.objs.size (bindL (envOfC qual scope s.heap.objs.size f cd).kindOf (ps.zip us) λ_=>none) (cellsFrom (s.heap.objs.size+1) scope.names []) (bindC (envOfC qual scope s.heap.objs.size f cd).kindOf (ps.zip us) λ_=>none) s1):
  Inv (zdW CX P w K mg base N qual scope f cd A outer s H E) [] (zci N vs) H s1:=by
 have hpl:ps.length≤N.length:=by have:=congrArg List.length S.pre; rw[Vaj] at this; omega
 obtain⟨h1,tk,rfl,hk⟩:=x.done
 have noA:∀b:Addr,b ∉ (zdW CX P w K mg base N qual scope f cd A outer s H E).ex:=λb z=>absurd (show b∈([]:List Addr) from z) (by simp)
 refine⟨⟨e0.mod,S.kind,rfl,rfl,Vaa _,λy z c h1 h2=>?_,λy hy=>?_,λy c _ h=>?_,λ_=>hd,Around.frames_deeper e0.frames,.inr ⟨rfl,rfl⟩,λb z=>absurd z (noA b),e0.bs,e0.bsz,λb _ _=>noA b,λb z=>absurd z (noA b),e0.funs,e0.frf⟩,
  rfl,e0.bare,Un.kept hk,⟨_,x.toInCall.ns,λi y v h1 h2 h3=>?_⟩,λy c h=>⟨_,x.cell y c h⟩,e0.hok.fresh (Vaa _),λy c h=>?_,λp hp=>absurd (show p∈([]:List (Addr×Obj)) from hp) (by simp),e0.hok.kept hk,?_⟩
 ·exact name_of_addr x.apart (PySem.mem_of_lookup h1) (PySem.mem_of_lookup h2)
 ·have hy:scope.names.lookup y=some .cell∨scope.names.lookup y=some .free:=hy
  rcases hy with hy | hy
  ·exact zo5 hy
  ·exact absurd rfl (S.nofree _ (PySem.mem_of_lookup hy))
 ·exact VaY (x.above y c (PySem.mem_of_lookup h))
 ·have hi:i<vs.length:=by
   unfold zci at h2
   by_cases hi:i<vs.length
   ·exact hi
   ·rw[VaM (by simpa using hi)] at h2
    rw[List.getElem?_replicate] at h2
    split at h2 <;> cases h2
  have ha:vs[i]?=some v:=by
   unfold zci at h2
   rw[Vak (by simpa using hi),Val] at h2
   cases e:vs[i]? with
   | none=>rw[e] at h2; cases h2
   | some a=>rw[e] at h2; cases h2; rfl
  obtain⟨u,hu,rv⟩:=r.get ha
  have hp:ps[i]?=some y:=by
   rw[← S.pre,List.getElem?_take_of_lt (by omega)]; exact h1
  have ndP:ps.Nodup:=by rw[← S.pre]; exact S.nd.sublist (List.take_sublist _ _)
  refine⟨u,rv,?_⟩
  rcases S.par y (Vau hp) with k | k
  ·exact .inl ⟨k,zqP ndP hp hu k⟩
  ·obtain⟨c,e⟩:=zo5 (n:=s.heap.objs.size+1) k
   refine .inr ⟨.inl k,c,e,?_⟩
   have q:=x.cell y c e
   rw[zqo ndP hp hu (by show scope.names.lookup y≠_; rw[k]; decide)] at q
   exact q
 ·exact e0.hok.fresh (VaY (x.above y c (PySem.mem_of_lookup h)))
 ·unfold zci
  show _=N.length
  rw[Vap,Vac,List.length_replicate]
  omega
theorem zpg {CX:CXT}{P:Program}{w:World}{K:PySem.W.Frag}{mg:Str→Option Value}{base:Heap}{k:Nat}{f:Addr}{name qual:Str}{params:Arguments}{body:List Stmt}{scope:Scope}{dV kV doc pm cdv ct oc:Value}{an od:Option Addr}
  {osl:Array (Option Value)}{N ps:List Str}{sp:Sp}(lk:K.lookup f=some ⟨oc,od,.func (PySem.W.fnOf name qual params body scope dV kV doc pm an cdv ct),osl⟩)(hcd:PySem.W.codeIn K cdv qual=true)(S:zat N ps scope)
  (len:∀vs H Q E,sp vs H Q E→vs.length=ps.length)
  (hbody:∀(A:Around) (outer:List Env) (s:Shared) (H:Hp) (vs:List V) (Q:VK) (E:XK),zaN k (A.deeper (envOfC qual scope s.heap.objs.size f cdv))→sp vs H Q E→
   ∃t,PSs (zdW CX P w K mg base N qual scope f cdv A outer s H E) body t∧t { nx:=λ_ H'=>Q .non H',rt:=Q } (zci N vs) H):
  za1 P w K mg base CX (k+1) f (PySem.W.fnOf name qual params body scope dV kV doc pm an cdv ct) ps sp:=by
 refine⟨len,λA outer s H args us vs Q E hr e0 hb r hsp=>?_⟩
 have hl:=len _ _ _ _ hsp
 have KX:K.In s.heap:=e0.mod.kin.keeps λb o e=>(e0.bs b o e).1
 have lim:s.heap.NoLimit:=e0.mod.nolimit.keeps λb o e=>(e0.bs b o e).1
 have hkind:∀y∈ps.zip us,scope.names.lookup y.1=some .local∨(scope.names.lookup y.1=some .cell∧((cellsFrom (s.heap.objs.size+1) scope.names []).lookup y.1).isSome=true):=λ⟨n,v⟩ hy=>by
  rcases S.par n (List.of_mem_zip hy).1 with q | q
  ·exact .inl q
  ·exact .inr ⟨q,PySem.W.cellsFrom_some _ _ _ (.inl q)⟩
 refine codeAny_call_function hr.depth (KX _ _ lk) rfl S.co S.gen rfl (PySem.W.codeRec_of KX hcd) (hb _ _ _ _ ?_)
 refine wpAny_newFunctionEnv_cells S.kind hkind λenv he s1 x=>?_
 subst he
 refine⟨lim.keeps x.toInCall.keep,codeAny_func ?_⟩
 obtain⟨t,ht,hq⟩:=hbody A outer s H vs Q E (hr.deeper _) hsp
 have I:Inv (zdW CX P w K mg base N qual scope f cdv A outer s H E) [] (zci N vs) H s1:=zuV S hr.hd e0 hl r x
 refine wpAny_mono (ht [] s1 (zci N vs) H _ I hq) (λfl s' hs=>?_) λe s' hs=>hs
 have fin:∀ {σ':St} {H':Hp} {v:V} {u:Value},Inv (zdW CX P w K mg base N qual scope f cdv A outer s H E) [] σ' H' s'→zav v u→Q v H'→CE outer P w H s Q u s':=
  λ{σ' H' v u} J rv q=>⟨v,H',J.os,J.bare,J.base,J.hok,rv,q⟩
 cases fl with
 | ret u=>
  obtain⟨v,σ',H',J,rv,q⟩:=hs
  exact fin J rv q
 | next=>
  obtain⟨σ',H',J,q⟩:=hs
  exact fin (v:=V.non) (u:=Value.none) J rfl q
 | brk=>
  obtain⟨_,_,_,q⟩:=hs
  exact False.elim q
 | cont=>
  obtain⟨_,_,_,q⟩:=hs
  exact False.elim q
end L2
namespace L2
open PySem PySem.Spec PyProof.Rows
section
variable {X:Cx}{x:Str}{p pos:Pos}{e:Expr}{es:List Expr}{t:TA}{id T:String}{r:List V→Hp→VK→Prop}
def tCB (r:List V→Hp→VK→Prop)(t:TA):TE:=λσ H Q=>t σ H λvs H1=>r vs H1 Q
theorem zn0 (hc:zbc X (.builtin id) r)(hg:Gl X x)(hm:X.mg x=none)(hv:bootBuiltins x=some (.builtin id))(ha:PA X (e::es) t)(hn:x≠"__name__":=by decide)(hdb:(x==("__debug__":Str))=false:=by decide)
  (he:starEach (e::es) X.env=(false,eval e X.env)::starEach es X.env:=by rfl)(hpl:(backTo pos (starEach es X.env)).any (·.1)=false:=by rfl):PE X (.Call (.Name x p) (e::es) [] pos) (tCB r t):=by
 intro pins s σ H Q I h
 refine wpAny_Call_Name_kw (zfe I hg hm hv ?_ hn hdb)
 exact PyProof.Rows.callWith_builtin1 (thn (ha pos pins s σ H _ I h) λus s1 ⟨vs,H1,I1,r1,q1⟩=>hc pins s1 σ H1 vs us Q I1 r1 q1) he hpl
theorem zvW (hc:zbc X (.type T) r)(hg:Gl X x)(hm:X.mg x=none)(hv:bootBuiltins x=some (.type T))(ha:PA X (e::es) t)(hn:x≠"__name__":=by decide)(hdb:(x==("__debug__":Str))=false:=by decide)
  (he:starEach (e::es) X.env=(false,eval e X.env)::starEach es X.env:=by rfl)(hpl:(backTo pos (starEach es X.env)).any (·.1)=false:=by rfl):PE X (.Call (.Name x p) (e::es) [] pos) (tCB r t):=by
 intro pins s σ H Q I h
 refine wpAny_Call_Name_kw (zfe I hg hm hv ?_ hn hdb)
 exact PyProof.Rows.callWith_type1 (thn (ha pos pins s σ H _ I h) λus s1 ⟨vs,H1,I1,r1,q1⟩=>hc pins s1 σ H1 vs us Q I1 r1 q1) he hpl
end
end L2
namespace HT
open PySem PyProof.Rows
section
open PySem.SeqAt
open PySem.AutoSeq1 (wpAny_loadPart')
open PySem.MeetsSeq PySem.MeetsSeq2 PySem.MeetsSeq3
end
section
variable {prog:Program}{w:World}{A:Around}{E:Value→Shared→Prop}{s:Shared}
def sIx (n d:Nat):Option Int→Nat
 | none=>d
 | some v=>if v<0 then (v+(n:Int)).toNat else min v.toNat n
theorem sIx_none (n d:Nat):sIx n d none=d:=rfl
theorem sIx_nat (n d k:Nat):sIx n d (some (k:Int))=min k n:=by
 show (if (k:Int)<0 then ((k:Int)+(n:Int)).toNat else min (k:Int).toNat n)=min k n
 rw[if_neg (by omega),Vae]
end
end HT
namespace L2
open PySem PySem.Spec PyProof.Rows
abbrev TO:=St→Hp→(Option Int→Hp→Prop)→Prop
def PO (X:Cx)(e:Option Expr)(t:TO):Prop:=
 ∀(pins:List (Addr×Obj)) (s:Shared) (σ:St) (H:Hp) (Q:Option Int→Hp→Prop),Inv X pins σ H s→t σ H Q→
  wpAny (model X.prog X.w) X.A (evalPart e X.env) (λu s'=>∃o H',Inv X pins σ H' s'∧IsPart u o∧Q o H') X.xe s
def zvN:TO:=λ_ H Q=>Q none H
def tPart (t:TE):TO:=λσ H Q=>t σ H λx H1=>∃i,x=.int i∧Q (some i) H1
section
variable {X:Cx}{e:Expr}{te:TE}{lo hi:Option Expr}{tl th:TO}{pos p2:Pos}
theorem zsV:PO X none zvN:=by
 intro pins s σ H Q I h
 rw[evalPart_none]
 exact wpAny_pure ⟨none,H,I,.none,h⟩
theorem zxZ (h:PE X e te):PO X (some e) (tPart te):=by
 intro pins s σ H Q I hw
 rw[evalPart_some]
 refine thn (h pins s σ H _ I hw) λu s1 ⟨x,H1,I1,r1,q1⟩=>?_
 obtain⟨i,rfl,q⟩:=q1
 obtain⟨t,rfl⟩:=r1
 exact⟨some i,H1,I1,.int i t,q⟩
def SlR (X:Cx)(r:V→Option Int→Option Int→Hp→VK→Prop):Prop:=
 ∀(pins:List (Addr×Obj)) (s:Shared) (σ:St) (H:Hp) (x:V) (v vl vu:Value) (lo hi:Option Int) (sl:Addr) (Q:VK),Inv X pins σ H s→zav x v→s.heap.IsSliceOf sl vl vu .none→IsPart vl lo→IsPart vu hi→r x lo hi H Q→
  ∃T id,typeLookup (.type T) "__getitem__"=pure (some (.builtin id))∧s.TypeIs v T∧wpAny (model X.prog X.w) X.A (getItem v (.ref sl)) (EP X pins σ Q) X.xe s
theorem SlR.or {r r':V→Option Int→Option Int→Hp→VK→Prop}(h:SlR X r)(h':SlR X r'):SlR X (λx lo hi H Q=>r x lo hi H Q∨r' x lo hi H Q):=by
 intro pins s σ H x v vl vu lo hi sl Q I rx hs pl pu q
 rcases q with q | q
 ·exact h pins s σ H x v vl vu lo hi sl Q I rx hs pl pu q
 ·exact h' pins s σ H x v vl vu lo hi sl Q I rx hs pl pu q
def tSl (r:V→Option Int→Option Int→Hp→VK→Prop)(te:TE)(tl th:TO):TE:=λσ H Q=>te σ H λx H1=>tl σ H1 λl H2=>th σ H2 λu H3=>r x l u H3 Q
theorem zvc {r:V→Option Int→Option Int→Hp→VK→Prop}(hr:SlR X r)(he:PE X e te)(hl:PO X lo tl)(hu:PO X hi th):PE X (.Subscript e (.Slice lo hi none p2) pos) (tSl r te tl th):=by
 intro pins s σ H Q I h
 refine Subscript_ (thn (he pins s σ H _ I h) λv s1 ⟨x,H1,I1,r1,q1⟩=>?_)
 refine wpAny_Slice (thn (hl pins s1 σ H1 _ I1 q1) λvl s2 ⟨l,H2,I2,pl,q2⟩=>thn (hu pins s2 σ H2 _ I2 q2) λvu s3 ⟨u,H3,I3,pu,q3⟩=>?_)
 rw[evalPart_none]
 refine wpAny_pure ?_
 have I4:Inv X pins σ H3 { s3 with heap:=s3.heap.push { cls:=.type "slice",data:=.fields #[vl,vu,.none] } }:=I3.kept (t':=s3.toks) λb ob q=>Heap.get?_push_of_some _ q
 obtain⟨T,id,hT,ht,hg⟩:=hr pins { s3 with heap:=s3.heap.push { cls:=.type "slice",data:=.fields #[vl,vu,.none] } } σ H3 x v vl vu l u s3.heap.objs.size Q I4 r1 (Heap.IsSliceOf.new ..) pl pu q3
 show wpAny (model X.prog X.w) X.A (subscriptTail e (.Slice lo hi none p2) v (.ref s3.heap.objs.size)) (EP X pins σ Q) X.xe { s3 with heap:=s3.heap.push { cls:=.type "slice",data:=.fields #[vl,vu,.none] } }
 exact tail_any (ops:=[.ref s3.heap.objs.size,v]) ht hT hg (by with_unfolding_all rfl)
def zee (xs:List V)(lo hi:Option Int):List V:=(xs.drop (HT.sIx xs.length 0 lo)).take (HT.sIx xs.length xs.length hi-HT.sIx xs.length 0 lo)
theorem zvg (xs:List V)(lo hi:Option Int):(zee xs lo hi).length≤xs.length:=by
 unfold zee
 rw[Vaj,List.length_drop]
 omega
end
end L2
namespace L2
open PySem PySem.Spec PyProof.Rows
def ixN (n:Nat)(i:Int):Option Nat:=if 0≤i then (if i<n then some i.toNat else none) else if -(n:Int)≤i then some (i+n).toNat else none
def atI {α:Type}(xs:List α)(i:Int):Option α:=(ixN xs.length i).bind λj=>xs[j]?
theorem zpW {n:Nat}{i:Int}{j:Nat}(h:ixN n i=some j):seqIndex? i n=some j∧j<n∧-(n:Int)≤i∧i<n:=by
 unfold ixN at h
 by_cases h0:0≤i
 ·rw[if_pos h0] at h
  by_cases h1:i<n
  ·rw[if_pos h1] at h
   have e:i.toNat=j:=Option.some.inj h
   exact⟨by rw[seqIndex_of h0 h1,e],by omega,by omega,h1⟩
  ·rw[if_neg h1] at h; cases h
 ·rw[if_neg h0] at h
  by_cases h1:-(n:Int)≤i
  ·rw[if_pos h1] at h
   have e:(i+n).toNat=j:=Option.some.inj h
   exact⟨by rw[seqIndex_neg (by omega) h1,e],by omega,h1,by omega⟩
  ·rw[if_neg h1] at h; cases h
theorem zpF {α:Type}{xs:List α}{i:Int}{v:α}(h:atI xs i=some v):∃j,seqIndex? i xs.length=some j∧xs[j]?=some v∧j<xs.length∧-(xs.length:Int)≤i∧i<xs.length:=by
 unfold atI at h
 cases e:ixN xs.length i with
 | none=>rw[e] at h; cases h
 | some j=>
  rw[e] at h
  obtain⟨h1,h2,h3,h4⟩:=zpW e
  exact⟨j,h1,h,h2,h3,h4⟩
theorem zjO {α:Type}{xs:List α}{j:Nat}{v:α}(h:xs[j]?=some v):atI xs (j:Int)=some v:=by
 have hj:j<xs.length:=(Vab.mp h).1
 have e:ixN xs.length (j:Int)=some j:=by
  unfold ixN
  rw[if_pos (by omega),if_pos (by omega)]; simp
 unfold atI; rw[e]; exact h
def znC (b:Expr):Prop:=∀o i,subscripted b false o i=operate [o,i] (getItem o i)
def IxR (X:Cx)(r:R2):Prop:=
 ∀(value slice:Expr) (pins:List (Addr×Obj)) (s:Shared) (σ:St) (H:Hp) (x y:V) (v u:Value) (Q:VK),Inv X pins σ H s→zav x v→zav y u→r x y H Q→
  subscripted slice false v u=operate [v,u] (getItem v u)→wpAny (model X.prog X.w) X.A (subscriptTail value slice v u) (EP X pins σ Q) X.xe s
def MtR (X:Cx)(id:String)(r:V→List V→Hp→VK→Prop):Prop:=
 ∀(pins:List (Addr×Obj)) (s:Shared) (σ:St) (H:Hp) (x:V) (xs:List V) (v:Value) (us:List Value) (Q:VK),Inv X pins σ H s→zav x v→zay xs us→r x xs H Q→
  wpAny (model X.prog X.w) X.A (call (.builtin id) (v::us)) (EP X pins σ Q) X.xe s
section
variable {X:Cx}{a b:Expr}{ta tb:TE}{pos:Pos}
theorem IxR.or {r r':R2}(h:IxR X r)(h':IxR X r'):IxR X (λx y H Q=>r x y H Q∨r' x y H Q):=by
 intro value slice pins s σ H x y v u Q I rx ry q hs
 rcases q with q | q
 ·exact h value slice pins s σ H x y v u Q I rx ry q hs
 ·exact h' value slice pins s σ H x y v u Q I rx ry q hs
theorem MtR.or {id:String}{r r':V→List V→Hp→VK→Prop}(h:MtR X id r)(h':MtR X id r'):MtR X id (λx xs H Q=>r x xs H Q∨r' x xs H Q):=by
 intro pins s σ H x xs v us Q I rx rs q
 rcases q with q | q
 ·exact h pins s σ H x xs v us Q I rx rs q
 ·exact h' pins s σ H x xs v us Q I rx rs q
theorem pe_ix {r:R2}(hr:IxR X r)(ha:PE X a ta)(hb:PE X b tb)(hs:znC b):PE X (.Subscript a b pos) (tOp r ta tb):=by
 intro pins s σ H Q I h
 exact Subscript_ (binT ha hb I h λv u s2 x y H2 I2 rx ry q=>hr a b pins s2 σ H2 x y v u Q I2 rx ry q (hs _ _))
def rIxL (K:PySem.W.Frag):R2:=λx y H Q=>∃p xs i v,x=.ref p∧y=.int i∧SqL K H p xs∧atI xs i=some v∧Q v H
def rIxT (K:PySem.W.Frag):R2:=λx y H Q=>∃p xs i v,x=.ref p∧y=.int i∧SqT K H p xs∧atI xs i=some v∧Q v H
theorem zuC:IxR X (rIxL X.K):=by
 intro value slice pins s σ H x y v u Q I rx ry h hs
 obtain⟨p,xs,i,z,rfl,rfl,hq,he,q⟩:=h
 cases rx
 obtain⟨t,rfl⟩:=ry
 obtain⟨its,r,pl,hz⟩:=I.list hq
 obtain⟨j,h1,h2,h3,h4,h5⟩:=zpF he
 obtain⟨w,ew,rw'⟩:=r.get h2
 have hl:=r.length
 have hn:=zhS
 have fin:EP X pins σ Q w s:=⟨z,H,I,rw',q⟩
 by_cases h0:0≤i
 ·have hj:i.toNat=j:=by
   rw[seqIndex_of h0 h5] at h1
   exact Option.some.inj h1
  exact item_listR pl.isList h0 (by omega) (by rw[hj]; simpa using ew) fin hs
 ·have hj:(i+(its.toArray.size:Int)).toNat=j:=by
   rw[seqIndex_neg (by omega) h4] at h1
   rw[Vai,← hl]
   exact Option.some.inj h1
  exact subscriptTail_builtinR (x:=w) pl.isList.typeIs slot_list_getitem.lookup
   (wpAny_getItem_list_neg (Q:=λr s'=>r=w∧EP X pins σ Q r s') pl.isList (by omega) (by rw[Vai] <;> omega) (by omega) (by rw[hj]; simpa using ew) ⟨rfl,fin⟩) hs
theorem zvt:IxR X (rIxT X.K):=by
 intro value slice pins s σ H x y v u Q I rx ry h hs
 obtain⟨p,xs,i,z,rfl,rfl,hq,he,q⟩:=h
 cases rx
 obtain⟨t,rfl⟩:=ry
 obtain⟨its,r,pl,hz⟩:=I.tuple hq
 obtain⟨j,h1,h2,h3,h4,h5⟩:=zpF he
 obtain⟨w,ew,rw'⟩:=r.get h2
 have hl:=r.length
 have hn:=zhS
 have fin:EP X pins σ Q w s:=⟨z,H,I,rw',q⟩
 exact subscriptTail_builtinR (x:=w) pl.typeIs slot_tuple_getitem.lookup
  (getItem_tuple (j:=j) (Q:=λr s'=>r=w∧EP X pins σ Q r s') pl (by omega) (by omega) (by rw[Vai,← hl]; exact h1) (by simpa using ew) ⟨rfl,fin⟩) hs
theorem zrt (its:List Value)(n j:Nat)(u:Value):Obj.mapSeq (·.setIfInBounds j u) { cls:=.type "list",data:=.seq its.toArray n }={ cls:=.type "list",data:=.seq (its.set j u).toArray n }:=by
 simp[Obj.mapSeq]
theorem Inv.lst {pins:List (Addr×Obj)}{σ:St}{H:Hp}{s:Shared}{p:Addr}{xs:List V}(I:Inv X pins σ H s)(h:H p=some (.lst xs)):
  ∃(its:List Value) (n:Nat),zay xs its∧s.heap.get? p=some { cls:=.type "list",data:=.seq its.toArray n }∧xs.length≤sizeLine:=by
 obtain⟨z,its,n,r,e⟩:=I.hok p _ h
 exact⟨its,n,r,e,z⟩
theorem Inv.lstUpd {pins:List (Addr×Obj)}{σ:St}{H:Hp}{s:Shared}{p:Addr}{xs ys:List V}{its its':List Value}{n n':Nat}{f:Obj→Obj}(I:Inv X pins σ H s)(h:H p=some (.lst xs))
  (ho:s.heap.get? p=some { cls:=.type "list",data:=.seq its.toArray n })(hf:f { cls:=.type "list",data:=.seq its.toArray n }={ cls:=.type "list",data:=.seq its'.toArray n' })(r:zay ys its')(hz:ys.length≤sizeLine)(t:Nat):
  Inv X pins σ (upd H p (.lst ys)) { s with heap:=s.heap.update p f,toks:=t }:=by
 have e:(s.heap.update p f).get? p=some { cls:=.type "list",data:=.seq its'.toArray n' }:=by
  rw[Heap.get?_update_self f ho (by rw[hf] <;> rfl),hf]
 refine I.write (x:=p) (e:=p) (by rw[h]; trivial) (.inl rfl) (λb u hb q=>(Heap.get?_update_other _ _ (Ne.symm hb)).trans q) ⟨_,e⟩ ?_
 exact⟨hz,its',n',r,e⟩
def rSetL:V→V→V→Hp→(Hp→Prop)→Prop:=λo i v H Q=>∃p xs k j,o=.ref p∧i=.int k∧H p=some (.lst xs)∧ixN xs.length k=some j∧Q (upd H p (.lst (xs.set j v)))
theorem zsj:PSet X rSetL:=by
 intro pins s σ H o i v ov iv u Q I ro ri rv h
 obtain⟨p,xs,k,j,rfl,rfl,hp,hj,q⟩:=h
 cases ro
 obtain⟨t,rfl⟩:=ri
 obtain⟨its,n,r,ho,hz⟩:=I.lst hp
 obtain⟨h1,h2,h3,h4⟩:=zpW hj
 have hl:=r.length
 have hn:=zhS
 have I':Inv X pins σ (upd H p (.lst (xs.set j v))) { s with heap:=s.heap.update p (Obj.mapSeq (·.setIfInBounds j u)) }:=
  I.lstUpd hp ho (zrt its n j u) (r.set rv j) (by rw[VaD]; exact hz) s.toks
 by_cases h0:0≤k
 ·have hk:k.toNat=j:=by
   rw[seqIndex_of h0 h4] at h1
   exact Option.some.inj h1
  exact PySem.W.ki_setAt ho h0 (by omega) (by rw[Vai,← hl]; exact h4) (by rw[hk]; exact⟨_,I',q⟩)
 ·have hk:(k+(its.toArray.size:Int)).toNat=j:=by
   rw[seqIndex_neg (by omega) h3] at h1
   rw[Vai,← hl]
   exact Option.some.inj h1
  exact PySem.W.ki_setBack ho (by omega) (by rw[Vai,← hl]; exact h3) (by omega) (by rw[hk]; exact⟨_,I',q⟩)
theorem zxY (lo hi:Option Int)(n:Nat):(sliceBounds lo hi none n).1=((HT.sIx n 0 lo:Nat):Int)∧(sliceBounds lo hi none n).2.1=((HT.sIx n n hi:Nat):Int)∧(sliceBounds lo hi none n).2.2=1:=by
 refine⟨?_,?_,rfl⟩
 ·cases lo with
  | none=>simp[sliceBounds,HT.sIx]
  | some i=>
   simp only[sliceBounds,HT.sIx,Option.getD_none,show (1:Int) > 0 by decide,if_true]
   by_cases h:i<0
   ·simp only[h,if_true] <;> omega
   ·simp only[h,if_false] <;> omega
 ·cases hi with
  | none=>simp[sliceBounds,HT.sIx]
  | some i=>
   simp only[sliceBounds,HT.sIx,Option.getD_none,show (1:Int) > 0 by decide,if_true]
   by_cases h:i<0
   ·simp only[h,if_true] <;> omega
   ·simp only[h,if_false] <;> omega
theorem zsn (its:List Value)(lo hi:Option Int):slicePick its.toArray lo hi none=((its.drop (HT.sIx its.length 0 lo)).take (HT.sIx its.length its.length hi-HT.sIx its.length 0 lo)).toArray:=by
 obtain⟨h1,h2,h3⟩:=zxY lo hi its.toArray.size
 unfold slicePick
 rw[h1,h2,h3]
 simp only[sliceRange_one,pick_run,Vai] <;> rfl
def rSlL (K:PySem.W.Frag):V→Option Int→Option Int→Hp→VK→Prop:=λx lo hi H Q=>∃a xs,x=.ref a∧SqL K H a xs∧∀p,H p=none→Q (.ref p) (upd H p (.lst (zee xs lo hi)))
theorem zrk:SlR X (rSlL X.K):=by
 intro pins s σ H x v vl vu lo hi sl Q I rx hs pl pu h
 obtain⟨a,xs,rfl,hx,q⟩:=h
 cases rx
 obtain⟨its,r,ht,hz⟩:=I.list hx
 have hlen:=r.length
 refine⟨"list",_,slot_list_getitem.lookup,ht.isList.typeIs,?_⟩
 refine wpAny_getItem_list_slice ht.isList hs pl pu .none (by simp) ?_ (by rw[Vai] <;> omega)
 rw[zsn,← hlen]
 refine⟨.ref s.heap.objs.size,_,I.laid (t':=s.toks) (o:=.lst (zee xs lo hi)) (λb ob q=>Heap.get?_push_of_some _ q) (Vaa _) ?_,rfl,q _ (I.hok.fresh (Vaa _))⟩
 exact⟨VaB (zvg xs lo hi) hz,_,0,(r.drop (HT.sIx xs.length 0 lo)).take (HT.sIx xs.length xs.length hi-HT.sIx xs.length 0 lo),Heap.get?_push_size _ rfl⟩
def zk8:V→Bool
 | .non=>true
 | .bl _=>true
 | .int _=>true
 | .str _=>true
 | _=>false
def eqV:V→V→Bool
 | .non,.non=>true
 | .bl a,.bl b=>a==b
 | .bl a,.int b=>(if a then 1 else 0)==b
 | .int a,.bl b=>a==(if b then 1 else 0)
 | .int a,.int b=>a==b
 | .str a,.str b=>a==b
 | _,_=>false
theorem zwv {A:Around}{s:Shared}{y x:V}{u v:Value}(ry:zav y u)(rx:zav x v)(fy:zk8 y=true)(fx:zk8 x=true):SeqAt.EqAt A s u v (eqV y x):=by
 cases y with
 | non=>
  cases ry
  cases x with
  | non=>cases rx; exact SeqAt.EqAt.same _
  | bl b=>cases rx; exact SeqAt.EqAt.none_bool b
  | int b=>obtain⟨t,rfl⟩:=rx; exact SeqAt.EqAt.none_int b t
  | str b=>obtain⟨t,rfl⟩:=rx; exact SeqAt.EqAt.none_str b t
  | _=>exact absurd (show false=true from fx) Vao
 | bl a=>
  cases ry
  cases x with
  | non=>cases rx; exact SeqAt.EqAt.bool_none a
  | bl b=>cases rx; exact SeqAt.EqAt.bool_bool a b
  | int b=>obtain⟨t,rfl⟩:=rx; exact SeqAt.EqAt.bool_int a b t
  | str b=>obtain⟨t,rfl⟩:=rx; exact SeqAt.EqAt.bool_str a b t
  | _=>exact absurd (show false=true from fx) Vao
 | int a=>
  obtain⟨t',rfl⟩:=ry
  cases x with
  | non=>cases rx; exact SeqAt.EqAt.int_none a t'
  | bl b=>cases rx; exact SeqAt.EqAt.int_bool a t' b
  | int b=>obtain⟨t,rfl⟩:=rx; exact SeqAt.EqAt.int_int a t' b t
  | str b=>obtain⟨t,rfl⟩:=rx; exact SeqAt.EqAt.int_str a t' b t
  | _=>exact absurd (show false=true from fx) Vao
 | str a=>
  obtain⟨t',rfl⟩:=ry
  cases x with
  | non=>cases rx; exact SeqAt.EqAt.str_none a t'
  | bl b=>cases rx; exact SeqAt.EqAt.str_bool a t' b
  | int b=>obtain⟨t,rfl⟩:=rx; exact SeqAt.EqAt.str_int a t' b t
  | str b=>obtain⟨t,rfl⟩:=rx; exact SeqAt.EqAt.str_str a t' b t
  | _=>exact absurd (show false=true from fx) Vao
 | _=>exact absurd (show false=true from fy) Vao
theorem zuh:zbc X (.builtin "len") (λxs H Q=>∃p ys,xs=[.ref p]∧(SqL X.K H p ys∨SqT X.K H p ys)∧Q (.int ys.length) H):=by
 intro pins s σ H xs us Q I r h
 obtain⟨p,ys,rfl,hq,q⟩:=h
 obtain⟨u,rfl,rx⟩:=zeb r
 cases rx
 have hn:=zhS
 rcases hq with hq | hq
 ·obtain⟨its,r',pl,hz⟩:=I.list hq
  have hlen:=r'.length
  exact Calls.call_len_list pl.isList (by simp only[Vai] <;> omega) ⟨.int ys.length,H,I.tok _,⟨s.toks+1,by rw[Vai,hlen]⟩,q⟩
 ·obtain⟨its,r',pl,hz⟩:=I.tuple hq
  have hlen:=r'.length
  exact len_tuple pl (by simp only[Vai] <;> omega) ⟨.int ys.length,H,I.tok _,⟨s.toks+1,by rw[Vai,hlen]⟩,q⟩
theorem zbc.or {f:Value}{r r':List V→Hp→VK→Prop}(h:zbc X f r)(h':zbc X f r'):zbc X f (λxs H Q=>r xs H Q∨r' xs H Q):=by
 intro pins s σ H xs us Q I rs q
 rcases q with q | q
 ·exact h pins s σ H xs us Q I rs q
 ·exact h' pins s σ H xs us Q I rs q
theorem zwA:zbc X (.type "list") (λxs H Q=>∃p ys,xs=[.ref p]∧(SqL X.K H p ys∨SqT X.K H p ys)∧∀l,H l=none→Q (.ref l) (upd H l (.lst ys))):=by
 intro pins s σ H xs us Q I r h
 obtain⟨p,ys,rfl,hq,q⟩:=h
 obtain⟨u,rfl,rx⟩:=zeb r
 cases rx
 have fin:∀(its:List Value),zay ys its→ys.length≤sizeLine→∀(h':Heap) (c':Nat),(∀b o',s.heap.get? b=some o'→h'.get? b=some o')→
   h'.get? s.heap.objs.size=some { cls:=.type "list",dict:=none,data:=.seq its.toArray c',slots:=#[] }→EP X pins σ Q (.ref s.heap.objs.size) { s with heap:=h' }:=λits r' hz h' c' kp e=>
  ⟨.ref s.heap.objs.size,_,I.laid (t':=s.toks) kp (Vaa _) (show zbq X.prog X.w _ h' _ (.lst ys) from ⟨hz,its,c',r',e⟩),rfl,q _ (I.hok.fresh (Vaa _))⟩
 rcases hq with hq | hq
 ·obtain⟨its,r',pl,hz⟩:=I.list hq
  have hlen:=r'.length
  obtain⟨o,ho,hc,n,hd⟩:=pl.isList
  exact call_list_seq p (.inl rfl) ho hc hd (λh' c' kp e=>fin its r' hz h' c' kp e) (by simp only[Vai] <;> omega)
 ·obtain⟨its,r',pl,hz⟩:=I.tuple hq
  have hlen:=r'.length
  obtain⟨o,ho,hc,n,hd⟩:=pl
  exact call_list_seq p (.inr rfl) ho hc hd (λh' c' kp e=>fin its r' hz h' c' kp e) (by simp only[Vai] <;> omega)
def tyV (K:PySem.W.Frag)(T:String)(x:V)(H:Hp):Prop:=match x with
 | .str _=>T="str"
 | .int _=>T="int"
 | .ref p=>(T="list"∧∃xs,SqL K H p xs)∨(T="tuple"∧∃o,K.lookup p=some o∧o.cls=.type "tuple"∧o.dict=none)∨
   (T="dict"∧((∃kvs,H p=some (.dK kvs))∨∃kvs,H p=some (.dT kvs)))∨(T="set"∧∃S n,H p=some (.set S n))
 | _=>False
theorem zqh {pins:List (Addr×Obj)}{σ:St}{H:Hp}{s:Shared}{T:String}{x:V}{v:Value}(I:Inv X pins σ H s)(r:zav x v)(ty:tyV X.K T x H):
  s.TypeIs v T∧∀a,v=.ref a→∃ob,s.heap.get? a=some ob∧ob.dict=none:=by
 cases x with
 | str z=>
  obtain⟨t,rfl⟩:=r
  cases (show T="str" from ty)
  exact⟨typeIs_str s z t,λ_ e=>nomatch e⟩
 | int i=>
  obtain⟨t,rfl⟩:=r
  cases (show T="int" from ty)
  exact⟨typeIs_int s i t,λ_ e=>nomatch e⟩
 | ref p=>
  cases r
  rcases ty with ⟨rfl,xs,hq⟩ | ⟨rfl,o,hk,hc,hd⟩ | ⟨rfl,hk⟩ | ⟨rfl,S,n,hk⟩
  ·obtain⟨its,_,pl,_⟩:=I.list hq
   refine⟨pl.isList.typeIs,λa e=>?_⟩
   cases e
   obtain⟨o,n,e,c,hd,_⟩:=pl
   exact⟨o,e,hd⟩
  ·refine⟨⟨o,I.kIn p o hk,hc⟩,λa e=>?_⟩
   cases e
   exact⟨o,I.kIn _ o hk,hd⟩
  ·have z:∃o,s.heap.get? p=some o∧o.ExactDict:=by
    rcases hk with ⟨kvs,hk⟩ | ⟨kvs,hk⟩
    ·obtain⟨_,_,_,_,o,_,_,e,ex,_⟩:=I.hok p _ hk
     exact⟨o,e,ex⟩
    ·obtain⟨_,_,_,_,o,_,_,e,ex,_⟩:=I.hok p _ hk
     exact⟨o,e,ex⟩
   obtain⟨o,e,ex⟩:=z
   refine⟨⟨o,e,ex.1⟩,λa e2=>?_⟩
   cases e2
   exact⟨o,e,ex.2.1⟩
  ·obtain⟨o,_,_,_,e,ex,_⟩:=I.hok p _ hk
   refine⟨⟨o,e,ex.1⟩,λa e2=>?_⟩
   cases e2
   exact⟨o,e,ex.2.1⟩
 | _=>exact False.elim ty
def tBM0 (K:PySem.W.Frag)(T:String)(r:V→List V→Hp→VK→Prop)(to:TE):TE:=λσ H Q=>to σ H λx H1=>tyV K T x H1∧r x [] H1 Q
def tBM (K:PySem.W.Frag)(T:String)(r:V→List V→Hp→VK→Prop)(to:TE)(t:TA):TE:=λσ H Q=>to σ H λx H1=>tyV K T x H1∧t σ H1 λxs H2=>r x xs H2 Q
variable {o e:Expr}{es:List Expr}{to:TE}{t:TA}{name:Str}{apos cpos:Pos}{T id:String}{r:V→List V→Hp→VK→Prop}
theorem zu6 (pa:PlainAttrs T)(slot:Slot T name id)(hty:typeOf (.builtin id)=pure (.type "method_descriptor"))(hm:MtR X id r)(ho:PE X o to)
  (hbase:attributeBase o name X.env (eval o X.env)=eval o X.env:=by rfl)(hline:(apos.endLine==cpos.line)=true:=by rfl):PE X (.Call (.Attribute o name apos) [] [] cpos) (tBM0 X.K T r to):=by
 intro pins s σ H Q I h
 refine wpAny_Call_method0_late hbase hline (thn (ho pins s σ H _ I h) λv s1 ⟨x,H1,I1,r1,ty,q1⟩=>?_)
 obtain⟨h1,h2⟩:=zqh I1 r1 ty
 exact⟨T,id,pa,slot,hty,h1,h2,Calls.callWith_builtin rfl (PySem.evalArgs_none (hm pins s1 σ H1 x [] v [] Q I1 r1 .nil q1))⟩
theorem zpC (pa:PlainAttrs T)(slot:Slot T name id)(hty:typeOf (.builtin id)=pure (.type "method_descriptor"))(hm:MtR X id r)(ho:PE X o to)(ha:PA X (e::es) t)
  (hbase:attributeBase o name X.env (eval o X.env)=eval o X.env:=by rfl)
  (hfew:((backTo cpos (starEach (e::es) X.env)).all (λx=>!x.1)&&(backToKw cpos (keywordEach [] X.env)).all (λx=>x.1.isSome)
  &&decide ((e::es).length+([]:List Keyword).length+(if ([]:List Keyword).isEmpty then 0 else 1)<30))=true:=by rfl)
  (hline:(apos.endLine==cpos.line)=true:=by rfl)(hs:starEach (e::es) X.env=(false,eval e X.env)::starEach es X.env:=by rfl)(hplain:(backTo cpos (starEach es X.env)).any (·.1)=false:=by rfl):
  PE X (.Call (.Attribute o name apos) (e::es) [] cpos) (tBM X.K T r to t):=by
 intro pins s σ H Q I h
 refine wpAny_Call_method_late hbase hfew hline rfl (thn (ho pins s σ H _ I h) λv s1 ⟨x,H1,I1,r1,ty,q1⟩=>?_)
 obtain⟨h1,h2⟩:=zqh I1 r1 ty
 refine⟨T,id,pa,slot,hty,h1,h2,?_⟩
 have hA:=ha cpos pins s1 σ H1 _ I1 q1
 rw[hs] at hA ⊢
 refine Calls.callWith_builtin (by show (false||(backTo cpos (starEach es X.env)).any (·.1))=false; rw[hplain] <;> rfl) (Calls.evalArgs_plain ?_)
 exact thn hA λus s2 ⟨vs,H2,I2,r2,q2⟩=>hm pins s2 σ H2 x vs v us Q I2 r1 r2 q2
end
end L2
namespace L2
open PySem PySem.Spec PyProof.Rows
def MtM (X:Cx)(id:String)(r:V→List V→Hp→VK→Prop):Prop:=
 ∀(pins:List (Addr×Obj)) (s:Shared) (σ:St) (H:Hp) (x:V) (xs:List V) (v:Value) (us:List Value) (Q:VK),Inv X pins σ H s→zav x v→zay xs us→r x xs H Q→
  wpAny (model X.prog X.w) X.A (call (.builtin id) (v::us)) (EP X pins σ Q) X.xe s
theorem zay.one:∀ {x:V} {us:List Value},zay [x] us→∃u,us=[u]∧zav x u
 | _,_,.cons r .nil=>⟨_,rfl,r⟩
theorem zay.two:∀ {x y:V} {us:List Value},zay [x,y] us→∃u v,us=[u,v]∧zav x u∧zav y v
 | _,_,_,.cons r (.cons q .nil)=>⟨_,_,rfl,r,q⟩
theorem zay.zero:∀ {us:List Value},zay [] us→us=[]
 | _,.nil=>rfl
section
variable {X:Cx}{pins:List (Addr×Obj)}{σ:St}{H:Hp}{s:Shared}{l b:Addr}{xs ys zs:List V}
theorem Inv.lset {its its':List Value}{n:Nat}{f:Array Value→Array Value}{t':Nat}(I:Inv X pins σ H s)(hH:H l=some (.lst xs))
  (e:s.heap.get? l=some { cls:=.type "list",data:=.seq its.toArray n })(hf:f its.toArray=its'.toArray)(hv:zay ys its')(hz:ys.length≤sizeLine):
  Inv X pins σ (upd H l (.lst ys)) { s with heap:=s.heap.update l (Obj.mapSeq f),toks:=t' }:=by
 have q:=PySem.IsL.update e f
 rw[hf] at q
 refine I.write (x:=l) (e:=l) (by rw[hH]; exact trivial) (.inl rfl) (λb' u hb hu=>(Heap.get?_update_other s.heap (Obj.mapSeq f) (Ne.symm hb)).trans hu) ⟨_,q⟩ ?_
 exact⟨hz,its',_,hv,q⟩
theorem Inv.lnew {its:List Value}{t':Nat}(I:Inv X pins σ H s)(hv:zay ys its)(hz:ys.length≤sizeLine):
  Inv X pins σ (upd H s.heap.objs.size (.lst ys)) { s with heap:=s.heap.push { cls:=.type "list",data:=.seq its.toArray },toks:=t' }:=
 I.laid (λ_ _ q=>Heap.get?_push_of_some _ q) (Vaa _) ⟨hz,its,0,hv,Heap.get?_push_size _ rfl⟩
theorem Inv.fresh (I:Inv X pins σ H s):H s.heap.objs.size=none:=I.hok.fresh (Vaa _)
theorem Inv.lstM (I:Inv X pins σ H s)(hH:H l=some (.lst xs)):xs.length≤sizeLine∧∃(its:List Value) (n:Nat),zay xs its∧xs.length=its.length∧s.heap.get? l=some { cls:=.type "list",data:=.seq its.toArray n }:=by
 obtain⟨z,its,n,r,e⟩:=I.hok l _ hH
 exact⟨z,its,n,r,r.length,e⟩
end
section
variable {X:Cx}
def ztU:V→List V→Hp→VK→Prop:=λx vs H Q=>∃l xs y,x=.ref l∧vs=[y]∧H l=some (.lst xs)∧xs.length<sizeLine∧Q .non (upd H l (.lst (xs++[y])))
theorem zo0:MtM X "list.append" ztU:=by
 intro pins s σ H x vs v us Q I rx rv h
 obtain⟨l,xs,y,rfl,rfl,hH,hz,q⟩:=h
 cases rx
 obtain⟨u,rfl,ru⟩:=rv.one
 obtain⟨z,its,n,r,hl,e⟩:=I.lstM hH
 refine call_meets F.slot_list_append ⟨_,e,rfl⟩ F.entry_list_append (F.args_list_append_2 _ _) (PySem.list_append l its.toArray n u (by rw[Vai]; omega)) ⟨e,?_⟩
 refine⟨.non,_,I.lset (its':=its++[u]) hH e (by simp) (r.append (.cons ru .nil)) ?_,rfl,q⟩
 rw[Vap,List.length_singleton]
 omega
def rCat:R2:=λx y H Q=>∃l b xs zs,x=.ref l∧y=.ref b∧H l=some (.lst xs)∧H b=some (.lst zs)∧xs.length+zs.length≤sizeLine∧∀p,H p=none→Q (.ref p) (upd H p (.lst (xs++zs)))
theorem zrN:OpR X (binaryOp .Add) rCat:=by
 intro pins s σ H x y v u Q I rx ry h
 obtain⟨l,b,xs,zs,rfl,rfl,hH,hB,hz,q⟩:=h
 cases rx
 cases ry
 obtain⟨z,its,n,r,hl,e⟩:=I.lstM hH
 obtain⟨z2,its2,n2,r2,hl2,e2⟩:=I.lstM hB
 refine PySem.P.add_list e e2 ?_ (by rw[Vai,Vai]; omega)
 have ea:its.toArray++its2.toArray=(its++its2).toArray:=by simp
 rw[ea]
 exact⟨.ref _,_,I.lnew (t':=s.toks) (r.append r2) (by rw[Vap]; omega),rfl,q _ I.fresh⟩
end
section
variable {prog:Program}{w:World}{A:Around}{E:Value→Shared→Prop}{s:Shared}
set_option maxRecDepth 100000 in
end
section
variable {X:Cx}
end
end L2
namespace Att
open PySem PySem.W PySem.Calls PyProof.Rows
theorem zuA {P:Params}{h:Heap}:∀(ns:List Int) (vs:List Value),WellAll P h vs (ns.map WData.int)→IntsAre vs ns:=by
 intro ns
 induction ns with
 | nil=>
  intro vs w
  rw[List.map_nil] at w
  cases w
  exact .nil
 | cons n ns ih=>
  intro vs w
  rw[Vat] at w
  cases w with
  | cons a b=>
   cases a
   exact .cons _ _ (ih _ b)
theorem zrR {l:OpenLaw}{n:Nat}(hn:l.most=some n){P:Params}{h:Heap}{args:List WData}{vals:List Value}
  (hpre:l.row.toRowW.claim.pre args=true)(hwl:WellAll P h vals args):
  ∃a vs ns,vals=[Value.ref a]∧args=[WData.list (ns.map WData.int)]∧h.get? a=some { cls:=.type "list",data:=.seq vs.toArray }∧IntsAre vs ns∧ns.length≤n:=by
 have hsh:WShape.hasAll [] args [.list .int]=true:=(pre_splitW hpre).1
 have hc:l.pre.holds [] { args:=args }=true:=(pre_splitW hpre).2
 obtain⟨d,r,rfl,h1,h2⟩:=hasAllW_cons hsh
 obtain rfl:=hasAllW_nil h2
 obtain⟨xs,rfl,h3⟩:=hasW_list h1
 obtain⟨ns,rfl⟩:=items_int h3
 have hlen:ns.length≤n:=by
  unfold OpenLaw.pre at hc
  have h4:(WTm.not (.lt (.lit (.int (n:Int))) (.len (.arg 0)))).holds [] { args:=[.list (ns.map .int)] }=true:=by
   have h4:=(holds_andW hc).1
   rw[hn] at h4
   exact h4
  have h5:=condW_of h4 (w_not (w_lt w_lit (w_len_list (w_arg rfl))))
  rw[Vac] at h5
  refine Nat.le_of_not_lt λq=>?_
  have q':(n:Int)<((ns.length:Nat):Int):=by omega
  first
   | (rw[decide_eq_true q'] at h5; exact absurd h5 (by decide))
   | (simp at h5; omega)
 cases hwl with
 | cons w1 w2=>
  cases w2
  cases w1 with
  | list ho hall=>exact⟨_,_,ns,rfl,rfl,ho,zuA ns _ hall,hlen⟩
theorem zxA (l:OpenLaw)(args:List WData):l.row.toRowW.claim.post args (.bool true) args=true:=
 postW_of (r:=l.row.toRowW) (X:=(true==true))
  (show WShape.has [] (.bool true) .bool=true by first | rfl | decide | simp[WShape.has,WShape.arms,WShape.armsAll])
  (show (WTm.eq .res (.lit (.bool true))).value [] { args:=args,res:=some (.bool true),after:=args }=some (.bool (true==true)) from w_eq_bool (w_res rfl) w_lit) rfl
theorem attach_call {l:OpenLaw}{n:Nat}{q:Program}{loose:List Str}{XP:(Str→Option Value)→Heap→Prop}{YP:World→Heap→Prop}{d:DefRec}
  (hn:l.most=some n)(hdf:d.params.defaults=[])
  (call:∀(w:World) (s₀ s₁:Shared) (mg mb:Str→Option Value) (fa:Addr) (o:Obj) (pm cd doc:Value) (a:Addr) (vs:List Value) (ns:List Int),
   Ground q loose [] XP w s₀ mg mb s₁.heap→YP w s₁.heap→
   s₁.heap.get? fa=some o→o.data=.func (docDef d.name d.params d.body d.scope pm cd doc)→s₁.heap.CodeRec cd d.name→mg d.name=some (.ref fa)→
   s₁.heap.get? a=some { cls:=.type "list",data:=.seq vs.toArray }→IntsAre vs ns→ns.length≤n→s₁.gens=#[]→
   codeAny (model l.prog w) callerA (.call (.ref fa) ⟨[.ref a],[]⟩) (λr s'=>r=.ok (.ret (.bool true))∧OldK s₁.heap s'.heap∧s'.os=s₁.os∧AllBare s'.gens) s₁):
  WalkO q loose XP YP l.row.toRowW d [] (λf vs=>PySem.call f vs):=by
 intro w s₀ s₁ mg mb G Y fa o pm cd doc dV kV ho hd hcd hD hmg hg args vals as hpre hlay hrd hwl hlo
 obtain rfl:dV=.none:=Dflts.none hD hdf
 obtain rfl:kV=.none:=Dflts.noKw hD
 obtain⟨a,vs,ns,rfl,rfl,hobj,hints,hlen⟩:=zrR hn hpre hwl
 refine enter_call (codeAny_mono (call w s₀ s₁ mg mb fa o pm cd doc a vs ns G Y ho (fd_plain hd) hcd hmg hobj hints hlen hg) λr s' hq=>?_)
 obtain⟨rfl,h2,h3,h4⟩:=hq
 exact⟨.inl ⟨.bool true,.bool true,[],rfl,λ_=>rfl,.bool true,zxA l _,λ_=>⟨List.Pairwise.nil,λ_ hm=>(nomatch hm)⟩⟩,h2,h3,h4⟩
section
variable {prog:Program}{w:World}{A:Around}{E:Value→Shared→Prop}{s:Shared}{K:Frag}
def ledger (h:Heap)(L d:Addr):List (Addr×Obj):=(List.range h.objs.size).filterMap λa=>if a=L∨a=d then none else (h.get? a).map λo=>(a,o)
end
end Att
namespace L2
open PySem PySem.Spec PyProof.Rows
theorem zmd:∀ {vs:List Value} {ns:List Int},IntsAre vs ns→zay (ns.map V.int) vs
 | _,_,.nil=>.nil
 | _,_,.cons n t h=>.cons ⟨t,rfl⟩ (zmd h)
def zgf (H:Hp):Prop:=∀b,H b=none∨∃o xs,H b=some (.frz o (.lst xs))
theorem zrz {P:Program}{w:World}{K:PySem.W.Frag}{mg mb:Str→Option Value}{CX:CXT}{k:Nat}{fa a:Addr}{fd:FuncData}{x:Str}{sp:Sp}{s₁:Shared}{vs:List Value}{ns:List Int}
  (KX:K.In s₁.heap)(hns:s₁.heap.Ns mainGlobals mg)(hb:s₁.heap.Ns builtinsNs mb)(hbb:∀x:Str,x≠"__name__"→mb x=bootBuiltins x)(hlim:s₁.heap.NoLimit)(hg:s₁.gens=#[])
  (ha:s₁.heap.get? a=some { cls:=.type "list",data:=.seq vs.toArray })(hi:IntsAre vs ns)(hl:ns.length≤sizeLine)(hr:zaN k callerA)
  (F:∀base:Heap,K.In base→base.Ns mainGlobals mg→za1 P w K mg base CX k fa fd [x] sp)(hbind:∀(s:Shared) (u:Value),BindsTo s fd ⟨[u],[]⟩ [(x,u)])
  (hsp:∀H:Hp,zgf H→SqL K H a (ns.map V.int)→sp [.ref a] H (λv _=>v=.bl true) λ_ _ _=>False)
  (hCX:∀H e s',CX [] H s₁ (λ_ _ _=>False) e s'→False):
  codeAny (model P w) callerA (.call (.ref fa) ⟨[.ref a],[]⟩) (λr s'=>r=.ok (.ret (.bool true))∧OldK s₁.heap s'.heap∧s'.os=s₁.os∧AllBare s'.gens) s₁:=by
 have rv:=zmd hi
 have lenV:=hi.length
 have core:∀H:Hp,zgf H→SqL K H a (ns.map V.int)→HOk P w H s₁.heap→(∀b,H b≠none→b=a)→(H a≠none→K.lookup a=none)→
   codeAny (model P w) callerA (.call (.ref fa) ⟨[.ref a],[]⟩) (λr s'=>r=.ok (.ret (.bool true))∧OldK s₁.heap s'.heap∧s'.os=s₁.os∧AllBare s'.gens) s₁:=by
  intro H hO hS hok hA hK
  have base_of:∀ {b:Addr} {o:Obj},s₁.heap.get? b=some o→H b=none→(zcV s₁.heap H).get? b=some o:=λe n=>zs5 e n
  have noA:∀ {b:Addr} {o:Obj} {es:Array DictEntry} {ep:Nat},s₁.heap.get? b=some o→o.data=.dict es ep→H b=none:=λ{b o es ep} e d=>by
   cases q:H b with
   | none=>rfl
   | some u=>
    have e':b=a:=hA b (by rw[q]; simp)
    subst e'
    rw[ha] at e; cases e
    have d':Data.seq vs.toArray _=Data.dict es ep:=d
    cases d'
  have nsK:∀ {b:Addr} {m:Str→Option Value},s₁.heap.Ns b m→(zcV s₁.heap H).Ns b m:=λ{b m} ⟨o,es,ep,e,d,r⟩=>⟨o,es,ep,base_of e (noA e d),d,r⟩
  have hKb:K.In (zcV s₁.heap H):=λb o e=>base_of (KX b o e) (by
   cases q:H b with
   | none=>rfl
   | some u=>
    have e':b=a:=hA b (by rw[q]; simp)
    subst e'
    rw[hK (by rw[q]; simp)] at e; cases e)
  have hM:Mod K mg (zcV s₁.heap H):=⟨hKb,nsK hns,⟨mb,nsK hb,hbb⟩,let ⟨mc,h1,h2⟩:=hlim; ⟨mc,nsK h1,h2⟩⟩
  have e0:zcr P w K mg (zcV s₁.heap H) callerA [] s₁ H:=⟨rfl,hM,λb o e=>zwQ e,Nat.le_of_eq (zrW _ _),trivial,λb hb=>absurd (show b∈([]:List Addr) from hb) (by simp),hok,.of_eq hg⟩
  refine codeAny_mono ((F _ hKb (nsK hns)).run callerA [] s₁ H ⟨[.ref a],[]⟩ [.ref a] [.ref a] _ _ hr e0 (hbind s₁ (.ref a)) (.cons rfl .nil) (hsp H hO hS)) λr s' h=>?_
  cases r with
  | error e=>exact(hCX H e s' h).elim
  | ok fl=>
   cases fl with
   | next=>exact False.elim h
   | brk=>exact False.elim h
   | cont=>exact False.elim h
   | ret u=>
    obtain⟨v,H',os,bare,un,hok',r',q⟩:=h
    have q':v=.bl true:=q
    subst q'
    obtain rfl:u=Value.bool true:=r'
    refine⟨rfl,OldK.of_keep λb o e=>?_,os,bare⟩
    cases q:H b with
    | none=>exact un.keep b o e q (by intro z; exact absurd (show b∈([]:List Addr) from z) (by simp)) (by simp)
    | some u=>
     rcases hO b with z | ⟨ob,xs,z⟩
     ·rw[q] at z; cases z
     ·have z2:=un.frzs b ob _ z
      obtain⟨e1,_⟩:=hok b _ z
      obtain⟨e2,_⟩:=hok' b _ z2
      rw[e] at e1; cases e1
      exact e2
 cases hk:K.lookup a with
 | some o=>
  have e:=KX a o hk
  rw[ha] at e
  cases e
  refine core (λ_=>none) (λ_=>.inl rfl) (.inr ⟨_,vs.toArray,_,hk,rfl,rfl,rfl,by rw[Vai,lenV]; exact hl,by simpa using rv⟩) (λb u z=>by have z':(none:Option HO)=some u:=z; cases z') (λb z=>absurd rfl z) λz=>absurd rfl z
 | none=>
  refine core (λb=>if b=a then some (.frz { cls:=.type "list",data:=.seq vs.toArray } (.lst (ns.map V.int))) else none) (λb=>?_) (.inl (.inr ⟨{ cls:=.type "list",data:=.seq vs.toArray },if_pos rfl⟩)) (λb u z=>?_) (λb z=>?_) λ_=>hk
  ·by_cases hb:b=a
   ·exact .inr ⟨_,_,if_pos hb⟩
   ·exact .inl (if_neg hb)
  ·by_cases hb:b=a
   ·have z':=(if_pos hb).symm.trans z
    cases z'
    subst hb
    exact⟨ha,by rw[Vac]; exact hl,vs,_,rv,ha⟩
   ·have z':=(if_neg hb).symm.trans z
    cases z'
  ·by_cases hb:b=a
   ·exact hb
   ·exact absurd (if_neg hb) z
end L2
namespace L2
open PySem PySem.Spec PyProof.Rows
theorem zv3 {l:PySem.W.OpenLaw}{n k:Nat}{q:Program}{loose:List Str}{XP:(Str→Option Value)→Heap→Prop}{YP:World→Heap→Prop}{d:DefRec}{K:Params→PySem.W.Frag}{CX:World→CXT}{sp:World→Sp}{x:Str}
  (hn:l.most=some n)(hn2:n≤sizeLine)(hdf:d.params.defaults=[])(hr:zaN k callerA)
  (hY:∀(w:World) (h:Heap),YP w h→(K w.params).In h)
  (F:∀(w:World) (mg:Str→Option Value) (fa:Addr) (h:Heap),(K w.params).In h→h.Ns mainGlobals mg→mg d.name=some (.ref fa)→
   ∃fd:FuncData,(∀(s:Shared) (u:Value),BindsTo s fd ⟨[u],[]⟩ [(x,u)])∧
    ∀base:Heap,(K w.params).In base→base.Ns mainGlobals mg→za1 l.prog w (K w.params) mg base (CX w) k fa fd [x] (sp w))
  (hsp:∀(w:World) (H:Hp) (a:Addr) (ns:List Int),ns.length≤n→zgf H→SqL (K w.params) H a (ns.map V.int)→sp w [.ref a] H (λv _=>v=.bl true) λ_ _ _=>False)
  (hCX:∀(w:World) (H:Hp) (s:Shared) (e:Value) (s':Shared),CX w [] H s (λ_ _ _=>False) e s'→False):
  PySem.W.WalkO q loose XP YP l.row.toRowW d [] (λf vs=>PySem.call f vs):=by
 refine Att.attach_call hn hdf λw s₀ s₁ mg mb fa o pm cd doc a vs ns G Y ho hd hcd hmg hobj hints hlen hg=>?_
 have KX:=hY w _ Y
 obtain⟨fd,hb,hF⟩:=F w mg fa _ KX G.T.g hmg
 exact zrz KX G.T.g G.T.b G.T.builtins G.T.nolimit hg hobj hints (VaB hlen hn2) hr hF hb (λH hO hS=>hsp w H a ns hlen hO hS) λH e s'=>hCX w H s₁ e s'
end L2
namespace L2
open PySem PySem.Spec PyProof.Rows
abbrev CX0:CXT:=λ_ _ _ _ _ _=>False
structure Fun (K:PySem.W.Frag)(x qual:Str)(st:Stmt)(f:Addr)(fd:FuncData):Prop where
 ex:∃(oc:Value) (od:Option Addr) (kV doc pm:Value) (an:Option Addr) (cdv ct:Value) (osl:Array (Option Value)),
  fd=PySem.W.fnOf x qual (zdJ st) (zcW st) (zaq st) .none kV doc pm an cdv ct∧K.lookup f=some ⟨oc,od,.func fd,osl⟩∧PySem.W.codeIn K cdv qual=true
 kp:PySem.W.keepIn K (.ref f)=true
section
variable {P:Program}{w:World}{K:PySem.W.Frag}{mg:Str→Option Value}{base:Heap}
theorem Fun.ok {x qual:Str}{st:Stmt}{f:Addr}{fd:FuncData}{N ps:List Str}{k:Nat}{sp:Sp}(F:Fun K x qual st f fd)(S:zat N ps (zaq st))(len:∀vs H Q E,sp vs H Q E→vs.length=ps.length)
  (hbody:∀(cdv:Value) (A:Around) (outer:List Env) (s:Shared) (H:Hp) (vs:List V) (Q:VK) (E:XK),zaN k (A.deeper (envOfC qual (zaq st) s.heap.objs.size f cdv))→sp vs H Q E→
   ∃t,PSs (zdW CX0 P w K mg base N qual (zaq st) f cdv A outer s H E).nox (zcW st) t∧t { nx:=λ_ H'=>Q .non H',rt:=Q } (zci N vs) H):za1 P w K mg base CX0 (k+1) f fd ps sp:=by
 obtain⟨oc,od,kV,doc,pm,an,cdv,ct,osl,rfl,lk,hcd⟩:=F.ex
 refine zpg lk hcd S len λA outer s H vs Q E hr hsp=>?_
 obtain⟨t,h,q⟩:=hbody cdv A outer s H vs Q E hr hsp
 exact⟨t,h.nox,q⟩
theorem Fun.binds {x qual:Str}{st:Stmt}{f:Addr}{fd:FuncData}{ps:List Str}(F:Fun K x qual st f fd)
  (h:∀(kV doc pm:Value) (an:Option Addr) (cdv ct:Value) (us:List Value),us.length=ps.length→bindArgs (PySem.W.fnOf x qual (zdJ st) (zcW st) (zaq st) .none kV doc pm an cdv ct) ⟨us,[]⟩=pure (ps.zip us)):zbs K fd ps []:=by
 obtain⟨oc,od,kV,doc,pm,an,cdv,ct,osl,rfl,lk,hcd⟩:=F.ex
 exact .all (h kV doc pm an cdv ct)
theorem ziC {x qual:Str}{st:Stmt}{f:Addr}{oc:Value}{od an:Option Addr}{osl:Array (Option Value)}{kV doc pm cdv ct:Value}(l:K.lookup f=some ⟨oc,od,.func (PySem.W.fnOf x qual (zdJ st) (zcW st) (zaq st) .none kV doc pm an cdv ct),osl⟩)
  (c:PySem.W.codeIn K cdv qual=true)(k:PySem.W.keepIn K (.ref f)=true):Fun K x qual st f (PySem.W.fnOf x qual (zdJ st) (zcW st) (zaq st) .none kV doc pm an cdv ct):=⟨⟨oc,od,kV,doc,pm,an,cdv,ct,osl,rfl,l,c⟩,k⟩
end
theorem zns {n:Nat}(h:n≤1000):n<sizeLine:=Va1 h (by decide)
section
variable {X:Cx}
theorem pv (i:Nat){x:Str}{pos:Pos}(hN:X.N[i]?=some x:=by rfl)(hv:Vis X.env.scope x:=by first | exact Or.inl rfl | exact Or.inr (Or.inl rfl) | exact Or.inr (Or.inr rfl))(hd:(x==("__debug__":Str))=false:=by decide)
  (hcd:(x==("__classdict__":Str))=false:=by decide):PE X (.Name x pos) (tVar i):=zoQ hN hv hd hcd
end
theorem zbE {A B:Prop}(h:B):if false=true then A else B:=by
 rw[if_neg Vao]
 exact h
theorem zcd {A B:Prop}(h:A):if true=true then A else B:=by
 rw[if_pos rfl]
 exact h
theorem zfN {c A B:Prop} [Decidable c] (h1:c→A)(h2:¬ c→B):if c then A else B:=by
 by_cases h:c
 ·rw[if_pos h]
  exact h1 h
 ·rw[if_neg h]
  exact h2 h
def zcA (H H':Hp):Prop:=∀b o,H b=some o→H' b=some o
theorem zcA.refl (H:Hp):zcA H H:=λ_ _ h=>h
theorem zcA.trans {H H1 H2:Hp}(a:zcA H H1)(b:zcA H1 H2):zcA H H2:=λc o h=>b c o (a c o h)
theorem zcA.free {H H':Hp}(e:zcA H H'){l:Addr}(h:H' l=Option.none):H l=Option.none:=by
 cases q:H l with
 | none=>rfl
 | some o=>
  rw[e l o q] at h
  cases h
theorem zcA.seq {K:PySem.W.Frag}{H H':Hp}{a:Addr}{xs:List V}(e:zcA H H')(h:SqL K H a xs):SqL K H' a xs:=by
 rcases h with (h | ⟨o,h⟩) | h
 ·exact .inl (.inl (e _ _ h))
 ·exact .inl (.inr ⟨o,e _ _ h⟩)
 ·exact .inr h
end L2
namespace L2
open PySem PySem.Spec PyProof.Rows
section
variable {κ:Type} [DecidableEq κ]
def zbS (kvs:List (κ×V))(k:κ):Option V:=(kvs.find? λkv=>decide (kv.1=k)).map (·.2)
def putK (kvs:List (κ×V))(k:κ)(v:V):List (κ×V):=
 if (kvs.any λkv=>decide (kv.1=k))=true then kvs.map (λkv=>if kv.1=k then (kv.1,v) else kv) else kvs++[(k,v)]
def zpq (kvs:List (κ×V))(k:κ):List (κ×V):=kvs.filter λkv=>decide (kv.1≠k)
theorem zl5 {p:κ×V}{r:List (κ×V)}{k:κ}(e:p.1=k):zbS (p::r) k=some p.2:=by simp[zbS,VaV,e]
theorem zks {p:κ×V}{r:List (κ×V)}{k:κ}(e:¬ p.1=k):zbS (p::r) k=zbS r k:=by simp[zbS,VaV,e]
theorem zqK (k:κ):∀kvs:List (κ×V),(kvs.any λkv=>decide (kv.1=k))=(zbS kvs k).isSome
 | []=>rfl
 | p::r=>by
  rw[List.any_cons]
  by_cases e:p.1=k
  ·simp only[zl5 e,decide_eq_true e,Bool.true_or,Option.isSome_some]
  ·rw[zks e,decide_eq_false e,Bool.false_or]; exact zqK k r
theorem zbz.isSome_eq {o:Option V}{u:Option Value}(r:zbz o u):o.isSome=u.isSome:=by
 cases o with
 | none=>cases u with
  | none=>rfl
  | some _=>exact(show False from r).elim
 | some _=>cases u with
  | none=>exact(show False from r).elim
  | some _=>rfl
theorem zbz.getD {o:Option V}{u:Option Value}{d:V}{d':Value}(r:zbz o u)(rd:zav d d'):zav (o.getD d) (u.getD d'):=by
 cases o with
 | none=>cases u with
  | none=>exact rd
  | some _=>exact(show False from r).elim
 | some _=>cases u with
  | none=>exact(show False from r).elim
  | some _=>exact r
theorem KV.val {kvs:List (κ×V)}{vs:List (κ×Value)}(r:KV kvs vs)(k:κ):zbz (zbS kvs k) (valueAt vs k):=by
 unfold KV at r
 induction r with
 | nil=>exact True.intro
 | @cons p q ps qs h t ih=>
  obtain⟨h1,h2⟩:=h
  by_cases e:p.1=k
  ·have e':q.1=k:=h1.symm.trans e
   have b:valueAt (q::qs) k=some q.2:=by simp[valueAt,VaV,e']
   rw[zl5 e,b]; exact h2
  ·have e':¬ q.1=k:=λz=>e (h1.trans z)
   have b:valueAt (q::qs) k=valueAt qs k:=by simp[valueAt,VaV,e']
   rw[zks e,b]; exact ih
theorem KV.any {kvs:List (κ×V)}{vs:List (κ×Value)}(r:KV kvs vs)(k:κ):(kvs.any λkv=>decide (kv.1=k))=vs.any λkv=>decide (kv.1=k):=by
 unfold KV at r
 induction r with
 | nil=>rfl
 | cons h t ih=>rw[List.any_cons,List.any_cons,ih,h.1]
theorem KV.repl {kvs:List (κ×V)}{vs:List (κ×Value)}(r:KV kvs vs)(k:κ){y:V}{u:Value}(ry:zav y u):
  KV (kvs.map λkv=>if kv.1=k then (kv.1,y) else kv) (vs.map λkv=>if kv.1=k then (kv.1,u) else kv):=by
 unfold KV at r ⊢
 induction r with
 | nil=>exact .nil
 | @cons p q ps qs h t ih=>
  rw[Vat,Vat]
  refine .cons ?_ ih
  obtain⟨h1,h2⟩:=h
  by_cases e:p.1=k
  ·rw[if_pos e,if_pos (h1.symm.trans e)]; exact⟨h1,ry⟩
  ·rw[if_neg e,if_neg (λz=>e (h1.trans z))]; exact⟨h1,h2⟩
theorem KV.put {kvs:List (κ×V)}{vs:List (κ×Value)}(r:KV kvs vs)(k:κ){y:V}{u:Value}(ry:zav y u):KV (putK kvs k y) (stored vs k u):=by
 unfold putK stored
 rw[r.any k]
 by_cases e:(vs.any λkv=>decide (kv.1=k))=true
 ·rw[if_pos e,if_pos e]; exact r.repl k ry
 ·rw[if_neg e,if_neg e]; exact Paired.snoc r ⟨rfl,ry⟩
theorem KV.drop {kvs:List (κ×V)}{vs:List (κ×Value)}(r:KV kvs vs)(k:κ):KV (zpq kvs k) (without vs k):=by
 unfold KV at r ⊢
 unfold zpq without
 induction r with
 | nil=>exact .nil
 | @cons p q ps qs h t ih=>
  obtain⟨h1,h2⟩:=h
  rw[List.filter_cons,List.filter_cons]
  by_cases e:p.1=k
  ·have a:¬ decide (p.1≠k)=true:=by simp[e]
   have b:¬ decide (q.1≠k)=true:=by simp[h1.symm.trans e]
   rw[if_neg a,if_neg b]; exact ih
  ·have e':¬ q.1=k:=λz=>e (h1.trans z)
   have a:decide (p.1≠k)=true:=by simp[e]
   have b:decide (q.1≠k)=true:=by simp[e']
   rw[if_pos a,if_pos b]; exact .cons ⟨h1,h2⟩ ih
theorem KV.keys {kvs:List (κ×V)}{vs:List (κ×Value)}(r:KV kvs vs):kvs.map (·.1)=vs.map (·.1):=by
 unfold KV at r
 induction r with
 | nil=>rfl
 | cons h t ih=>rw[Vat,Vat,ih,h.1]
theorem KV.length {kvs:List (κ×V)}{vs:List (κ×Value)}(r:KV kvs vs):kvs.length=vs.length:=Paired.length r
end
abbrev KT (H:Hp):List (List Key×V)→List (List Key×Addr×Value)→Prop:=Paired λp q=>p.1=q.1∧H q.2.1=some (.tup (p.1.map kV))∧zav p.2 q.2.2
theorem KT.val {H:Hp}{kvs:List (List Key×V)}{xs:List (List Key×Addr×Value)}(r:KT H kvs xs)(k:List Key):zbz (zbS kvs k) ((atKey xs k).map (·.2)):=by
 induction r with
 | nil=>exact True.intro
 | @cons p q ps qs h t ih=>
  obtain⟨h1,_,h2⟩:=h
  by_cases e:p.1=k
  ·have e':q.1=k:=h1.symm.trans e
   have b:atKey (q::qs) k=some q.2:=by simp[atKey,VaV,e']
   rw[zl5 e,b]; exact h2
  ·have e':¬ q.1=k:=λz=>e (h1.trans z)
   have b:atKey (q::qs) k=atKey qs k:=by simp[atKey,VaV,e']
   rw[zks e,b]; exact ih
theorem KT.repl {H:Hp}{kvs:List (List Key×V)}{xs:List (List Key×Addr×Value)}(r:KT H kvs xs)(k:List Key){y:V}{u:Value}(ry:zav y u):
  KT H (kvs.map λkv=>if kv.1=k then (kv.1,y) else kv) (xs.map (putAt k u)):=by
 induction r with
 | nil=>exact .nil
 | @cons p q ps qs h t ih=>
  rw[Vat,Vat]
  refine .cons ?_ ih
  obtain⟨h1,h2,h3⟩:=h
  unfold putAt
  by_cases e:p.1=k
  ·rw[if_pos e,if_pos (h1.symm.trans e)]; exact⟨h1,h2,ry⟩
  ·rw[if_neg e,if_neg (λz=>e (h1.trans z))]; exact⟨h1,h2,h3⟩
theorem KT.put {H:Hp}{kvs:List (List Key×V)}{xs:List (List Key×Addr×Value)}(r:KT H kvs xs)(k:List Key){b:Addr}{y:V}{u:Value}(hb:H b=some (.tup (k.map kV)))(ry:zav y u):
  KT H (putK kvs k y) (storedH xs k b u):=by
 have e:(kvs.any λkv=>decide (kv.1=k))=(atKey xs k).isSome:=by
  rw[zqK,(r.val k).isSome_eq,Option.isSome_map]
 unfold putK storedH
 rw[e]
 by_cases q:(atKey xs k).isSome=true
 ·rw[if_pos q,if_pos q]; exact r.repl k ry
 ·rw[if_neg q,if_neg q]; exact Paired.snoc r ⟨rfl,hb,ry⟩
theorem KT.keeps {H H':Hp}{kvs:List (List Key×V)}{xs:List (List Key×Addr×Value)}(r:KT H kvs xs)(ht:∀b ys,H b=some (.tup ys)→H' b=some (.tup ys)):KT H' kvs xs:=
 Paired.mapP r λ_ _ z=>⟨z.1,ht _ _ z.2.1,z.2.2⟩
section
variable {P:Program}{w:World}{H:Hp}{h:Heap}{a:Addr}
end
def zka (H:Hp)(a:Addr)(y:V)(r:Option V):Prop:=
 (∃kvs k,Rd H a (.dK kvs)∧y=kV k∧r=zbS kvs k)∨∃kvs k b,Rd H a (.dT kvs)∧y=.ref b∧H b=some (.tup (k.map kV))∧r=zbS kvs k
def zjm (H:Hp)(a:Addr)(y v:V)(H':Hp):Prop:=
 (∃kvs k,H a=some (.dK kvs)∧y=kV k∧kvs.length<sizeLine∧H'=upd H a (.dK (putK kvs k v)))∨
 ∃kvs k b,H a=some (.dT kvs)∧y=.ref b∧H b=some (.tup (k.map kV))∧kvs.length<sizeLine∧H'=upd H a (.dT (putK kvs k v))
theorem zka.k {H:Hp}{a:Addr}{kvs:List (Key×V)}{k:Key}(e:H a=some (.dK kvs)):zka H a (kV k) (zbS kvs k):=.inl ⟨kvs,k,.inl e,rfl,rfl⟩
theorem zka.t {H:Hp}{a b:Addr}{kvs:List (List Key×V)}{k:List Key}(e:H a=some (.dT kvs))(eb:H b=some (.tup (k.map kV))):zka H a (.ref b) (zbS kvs k):=.inr ⟨kvs,k,b,.inl e,rfl,eb,rfl⟩
theorem zjm.k {H:Hp}{a:Addr}{kvs:List (Key×V)}{k:Key}{v:V}(e:H a=some (.dK kvs))(hl:kvs.length<sizeLine):zjm H a (kV k) v (upd H a (.dK (putK kvs k v))):=.inl ⟨kvs,k,e,rfl,hl,rfl⟩
theorem zjm.t {H:Hp}{a b:Addr}{kvs:List (List Key×V)}{k:List Key}{v:V}(e:H a=some (.dT kvs))(eb:H b=some (.tup (k.map kV)))(hl:kvs.length<sizeLine):
  zjm H a (.ref b) v (upd H a (.dT (putK kvs k v))):=.inr ⟨kvs,k,b,e,rfl,eb,hl,rfl⟩
section
variable {X:Cx}{pins:List (Addr×Obj)}{σ:St}{H:Hp}{s:Shared}{a:Addr}{y v:V}{u r:Value}{o:Option V}{A:Around}{E:Value→Shared→Prop}
theorem Inv.big (I:Inv X pins σ H s):sysModules<s.heap.objs.size:=by
 have h:mainGlobals<s.heap.objs.size:=(I.mod.glob.keeps I.bk).lt
 exact Nat.lt_trans (by decide) h
end
section
variable {X:Cx}{pins:List (Addr×Obj)}{σ:St}{H:Hp}{s:Shared}{a:Addr}{kvs:List (Key×V)}{k:Key}{u:Value}{A:Around}{E:Value→Shared→Prop}
end
section
variable {X:Cx}{o i e value:Expr}{pos pos' tpos:Pos}{td ty tv:TE}
end
section
variable {X:Cx}{pos:Pos}
end
structure M1 (X:Cx)(o:Expr)(m:Str)(apos:Pos)(e:Expr)(cpos:Pos):Prop where
 base:attributeBase o m X.env (eval o X.env)=eval o X.env
 few:((backTo cpos (starEach [e] X.env)).all (λx=>!x.1)&&(backToKw cpos (keywordEach [] X.env)).all (λx=>x.1.isSome)
 &&decide (([e]:List Expr).length+([]:List Keyword).length+(if ([]:List Keyword).isEmpty then 0 else 1)<30))=true
 line:(apos.endLine==cpos.line)=true
 trees:backTo cpos (starEach [e] X.env)=[(false,eval e X.env)]
structure M2 (X:Cx)(o:Expr)(m:Str)(apos:Pos)(e f:Expr)(cpos:Pos):Prop where
 base:attributeBase o m X.env (eval o X.env)=eval o X.env
 few:((backTo cpos (starEach [e,f] X.env)).all (λx=>!x.1)&&(backToKw cpos (keywordEach [] X.env)).all (λx=>x.1.isSome)
 &&decide (([e,f]:List Expr).length+([]:List Keyword).length+(if ([]:List Keyword).isEmpty then 0 else 1)<30))=true
 line:(apos.endLine==cpos.line)=true
 trees:backTo cpos (starEach [e,f] X.env)=[(false,eval e X.env),(false,eval f X.env)]
section
variable {X:Cx}{pins:List (Addr×Obj)}{σ:St}{H:Hp}{s:Shared}{a:Addr}{y d:V}{u r:Value}{o:Option V}{A:Around}{E:Value→Shared→Prop}
end
section
variable {X:Cx}{o e f:Expr}{apos cpos:Pos}{td ty tx:TE}
end
section
variable {X:Cx}{pins:List (Addr×Obj)}{σ:St}{H:Hp}{s:Shared}{a:Addr}{kvs:List (Key×V)}{A:Around}{E:Value→Shared→Prop}
end
section
variable {X:Cx}{pins:List (Addr×Obj)}{σ:St}{H:Hp}{s:Shared}{a:Addr}{y:V}{u:Value}{A:Around}{E:Value→Shared→Prop}
end
end L2
namespace L3
open PySem PySem.Spec PyProof.Rows L2
abbrev St:=L2.St
inductive D where
 | non | bl (b:Bool) | int (i:Int) | str (x:Str) | tup (xs:List D) | ref (n:Nat) | exc (c:Addr)
inductive Ob where
 | lst (xs:List D) | frz (xs:List D)
  | ins (C:Addr) (fs:List (Str×D))
  | dct (kvs:List (List Key×D))
abbrev Sto:=List Ob
abbrev Ev:=List (Option D)
abbrev DK:=D→Sto→Prop
abbrev TDE:=Ev→Sto→DK→Prop
abbrev TDT:=Ev→Sto→(Bool→Sto→Prop)→Prop
abbrev TDA:=Ev→Sto→(List D→Sto→Prop)→Prop
structure zcC where
 nx:Ev→Sto→Prop
 rt:DK
 bk:Ev→Sto→Prop:=λ_ _=>False
 ct:Ev→Sto→Prop:=λ_ _=>False
abbrev TDS:=zcC→Ev→Sto→Prop
def isX (a c:Addr):HO:=.ext λh=>∃o,h.get? a=some o∧o.cls=.ref c
inductive Rp (r:List Addr)(H:Hp):D→V→Prop
 | non:Rp r H .non .non
 | bl (b:Bool):Rp r H (.bl b) (.bl b)
 | int (i:Int):Rp r H (.int i) (.int i)
 | str (x:Str):Rp r H (.str x) (.str x)
 | tup {ds:List D} {xs:List V} {a:Addr}:H a=some (.tup xs)→ds.length=xs.length→(∀(i:Nat) (d:D) (v:V),ds[i]?=some d→xs[i]?=some v→Rp r H d v)→Rp r H (.tup ds) (.ref a)
 | ref {n:Nat} {a:Addr}:r[n]?=some a→Rp r H (.ref n) (.ref a)
 | exc {c a:Addr}:H a=some (isX a c)→Rp r H (.exc c) (.ref a)
def Rps (r:List Addr)(H:Hp)(ds:List D)(vs:List V):Prop:=ds.length=vs.length∧∀(i:Nat) (d:D) (v:V),ds[i]?=some d→vs[i]?=some v→Rp r H d v
structure Ext (r r':List Addr)(H H':Hp):Prop where
 adr:∀(n:Nat) (a:Addr),r[n]?=some a→r'[n]?=some a
 tup:∀a xs,H a=some (.tup xs)→H' a=some (.tup xs)
 xc:∀a c,H a=some (isX a c)→H' a=some (isX a c)
section
variable {r r' r2:List Addr}{H H' H2:Hp}{d:D}{v:V}{ds:List D}{vs:List V}
theorem Ext.refl:Ext r r H H:=⟨λ_ _ h=>h,λ_ _ h=>h,λ_ _ h=>h⟩
theorem Ext.trans (a:Ext r r' H H')(b:Ext r' r2 H' H2):Ext r r2 H H2:=⟨λn x h=>b.adr n x (a.adr n x h),λx y h=>b.tup x y (a.tup x y h),λx y h=>b.xc x y (a.xc x y h)⟩
theorem Rp.ext (h:Rp r H d v)(e:Ext r r' H H'):Rp r' H' d v:=by
 induction h with
 | non=>exact .non
 | bl b=>exact .bl b
 | int i=>exact .int i
 | str x=>exact .str x
 | tup h l _ ih=>exact .tup (e.tup _ _ h) l ih
 | ref h=>exact .ref (e.adr _ _ h)
 | exc h=>exact .exc (e.xc _ _ h)
theorem Rps.ext (h:Rps r H ds vs)(e:Ext r r' H H'):Rps r' H' ds vs:=⟨h.1,λi d v h1 h2=>(h.2 i d v h1 h2).ext e⟩
theorem Rps.nil:Rps r H [] []:=⟨rfl,λi d v h=>by simp at h⟩
theorem Rps.cons (h:Rp r H d v)(t:Rps r H ds vs):Rps r H (d::ds) (v::vs):=by
 refine⟨by simp[t.1],λi x y h1 h2=>?_⟩
 cases i with
 | zero=>
  simp at h1 h2
  subst h1; subst h2
  exact h
 | succ i=>exact t.2 i x y (by simpa using h1) (by simpa using h2)
theorem Rps.tail {y:V}(h:Rps r H (d::ds) (y::vs)):Rp r H d y∧Rps r H ds vs:=
 ⟨h.2 0 d y rfl rfl,by simpa using h.1,λi a b h1 h2=>h.2 (i+1) a b (by simpa using h1) (by simpa using h2)⟩
theorem Rps.uncons (h:Rps r H (d::ds) vs):∃v vs',vs=v::vs'∧Rp r H d v∧Rps r H ds vs':=by
 cases vs with
 | nil=>exact absurd h.1 (by simp)
 | cons v vs'=>exact⟨v,vs',rfl,h.tail⟩
theorem Rps.unnil (h:Rps r H [] vs):vs=[]:=by
 cases vs with
 | nil=>rfl
 | cons v vs'=>exact absurd h.1 (by simp)
theorem Rps.get {i:Nat}(h:Rps r H ds vs)(e:ds[i]?=some d):∃v,vs[i]?=some v∧Rp r H d v:=by
 have hi:i<ds.length:=(Vab.mp e).1
 have hv:i<vs.length:=by rw[← h.1]; exact hi
 exact⟨vs[i],by simp[hv],h.2 i d vs[i] e (by simp[hv])⟩
theorem Rps.get' {i:Nat}(h:Rps r H ds vs)(e:vs[i]?=some v):∃d,ds[i]?=some d∧Rp r H d v:=by
 have hv:i<vs.length:=(Vab.mp e).1
 have hi:i<ds.length:=by rw[h.1]; exact hv
 exact⟨ds[i],by simp[hi],h.2 i ds[i] v (by simp[hi]) e⟩
theorem Rps.snoc (h:Rps r H ds vs)(t:Rp r H d v):Rps r H (ds++[d]) (vs++[v]):=by
 refine⟨by simp[h.1],λi x y h1 h2=>?_⟩
 by_cases hi:i<ds.length
 ·rw[Vak hi] at h1
  rw[Vak (by rw[← h.1]; exact hi)] at h2
  exact h.2 i x y h1 h2
 ·have hl:i<(ds++[d]).length:=(Vab.mp h1).1
  have e:i=ds.length:=by simp at hl; omega
  subst e
  rw[VaM (Vaa _)] at h1
  rw[h.1,VaM (Vaa _)] at h2
  simp at h1 h2
  subst h1; subst h2
  exact t
theorem Rps.tupR {a:Addr}(h:Rps r H ds vs)(e:H a=some (.tup vs)):Rp r H (.tup ds) (.ref a):=.tup e h.1 h.2
theorem Rp.untup {vs:V}(h:Rp r H (.tup ds) vs):∃a xs,vs=.ref a∧H a=some (.tup xs)∧Rps r H ds xs:=by
 cases h with
 | tup e l f=>exact⟨_,_,rfl,e,l,f⟩
end
def SqF (K:PySem.W.Frag)(H:Hp)(a:Addr)(xs:List V):Prop:=
 (∃o,H a=some (.frz o (.lst xs)))∨
  ∃(o:Obj) (its:Array Value) (n:Nat),K.lookup a=some o∧o.cls=.type "list"∧o.dict=none∧o.data=.seq its n∧its.size≤sizeLine∧zay xs its.toList
theorem SqF.sql {K:PySem.W.Frag}{H:Hp}{a:Addr}{xs:List V}(h:SqF K H a xs):SqL K H a xs:=by
 rcases h with ⟨o,h⟩ | h
 ·exact .inl (.inr ⟨o,h⟩)
 ·exact .inr h
def FR {α:Type}(r:List Addr)(H:Hp)(fs:List (α×D))(fs':List (α×V)):Prop:=fs.map (·.1)=fs'.map (·.1)∧Rps r H (fs.map (·.2)) (fs'.map (·.2))
theorem FR.ext {α:Type}{r r':List Addr}{H H':Hp}{fs:List (α×D)}{fs':List (α×V)}(h:FR r H fs fs')(e:Ext r r' H H'):FR r' H' fs fs':=⟨h.1,h.2.ext e⟩
theorem FR.nil {α:Type}{r:List Addr}{H:Hp}:FR (α:=α) r H [] []:=⟨rfl,Rps.nil⟩
def ObR (K:PySem.W.Frag)(r:List Addr)(H:Hp)(a:Addr):Ob→Prop
 | .lst ds=>∃xs,H a=some (.lst xs)∧Rps r H ds xs
 | .frz ds=>∃xs,SqF K H a xs∧Rps r H ds xs
 | .ins C fs=>∃dx fs',H a=some (.ins C dx fs')∧FR r H fs fs'
 | .dct kvs=>∃kvs',H a=some (.dT kvs')∧FR r H kvs kvs'
def zdb:Ob→Bool
 | .frz _=>false
 | _=>true
structure zaU (K:PySem.W.Frag)(r:List Addr)(S:Sto)(H:Hp):Prop where
 len:r.length=S.length
 ob:∀(n:Nat) (a:Addr) (o:Ob),r[n]?=some a→S[n]?=some o→ObR K r H a o
 nd:∀(n m:Nat) (a:Addr) (o u:Ob),r[n]?=some a→r[m]?=some a→S[n]?=some o→S[m]?=some u→zdb o=true→zdb u=true→n=m
def zaz:Ob→List D
 | .lst ds=>ds
 | .frz ds=>ds
 | _=>[.exc 0]
def zb0:Ob→Option Ob
 | .lst ds=>some (.lst ds)
 | .frz ds=>some (.frz ds)
 | _=>none
def lAt (S:Sto)(n:Nat):Option Ob:=(S[n]?).bind zb0
theorem zvS {o u:Ob}(h:zb0 o=some u):u=o:=by
 cases o <;> simp[zb0] at h <;> exact h.symm
theorem zcg {S:Sto}{n:Nat}{o:Ob}(h:lAt S n=some o):S[n]?=some o∧zb0 o=some o:=by
  unfold lAt at h
  cases q:S[n]? with
  | none=>
   rw[q] at h
   cases h
  | some u=>
    rw[q] at h
    have h':zb0 u=some o:=h
    have e:=zvS h'
    subst e
    exact⟨rfl,h'⟩
theorem zbd {S:Sto}{n:Nat}{o:Ob}(h:S[n]?=some o)(hL:zb0 o=some o):lAt S n=some o:=by
 unfold lAt
 rw[h]
 exact hL
section
variable {K:PySem.W.Frag}{r r':List Addr}{S:Sto}{H H':Hp}{n:Nat}{a p:Addr}
theorem zaU.at {o:Ob}(h:zaU K r S H)(e:S[n]?=some o):∃a,r[n]?=some a∧ObR K r H a o:=by
 have hn:n<S.length:=(Vab.mp e).1
 have hr:n<r.length:=by rw[h.len]; exact hn
 exact⟨r[n],by simp[hr],h.ob n r[n] o (by simp[hr]) e⟩
theorem ObR.list {o:Ob}(h:ObR K r H a o)(hL:zb0 o=some o):∃xs,SqL K H a xs∧Rps r H (zaz o) xs:=by
 cases o with
 | lst ds=>obtain⟨xs,e,q⟩:=h; exact⟨xs,SqL.of e,q⟩
 | frz ds=>obtain⟨xs,e,q⟩:=h; exact⟨xs,e.sql,q⟩
 | ins C fs=>cases hL
 | dct kvs=>cases hL
theorem ObR.keep {o:Ob}(q:ObR K r H a o)(x:Ext r r' H H')(ha:∀u,H a=some u→H' a=some u):ObR K r' H' a o:=by
 cases o with
 | lst ds=>obtain⟨xs,h3,h4⟩:=q; exact⟨xs,ha _ h3,h4.ext x⟩
 | frz ds=>
  obtain⟨xs,h3,h4⟩:=q
  refine⟨xs,?_,h4.ext x⟩
  rcases h3 with ⟨o,h3⟩ | h3
  ·exact .inl ⟨o,ha _ h3⟩
  ·exact .inr h3
 | ins C fs=>obtain⟨dx,fs',h3,h4⟩:=q; exact⟨dx,fs',ha _ h3,h4.ext x⟩
 | dct kvs=>obtain⟨ks,h3,h4⟩:=q; exact⟨ks,ha _ h3,h4.ext x⟩
theorem ObR.own {o:Ob}(q:ObR K r H a o)(h:zdb o=true):∃u,H a=some u∧(∀xs,u≠HO.tup xs)∧(∀b c,u≠isX b c)∧∀z y,u≠HO.frz z y:=by
 cases o with
 | lst ds=>obtain⟨xs,h3,h4⟩:=q; exact⟨_,h3,(λ_ z=>by cases z),(λ_ _ z=>by cases z),(λ_ _ z=>by cases z)⟩
 | frz ds=>cases h
 | ins C fs=>obtain⟨dx,fs',h3,h4⟩:=q; exact⟨_,h3,(λ_ z=>by cases z),(λ_ _ z=>by cases z),(λ_ _ z=>by cases z)⟩
 | dct kvs=>obtain⟨ks,h3,h4⟩:=q; exact⟨_,h3,(λ_ z=>by cases z),(λ_ _ z=>by cases z),(λ_ _ z=>by cases z)⟩
theorem zaU.same (h:zaU K r S H)(e:∀b o,H b=some o→H' b=some o):zaU K r S H':=
 ⟨h.len,λn a o h1 h2=>(h.ob n a o h1 h2).keep ⟨λ_ _ q=>q,λa xs q=>e _ _ q,λa c q=>e _ _ q⟩ (e a),h.nd⟩
theorem zdn {o:HO}(h:H p=none):∀b u,H b=some u→(upd H p o) b=some u:=λb u q=>by rw[za3 (zdm q h)]; exact q
theorem zi8 {n:Nat}{b:Addr}(e:(r++[p])[n]?=some b):(n<r.length∧r[n]?=some b)∨(n=r.length∧b=p):=by
 by_cases hn:n<r.length
 ·rw[Vak hn] at e; exact .inl ⟨hn,e⟩
 ·have hl:n<(r++[p]).length:=(Vab.mp e).1
  have en:n=r.length:=by simp at hl; omega
  subst en
  rw[VaM (Vaa _)] at e
  simp at e
  exact .inr ⟨rfl,e.symm⟩
theorem zaU.pushO {o:Ob}(h:zaU K r S H)(hp:H p=none)(keep:∀b u,H b=some u→H' b=some u)(q:Ext r (r++[p]) H H'→ObR K (r++[p]) H' p o):zaU K (r++[p]) (S++[o]) H'∧Ext r (r++[p]) H H':=by
 have x:Ext r (r++[p]) H H':=⟨λn a e=>by
  have hn:n<r.length:=(Vab.mp e).1
  rw[Vak hn]; exact e,λa ys e=>keep _ _ e,λa c e=>keep _ _ e⟩
 have sS:∀ {n:Nat} {u:Ob},n<r.length→(S++[o])[n]?=some u→S[n]?=some u:=λ{n u} hn e=>by
  rw[Vak (by rw[← h.len]; exact hn)] at e; exact e
 refine⟨⟨by simp[h.len],λn a u h1 h2=>?_,λn m a u w h1 h2 h3 h4 o1 o2=>?_⟩,x⟩
 ·rcases zi8 h1 with ⟨hn,e⟩ | ⟨rfl,rfl⟩
  ·exact(h.ob n a u e (sS hn h2)).keep x (keep a)
  ·rw[h.len,VaM (Vaa _)] at h2
   simp at h2
   subst h2
   exact q x
 ·rcases zi8 h1 with ⟨hn,e⟩ | ⟨rfl,rfl⟩
  ·rcases zi8 h2 with ⟨hm,e'⟩ | ⟨rfl,rfl⟩
   ·exact h.nd n m a u w e e' (sS hn h3) (sS hm h4) o1 o2
   ·obtain⟨zs,h5,_⟩:=(h.ob n _ _ e (sS hn h3)).own o1
    rw[hp] at h5; cases h5
  ·rcases zi8 h2 with ⟨hm,e'⟩ | ⟨rfl,_⟩
   ·obtain⟨zs,h5,_⟩:=(h.ob m _ _ e' (sS hm h4)).own o2
    rw[hp] at h5; cases h5
   ·rfl
theorem zaU.push {ds:List D}{xs:List V}(h:zaU K r S H)(hp:H p=none)(q:Rps r H ds xs):zaU K (r++[p]) (S++[.lst ds]) (upd H p (.lst xs))∧Ext r (r++[p]) H (upd H p (.lst xs)):=
 h.pushO hp (zdn hp) λx=>⟨xs,zcz,q.ext x⟩
theorem zaU.setO {o o':Ob}{u:HO}(h:zaU K r S H)(hn:r[n]?=some a)(hS:S[n]?=some o)(ho:zdb o=true)(ho':zdb o'=true)(q:Ext r r H (upd H a u)→ObR K r (upd H a u) a o'):zaU K r (S.set n o') (upd H a u)∧Ext r r H (upd H a u):=by
 obtain⟨u0,h0,t1,t2,t3⟩:=(h.ob n a _ hn hS).own ho
 have x:Ext r r H (upd H a u):=⟨λ_ _ e=>e,λb zs e=>by
  rw[za3 (zmW e h0 (λz=>t1 zs z.symm))]; exact e,λb c e=>by
  rw[za3 (zmW e h0 (λz=>t2 b c z.symm))]; exact e⟩
 have hlt:n<S.length:=(Vab.mp hS).1
 have off:∀ {m:Nat} {w:Ob},m≠n→(S.set n o')[m]?=some w→S[m]?=some w:=λ{m w} hm e=>by
  rw[VaU (Ne.symm hm)] at e; exact e
 refine⟨⟨by simp[h.len],λm b w h1 h2=>?_,λm k b w y h1 h2 h3 h4 o1 o2=>?_⟩,x⟩
 ·by_cases hm:m=n
  ·subst hm
   rw[hn] at h1; cases h1
   rw[Va0 hlt] at h2
   cases h2
   exact q x
  ·have h2':=off hm h2
   have q':=h.ob m b w h1 h2'
   by_cases hw:zdb w=true
   ·have hb:b≠a:=λz=>hm (by subst z; exact h.nd m n b w o h1 hn h2' hS hw ho)
    exact q'.keep x λz e=>by rw[za3 hb]; exact e
   ·cases w with
    | frz es=>
     obtain⟨zs,h3,h4⟩:=q'
     refine⟨zs,?_,h4.ext x⟩
     rcases h3 with ⟨z,h3⟩ | h3
     ·exact .inl ⟨z,by rw[za3 (zmW h3 h0 (λy=>t3 _ _ y.symm))]; exact h3⟩
     ·exact .inr h3
    | _=>exact absurd rfl hw
 ·have back:∀ {j:Nat} {w:Ob},(S.set n o')[j]?=some w→zdb w=true→∃y,S[j]?=some y∧zdb y=true:=λ{j w} e ow=>by
   by_cases hj:j=n
   ·subst hj; exact⟨o,hS,ho⟩
   ·exact⟨w,off hj e,ow⟩
  obtain⟨us',h3',q3⟩:=back h3 o1
  obtain⟨ws',h4',q4⟩:=back h4 o2
  exact h.nd m k b us' ws' h1 h2 h3' h4' q3 q4
theorem zaU.set {ds ds':List D}{xs:List V}(h:zaU K r S H)(hn:r[n]?=some a)(hS:S[n]?=some (.lst ds))(q:Rps r H ds' xs):zaU K r (S.set n (.lst ds')) (upd H a (.lst xs))∧Ext r r H (upd H a (.lst xs)):=
 h.setO hn hS rfl rfl λx=>⟨xs,zcz,q.ext x⟩
end
def Rs (r:List Addr)(H:Hp)(dl:Ev)(σ:St):Prop:=dl.length=σ.length∧∀(i:Nat) (d:D),dl[i]?=some (some d)→∃v,σ[i]?=some (some v)∧Rp r H d v
theorem Rs.ext {r r':List Addr}{H H':Hp}{dl:Ev}{σ:St}(h:Rs r H dl σ)(e:Ext r r' H H'):Rs r' H' dl σ:=⟨h.1,λi d q=>by
 obtain⟨v,h1,h2⟩:=h.2 i d q
 exact⟨v,h1,h2.ext e⟩⟩
theorem Rs.set {r:List Addr}{H:Hp}{dl:Ev}{σ:St}{d:D}{v:V}(i:Nat)(h:Rs r H dl σ)(q:Rp r H d v):Rs r H (dl.set i (some d)) (σ.set i (some v)):=by
 refine⟨by simp[h.1],λj e hj=>?_⟩
 by_cases hij:i=j
 ·subst hij
  have hl:i<dl.length:=by
   have:=(Vab.mp hj).1
   simpa using this
  rw[Va0 hl] at hj
  cases hj
  exact⟨v,by rw[Va0 (by rw[← h.1]; exact hl)],q⟩
 ·rw[VaU hij] at hj
  obtain⟨v',h1,h2⟩:=h.2 j e hj
  exact⟨v',by rw[VaU hij]; exact h1,h2⟩
structure Zx where
 ex:Ev→Addr→Sto→Prop
 w:St→XK
abbrev Zc (ex:Addr→Sto→Prop)(E:XK):Zx:=⟨λ_=>ex,λ_=>E⟩
def zdG (K:PySem.W.Frag)(Z:Zx)(r:List Addr)(H:Hp):Prop:=∀(dl:Ev) (σ:St) (c:Addr) (H':Hp) (r':List Addr) (S':Sto),Ext r r' H H'→Rs r' H' dl σ→zaU K r' S' H'→Z.ex dl c S'→Z.w σ (.ref c) none H'
theorem zdG.ext {K:PySem.W.Frag}{Z:Zx}{r r':List Addr}{H H':Hp}(h:zdG K Z r H)(e:Ext r r' H H'):zdG K Z r' H':=λdl σ c H2 r2 S2 x=>h dl σ c H2 r2 S2 (e.trans x)
structure Rel (K:PySem.W.Frag)(Z:Zx)(r:List Addr)(S:Sto)(H:Hp):Prop where
 b:zaU K r S H
 xw:zdG K Z r H
section
variable {K:PySem.W.Frag}{Z:Zx}{r r':List Addr}{S:Sto}{H H':Hp}{n:Nat}{a p:Addr}
theorem Rel.len (h:Rel K Z r S H):r.length=S.length:=h.b.len
theorem Rel.at {o:Ob}(h:Rel K Z r S H)(e:S[n]?=some o):∃a,r[n]?=some a∧ObR K r H a o:=h.b.at e
theorem Rel.same (h:Rel K Z r S H)(e:∀b o,H b=some o→H' b=some o):Rel K Z r S H':=⟨h.b.same e,h.xw.ext ⟨λ_ _ q=>q,λa xs q=>e _ _ q,λa c q=>e _ _ q⟩⟩
theorem Rel.push {ds:List D}{xs:List V}(h:Rel K Z r S H)(hp:H p=none)(q:Rps r H ds xs):Rel K Z (r++[p]) (S++[.lst ds]) (upd H p (.lst xs))∧Ext r (r++[p]) H (upd H p (.lst xs)):=by
 obtain⟨h1,h2⟩:=h.b.push hp q
 exact⟨⟨h1,h.xw.ext h2⟩,h2⟩
theorem Rel.set {ds ds':List D}{xs:List V}(h:Rel K Z r S H)(hn:r[n]?=some a)(hS:S[n]?=some (.lst ds))(q:Rps r H ds' xs):Rel K Z r (S.set n (.lst ds')) (upd H a (.lst xs))∧Ext r r H (upd H a (.lst xs)):=by
 obtain⟨h1,h2⟩:=h.b.set hn hS q
 exact⟨⟨h1,h.xw.ext h2⟩,h2⟩
end
def Ret (K:PySem.W.Frag)(Z:Zx)(r:List Addr)(H:Hp)(Q:DK)(Qv:VK):Prop:=∀v H' r' d S',Ext r r' H H'→Rel K Z r' S' H'→Rp r' H' d v→Q d S'→Qv v H'
theorem Ret.ext {K:PySem.W.Frag}{Z:Zx}{r r':List Addr}{H H':Hp}{Q:DK}{Qv:VK}(h:Ret K Z r H Q Qv)(e:Ext r r' H H'):Ret K Z r' H' Q Qv:=λv H2 r2 d S2 x=>h v H2 r2 d S2 (e.trans x)
def up (K:PySem.W.Frag)(Z:Zx)(t:TDE):TE:=λσ H Qv=>∃r dl S Q,Rs r H dl σ∧Rel K Z r S H∧t dl S Q∧Ret K Z r H Q Qv
def upT (K:PySem.W.Frag)(Z:Zx)(t:TDT):TT:=λσ H Qb=>∃r dl S Q,Rs r H dl σ∧Rel K Z r S H∧t dl S Q∧∀b H' r' S',Ext r r' H H'→Rel K Z r' S' H'→Q b S'→Qb b H'
def upA (K:PySem.W.Frag)(Z:Zx)(t:TDA):TA:=λσ H Qv=>∃r dl S Q,Rs r H dl σ∧Rel K Z r S H∧t dl S Q∧∀vs H' r' ds S',Ext r r' H H'→Rel K Z r' S' H'→Rps r' H' ds vs→Q ds S'→Qv vs H'
structure zme (K:PySem.W.Frag)(Z:Zx)(r:List Addr)(H:Hp)(E:zcC)(F:zc2):Prop where
 nx:∀σ' H' r' dl' S',Ext r r' H H'→Rs r' H' dl' σ'→Rel K Z r' S' H'→E.nx dl' S'→F.nx σ' H'
 bk:∀σ' H' r' dl' S',Ext r r' H H'→Rs r' H' dl' σ'→Rel K Z r' S' H'→E.bk dl' S'→F.bk σ' H'
 ct:∀σ' H' r' dl' S',Ext r r' H H'→Rs r' H' dl' σ'→Rel K Z r' S' H'→E.ct dl' S'→F.ct σ' H'
 rt:Ret K Z r H E.rt F.rt
theorem zme.ext {K:PySem.W.Frag}{Z:Zx}{r r':List Addr}{H H':Hp}{E:zcC}{F:zc2}(h:zme K Z r H E F)(e:Ext r r' H H'):zme K Z r' H' E F:=
 ⟨λa b c d f x=>h.nx a b c d f (e.trans x),λa b c d f x=>h.bk a b c d f (e.trans x),λa b c d f x=>h.ct a b c d f (e.trans x),h.rt.ext e⟩
def upS (K:PySem.W.Frag)(Z:Zx)(t:TDS):TS:=λF σ H=>∃r dl S E,Rs r H dl σ∧Rel K Z r S H∧t E dl S∧zme K Z r H E F
def PD (X:Cx)(Z:Zx)(e:Expr)(t:TDE):Prop:=PE X e (up X.K Z t)
def PDT (X:Cx)(Z:Zx)(e:Expr)(t:TDT):Prop:=PT X e (upT X.K Z t)
def PDW (X:Cx)(Z:Zx)(e:Expr)(t:TDT):Prop:=PW X e (upT X.K Z t)
def PDA (X:Cx)(Z:Zx)(es:List Expr)(t:TDA):Prop:=PA X es (upA X.K Z t)
def PDS (X:Cx)(Z:Zx)(st:Stmt)(t:TDS):Prop:=PS X st (upS X.K Z t)
def zbW (X:Cx)(Z:Zx)(st:List Stmt)(t:TDS):Prop:=PSs X st (upS X.K Z t)
section
variable {X:Cx}{Z:Zx}
theorem za4 {e:Expr}{t t':TE}(h:PE X e t)(f:∀σ H Q,t' σ H Q→t σ H Q):PE X e t':=λpins s σ H Q I q=>h pins s σ H Q I (f σ H Q q)
theorem zkS {e:Expr}{t t':TT}(h:PT X e t)(f:∀σ H Q,t' σ H Q→t σ H Q):PT X e t':=λpins s σ H Q I q=>h pins s σ H Q I (f σ H Q q)
theorem zqz {e:Expr}{t t':TT}(h:PW X e t)(f:∀σ H Q,t' σ H Q→t σ H Q):PW X e t':=λwh pins s σ H Q I q=>h wh pins s σ H Q I (f σ H Q q)
theorem zp7 {e:List Expr}{t t':TA}(h:PA X e t)(f:∀σ H Q,t' σ H Q→t σ H Q):PA X e t':=λpos pins s σ H Q I q=>h pos pins s σ H Q I (f σ H Q q)
theorem zbG {e:Stmt}{t t':TS}(h:PS X e t)(f:∀F σ H,t' F σ H→t F σ H):PS X e t':=λpins s σ H F I q=>h pins s σ H F I (f F σ H q)
theorem zqX {e:List Stmt}{t t':TS}(h:PSs X e t)(f:∀F σ H,t' F σ H→t F σ H):PSs X e t':=λpins s σ H F I q=>h pins s σ H F I (f F σ H q)
theorem PDW.pt {e:Expr}{t:TDT}(h:PDW X Z e t):PDT X Z e t:=PW.pt h
def zia (i:Nat):TDE:=λdl S Q=>match dl[i]? with
 | some (some d)=>Q d S
 | _=>False
def dC (d:D):TDE:=λ_ S Q=>Q d S
theorem ztN {e:Expr}{i:Nat}(h:PE X e (tVar i)):PD X Z e (zia i):=za4 h λσ H Qv ⟨r,dl,S,Q,rs,rel,q,ret⟩=>by
 unfold zia at q
 split at q
 ·rename_i d e
  obtain⟨v,h1,h2⟩:=rs.2 i d e
  exact⟨v,h1,ret v H r d S Ext.refl rel h2 q⟩
 ·exact q.elim
theorem dv (i:Nat){x:Str}{pos:Pos}(hN:X.N[i]?=some x:=by rfl)(hv:Vis X.env.scope x:=by first | exact Or.inl rfl | exact Or.inr (Or.inl rfl) | exact Or.inr (Or.inr rfl))(hd:(x==("__debug__":Str))=false:=by decide)
  (hcd:(x==("__classdict__":Str))=false:=by decide):PD X Z (.Name x pos) (zia i):=ztN (zoQ hN hv hd hcd)
theorem zki {e:Expr}{d:D}{v:V}(h:PE X e (tC v))(q:∀r H,Rp r H d v):PD X Z e (dC d):=za4 h λσ H Qv ⟨r,dl,S,Q,rs,rel,h,ret⟩=>ret v H r d S Ext.refl rel (q r H) h
theorem zab {i j pos}:PD X Z (.Constant (.int i) j pos) (dC (.int i)):=zki zxg λ_ _=>.int i
theorem zbw {b j pos}:PD X Z (.Constant (.bool b) j pos) (dC (.bl b)):=zki pe_bl λ_ _=>.bl b
theorem zaZ {j pos}:PD X Z (.Constant .none j pos) (dC .non):=zki zxp λ_ _=>.non
theorem zaL {x j pos}:PD X Z (.Constant (.str x) j pos) (dC (.str x)):=zki zrM λ_ _=>.str x
abbrev W2:=D→D→Sto→DK→Prop
abbrev W1:=D→Sto→DK→Prop
def upO (K:PySem.W.Frag)(Z:Zx)(w:W2):R2:=λx y H Qv=>∃r S dx dy Q,Rel K Z r S H∧Rp r H dx x∧Rp r H dy y∧w dx dy S Q∧Ret K Z r H Q Qv
def upU (K:PySem.W.Frag)(Z:Zx)(w:W1):V→Hp→VK→Prop:=λx H Qv=>∃r S dx Q,Rel K Z r S H∧Rp r H dx x∧w dx S Q∧Ret K Z r H Q Qv
def dOp (w:W2)(ta tb:TDE):TDE:=λdl S Q=>ta dl S λx S1=>tb dl S1 λy S2=>w x y S2 Q
def dUn (w:W1)(ta:TDE):TDE:=λdl S Q=>ta dl S λx S1=>w x S1 Q
variable {a b c:Expr}{ta tb tc:TDE}{pos:Pos}
theorem zlw {w:W2}{σ:St}{H:Hp}{Qv:VK}(h:up X.K Z (dOp w ta tb) σ H Qv):tOp (upO X.K Z w) (up X.K Z ta) (up X.K Z tb) σ H Qv:=by
 obtain⟨r,dl,S,Q,rs,rel,h,ret⟩:=h
 exact⟨r,dl,S,_,rs,rel,h,λv H1 r1 dx S1 e1 rel1 p1 h1=>⟨r1,dl,S1,_,rs.ext e1,rel1,h1,λv2 H2 r2 dy S2 e2 rel2 p2 h2=>⟨r2,S2,dx,dy,Q,rel2,p1.ext e2,p2,h2,ret.ext (e1.trans e2)⟩⟩⟩
theorem zag {op:Operator}{w:W2}(ho:OpR X (binaryOp op) (upO X.K Z w))(ha:PD X Z a ta)(hb:PD X Z b tb):PD X Z (.BinOp a op b pos) (dOp w ta tb):=za4 (pe_op ho ha hb) λ_ _ _ h=>zlw h
theorem zcF {op:UnaryOp}{w:W1}(ho:UnR X (unaryOp op) (upU X.K Z w))(ha:PD X Z a ta):PD X Z (.UnaryOp op a pos) (dUn w ta):=za4 (pe_un ho ha) λσ H Qv ⟨r,dl,S,Q,rs,rel,h,ret⟩=>
 ⟨r,dl,S,_,rs,rel,h,λv H1 r1 dx S1 e1 rel1 p1 h1=>⟨r1,S1,dx,Q,rel1,p1,h1,ret.ext e1⟩⟩
theorem zcu {op:CmpOp}{w:W2}(ho:OpR X (compareOp op) (upO X.K Z w))(ha:PD X Z a ta)(hb:PD X Z b tb)(hm:behindInMarks op b=false):PD X Z (.Compare a [op] [b] pos) (dOp w ta tb):=za4 (zr3 ho ha hb hm) λ_ _ _ h=>zlw h
theorem zgI {f:Value→Value→Sem Value}{r r':R2}(h:OpR X f r)(g:∀x y H Q,r' x y H Q→r x y H Q):OpR X f r':=λpins s σ H x y v u Q I rx ry q=>h pins s σ H x y v u Q I rx ry (g x y H Q q)
theorem zsS {f:Value→Sem Value}{r r':V→Hp→VK→Prop}(h:UnR X f r)(g:∀x H Q,r' x H Q→r x H Q):UnR X f r':=λpins s σ H x v Q I rx q=>h pins s σ H x v Q I rx (g x H Q q)
theorem znq {f:Value}{r r':List V→Hp→VK→Prop}(h:zbc X f r)(g:∀x H Q,r' x H Q→r x H Q):zbc X f r':=λpins s σ H xs us Q I rx q=>h pins s σ H xs us Q I rx (g xs H Q q)
def wI (C:Int→Int→Prop)(g:Int→Int→D):W2:=λx y S Q=>match x,y with
 | .int i,.int j=>C i j∧Q (g i j) S
 | _,_=>False
def wI0 (g:Int→Int→D):W2:=λx y S Q=>match x,y with
 | .int i,.int j=>Q (g i j) S
 | _,_=>False
theorem opD {f:Value→Value→Sem Value}{C:Int→Int→Prop}{g:Int→Int→V}{g':Int→Int→D}(h:OpR X f (rI C g))(hg:∀r H i j,Rp r H (g' i j) (g i j)):OpR X f (upO X.K Z (wI C g')):=
 zgI h λx y H Qv ⟨r,S,dx,dy,Q,rel,px,py,q,ret⟩=>by
  cases px <;> cases py <;> first
   | exact⟨_,_,rfl,rfl,q.1,ret _ _ _ _ _ Ext.refl rel (hg _ _ _ _) q.2⟩
   | exact(show False from q).elim
theorem zeB {f:Value→Value→Sem Value}{g:Int→Int→V}{g':Int→Int→D}(h:OpR X f (rI0 g))(hg:∀r H i j,Rp r H (g' i j) (g i j)):OpR X f (upO X.K Z (wI0 g')):=
 zgI h λx y H Qv ⟨r,S,dx,dy,Q,rel,px,py,q,ret⟩=>by
  cases px <;> cases py <;> first
   | exact⟨_,_,rfl,rfl,ret _ _ _ _ _ Ext.refl rel (hg _ _ _ _) q⟩
   | exact(show False from q).elim
abbrev wAdd:W2:=wI0 λi j=>.int (i+j)
abbrev wSub:W2:=wI0 λi j=>.int (i-j)
abbrev wMul:W2:=wI IntMulOk λi j=>.int (i*j)
def CFd (_ j:Int):Prop:=0<j∧j.natAbs.log2<9000
abbrev wFdiv:W2:=wI CFd λi j=>.int (i/j)
abbrev wMod:W2:=wI (λ_ j=>0<j) λi j=>.int (i%j)
abbrev wPow:W2:=wI zmh λi j=>.int (i^j.toNat)
theorem za2:OpR X (binaryOp .Add) (upO X.K Z wAdd):=zeB zvH λ_ _ _ _=>.int _
theorem zbH:OpR X (binaryOp .Sub) (upO X.K Z wSub):=zeB zxQ λ_ _ _ _=>.int _
theorem zaH:OpR X (binaryOp .Mult) (upO X.K Z wMul):=opD (opI λ_ _ _ _ _ _ _ hc q=>mul_int q hc) λ_ _ _ _=>.int _
theorem zcp:OpR X (binaryOp .FloorDiv) (upO X.K Z wFdiv):=opD (opI λi j _ _ _ _ _ hc q=>floordiv_int (by have h:0<j:=hc.1; omega) (by have h:0<j:=hc.1; rw[Int.fdiv_eq_ediv_of_nonneg i (by omega)]; exact q) (.inl (PyProof.noPylong_of_log2 hc.2))) λ_ _ _ _=>.int _
theorem za7:OpR X (binaryOp .Mod) (upO X.K Z wMod):=opD zxP λ_ _ _ _=>.int _
theorem zxt:OpR X (binaryOp .Pow) (upO X.K Z wPow):=opD zuy λ_ _ _ _=>.int _
abbrev wLt:W2:=wI0 λi j=>.bl (decide (i<j))
abbrev wLe:W2:=wI0 λi j=>.bl (decide (i≤j))
abbrev wGt:W2:=wI0 λi j=>.bl (decide (j<i))
abbrev wGe:W2:=wI0 λi j=>.bl (decide (j≤i))
theorem zbf:OpR X (compareOp .Lt) (upO X.K Z wLt):=zeB op_lt λ_ _ _ _=>.bl _
theorem zdM:OpR X (compareOp .LtE) (upO X.K Z wLe):=zeB op_le λ_ _ _ _=>.bl _
theorem zdV:OpR X (compareOp .Gt) (upO X.K Z wGt):=zeB op_gt λ_ _ _ _=>.bl _
theorem zkv:OpR X (compareOp .GtE) (upO X.K Z wGe):=zeB op_ge λ_ _ _ _=>.bl _
def wNeg:W1:=λx S Q=>match x with
 | .int i=>Q (.int (-i)) S
 | _=>False
theorem zcJ:UnR X (unaryOp .USub) (upU X.K Z wNeg):=zsS zw4 λx H Qv ⟨r,S,dx,Q,rel,px,q,ret⟩=>by
 cases px <;> first
  | exact⟨_,rfl,ret _ _ _ _ _ Ext.refl rel (.int _) q⟩
  | exact(show False from q).elim
end
def eqF:D→D→Option Bool
 | .non,.non=>some true
 | .bl i,.bl j=>some (i==j)
 | .int i,.int j=>some (decide (i=j))
 | .str i,.str j=>some (decide (i=j))
 | .non,.int _=>some false | .int _,.non=>some false | .non,.bl _=>some false | .bl _,.non=>some false | .non,.str _=>some false | .str _,.non=>some false
 | .int _,.str _=>some false | .str _,.int _=>some false | .bl _,.str _=>some false | .str _,.bl _=>some false
 | _,_=>none
def eqL (f:D→D→Option Bool):List D→List D→Option Bool
 | [],[]=>some true
 | x::xs,y::ys=>match f x y,eqL f xs ys with
  | some b,some c=>some (b&&c)
  | _,_=>none
 | _,_=>some false
def eqT (f:D→D→Option Bool):D→D→Option Bool
 | .tup xs,.tup ys=>eqL f xs ys
 | x,y=>eqF x y
abbrev eq1:D→D→Option Bool:=eqT eqF
abbrev eq2:D→D→Option Bool:=eqT eq1
def zdt (n:Nat)(f:D→D→Option Bool):Prop:=∀(X:Cx) (pins:List (Addr×Obj)) (σ:St) (H:Hp) (s:Shared) (r:List Addr) (A:Around) (dx dy:D) (x y:V) (u v:Value) (b:Bool),
 Inv X pins σ H s→A.units+n<cLine→Rp r H dx x→Rp r H dy y→zav x u→zav y v→f dx dy=some b→SeqAt.EqAt A s u v b
def ze9 (f:D→D→Option Bool):Prop:=∀(r:List Addr) (H:Hp) (dx dy:D) (x:V) (b:Bool),Rp r H dx x→Rp r H dy x→f dx dy=some b→b=true
theorem zez:ze9 eqF:=by
 intro r H dx dy x b px py e
 cases px <;> cases py <;> simp[eqF] at e <;> first | exact e.symm | exact e
theorem zpl {f:D→D→Option Bool}(hf:ze9 f){r:List Addr}{H:Hp}:∀ {xs ys:List D} {vs:List V} {b:Bool},Rps r H xs vs→Rps r H ys vs→eqL f xs ys=some b→b=true
 | [],[],_,b,_,_,e=>by simp[eqL] at e; exact e
 | [],y::ys,vs,b,p,q,e=>by
  have h1:=p.unnil
  subst h1
  exact absurd q.1 (by simp)
 | x::xs,[],vs,b,p,q,e=>by
  have h1:=q.unnil
  subst h1
  exact absurd p.1 (by simp)
 | x::xs,y::ys,vs,b,p,q,e=>by
  obtain⟨v,vs',rfl,p1,p2⟩:=p.uncons
  obtain⟨q1,q2⟩:=q.tail
  unfold eqL at e
  split at e
  ·rename_i b1 c1 e1 e2
   have h1:=hf r H x y v b1 p1 q1 e1
   have h2:=zpl hf p2 q2 e2
   subst h1; subst h2
   simp at e
   exact e
  ·cases e
theorem zo7 {f:D→D→Option Bool}(hf:ze9 f):ze9 (eqT f):=by
 intro r H dx dy x b px py e
 cases px with
 | tup e1 l1 f1=>
  cases py with
  | tup e2 l2 f2=>
   rw[e1] at e2; cases e2
   exact zpl hf ⟨l1,f1⟩ ⟨l2,f2⟩ e
  | ref h=>simp[eqT,eqF] at e
  | exc h=>simp[eqT,eqF] at e
 | non=>exact zez r H _ _ _ b .non py (by cases py <;> exact e)
 | bl i=>exact zez r H _ _ _ b (.bl i) py (by cases py <;> exact e)
 | int i=>exact zez r H _ _ _ b (.int i) py (by cases py <;> exact e)
 | str i=>exact zez r H _ _ _ b (.str i) py (by cases py <;> exact e)
 | ref h=>cases py <;> simp[eqT,eqF] at e
 | exc h=>cases py <;> simp[eqT,eqF] at e
theorem zix (n:Nat):zdt n eqF:=by
 intro X pins σ H s r A dx dy x y u v b I hu px py rx ry e
 have fin:∀ {x y:V},zav x u→zav y v→zk8 x=true→zk8 y=true→eqV x y=b→SeqAt.EqAt A s u v b:=λrx ry fx fy e'=>by
  subst e'; exact zwv rx ry fx fy
 cases px <;> cases py <;> simp[eqF] at e <;> refine fin rx ry rfl rfl ?_ <;> simp[eqV,e] <;> first | exact e | (subst e; simp) | skip
theorem zeX {X:Cx}{pins:List (Addr×Obj)}{σ:St}{H:Hp}{s:Shared}{a:Addr}{xs:List V}(I:Inv X pins σ H s)(h:H a=some (.tup xs)):∃its:List Value,zay xs its∧IsTup s.heap a its.toArray∧xs.length≤sizeLine:=I.tuple (SqT.of h)
def zcB (f:D→D→Option Bool)(xs ys:List D)(j:Nat):Bool:=match xs[j]?,ys[j]? with
 | some x,some y=>(f x y).getD false
 | _,_=>false
theorem zqp {f:D→D→Option Bool}:∀ {xs ys:List D} {b:Bool},eqL f xs ys=some b→(∀(j:Nat) (x y:D),xs[j]?=some x→ys[j]?=some y→∃c,f x y=some c)∧((List.range (min xs.length ys.length)).all (zcB f xs ys)&&xs.length==ys.length)=b
 | [],[],b,e=>by simp[eqL] at e; subst e; simp
 | [],y::ys,b,e=>by simp[eqL] at e; subst e; simp
 | x::xs,[],b,e=>by simp[eqL] at e; subst e; simp
 | x::xs,y::ys,b,e=>by
  unfold eqL at e
  split at e
  ·rename_i b1 c1 e1 e2
   obtain⟨h1,h2⟩:=zqp e2
   refine⟨λj p q hp hq=>?_,?_⟩
   ·cases j with
    | zero=>simp at hp hq; subst hp; subst hq; exact⟨b1,e1⟩
    | succ j=>exact h1 j p q (by simpa using hp) (by simpa using hq)
   ·have z:min (x::xs).length (y::ys).length=min xs.length ys.length+1:=by simp[Nat.succ_min_succ]
    rw[z,List.range_succ_eq_map,List.all_cons,List.all_map]
    have e0:zcB f (x::xs) (y::ys) 0=b1:=by simp[zcB,e1]
    have es:(zcB f (x::xs) (y::ys) ∘ Nat.succ)=zcB f xs ys:=by funext j; simp[zcB]
    rw[e0,es]
    have e3:((x::xs).length==(y::ys).length)=(xs.length==ys.length):=by simp
    rw[e3,Bool.and_assoc,h2]
    simp at e
    exact e
  ·cases e
theorem zoi {n:Nat}{f:D→D→Option Bool}(hf:zdt n f){X:Cx}{pins:List (Addr×Obj)}{σ:St}{H:Hp}{s:Shared}{r:List Addr}{A:Around}{xs ys:List D}{us vs:List V}{is js:List Value}{b:Bool}
  (I:Inv X pins σ H s)(hu:A.units+n<cLine)(p:Rps r H xs us)(q:Rps r H ys vs)(ri:zay us is)(rj:zay vs js)(e:eqL f xs ys=some b):
  (∀j (h1:j<is.toArray.size) (h2:j<js.toArray.size),SeqAt.EqAt A s is.toArray[j] js.toArray[j] (zcB f xs ys j))∧((List.range (min is.toArray.size js.toArray.size)).all (zcB f xs ys)&&is.toArray.size==js.toArray.size)=b:=by
 obtain⟨h1,h2⟩:=zqp e
 have l1:is.toArray.size=xs.length:=by rw[Vai,← ri.length,p.1]
 have l2:js.toArray.size=ys.length:=by rw[Vai,← rj.length,q.1]
 refine⟨λj hj1 hj2=>?_,by rw[l1,l2]; exact h2⟩
 have k1:j<xs.length:=by omega
 have k2:j<ys.length:=by omega
 have g1:xs[j]?=some xs[j]:=by simp[k1]
 have g2:ys[j]?=some ys[j]:=by simp[k2]
 obtain⟨x,gx,px⟩:=p.get g1
 obtain⟨y,gy,py⟩:=q.get g2
 obtain⟨u,gu,ru⟩:=ri.get gx
 obtain⟨v,gv,rv⟩:=rj.get gy
 obtain⟨c,hc⟩:=h1 j _ _ g1 g2
 have eu:is.toArray[j]=u:=by
  have z:=Vab.mp gu
  simpa using z.2
 have ev:js.toArray[j]=v:=by
  have z:=Vab.mp gv
  simpa using z.2
 have ec:zcB f xs ys j=c:=by simp[zcB,g1,g2,hc]
 rw[eu,ev,ec]
 exact hf X pins σ H s r A _ _ x y u v c I hu px py ru rv hc
theorem zpo {n:Nat}{f:D→D→Option Bool}(hf:zdt n f)(hs:ze9 f):zdt (n+1) (eqT f):=by
 intro X pins σ H s r A dx dy x y u v b I hu px py rx ry e
 have zbD:∀ {dx dy:D} {x y:V},Rp r H dx x→Rp r H dy y→zav x u→zav y v→eqF dx dy=some b→SeqAt.EqAt A s u v b:=λpx py rx ry e=>zix (n+1) X pins σ H s r A _ _ _ _ u v b I hu px py rx ry e
 cases px with
 | @tup ds xs a e1 l1 f1=>
  cases py with
  | @tup es ys a' e2 l2 f2=>
   cases rx
   cases ry
   by_cases z:a=a'
   ·subst z
    have hb:=zo7 hs r H _ _ _ b (.tup e1 l1 f1) (.tup e2 l2 f2) e
    subst hb
    exact SeqAt.EqAt.same _
   ·obtain⟨is,ri,ti,_⟩:=zeX I e1
    obtain⟨js,rj,tj,_⟩:=zeX I e2
    obtain⟨g1,g2⟩:=zoi (A:=A.in1) hf I (by show A.units+1+n<_; omega) ⟨l1,f1⟩ ⟨l2,f2⟩ ri rj e
    have q:=SeqAt.RcAt.tuples (A:=A) ti tj (by omega) g1
    rw[g2] at q
    exact SeqAt.EqAt.of_refs z q
  | ref h=>simp[eqT,eqF] at e
  | _=>simp[eqT,eqF] at e
 | non=>exact zbD .non py rx ry (by cases py <;> exact e)
 | bl i=>exact zbD (.bl i) py rx ry (by cases py <;> exact e)
 | int i=>exact zbD (.int i) py rx ry (by cases py <;> exact e)
 | str i=>exact zbD (.str i) py rx ry (by cases py <;> exact e)
 | ref h=>cases py <;> simp[eqT,eqF] at e
 | exc h=>cases py <;> simp[eqT,eqF] at e
theorem zqi (n:Nat):zdt (n+1) eq1:=zpo (zix n) zez
def wEq (f:D→D→Option Bool):W2:=λx y S Q=>match f x y with
 | some b=>Q (.bl b) S
 | none=>False
def wNe (f:D→D→Option Bool):W2:=λx y S Q=>match f x y with
 | some b=>Q (.bl (!b)) S
 | none=>False
section
variable {X:Cx}{Z:Zx}
theorem zoU {r:List Addr}{H:Hp}{dx dy:D}{x y:V}{b:Bool}(px:Rp r H dx x)(py:Rp r H dy y)(e:eqF dx dy=some b):zlq x y=true∧decide (x=y)=b:=by
 cases px <;> cases py <;> simp[eqF] at e <;> simp[zlq] <;> first | exact e | (subst e; simp) | skip
theorem znj {n:Nat}{f:D→D→Option Bool}(hf:zdt n f)(hu:X.A.units+1+n<cLine):OpR X (compareOp .Eq) (upO X.K Z (wEq (eqT f))):=by
 intro pins s σ H x y v u Qv I rx ry h
 obtain⟨r,S,dx,dy,Q,rel,px,py,q,ret⟩:=h
 unfold wEq at q
 split at q
 ·rename_i b e
  have zbD:∀ {dx dy:D} {x y:V},Rp r H dx x→Rp r H dy y→zav x v→zav y u→eqF dx dy=some b→wpAny (model X.prog X.w) X.A (compareOp .Eq v u) (EP X pins σ Qv) X.xe s:=λpx py rx ry e=>by
   obtain⟨h1,h2⟩:=zoU px py e
   refine zn9 pins s σ H _ _ v u Qv I rx ry ⟨h1,?_⟩
   rw[h2]
   exact ret _ _ _ _ _ Ext.refl rel (.bl b) q
  cases px with
  | @tup ds xs a e1 l1 f1=>
   cases py with
   | @tup es ys a' e2 l2 f2=>
    cases rx
    cases ry
    obtain⟨is,ri,ti,_⟩:=zeX I e1
    obtain⟨js,rj,tj,_⟩:=zeX I e2
    obtain⟨g1,g2⟩:=zoi (A:=X.A.in1) hf I (by show X.A.units+1+n<_; omega) ⟨l1,f1⟩ ⟨l2,f2⟩ ri rj e
    refine SeqAt.eq_tupleAt (A:=X.A) ti tj (by omega) g1 ?_
    rw[g2]
    exact⟨.bl b,H,I,rfl,ret _ _ _ _ _ Ext.refl rel (.bl b) q⟩
   | _=>simp[eqT,eqF] at e
  | non=>exact zbD .non py rx ry (by cases py <;> exact e)
  | bl i=>exact zbD (.bl i) py rx ry (by cases py <;> exact e)
  | int i=>exact zbD (.int i) py rx ry (by cases py <;> exact e)
  | str i=>exact zbD (.str i) py rx ry (by cases py <;> exact e)
  | ref h=>cases py <;> simp[eqT,eqF] at e
  | exc h=>cases py <;> simp[eqT,eqF] at e
 ·exact q.elim
theorem zrD {n:Nat}{f:D→D→Option Bool}(hf:zdt n f)(hu:X.A.units+1+n<cLine):OpR X (compareOp .NotEq) (upO X.K Z (wNe (eqT f))):=by
 intro pins s σ H x y v u Qv I rx ry h
 obtain⟨r,S,dx,dy,Q,rel,px,py,q,ret⟩:=h
 unfold wNe at q
 split at q
 ·rename_i b e
  have zbD:∀ {dx dy:D} {x y:V},Rp r H dx x→Rp r H dy y→zav x v→zav y u→eqF dx dy=some b→wpAny (model X.prog X.w) X.A (compareOp .NotEq v u) (EP X pins σ Qv) X.xe s:=λpx py rx ry e=>by
   obtain⟨h1,h2⟩:=zoU px py e
   refine op_ne pins s σ H _ _ v u Qv I rx ry ⟨h1,?_⟩
   rw[h2]
   exact ret _ _ _ _ _ Ext.refl rel (.bl (!b)) q
  cases px with
  | @tup ds xs a e1 l1 f1=>
   cases py with
   | @tup es ys a' e2 l2 f2=>
    cases rx
    cases ry
    obtain⟨is,ri,ti,_⟩:=zeX I e1
    obtain⟨js,rj,tj,_⟩:=zeX I e2
    obtain⟨g1,g2⟩:=zoi (A:=X.A.in1) hf I (by show X.A.units+1+n<_; omega) ⟨l1,f1⟩ ⟨l2,f2⟩ ri rj e
    refine SeqAt.RcNeAt.tuples (A:=X.A) ti tj (by omega) g1 X.prog X.w _ _ ?_
    rw[g2]
    exact⟨.bl (!b),H,I,rfl,ret _ _ _ _ _ Ext.refl rel (.bl (!b)) q⟩
   | _=>simp[eqT,eqF] at e
  | non=>exact zbD .non py rx ry (by cases py <;> exact e)
  | bl i=>exact zbD (.bl i) py rx ry (by cases py <;> exact e)
  | int i=>exact zbD (.int i) py rx ry (by cases py <;> exact e)
  | str i=>exact zbD (.str i) py rx ry (by cases py <;> exact e)
  | ref h=>cases py <;> simp[eqT,eqF] at e
  | exc h=>cases py <;> simp[eqT,eqF] at e
 ·exact q.elim
theorem zaI {k:Nat}(hr:zaN k X.A):OpR X (compareOp .Eq) (upO X.K Z (wEq eq2)):=znj (zqi 0) (by have:=hr.un; omega)
theorem ziw {k:Nat}(hr:zaN k X.A):OpR X (compareOp .NotEq) (upO X.K Z (wNe eq2)):=zrD (zqi 0) (by have:=hr.un; omega)
end
section
variable {X:Cx}{Z:Zx}{a b c:Expr}{ta tb tc:TDE}{pos:Pos}{za9:List Expr}
def zll (t:TDE):TDT:=λdl S Q=>t dl S λd S'=>match d with
 | .bl k=>Q k S'
 | _=>False
theorem znQ {K:PySem.W.Frag}{Z:Zx}{r:List Addr}{H:Hp}{Q:Bool→Sto→Prop}{Qb:Bool→Hp→Prop}(h:∀b H' r' S',Ext r r' H H'→Rel K Z r' S' H'→Q b S'→Qb b H'):
  Ret K Z r H (λd S'=>match d with | .bl k=>Q k S' | _=>False) (λx H'=>∃k,x=.bl k∧Qb k H'):=λv H' r' d S' e rel p q=>by
 cases p with
 | bl k=>exact⟨k,rfl,h k H' r' S' e rel q⟩
 | _=>exact(show False from q).elim
theorem zas {op:CmpOp}{w:W2}(ho:OpR X (compareOp op) (upO X.K Z w))(ha:PD X Z a ta)(hb:PD X Z b tb)(hm:behindInMarks op b=false):PDT X Z (.Compare a [op] [b] pos) (zll (dOp w ta tb)):=
 zkS (zrF ho ha hb hm) λσ H Qb ⟨r,dl,S,Q,rs,rel,h,ret⟩=>zlw ⟨r,dl,S,_,rs,rel,h,znQ ret⟩
theorem zbh {e:Expr}{t:TDE}(h:PD X Z e t)(he:∀whole,isTrue e X.env whole=(do let v ← whole; standAt e.pos; holding [v] (truthy v)):=by intro _; rfl):PDT X Z e (zll t):=
 zkS (zw5 h he) λσ H Qb ⟨r,dl,S,Q,rs,rel,h,ret⟩=>⟨r,dl,S,_,rs,rel,h,znQ ret⟩
def dNot (t:TDT):TDT:=λdl S Q=>t dl S λk S'=>Q (!k) S'
theorem zbU {t:TDT}(ha:PDT X Z a t):PDT X Z (.UnaryOp .Not a pos) (dNot t):=
 zkS (zuD ha) λσ H Qb ⟨r,dl,S,Q,rs,rel,h,ret⟩=>⟨r,dl,S,_,rs,rel,h,λk H' r' S' e rel' q=>ret (!k) H' r' S' e rel' q⟩
def dAnd (t u:TDT):TDT:=λdl S Q=>t dl S λk S1=>if k=true then u dl S1 Q else Q false S1
def dOr (t u:TDT):TDT:=λdl S Q=>t dl S λk S1=>if k=true then Q true S1 else u dl S1 Q
theorem zeR {t:TDT}(ha:PDT X Z a t):PDW X Z (.BoolOp .And [a] pos) t:=ztC ha
theorem zcI {t:TDT}(ha:PDT X Z a t):PDW X Z (.BoolOp .Or [a] pos) t:=zxB ha
theorem zdk {t u:TDT}(ha:PDT X Z a t)(hb:PDW X Z (.BoolOp .And (b::za9) pos) u):PDW X Z (.BoolOp .And (a::b::za9) pos) (dAnd t u):=
 zqz (zuM ha hb) λσ H Qb ⟨r,dl,S,Q,rs,rel,h,ret⟩=>⟨r,dl,S,_,rs,rel,h,λk H1 r1 S1 e1 rel1 q1=>by
  cases k with
  | true=>exact zcd ⟨r1,dl,S1,Q,rs.ext e1,rel1,(by simpa using q1),λk' H2 r2 S2 e2=>ret k' H2 r2 S2 (e1.trans e2)⟩
  | false=>exact zbE (ret false H1 r1 S1 e1 rel1 (by simpa using q1))⟩
theorem zbQ {t u:TDT}(ha:PDT X Z a t)(hb:PDW X Z (.BoolOp .Or (b::za9) pos) u):PDW X Z (.BoolOp .Or (a::b::za9) pos) (dOr t u):=
 zqz (pw_or ha hb) λσ H Qb ⟨r,dl,S,Q,rs,rel,h,ret⟩=>⟨r,dl,S,_,rs,rel,h,λk H1 r1 S1 e1 rel1 q1=>by
  cases k with
  | true=>exact zcd (ret true H1 r1 S1 e1 rel1 (by simpa using q1))
  | false=>exact zbE ⟨r1,dl,S1,Q,rs.ext e1,rel1,(by simpa using q1),λk' H2 r2 S2 e2=>ret k' H2 r2 S2 (e1.trans e2)⟩⟩
def zqv (ta tb:TDE):TDE:=λdl S Q=>ta dl S λx S1=>match x with
 | .bl k=>if k=true then tb dl S1 Q else Q (.bl false) S1
 | _=>False
def dOrV (ta tb:TDE):TDE:=λdl S Q=>ta dl S λx S1=>match x with
 | .bl k=>if k=true then Q (.bl true) S1 else tb dl S1 Q
 | _=>False
def zp6 (ta:TDE):TDE:=λdl S Q=>ta dl S λx S1=>match x with
 | .bl k=>Q (.bl (!k)) S1
 | _=>False
theorem zky {op}{t:TDE}(h:PD X Z a t):PD X Z (.BoolOp op [a] pos) t:=zw6 h
theorem zoh (ha:PD X Z a ta)(hb:PD X Z (.BoolOp .And (b::za9) pos) tb):PD X Z (.BoolOp .And (a::b::za9) pos) (zqv ta tb):=
 za4 (zwV ha hb) λσ H Qv ⟨r,dl,S,Q,rs,rel,h,ret⟩=>⟨r,dl,S,_,rs,rel,h,λv H1 r1 d S1 e1 rel1 p q1=>by
  cases p with
  | bl k=>
   refine⟨k,rfl,?_⟩
   cases k with
   | true=>exact zcd ⟨r1,dl,S1,Q,rs.ext e1,rel1,(by simpa using q1),ret.ext e1⟩
   | false=>exact zbE (ret _ H1 r1 (.bl false) S1 e1 rel1 (.bl false) (by simpa using q1))
  | _=>exact(show False from q1).elim⟩
theorem zp5 (ha:PD X Z a ta)(hb:PD X Z (.BoolOp .Or (b::za9) pos) tb):PD X Z (.BoolOp .Or (a::b::za9) pos) (dOrV ta tb):=
 za4 (pe_or ha hb) λσ H Qv ⟨r,dl,S,Q,rs,rel,h,ret⟩=>⟨r,dl,S,_,rs,rel,h,λv H1 r1 d S1 e1 rel1 p q1=>by
  cases p with
  | bl k=>
   refine⟨k,rfl,?_⟩
   cases k with
   | true=>exact zcd (ret _ H1 r1 (.bl true) S1 e1 rel1 (.bl true) (by simpa using q1))
   | false=>exact zbE ⟨r1,dl,S1,Q,rs.ext e1,rel1,(by simpa using q1),ret.ext e1⟩
  | _=>exact(show False from q1).elim⟩
theorem zty (ha:PD X Z a ta):PD X Z (.UnaryOp .Not a pos) (zp6 ta):=
 za4 (ztl ha) λσ H Qv ⟨r,dl,S,Q,rs,rel,h,ret⟩=>⟨r,dl,S,_,rs,rel,h,λv H1 r1 d S1 e1 rel1 p q1=>by
  cases p with
  | bl k=>exact⟨k,rfl,ret _ H1 r1 (.bl (!k)) S1 e1 rel1 (.bl (!k)) q1⟩
  | _=>exact(show False from q1).elim⟩
def dIfE (t:TDT)(ta tb:TDE):TDE:=λdl S Q=>t dl S λk S1=>if k=true then ta dl S1 Q else tb dl S1 Q
theorem zcO {t:TDT}(hc:PDT X Z c t)(ha:PD X Z a ta)(hb:PD X Z b tb):PD X Z (.IfExp c a b pos) (dIfE t ta tb):=
 za4 (ztZ hc ha hb) λσ H Qv ⟨r,dl,S,Q,rs,rel,h,ret⟩=>⟨r,dl,S,_,rs,rel,h,λk H1 r1 S1 e1 rel1 q1=>by
  cases k with
  | true=>exact zcd ⟨r1,dl,S1,Q,rs.ext e1,rel1,(by simpa using q1),ret.ext e1⟩
  | false=>exact zbE ⟨r1,dl,S1,Q,rs.ext e1,rel1,(by simpa using q1),ret.ext e1⟩⟩
def zmy (w w':W2)(ta tb tc:TDE):TDE:=λdl S Q=>ta dl S λx S1=>tb dl S1 λy S2=>w x y S2 λz S3=>match z with
 | .bl k=>if k=true then tc dl S3 λu S4=>w' y u S4 Q else Q (.bl false) S3
 | _=>False
theorem zqI {w w':W2}{σ:St}{H:Hp}{Qv:VK}(h:up X.K Z (zmy w w' ta tb tc) σ H Qv):zm0 (upO X.K Z w) (upO X.K Z w') (up X.K Z ta) (up X.K Z tb) (up X.K Z tc) σ H Qv:=by
 obtain⟨r,dl,S,Q,rs,rel,h,ret⟩:=h
 refine⟨r,dl,S,_,rs,rel,h,λv H1 r1 dx S1 e1 rel1 p1 h1=>⟨r1,dl,S1,_,rs.ext e1,rel1,h1,λv2 H2 r2 dy S2 e2 rel2 p2 h2=>⟨r2,S2,dx,dy,_,rel2,p1.ext e2,p2,h2,λv3 H3 r3 dz S3 e3 rel3 p3 h3=>?_⟩⟩⟩
 cases p3 with
 | bl k=>
  refine⟨k,rfl,?_⟩
  cases k with
  | true=>exact zcd ⟨r3,dl,S3,_,rs.ext (e1.trans (e2.trans e3)),rel3,(by simpa using h3),λv4 H4 r4 du S4 e4 rel4 p4 h4=>⟨r4,S4,dy,du,Q,rel4,(p2.ext e3).ext e4,p4,h4,ret.ext (e1.trans (e2.trans (e3.trans e4)))⟩⟩
  | false=>exact zbE (ret _ H3 r3 (.bl false) S3 (e1.trans (e2.trans e3)) rel3 (.bl false) (by simpa using h3))
 | _=>exact(show False from h3).elim
theorem zqT {op op':CmpOp}{w w':W2}(ho:OpR X (compareOp op) (upO X.K Z w))(ho':OpR X (compareOp op') (upO X.K Z w'))(ha:PD X Z a ta)(hb:PD X Z b tb)(hc:PD X Z c tc)
  (hm:lastMarks [op,op'] [b,c]=false:=by with_unfolding_all rfl):PD X Z (.Compare a [op,op'] [b,c] pos) (zmy w w' ta tb tc):=za4 (zxE ho ho' ha hb hc hm) λ_ _ _ h=>zqI h
theorem zpZ {op op':CmpOp}{w w':W2}(ho:OpR X (compareOp op) (upO X.K Z w))(ho':OpR X (compareOp op') (upO X.K Z w'))(ha:PD X Z a ta)(hb:PD X Z b tb)(hc:PD X Z c tc)
  (hm:lastMarks [op,op'] [b,c]=false:=by with_unfolding_all rfl):PDT X Z (.Compare a [op,op'] [b,c] pos) (zll (zmy w w' ta tb tc)):=
 zkS (zur ho ho' ha hb hc hm) λσ H Qb ⟨r,dl,S,Q,rs,rel,h,ret⟩=>zqI ⟨r,dl,S,_,rs,rel,h,znQ ret⟩
def zji:D→Bool
 | .non=>true
 | _=>false
def wIsN:W2:=λx y S Q=>match y with
 | .non=>Q (.bl (zji x)) S
 | _=>False
def wNotN:W2:=λx y S Q=>match y with
 | .non=>Q (.bl (!zji x)) S
 | _=>False
theorem zxG {r:List Addr}{H:Hp}{d:D}{x:V}(p:Rp r H d x):decide (x=.non)=zji d:=by
 cases p <;> simp[zji]
theorem zbI:OpR X (compareOp .Is) (upO X.K Z wIsN):=zgI zwu λx y H Qv ⟨r,S,dx,dy,Q,rel,px,py,q,ret⟩=>by
 cases py with
 | non=>exact⟨rfl,by rw[zxG px]; exact ret _ _ _ _ _ Ext.refl rel (.bl _) q⟩
 | _=>exact(show False from q).elim
variable {e:Expr}{es:List Expr}
def dNil:TDA:=λ_ S Q=>Q [] S
def zpR (ta:TDE)(tr:TDA):TDA:=λdl S Q=>ta dl S λx S1=>tr dl S1 λxs S2=>Q (x::xs) S2
theorem zac:PDA X Z [] dNil:=zp7 zhX λσ H Qv ⟨r,dl,S,Q,rs,rel,h,ret⟩=>ret [] H r [] S Ext.refl rel Rps.nil h
theorem zaa {te:TDE}{t:TDA}(ha:PD X Z e te)(hr:PDA X Z es t)(hs:starEach (e::es) X.env=(false,eval e X.env)::starEach es X.env:=by rfl):PDA X Z (e::es) (zpR te t):=
 zp7 (zfc ha hr hs) λσ H Qv ⟨r,dl,S,Q,rs,rel,h,ret⟩=>⟨r,dl,S,_,rs,rel,h,λv H1 r1 d S1 e1 rel1 p1 h1=>⟨r1,dl,S1,_,rs.ext e1,rel1,h1,λvs H2 r2 ds S2 e2 rel2 p2 h2=>
  ret (v::vs) H2 r2 (d::ds) S2 (e1.trans e2) rel2 (Rps.cons (p1.ext e2) p2) h2⟩⟩
def dTup (t:TDA):TDE:=λdl S Q=>t dl S λds S1=>if ds.length≤1000 then Q (.tup ds) S1 else False
def dLst (t:TDA):TDE:=λdl S Q=>t dl S λds S1=>if ds.length≤1000 then Q (.ref S1.length) (S1++[.lst ds]) else False
theorem zjB {A:Prop}{p:Prop} [Decidable p] (h:if p then A else False):p∧A:=by
 split at h
 ·exact⟨by assumption,h⟩
 ·exact h.elim
theorem zkq {n:Nat}(h:n≤1000):n≤sizeLine:=VaY (zns h)
theorem zaA {x1}{t:TDA}(h:PDA X Z es t):PD X Z (.Tuple es x1 pos) (dTup t):=
 za4 (zrh h) λσ H Qv ⟨r,dl,S,Q,rs,rel,h,ret⟩=>⟨r,dl,S,_,rs,rel,h,λvs H1 r1 ds S1 e1 rel1 p1 h1=>by
  obtain⟨hl,h1⟩:=zjB h1
  refine⟨by rw[← p1.1]; exact zkq hl,λp hp=>?_⟩
  have x:Ext r1 r1 H1 (upd H1 p (.tup vs)):=⟨λ_ _ q=>q,λa xs q=>zdn hp _ _ q,λa c q=>zdn hp _ _ q⟩
  exact ret _ _ r1 (.tup ds) S1 (e1.trans x) (rel1.same (zdn hp)) ((p1.ext x).tupR zcz) h1⟩
theorem zeH {r:List Addr}{p:Addr}{H:Hp}{n:Nat}(h:r.length=n):Rp (r++[p]) H (.ref n) (.ref p):=.ref (by subst h; simp)
theorem zbg {t:TDA}(h:PDA X Z es t):PD X Z (.List es pos) (dLst t):=
 za4 (zt6 h) λσ H Qv ⟨r,dl,S,Q,rs,rel,h,ret⟩=>⟨r,dl,S,_,rs,rel,h,λvs H1 r1 ds S1 e1 rel1 p1 h1=>by
  obtain⟨hl,h1⟩:=zjB h1
  refine⟨by rw[← p1.1]; exact zkq hl,λp hp=>?_⟩
  obtain⟨rel2,x⟩:=rel1.push hp p1
  exact ret _ _ _ (.ref S1.length) _ (e1.trans x) rel2 (zeH rel1.len) h1⟩
def wIx:W2:=λx y S Q=>match x,y with
 | .tup xs,.int i=>match atI xs i with
  | some d=>Q d S
  | none=>False
 | .ref n,.int i=>match lAt S n with
  | some o=>match atI (zaz o) i with
   | some d=>Q d S
   | none=>False
  | none=>False
 | _,_=>False
theorem zqQ {r:List Addr}{H:Hp}{ds:List D}{vs:List V}{i:Int}{d:D}(h:Rps r H ds vs)(e:atI ds i=some d):∃v,atI vs i=some v∧Rp r H d v:=by
  unfold atI at e ⊢
  rw[← h.1]
  cases q:ixN ds.length i with
  | none=>
   rw[q] at e
   cases e
  | some j=>
    rw[q] at e
    exact h.get e
theorem do_ix:IxR X (upO X.K Z wIx):=by
 intro value slice pins s σ H x y v u Qv I rx ry h hs
 obtain⟨r,S,dx,dy,Q,rel,px,py,q,ret⟩:=h
 cases px with
 | @tup ds xs a e1 l1 f1=>
  cases py with
  | int i=>
   have q':(match atI ds i with | some d=>Q d S | none=>False):=q
   split at q'
   ·rename_i d e
    obtain⟨w,hw,pw⟩:=zqQ ⟨l1,f1⟩ e
    exact zvt value slice pins s σ H _ _ v u Qv I rx ry ⟨a,xs,i,w,rfl,rfl,SqT.of e1,hw,ret w H r d S Ext.refl rel pw q'⟩ hs
   ·exact q'.elim
  | _=>exact(show False from q).elim
 | @ref n a e1=>
  cases py with
  | int i=>
   have q':(match lAt S n with | some o=>(match atI (zaz o) i with | some d=>Q d S | none=>False) | none=>False):=q
   split at q'
   ·rename_i o eo
    obtain⟨eo,eL⟩:=zcg eo
    obtain⟨a',ha,ob⟩:=rel.at eo
    rw[e1] at ha; cases ha
    obtain⟨xs,sq,pr⟩:=ob.list eL
    split at q'
    ·rename_i d e
     obtain⟨w,hw,pw⟩:=zqQ pr e
     exact zuC value slice pins s σ H _ _ v u Qv I rx ry ⟨a,xs,i,w,rfl,rfl,sq,hw,ret w H r d S Ext.refl rel pw q'⟩ hs
    ·exact q'.elim
   ·exact q'.elim
  | _=>exact(show False from q).elim
 | _=>exact(show False from q).elim
theorem zad (ha:PD X Z a ta)(hb:PD X Z b tb)(hs:znC b):PD X Z (.Subscript a b pos) (dOp wIx ta tb):=za4 (pe_ix do_ix ha hb hs) λ_ _ _ h=>zlw h
end
structure Bk (fs:List Addr)(H H':Hp)(B h:Heap)(ea:Addr):Prop where
 trk:∀b u,H' b=some u→∃o,B.get? b=some o
 old:∀b o,h.get? b=some o→H b=none→b ∉ fs→B.get? b=some o
 all:∀b o,h.get? b=some o→b ∉ fs→∃o',B.get? b=some o'
 new:H' ea=none
def CXE (P:Program)(w:World):CXT:=λouter H s E e s'=>∃(ea c:Addr) (a0:Value) (B:Heap) (H':Hp),e=.ref ea∧s'.os=s.os∧AllBare s'.gens∧Un (frs outer) [] H H' s.heap s'.heap∧HOk P w H' s'.heap∧
 Heap.FlyingW B outer ea (.ref c) a0 s'.heap∧Bk (frs outer) H H' B s.heap ea∧E (.ref c) none H'
section
variable {X:Cx}{pins:List (Addr×Obj)}{σ:St}{H:Hp}{s:Shared}
end
section
variable {P:Program}{w:World}{K:PySem.W.Frag}{mg:Str→Option Value}{base:Heap}{N:List Str}{qual:Str}{scope:Scope}{f:Addr}{cdv:Value}{A:Around}{outer:List Env}{s0:Shared}{H0:Hp}{E:XK}
end
structure Xc (K:PySem.W.Frag)(mg:Str→Option Value)(x:Str)(C:Addr)(bm:List Value)(nid:String):Prop where
 bound:mg x=some (.ref C)
 ex:PySem.W.excIn K C bm nid=true
abbrev WC:=List D→Sto→DK→Prop
abbrev Sd:=List D→Sto→DK→(Addr→Sto→Prop)→Prop
def upC (K:PySem.W.Frag)(Z:Zx)(w:WC):List V→Hp→VK→Prop:=λxs H Qv=>∃r S ds Q,Rel K Z r S H∧Rps r H ds xs∧w ds S Q∧Ret K Z r H Q Qv
def upF (K:PySem.W.Frag)(sd:Sd):Sp:=λvs H Qv E=>∃ex:Addr→Sto→Prop,upC K (Zc ex E) (λds S Q=>sd ds S Q ex) vs H Qv
def zl4 (w:WC)(t:TDA):TDE:=λdl S Q=>t dl S λds S1=>w ds S1 Q
def zkl (ex:Ev→Addr→Sto→Prop)(sd:Sd)(t:TDA):TDE:=λdl S Q=>t dl S λds S1=>sd ds S1 Q (ex dl)
def zcK (X:Cx)(W:St→XK):Prop:=∀(pins:List (Addr×Obj)) (σ:St) (H:Hp) (s:Shared) (e:Value) (s':Shared),Inv X pins σ H s→CXE X.prog X.w X.stack H s (W σ) e s'→X.xe e s'
section
variable {X:Cx}{k:Nat}{f:Addr}{fd:FuncData}{ps:List Str}{sp:Sp}{W:St→XK}{x:Str}{p pos:Pos}{e:Expr}{es:List Expr}{t:TA}
theorem zm7 {pins:List (Addr×Obj)}{σ:St}{H:Hp}{s:Shared}{Q:VK}{us:List Value}{vs:List V}(F:za1 X.prog X.w X.K X.mg X.base (CXE X.prog X.w) k f fd ps sp)(hr:zaN k X.A)(hb:zbs X.K fd ps [])(hx:zcK X W)
  (I:Inv X pins σ H s)(r:zay vs us)(h:sp vs H Q (W σ)):wpAny (model X.prog X.w) X.A (call (.ref f) us) (EP X pins σ Q) X.xe s:=by
 have hl:us.length=ps.length:=by rw[← r.length]; exact F.len _ _ _ _ h
 have hb':=hb s us I.kIn (by rw[Va3]; exact hl)
 rw[Va3] at hb'
 refine wpAny_call (codeAny_mono (F.run X.A X.stack s H ⟨us,[]⟩ us vs Q (W σ) hr I.env0 hb' r h) λz s' hq=>?_)
 cases z with
 | error ev=>exact hx pins σ H s ev s' I hq
 | ok fl=>
  cases fl with
  | ret u=>exact I.after hq
  | _=>exact False.elim hq
theorem zsY (F:za1 X.prog X.w X.K X.mg X.base (CXE X.prog X.w) k f fd ps sp)(hr:zaN k X.A)(hg:Gl X x)(hm:X.mg x=some (.ref f))(hk:PySem.W.keepIn X.K (.ref f)=true)(hb:zbs X.K fd ps [])(hx:zcK X W)
  (ha:PA X (e::es) t)(hdb:(x==("__debug__":Str))=false)(he:starEach (e::es) X.env=(false,eval e X.env)::starEach es X.env)(hpl:(backTo pos (starEach es X.env)).any (·.1)=false):
  PE X (.Call (.Name x p) (e::es) [] pos) (λσ H Q=>t σ H λvs H1=>sp vs H1 Q (W σ)):=by
 intro pins s σ H Q I h
 refine wpAny_Call_Name_kw (zpe I hg hm ?_ hdb)
 exact PySem.W.callWith_K (h₀:=X.base) I.ok.mod.kin hk (thn (ha pos pins s σ H _ I h) λus s1 ⟨vs,H1,I1,r,q⟩=>⟨I1.kIn,zm7 F hr hb hx I1 r q⟩) he hpl
end
section
variable {X:Cx}{Z:Zx}{x:Str}{p pos:Pos}{e:Expr}{es:List Expr}{t:TDA}{id T:String}{w:WC}
theorem zqJ {σ:St}{H:Hp}{Qv:VK}(h:up X.K Z (zl4 w t) σ H Qv):upA X.K Z t σ H λvs H1=>upC X.K Z w vs H1 Qv:=by
 obtain⟨r,dl,S,Q,rs,rel,h,ret⟩:=h
 exact⟨r,dl,S,_,rs,rel,h,λvs H1 r1 ds S1 e1 rel1 p1 h1=>⟨r1,S1,ds,Q,rel1,p1,h1,ret.ext e1⟩⟩
theorem za0 (hc:zbc X (.builtin id) (upC X.K Z w))(hg:Gl X x)(hm:X.mg x=none)(hv:bootBuiltins x=some (.builtin id))(ha:PDA X Z (e::es) t)(hn:x≠"__name__":=by decide)(hdb:(x==("__debug__":Str))=false:=by decide)
  (he:starEach (e::es) X.env=(false,eval e X.env)::starEach es X.env:=by rfl)(hpl:(backTo pos (starEach es X.env)).any (·.1)=false:=by rfl):PD X Z (.Call (.Name x p) (e::es) [] pos) (zl4 w t):=
 za4 (zn0 hc hg hm hv ha hn hdb he hpl) λ_ _ _ h=>zqJ h
theorem ze7 (hc:zbc X (.type T) (upC X.K Z w))(hg:Gl X x)(hm:X.mg x=none)(hv:bootBuiltins x=some (.type T))(ha:PDA X Z (e::es) t)(hn:x≠"__name__":=by decide)(hdb:(x==("__debug__":Str))=false:=by decide)
  (he:starEach (e::es) X.env=(false,eval e X.env)::starEach es X.env:=by rfl)(hpl:(backTo pos (starEach es X.env)).any (·.1)=false:=by rfl):PD X Z (.Call (.Name x p) (e::es) [] pos) (zl4 w t):=
 za4 (zvW hc hg hm hv ha hn hdb he hpl) λ_ _ _ h=>zqJ h
theorem zn8 {sd:Sd}{r:List Addr}{S:Sto}{H:Hp}{dl:Ev}{σ:St}{ds:List D}{vs:List V}{Q:DK}{Qv:VK}(rs:Rs r H dl σ)(rel:Rel X.K Z r S H)(p:Rps r H ds vs)(h:sd ds S Q (Z.ex dl))(ret:Ret X.K Z r H Q Qv):upF X.K sd vs H Qv (Z.w σ):=
 ⟨Z.ex dl,r,S,ds,Q,⟨rel.b,λ_ _ c H' r' S' x _ rb q=>rel.xw dl σ c H' r' S' x (rs.ext x) rb q⟩,p,h,λv H' r' d S' x rel' pv q=>ret v H' r' d S' x ⟨rel'.b,rel.xw.ext x⟩ pv q⟩
theorem zvl {k:Nat}{f:Addr}{fd:FuncData}{ps:List Str}{sd:Sd}(F:za1 X.prog X.w X.K X.mg X.base (CXE X.prog X.w) k f fd ps (upF X.K sd))(hr:zaN k X.A)(hg:Gl X x)(hm:X.mg x=some (.ref f))(hk:PySem.W.keepIn X.K (.ref f)=true)
  {ex:Ev→Addr→Sto→Prop}{W:St→XK}(hb:zbs X.K fd ps [])(hx:zcK X W)(ha:PDA X ⟨ex,W⟩ (e::es) t)(hdb:(x==("__debug__":Str))=false:=by decide)(he:starEach (e::es) X.env=(false,eval e X.env)::starEach es X.env:=by rfl)
  (hpl:(backTo pos (starEach es X.env)).any (·.1)=false:=by rfl):PD X ⟨ex,W⟩ (.Call (.Name x p) (e::es) [] pos) (zkl ex sd t):=
 za4 (zsY F hr hg hm hk hb hx ha hdb he hpl) λσ H Qv ⟨r,dl,S,Q,rs,rel,h,ret⟩=>⟨r,dl,S,_,rs,rel,h,λvs H1 r1 ds S1 e1 rel1 p1 h1=>zn8 (Z:=⟨ex,W⟩) (rs.ext e1) rel1 p1 h1 (ret.ext e1)⟩
def wAbs:WC:=λds S Q=>match ds with
 | [.int i]=>Q (.int (if i<0 then -i else i)) S
 | _=>False
theorem znY:zbc X (.builtin "abs") (upC X.K Z wAbs):=znq zuk λxs H Qv ⟨r,S,ds,Q,rel,ps,q,ret⟩=>by
 unfold wAbs at q
 split at q
 ·rename_i i
  obtain⟨v,vs,rfl,p1,p2⟩:=ps.uncons
  have z:=p2.unnil
  subst z
  cases p1
  exact⟨i,rfl,ret _ _ _ _ _ Ext.refl rel (.int _) q⟩
 ·exact q.elim
def zdd:List D→Option (List Int)
 | []=>some []
 | .int i::r=>(zdd r).map (i::·)
 | _::_=>none
def zdS (le:Int→Int→Prop)(two:Int→Int→Int):WC:=λds S Q=>match ds with
 | [.int i,.int j]=>Q (.int (two i j)) S
 | [.ref n]=>match lAt S n with
  | some o=>match zdd (zaz o) with
   | some xs=>xs≠[]∧∀m,m∈xs→(∀y∈xs,le y m)→Q (.int m) S
   | none=>False
  | none=>False
 | _=>False
abbrev wMax:WC:=zdS (λy m=>y≤m) λi j=>if j > i then j else i
abbrev wMin:WC:=zdS (λy m=>m≤y) λi j=>if j<i then j else i
theorem zm8 {r:List Addr}{H:Hp}:∀ {ds:List D} {ns:List Int} {vs:List V} {us:List Value},zdd ds=some ns→Rps r H ds vs→zay vs us→∃xs:List (Int×Tok),us.toArray=intItems xs.toArray∧xs.map (·.1)=ns
 | [],ns,vs,us,e,p,q=>by
  have z:=p.unnil
  subst z
  cases q
  simp[zdd] at e
  subst e
  exact⟨[],by simp[intItems],rfl⟩
 | d::ds,ns,vs,us,e,p,q=>by
  obtain⟨v,vs',rfl,p1,p2⟩:=p.uncons
  cases d with
  | int i=>
   cases p1
   cases q with
   | cons q1 q2=>
    obtain⟨t,rfl⟩:=q1
    simp only[zdd,Vaq] at e
    obtain⟨ms,e1,rfl⟩:=e
    obtain⟨xs,h1,h2⟩:=zm8 e1 p2 q2
    refine⟨(i,t)::xs,?_,by simp[h2]⟩
    simp[intItems] at h1 ⊢
    exact h1
  | _=>simp[zdd] at e
theorem zqC (f:Nat→Int):∀k j,j≤k→f j≤f (argBest (λi j=>decide (f i > f j)) k)
 | 0,j,h=>by
  have z:j=0:=by omega
  subst z
  exact VaN _
 | k+1,j,h=>by
  have ih:=zqC f k
  unfold argBest
  split
  ·rename_i hb
   have hb':f (k+1) > f (argBest (λi j=>decide (f i > f j)) k):=of_decide_eq_true hb
   by_cases z:j=k+1
   ·subst z; exact VaN _
   ·have:=ih j (by omega); omega
  ·rename_i hb
   have hb':¬ f (k+1) > f (argBest (λi j=>decide (f i > f j)) k):=λq=>hb (decide_eq_true q)
   by_cases z:j=k+1
   ·subst z; omega
   ·exact ih j (by omega)
theorem zpm (f:Nat→Int):∀k j,j≤k→f (argBest (λi j=>decide (f i<f j)) k)≤f j
 | 0,j,h=>by
  have z:j=0:=by omega
  subst z
  exact VaN _
 | k+1,j,h=>by
  have ih:=zpm f k
  unfold argBest
  split
  ·rename_i hb
   have hb':f (k+1)<f (argBest (λi j=>decide (f i<f j)) k):=of_decide_eq_true hb
   by_cases z:j=k+1
   ·subst z; exact VaN _
   ·have:=ih j (by omega); omega
  ·rename_i hb
   have hb':¬ f (k+1)<f (argBest (λi j=>decide (f i<f j)) k):=λq=>hb (decide_eq_true q)
   by_cases z:j=k+1
   ·subst z; omega
   ·exact ih j (by omega)
theorem znA (bt:Nat→Nat→Bool):∀k,argBest bt k≤k
 | 0=>Vaa _
 | k+1=>by
  unfold argBest
  split
  ·exact Vaa _
  ·exact Nat.le_succ_of_le (znA bt k)
theorem zoo {xs:List (Int×Tok)}{ns:List Int}(h:xs.map (·.1)=ns){j:Nat}{y:Int}(e:ns[j]?=some y):numAt xs.toArray j=y:=by
  subst h
  unfold numAt
  rw[Val] at e
  simp only[List.getElem?_toArray]
  cases q:xs[j]? with
  | none=>
   rw[q] at e
   cases e
  | some z=>rw[q] at e; simpa using e
theorem zpi {xs:List (Int×Tok)}{ns:List Int}(h:xs.map (·.1)=ns){j:Nat}(hj:j<ns.length):numAt xs.toArray j∈ns:=by
 have e:ns[j]?=some ns[j]:=by simp[hj]
 rw[zoo h e]
 exact List.getElem_mem hj
theorem zcx (hc:X.calm=true):zbc X (.builtin "max") (upC X.K Z wMax):=by
 intro pins s σ H xs us Qv I rv h
 obtain⟨r,S,ds,Q,rel,ps,q,ret⟩:=h
 unfold wMax zdS at q
 split at q
 ·rename_i i j
  obtain⟨v,vs,rfl,p1,p2⟩:=ps.uncons
  obtain⟨v2,vs2,rfl,p3,p4⟩:=p2.uncons
  have z:=p4.unnil
  subst z
  cases p1
  cases p3
  exact zuI hc pins s σ H _ us Qv I rv ⟨i,j,rfl,ret _ _ _ _ _ Ext.refl rel (.int _) q⟩
 ·rename_i n
  obtain⟨v,vs,rfl,p1,p2⟩:=ps.uncons
  have z:=p2.unnil
  subst z
  split at q
  ·rename_i o eo
   split at q
   ·rename_i ns en
    obtain⟨hne,q⟩:=q
    obtain⟨eo,eL⟩:=zcg eo
    obtain⟨a,ha,ob⟩:=rel.at eo
    cases p1 with
    | ref h1=>
     rw[h1] at ha; cases ha
     obtain⟨ys,sq,pr⟩:=ob.list eL
     obtain⟨u,rfl,ru⟩:=zeb rv
     cases ru
     obtain⟨its,ri,pl,hz⟩:=I.list sq
     obtain⟨zs,hz1,hz2⟩:=zm8 en pr ri
     have hl:zs.length=ns.length:=by rw[← hz2,Vac]
     have hpos:0<ns.length:=List.length_pos_iff.mpr hne
     have isl:=pl.isList
     rw[hz1] at isl
     refine max_intList (I.ok.hd hc) isl (by simp; omega) λv h' tk hv hk=>?_
     have hvi:=intItems_at hv
     obtain⟨t,rfl⟩:=hvi
     have hb:=znA (λi j=>decide (numAt zs.toArray i > numAt zs.toArray j)) (zs.toArray.size-1)
     have hsz:zs.toArray.size=ns.length:=by simp[hl]
     refine⟨.int _,H,I.kept hk,⟨_,rfl⟩,ret _ _ _ _ _ Ext.refl rel (.int _) (q _ (zpi hz2 (by omega)) λy hy=>?_)⟩
     obtain⟨j,hj,ej⟩:=VaI.mp hy
     have e1:=zoo hz2 (show ns[j]?=some y by simp[hj,ej])
     rw[← e1]
     exact zqC _ _ j (by omega)
   ·exact q.elim
  ·exact q.elim
 ·exact q.elim
theorem zeo (hc:X.calm=true):zbc X (.builtin "min") (upC X.K Z wMin):=by
 intro pins s σ H xs us Qv I rv h
 obtain⟨r,S,ds,Q,rel,ps,q,ret⟩:=h
 unfold wMin zdS at q
 split at q
 ·rename_i i j
  obtain⟨v,vs,rfl,p1,p2⟩:=ps.uncons
  obtain⟨v2,vs2,rfl,p3,p4⟩:=p2.uncons
  have z:=p4.unnil
  subst z
  cases p1
  cases p3
  exact zu3 hc pins s σ H _ us Qv I rv ⟨i,j,rfl,ret _ _ _ _ _ Ext.refl rel (.int _) q⟩
 ·rename_i n
  obtain⟨v,vs,rfl,p1,p2⟩:=ps.uncons
  have z:=p2.unnil
  subst z
  split at q
  ·rename_i o eo
   split at q
   ·rename_i ns en
    obtain⟨hne,q⟩:=q
    obtain⟨eo,eL⟩:=zcg eo
    obtain⟨a,ha,ob⟩:=rel.at eo
    cases p1 with
    | ref h1=>
     rw[h1] at ha; cases ha
     obtain⟨ys,sq,pr⟩:=ob.list eL
     obtain⟨u,rfl,ru⟩:=zeb rv
     cases ru
     obtain⟨its,ri,pl,hz⟩:=I.list sq
     obtain⟨zs,hz1,hz2⟩:=zm8 en pr ri
     have hl:zs.length=ns.length:=by rw[← hz2,Vac]
     have hpos:0<ns.length:=List.length_pos_iff.mpr hne
     have isl:=pl.isList
     rw[hz1] at isl
     refine min_intList (I.ok.hd hc) isl (by simp; omega) λv h' tk hv hk=>?_
     have hvi:=intItems_at hv
     obtain⟨t,rfl⟩:=hvi
     have hb:=znA (λi j=>decide (numAt zs.toArray i<numAt zs.toArray j)) (zs.toArray.size-1)
     have hsz:zs.toArray.size=ns.length:=by simp[hl]
     refine⟨.int _,H,I.kept hk,⟨_,rfl⟩,ret _ _ _ _ _ Ext.refl rel (.int _) (q _ (zpi hz2 (by omega)) λy hy=>?_)⟩
     obtain⟨j,hj,ej⟩:=VaI.mp hy
     have e1:=zoo hz2 (show ns[j]?=some y by simp[hj,ej])
     rw[← e1]
     exact zpm _ _ j (by omega)
   ·exact q.elim
  ·exact q.elim
 ·exact q.elim
def zem:WC:=λds S Q=>match ds with
 | [.tup xs]=>Q (.int xs.length) S
 | [.ref n]=>match lAt S n with
  | some o=>Q (.int (zaz o).length) S
  | none=>False
 | _=>False
theorem zck:zbc X (.builtin "len") (upC X.K Z zem):=znq zuh λxs H Qv ⟨r,S,ds,Q,rel,ps,q,ret⟩=>by
 unfold zem at q
 split at q
 ·rename_i ys
  obtain⟨v,vs,rfl,p1,p2⟩:=ps.uncons
  have z:=p2.unnil
  subst z
  obtain⟨a,zs,rfl,h1,h2⟩:=p1.untup
  exact⟨a,zs,rfl,.inr (SqT.of h1),by rw[← h2.1]; exact ret _ _ _ _ _ Ext.refl rel (.int _) q⟩
 ·rename_i n
  obtain⟨v,vs,rfl,p1,p2⟩:=ps.uncons
  have z:=p2.unnil
  subst z
  split at q
  ·rename_i o eo
   obtain⟨eo,eL⟩:=zcg eo
   obtain⟨a,ha,ob⟩:=rel.at eo
   cases p1 with
   | ref h1=>
    rw[h1] at ha; cases ha
    obtain⟨ys,sq,pr⟩:=ob.list eL
    exact⟨_,ys,rfl,.inl sq,by rw[← pr.1]; exact ret _ _ _ _ _ Ext.refl rel (.int _) q⟩
  ·exact q.elim
 ·exact q.elim
def zcU (t T:String):Bool:=t==T||(t == "bool"&&T == "int")
def zqM (T:String)(te:TDE):TDE:=λdl S Q=>te dl S λd S1=>match d with
 | .ref _=>False
 | .exc _=>False
 | .non=>Q (.bl (zcU "NoneType" T)) S1
 | .bl _=>Q (.bl (zcU "bool" T)) S1
 | .int _=>Q (.bl (zcU "int" T)) S1
 | .str _=>Q (.bl (zcU "str" T)) S1
 | .tup _=>Q (.bl (zcU "tuple" T)) S1
def Kit (K:PySem.W.Frag)(T:String):Prop:=∀t∈["NoneType","bool","int","str","tuple"],PySem.W.kitOne K (.type t) (.type T)=some (zcU t T)
def rInst (K:PySem.W.Frag):List V→Hp→VK→Prop:=λxs H Qv=>∃x T t b,xs=[x,.ty T]∧zb1 K H x t∧PySem.W.kitOne K t (.type T)=some b∧Qv (.bl b) H
theorem zqm:zbc X (.builtin "isinstance") (rInst X.K):=by
 intro pins s σ H xs us Q I r h
 obtain⟨x,T,t,b,rfl,ty,e,q⟩:=h
 obtain⟨u,w',rfl,r1,r2⟩:=znr r
 cases r2
 exact zuK I r1 ty e λtk=>⟨.bl b,H,I.tok tk,rfl,q⟩
theorem zhc {T:String}{te:TDE}{y:Str}{p2:Pos}(KT:Kit X.K T)(hg:Gl X "isinstance")(hm:X.mg "isinstance"=none)(hg2:Gl X y)(hm2:X.mg y=none)(hv2:bootBuiltins y=some (.type T))(ha:PD X Z e te)
  (hv:bootBuiltins "isinstance"=some (.builtin "isinstance"):=by exact PyProof.Rows.Boot.«isinstance»)
  (hn2:y≠"__name__":=by decide)(hd2:(y==("__debug__":Str))=false:=by decide)(he2:starEach [e,.Name y p2] X.env=(false,eval e X.env)::starEach [.Name y p2] X.env:=by rfl)
  (he3:starEach [.Name y p2] X.env=(false,eval (.Name y p2) X.env)::starEach [] X.env:=by rfl)(hpl:(backTo pos (starEach [.Name y p2] X.env)).any (·.1)=false:=by rfl):
  PD X Z (.Call (.Name "isinstance" p) [e,.Name y p2] [] pos) (zqM T te):=
 za4 (zn0 zqm hg hm hv (zfc ha (zfc (zpB (v:=.ty T) hg2 hm2 hv2 rfl hn2 hd2) zhX he3) he2) (by decide) (by decide) he2 hpl) λσ H Qv ⟨r,dl,S,Q,rs,rel,h,ret⟩=>
  ⟨r,dl,S,_,rs,rel,h,λv H1 r1 d S1 e1 rel1 p1 h1=>by
   cases p1 with
   | non=>exact⟨_,T,_,_,rfl,.non,KT _ (by simp),ret _ _ _ _ _ e1 rel1 (.bl _) h1⟩
   | bl b=>exact⟨_,T,_,_,rfl,.bl b,KT _ (by simp),ret _ _ _ _ _ e1 rel1 (.bl _) h1⟩
   | int b=>exact⟨_,T,_,_,rfl,.int b,KT _ (by simp),ret _ _ _ _ _ e1 rel1 (.bl _) h1⟩
   | str b=>exact⟨_,T,_,_,rfl,.str b,KT _ (by simp),ret _ _ _ _ _ e1 rel1 (.bl _) h1⟩
   | tup e2 _ _=>exact⟨_,T,_,_,rfl,.tup e2,KT _ (by simp),ret _ _ _ _ _ e1 rel1 (.bl _) h1⟩
   | ref _=>exact(show False from h1).elim
   | exc _=>exact(show False from h1).elim⟩
end
section
variable {X:Cx}{Z:Zx}{st:Stmt}{za9:List Stmt}{t u:TDS}{e:Expr}{te:TDE}{pos:Pos}
def znU:TDS:=λE dl S=>E.nx dl S
def zb9 (t u:TDS):TDS:=λE dl S=>t { nx:=λdl' S'=>u E dl' S',rt:=E.rt,bk:=E.bk,ct:=E.ct } dl S
theorem zax:zbW X Z [] znU:=zqX zq7 λF σ H ⟨r,dl,S,E,rs,rel,h,ret⟩=>ret.nx σ H r dl S Ext.refl rs rel h
theorem zae (h1:PDS X Z st t)(h2:zbW X Z za9 u):zbW X Z (st::za9) (zb9 t u):=
 zqX (zxO h1 h2) λF σ H ⟨r,dl,S,E,rs,rel,h,ret⟩=>⟨r,dl,S,_,rs,rel,h,λσ' H' r' dl' S' x rs' rel' q=>⟨r',dl',S',E,rs',rel',q,ret.ext x⟩,ret.bk,ret.ct,ret.rt⟩
theorem zaf (h1:PDS X Z st t):zbW X Z [st] t:=zse h1
def zpV (te:TDE):TDS:=λE dl S=>te dl S λ_ S1=>E.nx dl S1
theorem zcZ (he:PD X Z e te)(hs:swapsWith e none pos.line X.env=pure false:=by rfl):PDS X Z (.Expr e pos) (zpV te):=
 zbG (zsQ he hs) λF σ H ⟨r,dl,S,E,rs,rel,h,ret⟩=>⟨r,dl,S,_,rs,rel,h,λv H1 r1 d S1 x rel1 p q=>ret.nx σ H1 r1 dl S1 x (rs.ext x) rel1 q⟩
def dRet (te:TDE):TDS:=λE dl S=>te dl S E.rt
theorem zak (he:PD X Z e te):PDS X Z (.Return (some e) pos) (dRet te):=
 zbG (zrb he) λF σ H ⟨r,dl,S,E,rs,rel,h,ret⟩=>⟨r,dl,S,_,rs,rel,h,ret.rt⟩
def dRetN:TDS:=λE _ S=>E.rt .non S
def dIf (c:TDT)(t u:TDS):TDS:=λE dl S=>c dl S λk S1=>if k=true then t E dl S1 else u E dl S1
theorem zaw {c:Expr}{a b:List Stmt}{tc:TDT}(hc:PDT X Z c tc)(ha:zbW X Z a t)(hb:zbW X Z b u):PDS X Z (.If c a b pos) (dIf tc t u):=
 zbG (ps_if hc ha hb) λF σ H ⟨r,dl,S,E,rs,rel,h,ret⟩=>⟨r,dl,S,_,rs,rel,h,λk H1 r1 S1 x rel1 q=>by
  cases k with
  | true=>exact zcd ⟨r1,dl,S1,E,rs.ext x,rel1,(by simpa using q),ret.ext x⟩
  | false=>exact zbE ⟨r1,dl,S1,E,rs.ext x,rel1,(by simpa using q),ret.ext x⟩⟩
def zkQ (i:Nat)(te:TDE):TDS:=λE dl S=>te dl S λd S1=>E.nx (dl.set i (some d)) S1
theorem zap {i:Nat}{x:Str}{pos':Pos}(hN:X.N.Nodup)(hi:X.N[i]?=some x)(hx:Loc X.env.scope x)(he:PD X Z e te)(hs:swapsWith e (some (.Name x pos')) pos.line X.env=pure false:=by rfl)
  (hf:X.fn x=true∨X.env.scope.names.lookup x=some .local:=by first | exact .inl rfl | exact .inr rfl | assumption):PDS X Z (.Assign [.Name x pos'] e pos) (zkQ i te):=
 zbG (zrj hN hi hx he hs hf) λF σ H ⟨r,dl,S,E,rs,rel,h,ret⟩=>⟨r,dl,S,_,rs,rel,h,λv H1 r1 d S1 x rel1 p q=>ret.nx _ H1 r1 _ S1 x ((rs.ext x).set i p) rel1 q⟩
def zsR (c:TDT)(tb:TDS):TDS:=λE dl S=>∃W:Nat→Ev→Sto→Prop,(∃m,W m dl S)∧∀m dl S,W m dl S→
 c dl S λk S1=>if k=true then tb { nx:=λdl' S'=>∃m',m'<m∧W m' dl' S',rt:=E.rt,bk:=E.nx,ct:=λdl' S'=>∃m',m'<m∧W m' dl' S' } dl S1 else E.nx dl S1
theorem zqu {c:Expr}{body:List Stmt}{tc:TDT}{tb:TDS}(hp:PassesOwn (model X.prog X.w) X.A X.env X.xe)(hc:PDT X Z c tc)(hb:zbW X Z body tb):PDS X Z (.While c body [] pos) (zsR tc tb):=
 zbG (zv5 hp hc hb) λF σ H ⟨r,dl,S,E,rs,rel,⟨W,⟨m0,w0⟩,turn⟩,ret⟩=>by
  refine⟨λm σ' H'=>∃r' dl' S',Ext r r' H H'∧Rs r' H' dl' σ'∧Rel X.K Z r' S' H'∧W m dl' S',⟨m0,r,dl,S,Ext.refl,rs,rel,w0⟩,?_⟩
  rintro m σ1 H1 ⟨r1,dl1,S1,x1,rs1,rel1,w1⟩
  refine⟨r1,dl1,S1,_,rs1,rel1,turn m dl1 S1 w1,λk H2 r2 S2 x2 rel2 q2=>?_⟩
  cases k with
  | true=>
   refine zcd ⟨λσ' H'=>∃m',m'<m∧∃r' dl' S',Ext r r' H H'∧Rs r' H' dl' σ'∧Rel X.K Z r' S' H'∧W m' dl' S',λ_ _ z=>z,r2,dl1,S2,_,rs1.ext x2,rel2,(by simpa using q2),?_⟩
   have go:∀σ' H' r' dl' S',Ext r2 r' H2 H'→Rs r' H' dl' σ'→Rel X.K Z r' S' H'→(∃m',m'<m∧W m' dl' S')→∃m',m'<m∧∃r' dl' S',Ext r r' H H'∧Rs r' H' dl' σ'∧Rel X.K Z r' S' H'∧W m' dl' S':=
    λσ' H' r' dl' S' x rs' rel' ⟨m',hm,w'⟩=>⟨m',hm,r',dl',S',x1.trans (x2.trans x),rs',rel',w'⟩
   exact⟨go,λσ' H' r' dl' S' x rs' rel' q=>ret.nx σ' H' r' dl' S' (x1.trans (x2.trans x)) rs' rel' q,go,ret.rt.ext (x1.trans x2)⟩
  | false=>exact zbE (ret.nx σ1 H2 r2 dl1 S2 (x1.trans x2) (rs1.ext x2) rel2 (by simpa using q2))
def dFor (i:Nat)(tl:TDE)(tb:TDS):TDS:=λE dl S=>tl dl S λd S1=>match d with
 | .ref n=>(lAt S1 n).isSome=true∧∃W:Nat→Nat→Ev→Sto→Prop,(∃m,W 0 m dl S1)∧∀k m dl S,W k m dl S→match lAt S n with
  | some o=>match (zaz o)[k]? with
   | some x=>tb { nx:=λdl' S'=>∃m',m'<m∧W (k+1) m' dl' S',rt:=E.rt,bk:=E.nx,ct:=λdl' S'=>∃m',m'<m∧W (k+1) m' dl' S' } (dl.set i (some x)) S
   | none=>E.nx dl S
  | none=>False
 | _=>False
theorem zcL {i:Nat}{x:Str}{pos':Pos}{iter:Expr}{body:List Stmt}{tl:TDE}{tb:TDS}(hp:PassesOwn (model X.prog X.w) X.A X.env X.xe)(hc:X.calm=true)(hN:X.N.Nodup)(hi:X.N[i]?=some x)(hx:Loc X.env.scope x)
  (hl:PD X Z iter tl)(hb:zbW X Z body tb)(hf:X.fn x=true∨X.env.scope.names.lookup x=some .local:=by first | exact .inl rfl | exact .inr rfl | assumption)
  (hs:∀y,foldedSetIterable iter X.env y=pure y:=by intro _; rfl):PDS X Z (.For (.Name x pos') iter body [] pos) (dFor i tl tb):=
 zbG (zha hp hc (zpY hl) (zeV hN hi hx hf) hb hs) λF σ H ⟨r,dl,S,E,rs,rel,h,ret⟩=>by
  refine⟨r,dl,S,_,rs,rel,h,λv H1 r1 d S1 x1 rel1 p1 q1=>?_⟩
  cases p1 with
  | @ref n a hn=>
   obtain⟨hsome,W,⟨m0,w0⟩,turn⟩:=q1
   have sql:∀ {r':List Addr} {S':Sto} {H':Hp} {o:Ob},Ext r1 r' H1 H'→Rel X.K Z r' S' H'→lAt S' n=some o→∃xs,SqL X.K H' a xs∧Rps r' H' (zaz o) xs:=λ{r' S' H' o} x' rel' eo=>by
    obtain⟨eo,eL⟩:=zcg eo
    obtain⟨a',ha,ob⟩:=rel'.at eo
    rw[x'.adr n a hn] at ha; cases ha
    exact ob.list eL
   obtain⟨o1,eo1⟩:=Option.isSome_iff_exists.mp hsome
   obtain⟨xs1,sq1,_⟩:=sql Ext.refl rel1 eo1
   refine⟨a,rfl,⟨xs1,sq1⟩,λk m σ' H'=>∃r' dl' S',Ext r1 r' H1 H'∧Rs r' H' dl' σ'∧Rel X.K Z r' S' H'∧W k m dl' S',⟨m0,r1,dl,S1,Ext.refl,rs.ext x1,rel1,w0⟩,?_⟩
   rintro k m σ2 H2 ⟨r2,dl2,S2,x2,rs2,rel2,w2⟩
   have q:=turn k m dl2 S2 w2
   split at q
   ·rename_i o eo
    obtain⟨xs,sq,pr⟩:=sql x2 rel2 eo
    split at q
    ·rename_i y ey
     obtain⟨v,hv,pv⟩:=pr.get ey
     have go:∀ {r3:List Addr} {H3:Hp},Ext r2 r3 H2 H3→∀σ' H' r' dl' S',Ext r3 r' H3 H'→Rs r' H' dl' σ'→Rel X.K Z r' S' H'→(∃m',m'<m∧W (k+1) m' dl' S')→∃m',m'<m∧∃r' dl' S',Ext r1 r' H1 H'∧Rs r' H' dl' σ'∧Rel X.K Z r' S' H'∧W (k+1) m' dl' S':=
      λ{r3 H3} x3 σ' H' r' dl' S' x rs' rel' ⟨m',hm,w'⟩=>⟨m',hm,r',dl',S',x2.trans (x3.trans x),rs',rel',w'⟩
     refine .inr ⟨⟨xs,v,sq,hv⟩,λσ' H'=>∃m',m'<m∧∃r' dl' S',Ext r1 r' H1 H'∧Rs r' H' dl' σ'∧Rel X.K Z r' S' H'∧W (k+1) m' dl' S',λ_ _ z=>z,λv' H' y'=>?_⟩
     obtain⟨eH,y'⟩:=y'
     subst eH
     have ev:v'=v:=by
      have z:=y' xs sq
      rw[hv] at z; exact(Option.some.inj z).symm
     subst ev
     exact⟨r2,_,S2,_,rs2.set i pv,rel2,q,go Ext.refl,λσ' H' r' dl' S' x rs' rel' z=>ret.nx σ' H' r' dl' S' (x1.trans (x2.trans x)) rs' rel' z,go Ext.refl,ret.rt.ext (x1.trans x2)⟩
    ·rename_i ey
     have hlen:(zaz o).length≤k:=VaK.mp ey
     exact .inl ⟨⟨xs,sq,by rw[← pr.1]; exact hlen⟩,ret.nx σ2 H2 r2 dl2 S2 (x1.trans x2) rs2 rel2 q⟩
   ·exact q.elim
  | _=>exact(show False from q1).elim
def dForR (i:Nat)(ta:TDA)(tb:TDS):TDS:=λE dl S=>ta dl S λds S1=>match ds with
 | [.int j]=>(-(2^62)≤j∧j<2^62)∧∃W:Nat→Ev→Sto→Prop,W 0 dl S1∧∀k dl S,W k dl S→
   if k<j.toNat then tb { nx:=λdl' S'=>W (k+1) dl' S',rt:=E.rt,bk:=E.nx,ct:=λdl' S'=>W (k+1) dl' S' } (dl.set i (some (.int k))) S else E.nx dl S
 | _=>False
theorem zn6 {i:Nat}{x:Str}{pos2 pos' p:Pos}{a:Expr}{body:List Stmt}{ta:TDA}{tb:TDS}(hp:PassesOwn (model X.prog X.w) X.A X.env X.xe)(hc:X.calm=true)(hN:X.N.Nodup)(hi:X.N[i]?=some x)(hx:Loc X.env.scope x)
  (hg:Gl X "range")(hm:X.mg "range"=none)(ha:PDA X Z [a] ta)(hb:zbW X Z body tb)(hf:X.fn x=true∨X.env.scope.names.lookup x=some .local:=by first | exact .inl rfl | exact .inr rfl | assumption)
  (hs:∀y,foldedSetIterable (.Call (.Name "range" p) [a] [] pos) X.env y=pure y:=by intro _; rfl)(hst:starEach [a] X.env=[(false,eval a X.env)]:=by rfl):
  PDS X Z (.For (.Name x pos') (.Call (.Name "range" p) [a] [] pos) body [] pos2) (dForR i ta tb):=
 zbG (zha hp hc (zm5 hg hm ha hst) (zeV hN hi hx hf) hb hs) λF σ H ⟨r,dl,S,E,rs,rel,h,ret⟩=>by
  refine⟨r,dl,S,_,rs,rel,h,λvs H1 r1 ds S1 x1 rel1 p1 q1=>?_⟩
  split at q1
  ·rename_i j
   obtain⟨v,vs',rfl,p2,p3⟩:=p1.uncons
   have z:=p3.unnil
   subst z
   cases p2
   obtain⟨⟨b1,b2⟩,W,w0,turn⟩:=q1
   refine⟨j,rfl,b1,b2,λk m σ' H'=>m=j.toNat-k∧∃r' dl' S',Ext r1 r' H1 H'∧Rs r' H' dl' σ'∧Rel X.K Z r' S' H'∧W k dl' S',⟨j.toNat,by simp,r1,dl,S1,Ext.refl,rs.ext x1,rel1,w0⟩,?_⟩
   rintro k m σ2 H2 ⟨em,r2,dl2,S2,x2,rs2,rel2,w2⟩
   have q:=turn k dl2 S2 w2
   split at q
   ·rename_i hk
    have go:∀σ' H' r' dl' S',Ext r2 r' H2 H'→Rs r' H' dl' σ'→Rel X.K Z r' S' H'→W (k+1) dl' S'→∃r' dl' S',Ext r1 r' H1 H'∧Rs r' H' dl' σ'∧Rel X.K Z r' S' H'∧W (k+1) dl' S':=
     λσ' H' r' dl' S' x rs' rel' w'=>⟨r',dl',S',x2.trans x,rs',rel',w'⟩
    have pk:Rp r2 H2 (.int (k:Int)) (.int (0+(k:Int))):=by rw[Int.zero_add]; exact .int _
    refine .inr ⟨hk,λσ' H'=>∃r' dl' S',Ext r1 r' H1 H'∧Rs r' H' dl' σ'∧Rel X.K Z r' S' H'∧W (k+1) dl' S',λσ' H' z=>⟨j.toNat-(k+1),by omega,rfl,z⟩,λv' H' y'=>?_⟩
    obtain⟨eH,y'⟩:=y'
    subst eH
    subst y'
    exact⟨r2,_,S2,_,rs2.set i pk,rel2,q,go,λσ' H' r' dl' S' x rs' rel' z=>ret.nx σ' H' r' dl' S' (x1.trans (x2.trans x)) rs' rel' z,go,ret.rt.ext (x1.trans x2)⟩
   ·rename_i hk
    exact .inl ⟨by show j.toNat≤k; omega,ret.nx σ2 H2 r2 dl2 S2 (x1.trans x2) rs2 rel2 q⟩
  ·exact q1.elim
end
def ze4 (N:List Str)(ds:List D):Ev:=ds.map some++List.replicate (N.length-ds.length) none
theorem ztQ {r:List Addr}{H:Hp}{N:List Str}{ds:List D}{vs:List V}(h:Rps r H ds vs):Rs r H (ze4 N ds) (L2.zci N vs):=by
  refine⟨by simp[ze4,L2.zci,h.1],λi d e=>?_⟩
  unfold ze4 at e
  by_cases hi:i<ds.length
  · rw[Vak (by simpa using hi),Val] at e
    cases q:ds[i]? with
    | none=>
   rw[q] at e
   cases e
    | some z=>
      rw[q] at e
      cases e
      obtain⟨v,hv,pv⟩:=h.get q
      refine⟨v,?_,pv⟩
      unfold L2.zci
      rw[Vak (by simpa [h.1] using hi),Val,hv]
      rfl
  · rw[VaM (by simpa using hi),List.getElem?_replicate] at e
    split at e <;> cases e
section
variable {P:Program}{w:World}{K:PySem.W.Frag}{mg:Str→Option Value}{base:Heap}
abbrev Z0:Zx:=Zc (λ_ _=>False) (λ_ _ _=>False)
theorem zcs {X:Cx}:zcK X Z0.w:=λ_ _ _ _ _ _ _ h=>by
 obtain⟨_,_,_,_,_,_,_,_,_,_,_,_,q⟩:=h
 exact q.elim
theorem zau {x qual:Str}{st:Stmt}{f:Addr}{fd:FuncData}{N ps:List Str}{k:Nat}{sd:Sd}(F:Fun K x qual st f fd)(Sc:zat N ps (zaq st))(len:∀ds S Q ex,sd ds S Q ex→ds.length=ps.length)
  (hbody:∀(cdv:Value) (A:Around) (outer:List Env) (s:Shared) (H:Hp) (E:XK),zaN k (A.deeper (envOfC qual (zaq st) s.heap.objs.size f cdv))→
   ∃t,zbW (zdW (CXE P w) P w K mg base N qual (zaq st) f cdv A outer s H E).nox Z0 (zcW st) t∧∀ds S Q ex,sd ds S Q ex→t { nx:=λ_ S'=>Q .non S',rt:=Q } (ze4 N ds) S):za1 P w K mg base (CXE P w) (k+1) f fd ps (upF K sd):=by
 obtain⟨oc,od,kV,doc,pm,an,cdv,ct,osl,rfl,lk,hcd⟩:=F.ex
 refine zpg lk hcd Sc (λvs H Q E h=>?_) λA outer s H vs Q E hr h=>?_
 ·obtain⟨ex,r,S,ds,Q',rel,p,q,ret⟩:=h
  rw[← p.1]
  exact len ds S Q' ex q
 ·obtain⟨ex,r,S,ds,Q',rel,p,q,ret⟩:=h
  obtain⟨t,ht,hq⟩:=hbody cdv A outer s H E hr
  have back:∀ {H':Hp} {r':List Addr} {S':Sto},Ext r r' H H'→Rel K Z0 r' S' H'→Rel K (Zc ex E) r' S' H':=λx rel'=>⟨rel'.b,rel.xw.ext x⟩
  refine⟨upS K Z0 t,ht.nox,r,ze4 N ds,S,_,ztQ p,⟨rel.b,λ_ _ _ _ _ _ _ _ _ z=>z.elim⟩,hq ds S Q' ex q,?_,?_,?_,?_⟩
  ·intro σ' H' r' dl' S' x _ rel' z
   exact ret .non H' r' .non S' x (back x rel') .non z
  ·intro σ' H' r' dl' S' x _ rel' z
   exact z
  ·intro σ' H' r' dl' S' x _ rel' z
   exact z
  ·intro v H' r' d S' x rel' p' z
   exact ret v H' r' d S' x (back x rel') p' z
end
open PySem
def Sz (n:Nat)(i:Int):Prop:=i.natAbs<2^n
theorem Sz.mono {m n:Nat}{i:Int}(h:Sz m i)(hn:m≤n):Sz n i:=Var h (Nat.pow_le_pow_right (by decide) hn)
theorem Sz.bits {n:Nat}{i:Int}(h:Sz n i):Builtin.Int.intBits i≤n:=by
 unfold Builtin.Int.intBits
 split
 ·exact VaA _
 ·rename_i hz
  have hp:i.natAbs≠0:=by
   intro z
   have z2:i=0:=by omega
   simp[z2] at hz
  have:=(Nat.log2_lt hp).mpr h
  omega
theorem zaG {m n:Nat}{i j:Int}(hi:Sz m i)(hj:Sz n j)(hm:m≤1048576:=by decide)(hn:n≤1048576:=by decide):IntMulOk i j:=by
 have e20:(2:Nat)^20=1048576:=by decide
 exact IntMulOk.of_bits (VaB hi.bits (by omega)) (VaB hj.bits (by omega))
theorem Sz.of {n:Nat}{i:Int}(m:Nat)(h:i.natAbs≤m)(hm:m<2^n:=by decide):Sz n i:=Va1 h hm
theorem Sz.mul {m n:Nat}{i j:Int}(hi:Sz m i)(hj:Sz n j):Sz (m+n) (i*j):=by
 unfold Sz at *
 rw[Nat.pow_add,Int.natAbs_mul]
 exact Nat.mul_lt_mul'' hi hj
theorem Sz.add {m n:Nat}{i j:Int}(hi:Sz m i)(hj:Sz n j):Sz (max m n+1) (i+j):=by
 have h1:Sz (max m n) i:=hi.mono (Nat.le_max_left _ _)
 have h2:Sz (max m n) j:=hj.mono (Nat.le_max_right _ _)
 unfold Sz at *
 have e:(2:Nat)^(max m n+1)=2^max m n+2^max m n:=by rw[Nat.pow_succ]; omega
 rw[e]
 have:=Int.natAbs_add_le i j
 omega
theorem Sz.neg {m:Nat}{i:Int}(hi:Sz m i):Sz m (-i):=by
 unfold Sz at *
 rw[Int.natAbs_neg]; exact hi
theorem Sz.sub {m n:Nat}{i j:Int}(hi:Sz m i)(hj:Sz n j):Sz (max m n+1) (i-j):=by
 rw[Int.sub_eq_add_neg]; exact hi.add hj.neg
theorem Sz.log {n:Nat}{i:Int}(h:Sz n i)(hi:i≠0)(hn:n≤9000:=by decide):i.natAbs.log2<9000:=by
 have:=(Nat.log2_lt (by omega:i.natAbs≠0)).mpr h
 omega
theorem Sz.fd {n:Nat}{i:Int}(h:Sz n i)(hi:0<i)(hn:n≤9000:=by decide):0<i∧i.natAbs.log2<9000:=⟨hi,h.log (by omega) hn⟩
theorem za6 {a b:Int}(hb:0<b):0≤a%b∧a%b<b:=⟨Int.emod_nonneg _ (by omega),Int.emod_lt_of_pos _ hb⟩
theorem p40:((10:Int)^(40:Int).toNat)=10^40:=rfl
theorem p41:((10:Int)^(41:Int).toNat)=10^41:=rfl
theorem p20:((10:Int)^(20:Int).toNat)=10^20:=rfl
example (x:Int):-(10^40)≤x%(2*10^40+1)-10^40:=by omega
example (x:Int):x%(2*10^40+1)-10^40≤10^40:=by omega
example (x:Int) (h:-(10^40)≤x) (h2:x≤2*10^41):Sz 140 x:=Sz.of (2*10^41) (by omega)
theorem zum (a b:Int):Int.gcd b (a%b)=Int.gcd a b:=by
 rw[Int.emod_def,show a-b*(a/b)=a-(a/b)*b by rw[VaC],Int.gcd_sub_mul_right_right,Int.gcd_comm]
def zdp (i:Int):Int:=if i<0 then -i else i
theorem zvn (i:Int):0≤zdp i:=by unfold zdp; split <;> omega
theorem zww (a b:Int):Int.gcd (zdp a) (zdp b)=Int.gcd a b:=by
 have h:∀i:Int,(zdp i).natAbs=i.natAbs:=λi=>by unfold zdp; split <;> omega
 unfold Int.gcd
 rw[h,h]
theorem zwq {T B d:Int}(hB:B≠0)(hd:d=(if B<0 then -((Int.gcd T B:Nat):Int) else ((Int.gcd T B:Nat):Int))):
  d≠0∧T.fdiv d*d=T∧B.fdiv d*d=B∧1≤B.fdiv d∧Int.gcd (T.fdiv d) (B.fdiv d)=1∧T.fdiv d*B=T*B.fdiv d:=by
 have g0:0<Int.gcd T B:=Nat.pos_of_ne_zero λz=>hB (Int.gcd_eq_zero_iff.mp z).2
 have dT:((Int.gcd T B:Nat):Int) ∣ T:=Int.gcd_dvd_left T B
 have dB:((Int.gcd T B:Nat):Int) ∣ B:=Int.gcd_dvd_right T B
 have hne:d≠0:=by
  rw[hd]; split <;> omega
 have eT:d ∣ T:=by rw[hd]; split <;> first | exact Int.neg_dvd.mpr dT | exact dT
 have eB:d ∣ B:=by rw[hd]; split <;> first | exact Int.neg_dvd.mpr dB | exact dB
 have fT:T.fdiv d=T/d:=Int.fdiv_eq_ediv_of_dvd eT
 have fB:B.fdiv d=B/d:=Int.fdiv_eq_ediv_of_dvd eB
 have mT:T.fdiv d*d=T:=by rw[fT]; exact Int.ediv_mul_cancel eT
 have mB:B.fdiv d*d=B:=by rw[fB]; exact Int.ediv_mul_cancel eB
 have gg:Int.gcd (T.fdiv d) (B.fdiv d)=1:=by
  have z:=Int.gcd_ediv_gcd_ediv_gcd g0
  rw[fT,fB,hd]
  split
  ·rw[Int.ediv_neg,Int.ediv_neg,Int.neg_gcd,Int.gcd_neg]; exact z
  ·exact z
 have pos:1≤B.fdiv d:=by
  by_cases hb:B<0
  ·have dn:d<0:=by rw[hd,if_pos hb]; omega
   by_cases q:B.fdiv d≤0
   ·have:=Int.mul_nonneg_of_nonpos_of_nonpos q (Vay dn)
    omega
   ·omega
  ·have dp:0<d:=by rw[hd,if_neg hb]; omega
   by_cases q:B.fdiv d≤0
   ·have:=Van (show 0≤-(B.fdiv d) by omega) (Vay dp)
    rw[Vah] at this
    omega
   ·omega
 refine⟨hne,mT,mB,pos,gg,?_⟩
 calc T.fdiv d*B=T.fdiv d*(B.fdiv d*d):=by rw[mB]
  _=T.fdiv d*d*B.fdiv d:=by grind
  _=T*B.fdiv d:=by rw[mT]
theorem zp3 {T d:Int}(hne:d≠0)(mT:T.fdiv d*d=T):(T.fdiv d).natAbs≤T.natAbs:=by
 have h:(T.fdiv d).natAbs*d.natAbs=T.natAbs:=by rw[← Int.natAbs_mul,mT]
 have hd:1≤d.natAbs:=by omega
 calc (T.fdiv d).natAbs=(T.fdiv d).natAbs*1:=by omega
  _≤(T.fdiv d).natAbs*d.natAbs:=Nat.mul_le_mul_left _ hd
  _=T.natAbs:=h
theorem zlP (m:Int){g:Int}(hg:0<g):m/g*g≤m∧m<(m/g+1)*g:=by
 have h1:=Int.emod_add_mul_ediv m g
 have h2:=Int.emod_nonneg m (show g≠0 by omega)
 have h3:=Int.emod_lt_of_pos m hg
 have e:(m/g+1)*g=g*(m/g)+g:=by grind
 have e2:m/g*g=g*(m/g):=VaC _ _
 omega
theorem zoM (m:Int){g:Int}(hg:0<g):m≤-(-m/g)*g∧(-(-m/g)-1)*g<m:=by
 obtain⟨h1,h2⟩:=zlP (-m) hg
 have e1:-(-m/g)*g=-(-m/g*g):=by rw[Vah]
 have e2:(-(-m/g)-1)*g=-((-m/g+1)*g):=by grind
 omega
section
variable {X:Cx}{Z:Zx}
def wIf (C:Int→Int→Bool)(g:Int→Int→D):W2:=λx y S Q=>match x,y with
 | .int i,.int j=>if C i j=true then Q (g i j) S else False
 | _,_=>False
theorem opIf {f:Value→Value→Sem Value}{C:Int→Int→Prop}{C':Int→Int→Bool}{g:Int→Int→D}(h:OpR X f (upO X.K Z (wI C g)))(hc:∀i j,C' i j=true→C i j):OpR X f (upO X.K Z (wIf C' g)):=
 zgI h λx y H Qv ⟨r,S,dx,dy,Q,rel,px,py,q,ret⟩=>⟨r,S,dx,dy,Q,rel,px,py,by
  unfold wIf at q
  split at q
  ·obtain⟨h1,h2⟩:=zjB q
   exact⟨hc _ _ h1,h2⟩
  ·exact q.elim,ret⟩
def zgZ (_ j:Int):Bool:=decide (0<j)&&decide (j<1073741824)
abbrev zsq:W2:=wIf zgZ λi j=>.int (i/j)
abbrev wModL:W2:=wIf zgZ λi j=>.int (i%j)
def powB (i j:Int):Bool:=decide (0≤j)&&decide (j≤1000)&&decide (-1000<i)&&decide (i<1000)
abbrev wPowL:W2:=wIf powB λi j=>.int (i^j.toNat)
theorem zqW {i j:Int}(h:zgZ i j=true):0<j∧j<1073741824:=by
 unfold zgZ at h
 simpa using h
theorem zcb:OpR X (binaryOp .FloorDiv) (upO X.K Z zsq):=opIf zcp λi j h=>by
 obtain⟨h1,h2⟩:=zqW h
 refine⟨h1,?_⟩
 have:j.natAbs.log2<30:=(Nat.log2_lt (by omega)).mpr (by omega)
 omega
theorem za8:OpR X (binaryOp .Mod) (upO X.K Z wModL):=opIf za7 λi j h=>(zqW h).1
theorem zb6:OpR X (binaryOp .Pow) (upO X.K Z wPowL):=opIf zxt λi j h=>by
 unfold powB at h
 simp at h
 refine⟨h.1.1.1,by have:=h.1.1.2; omega,?_⟩
 have h3:=h.1.2
 have h4:=h.2
 have big:(18446744073709551616:Nat)=2^64:=by decide
 omega
structure Df (K:PySem.W.Frag)(mg:Str→Option Value)(x:Str)(st:Stmt)(ps:List Str) where
 f:Addr
 fd:FuncData
 F:Fun K x x st f fd
 m:mg x=some (.ref f)
 b:zbs K fd ps []
structure Fk (P:Program)(w:World)(K:PySem.W.Frag)(mg:Str→Option Value)(base:Heap)(k:Nat)(x:Str)(ps:List Str)(sd:Sd) where
 f:Addr
 fd:FuncData
 ok:za1 P w K mg base (CXE P w) k f fd ps (upF K sd)
 m:mg x=some (.ref f)
 kp:PySem.W.keepIn K (.ref f)=true
 b:zbs K fd ps []
def Df.mk' {P:Program}{w:World}{K:PySem.W.Frag}{mg:Str→Option Value}{base:Heap}{k:Nat}{x:Str}{st:Stmt}{ps:List Str}{sd:Sd}(d:Df K mg x st ps)(h:za1 P w K mg base (CXE P w) k d.f d.fd ps (upF K sd)):Fk P w K mg base k x ps sd:=
 ⟨d.f,d.fd,h,d.m,d.F.kp,d.b⟩
theorem zos {x:Str}{p pos:Pos}{e:Expr}{es:List Expr}{t:TDA}{k:Nat}{ps:List Str}{sd:Sd}{ex:Ev→Addr→Sto→Prop}{W:St→XK}(G:Fk X.prog X.w X.K X.mg X.base k x ps sd)(hr:zaN k X.A)(hx:zcK X W)(hg:Gl X x)(ha:PDA X ⟨ex,W⟩ (e::es) t)
  (hdb:(x==("__debug__":Str))=false:=by decide)(he:starEach (e::es) X.env=(false,eval e X.env)::starEach es X.env:=by rfl)(hpl:(backTo pos (starEach es X.env)).any (·.1)=false:=by rfl):
  PD X ⟨ex,W⟩ (.Call (.Name x p) (e::es) [] pos) (zkl ex sd t):=zvl G.ok hr hg G.m G.kp G.b hx ha hdb he hpl
theorem zxo {st:Stmt}:PDS X Z st (λ_ _ _=>False):=zbG zxR λF σ H ⟨_,_,_,_,_,_,h,_⟩=>h
end
def zeL:Sd:=λds S Q _=>∃ns:List Int,ds=[.ref 0]∧S=[.frz (ns.map D.int)]∧ns.length≤63∧∀S',Q (.bl true) S'
theorem zr5:∀ds S Q ex,zeL ds S Q ex→ds.length=1:=λds S Q ex h=>by
 obtain⟨ns,rfl,_⟩:=h
 rfl
theorem zxK {K:PySem.W.Frag}{H:Hp}{a:Addr}{xs:List V}(hO:zgf H)(h:SqL K H a xs):SqF K H a xs:=by
 rcases h with (h | ⟨o,h⟩) | h
 ·rcases hO a with z | ⟨o,ys,z⟩
  ·rw[h] at z; cases z
  ·rw[h] at z; cases z
 ·exact .inl ⟨o,h⟩
 ·exact .inr h
theorem zwd {r:List Addr}{H:Hp}(ns:List Int):Rps r H (ns.map D.int) (ns.map V.int):=by
 refine⟨by simp,λi d v h1 h2=>?_⟩
 rw[Val] at h1 h2
 cases q:ns[i]? with
 | none=>rw[q] at h1; cases h1
 | some z=>
  rw[q] at h1 h2
  cases h1
  cases h2
  exact .int z
theorem zvK {K:PySem.W.Frag}{H:Hp}{a:Addr}{ns:List Int}(hl:ns.length≤63)(hO:zgf H)(hS:SqL K H a (ns.map V.int)):upF K zeL [.ref a] H (λv _=>v=.bl true) λ_ _ _=>False:=by
 refine⟨λ_ _=>False,[a],[.frz (ns.map D.int)],[.ref 0],λd _=>d=.bl true,⟨⟨rfl,λn b o h1 h2=>?_,λn m b xs ys h1 h2 h3 h4 o1 o2=>?_⟩,λ_ _ _ _ _ _ _ _ _ z=>z.elim⟩,Rps.cons (.ref rfl) Rps.nil,⟨ns,rfl,rfl,hl,λ_=>rfl⟩,λv H' r' d S' e rel p q=>?_⟩
 ·cases n with
  | zero=>
   simp at h1 h2
   subst h1; subst h2
   exact⟨_,zxK hO hS,zwd ns⟩
  | succ n=>simp at h1
 ·cases n with
  | zero=>
   simp at h3
   subst h3
   cases o1
  | succ n=>simp at h1
 ·subst q
  cases p
  rfl
theorem zrL {l:PySem.W.OpenLaw}{q:Program}{loose:List Str}{XP:(Str→Option Value)→Heap→Prop}{YP:World→Heap→Prop}{d:DefRec}{K:Params→PySem.W.Frag}{x:Str}(k:Nat)(hn:l.most=some 63)(hdf:d.params.defaults=[])(hr:zaN k callerA)
  (hY:∀(w:World) (h:Heap),YP w h→(K w.params).In h)
  (F:∀(w:World) (mg:Str→Option Value) (fa:Addr) (h:Heap),(K w.params).In h→h.Ns mainGlobals mg→mg d.name=some (.ref fa)→
   ∃fd:FuncData,(∀(s:Shared) (u:Value),BindsTo s fd ⟨[u],[]⟩ [(x,u)])∧∀base:Heap,(K w.params).In base→base.Ns mainGlobals mg→za1 l.prog w (K w.params) mg base (CXE l.prog w) k fa fd [x] (upF (K w.params) zeL)):
  PySem.W.WalkO q loose XP YP l.row.toRowW d [] (λf vs=>PySem.call f vs):=
 L2.zv3 (n:=63) (k:=k) (x:=x) (CX:=λw=>CXE l.prog w) (sp:=λw=>upF (K w.params) zeL) hn (by decide) hdf hr hY F (λ_ _ a ns hl hO hS=>zvK hl hO hS) λ_ _ _ _ _ ⟨_,_,_,_,_,_,_,_,_,_,_,_,z⟩=>z
theorem zmU (K:PySem.W.Frag)(T:String)(h:T∈["int","bool","tuple","str"]):Kit K T:=by
 intro t ht
 simp only[Vam,VaO,or_false] at h ht
 rcases h with rfl | rfl | rfl | rfl <;> rcases ht with rfl | rfl | rfl | rfl | rfl <;> kernel_rfl
theorem ifT {c:Bool}{A B:Prop}(h:c=true)(a:A):if c=true then A else B:=by rw[if_pos h]; exact a
theorem ifF {c:Bool}{A B:Prop}(h:c=false)(b:B):if c=true then A else B:=by rw[h]; exact zbE b
theorem ifP {c A B:Prop} [Decidable c] (h:c)(a:A):if c then A else B:=by rw[if_pos h]; exact a
theorem ifD {c:Prop} [Decidable c] {A B:Prop}(h1:c→A)(h2:¬ c→B):if decide c=true then A else B:=by
 by_cases h:c
 ·rw[decide_eq_true h]; exact zcd (h1 h)
 ·rw[decide_eq_false h]; exact zbE (h2 h)
open PySem L2
open PySem L2
theorem Sz.pow {n:Nat}{i:Int}(h:Sz n i)(k:Nat):Sz (n*k+1) (i^k):=by
 unfold Sz at *
 rw[Int.natAbs_pow,Nat.pow_succ,Nat.pow_mul]
 have h1:i.natAbs^k≤(2^n)^k:=Nat.pow_le_pow_left (VaY h) k
 have h2:0<(2^n)^k:=Nat.pow_pos (Nat.pow_pos (by decide))
 omega
theorem ifN {c:Prop} [Decidable c] {A B:Prop}(h1:¬ c→A)(h2:c→B):if (!decide c)=true then A else B:=by
 by_cases h:c
 ·rw[decide_eq_true h]; exact L2.zbE (h2 h)
 ·rw[decide_eq_false h]; exact L2.zcd (h1 h)
section
variable {X:Cx}{Z:Zx}
abbrev Cx.held (X:Cx)(pins:List (Addr×Obj))(E:Value→Shared→Prop):Cx:={ X with pn:=X.pn++pins,xe:=E }
end
structure zdK (k:Nat)(A:Around):Prop where
 dp:A.depth+3*k+5<recursionLimit
 un:A.units+16*k+200<cLine
theorem zdK.mono {j k:Nat}{A:Around}(r:zdK k A)(h:j≤k):zdK j A:=⟨by have:=r.dp; omega,by have:=r.un; omega⟩
theorem zdK.deeper {k:Nat}{A:Around}(r:zdK (k+1) A)(env:Env):zdK k (A.deeper env):=
 ⟨by have:=r.dp; show A.depth+1+3*k+5<_; omega,by have:=r.un; show A.units+3+16*k+200<_; omega⟩
structure FnOkN (P:Program)(w:World)(K:PySem.W.Frag)(mg:Str→Option Value)(base:Heap)(k:Nat)(f:Addr)(fd:FuncData)(ps:List Str)(sp:Sp):Prop where
 len:∀vs H Q E,sp vs H Q E→vs.length=ps.length
 run:∀(A:Around) (outer:List Env) (s:Shared) (H:Hp) (args:Args) (us:List Value) (vs:List V) (Q:VK) (E:XK),zdK k A→zcr P w K mg base A outer s H→BindsTo s fd args (ps.zip us)→zay vs us→sp vs H Q E→
  codeAny (model P w) A (.call (.ref f) args) (CR (CXE P w) outer P w H s Q E) s
section
variable {X:Cx}{k:Nat}{f:Addr}{fd:FuncData}{ps:List Str}{sp:Sp}{W:St→XK}{x:Str}{p pos:Pos}{e:Expr}{es:List Expr}{t:TA}
end
section
variable {X:Cx}{Z:Zx}{x:Str}{p pos:Pos}{e:Expr}{es:List Expr}{t:TDA}
end
section
variable {P:Program}{w:World}{K:PySem.W.Frag}{mg:Str→Option Value}{base:Heap}
end
structure FkN (P:Program)(w:World)(K:PySem.W.Frag)(mg:Str→Option Value)(base:Heap)(k:Nat)(x:Str)(ps:List Str)(sd:Sd) where
 f:Addr
 fd:FuncData
 ok:FnOkN P w K mg base k f fd ps (upF K sd)
 m:mg x=some (.ref f)
 kp:PySem.W.keepIn K (.ref f)=true
 b:zbs K fd ps []
section
variable {X:Cx}{Z:Zx}
theorem ztK {r:List Addr}{H:Hp}{a:Addr}{o:HO}(h:H a=none):Ext r r H (upd H a o):=⟨λ_ _ q=>q,λ_ _ q=>zdn h _ _ q,λ_ _ q=>zdn h _ _ q⟩
open PySem.W in
end
abbrev VE:List Value:=[.type "ValueError",.type "Exception",.type "BaseException",.type "object"]
structure Ec (K:PySem.W.Frag)(mg:Str→Option Value)(x:Str) where
 c:Addr
 xc:Xc K mg x c VE "ValueError.__new__"
theorem qt {Q:DK}{S:Sto}{b:Bool}(e:b=true)(h:Q (.bl true) S):Q (.bl b) S:=by rw[e]; exact h
theorem Sz.div {n:Nat}{i j:Int}(h:Sz n i)(hj:1≤j):Sz n (i/j):=by
 refine Va1 ?_ h
 obtain⟨h1,h2⟩:=zlP i (show 0<j by omega)
 by_cases q:0≤i/j
 ·have:=Int.mul_le_mul_of_nonneg_left hj q
  omega
 ·have:=Int.mul_le_mul_of_nonneg_left hj (show 0≤-(i/j+1) by omega)
  have e:-(i/j+1)*j=-((i/j+1)*j):=Vah _ _
  omega
inductive Sco (n:Nat):D→Prop
 | non:Sco n .non
 | bl (b:Bool):Sco n (.bl b)
 | int (i:Int):Sco n (.int i)
 | str (x:Str):Sco n (.str x)
 | tup {ds:List D}:(∀d∈ds,Sco n d)→Sco n (.tup ds)
 | ref {m:Nat}:m<n→Sco n (.ref m)
 | exc (c:Addr):Sco n (.exc c)
theorem Rp.sco {r:List Addr}{H:Hp}{d:D}{v:V}(h:Rp r H d v):Sco r.length d:=by
 induction h with
 | non=>exact .non
 | bl b=>exact .bl b
 | int i=>exact .int i
 | str x=>exact .str x
 | @tup ds xs a _ l _ ih=>
  refine .tup λd hd=>?_
  obtain⟨i,hi,e⟩:=VaI.mp hd
  exact ih i d xs[i] (by simp[hi,e]) (by simp[l ▸ hi])
 | ref h=>exact .ref (Vab.mp h).1
 | exc _=>exact .exc _
theorem Rp.low {r r':List Addr}{H:Hp}{d:D}{v:V}(h:Rp r' H d v)(low:∀m a,m<r.length→r'[m]?=some a→r[m]?=some a)(s:Sco r.length d):Rp r H d v:=by
 induction h with
 | non=>exact .non
 | bl b=>exact .bl b
 | int i=>exact .int i
 | str x=>exact .str x
 | tup e l f ih=>
  cases s with
  | tup s=>exact .tup e l λi d v h1 h2=>ih i d v h1 h2 (s d (Vau h1))
 | ref h=>
  cases s with
  | ref s=>exact .ref (low _ _ s h)
 | exc h=>exact .exc h
def Pre (S S':Sto):Prop:=∀(n:Nat) (o:Ob),S[n]?=some o→S'[n]?=some o
theorem Pre.refl {S:Sto}:Pre S S:=λ_ _ h=>h
theorem Pre.push {S S':Sto}{o:Ob}(h:Pre S S'):Pre S (S'++[o]):=λn u e=>by
 have z:=h n u e
 rw[Vak (Vab.mp z).1]; exact z
theorem Pre.trans {S S' S2:Sto}(h:Pre S S')(k:Pre S' S2):Pre S S2:=λn o e=>k n o (h n o e)
theorem zfu {r r':List Addr}{H H':Hp}(e:Ext r r' H H'):∀m a,m<r.length→r'[m]?=some a→r[m]?=some a:=λm a hm h=>by
 have z:r[m]?=some r[m]:=by simp[hm]
 rw[e.adr _ _ z] at h
 rw[z]; exact h
theorem zaU.low {K:PySem.W.Frag}{r r':List Addr}{S S':Sto}{H H':Hp}(h:zaU K r S H)(e:Ext r r' H H')(h':zaU K r' S' H')(p:Pre S S'):zaU K r S H':=by
 have rl:∀ {ds:List D} {xs ys:List V},Rps r H ds xs→Rps r' H' ds ys→Rps r H' ds ys:=λ{ds xs ys} a b=>⟨b.1,λi d v h1 h2=>by
  obtain⟨v0,_,q⟩:=a.get h1
  exact(b.2 i d v h1 h2).low (zfu e) q.sco⟩
 refine⟨h.len,λn a o h1 h2=>?_,λn m a xs ys h1 h2 h3 h4 o1 o2=>h'.nd n m a xs ys (e.adr _ _ h1) (e.adr _ _ h2) (p _ _ h3) (p _ _ h4) o1 o2⟩
 have q:=h.ob n a o h1 h2
 have q':=h'.ob n a o (e.adr _ _ h1) (p _ _ h2)
 cases o with
 | lst ds=>
  obtain⟨xs,_,a1⟩:=q
  obtain⟨ys,b0,b1⟩:=q'
  exact⟨ys,b0,rl a1 b1⟩
 | frz ds=>
  obtain⟨xs,_,a1⟩:=q
  obtain⟨ys,b0,b1⟩:=q'
  exact⟨ys,b0,rl a1 b1⟩
 | ins C fs=>
  obtain⟨_,_,_,a1⟩:=q
  obtain⟨dx,fs',b0,b1⟩:=q'
  exact⟨dx,fs',b0,b1.1,rl a1.2 b1.2⟩
 | dct kvs=>
  obtain⟨_,_,a1⟩:=q
  obtain⟨ks,b0,b1⟩:=q'
  exact⟨ks,b0,b1.1,rl a1.2 b1.2⟩
def Gc (S:Sto)(Q:DK):DK:=λd S'=>Pre S S'∧Sco S.length d∧Q d S
def GcX (S:Sto)(ex:Addr→Sto→Prop):Addr→Sto→Prop:=λc S'=>Pre S S'∧ex c S
theorem Ret.gc {K:PySem.W.Frag}{Z Z':Zx}{r:List Addr}{S:Sto}{H:Hp}{Q:DK}{Qv:VK}(h:Ret K Z r H Q Qv)(rel:Rel K Z r S H):Ret K Z' r H (Gc S Q) Qv:=λv H' r' d S' e rel' p q=>by
 obtain⟨pre,sc,q⟩:=q
 have e':Ext r r H H':=⟨λ_ _ z=>z,e.tup,e.xc⟩
 rw[← rel.len] at sc
 exact h v H' r d S e' ⟨rel.b.low e rel'.b pre,rel.xw.ext e'⟩ (p.low (zfu e) sc) q
theorem zdG.gc {K:PySem.W.Frag}{ex:Addr→Sto→Prop}{E:XK}{r:List Addr}{S:Sto}{H:Hp}(rel:Rel K (Zc ex E) r S H):zdG K (Zc (GcX S ex) E) r H:=λdl σ c H' r' S' e _ rb q=>by
 obtain⟨pre,q⟩:=q
 have e':Ext r r H H':=⟨λ_ _ z=>z,e.tup,e.xc⟩
 exact rel.xw [] [] c H' r S e' ⟨rfl,λi d z=>by simp at z⟩ (rel.b.low e rb pre) q
section
variable {P:Program}{w:World}{K:PySem.W.Frag}{mg:Str→Option Value}{base:Heap}
def gcS (sd:Sd):Sd:=λds S Q ex=>∃Q0 ex0,Q=Gc S Q0∧ex=GcX S ex0∧sd ds S Q0 ex0
theorem zio {CX:CXT}{k:Nat}{f:Addr}{fd:FuncData}{ps:List Str}{sd:Sd}(h:za1 P w K mg base CX k f fd ps (upF K (gcS sd))):za1 P w K mg base CX k f fd ps (upF K sd):=by
 have imp:∀vs H Q E,upF K sd vs H Q E→upF K (gcS sd) vs H Q E:=λvs H Qv E ⟨ex,r,S,ds,Q,rel,p,q,ret⟩=>
  ⟨GcX S ex,r,S,ds,Gc S Q,⟨rel.b,zdG.gc rel⟩,p,⟨Q,ex,rfl,rfl,q⟩,ret.gc rel⟩
 obtain⟨h1,h2⟩:=h
 exact⟨λvs H Q E q=>h1 vs H Q E (imp vs H Q E q),λA outer s H args us vs Q E hr e0 hb rv q=>h2 A outer s H args us vs Q E hr e0 hb rv (imp vs H Q E q)⟩
end
theorem zjG {sd:Sd}{n:Nat}(len:∀ds S Q ex,sd ds S Q ex→ds.length=n):∀ds S Q ex,gcS sd ds S Q ex→ds.length=n:=λds S Q ex h=>by
 obtain⟨Q0,ex0,_,_,h⟩:=h
 exact len _ _ _ _ h
structure zdq (sc around:Scope)(x:Str)(caps:List Str):Prop where
 kind:sc.kind=.function
 nocell:∀y∈sc.names,y.2≠.cell
 own:∀y∈sc.names,y.2=.local→sc.names.lookup y.1=some .local
 loc:sc.names.lookup x=some .local
 cap:∀y∈caps,sc.names.lookup y=some .free
 out:∀y∈sc.names,y.2=.free→around.names.lookup y.1=some .cell
theorem zni {α:Type}{y:Str}{v:α}:∀ {l:List (Str×α)},l.lookup y=some v→(y,v)∈l
 | [],h=>by simp at h
 | (n,k)::r,h=>by
  cases e:y==n with
  | true=>
   rw[Vav,e] at h
   have z:k=v:=Option.some.inj h
   have z2:y=n:=by simpa using e
   rw[z,z2]; exact VaZ
  | false=>
   rw[Vav,e] at h
   exact VaF _ (zni h)
theorem znZ {env:Env}:∀(l:List (Str×NameKind)) (acc:List (Str×Addr)),(∀y∈l,y.2=.free→∃c,env.cells.lookup y.1=some c)→(∀x c,acc.lookup x=some c→env.cells.lookup x=some c)→
  ∃cl,(forIn l acc λx r=>(if (x.2==NameKind.free)=true then do let a ← cellOf env x.1; pure (ForInStep.yield ((x.1,a)::r)) else pure (ForInStep.yield r):Sem (ForInStep (List (Str×Addr)))))=pure cl∧
   (∀x c,cl.lookup x=some c→env.cells.lookup x=some c)∧(∀y∈l,y.2=.free→cl.lookup y.1=env.cells.lookup y.1)∧∀x c,acc.lookup x=some c→∃c',cl.lookup x=some c'
 | [],acc,_,ha=>⟨acc,by simp,ha,λy hy=>(by cases hy),λx c e=>⟨c,e⟩⟩
 | (n,k)::r,acc,h,ha=>by
  cases hk:(k==NameKind.free) with
  | false=>
   obtain⟨cl,h1,h2,h3,h4⟩:=znZ r acc (λy hy=>h y (VaF _ hy)) ha
   refine⟨cl,?_,h2,λy hy hf=>?_,h4⟩
   ·rw[List.forIn_cons]; simp[hk]; simpa using h1
   ·have hy':=Vam.mp hy
    rcases hy' with rfl | hy
    ·rw[show k=NameKind.free from hf] at hk; exact absurd hk (by decide)
    ·exact h3 y hy hf
  | true=>
   have hf:k=NameKind.free:=by simpa using hk
   obtain⟨c,hc⟩:=h (n,k) VaZ hf
   obtain⟨cl,h1,h2,h3,h4⟩:=znZ r ((n,c)::acc) (λy hy=>h y (VaF _ hy)) (λx c' e=>by
    cases q:x==n with
    | true=>
     rw[Vav,q] at e
     have z:x=n:=by simpa using q
     rw[z,hc]; exact e
    | false=>
     rw[Vav,q] at e
     exact ha x c' e)
   refine⟨cl,?_,h2,λy hy hf=>?_,λx c' e=>?_⟩
   ·have ec:cellOf env n=pure c:=by unfold cellOf; rw[hc]
    rw[List.forIn_cons]; simp[hk,ec]; simpa using h1
   ·have hy':=Vam.mp hy
    rcases hy' with rfl | hy
    ·obtain⟨c',e⟩:=h4 n c (by simp)
     rw[e]; exact(h2 _ _ e).symm
    ·exact h3 y hy hf
   ·refine h4 x (if x==n then c else c') ?_
    cases q:x==n with
    | true=>simp[Vav,q]
    | false=>simp[Vav,q,e]
theorem zr2 {sc:Scope}{env:Env}(h:∀y∈sc.names,y.2=.free→∃c,env.cells.lookup y.1=some c):
  ∃cl,closureFor sc env=pure cl∧(∀x c,cl.lookup x=some c→env.cells.lookup x=some c)∧∀y∈sc.names,y.2=.free→cl.lookup y.1=env.cells.lookup y.1:=by
 obtain⟨cl,h1,h2,h3,_⟩:=znZ sc.names [] h (λx c e=>by simp at e)
 refine⟨cl,?_,h2,h3⟩
 unfold closureFor
 simp only[bind_pure]
 exact h1
theorem zqG {env:Env}:∀ {names:List (Str×NameKind)} {x:Str},names.lookup x=some .free→
  (names.map λ(n,k)=>if (k==NameKind.free&&env.scope.kind==.function&&env.kindOf n==some .cell) then (n,NameKind.cell) else (n,k)).lookup x=some .cell∨
  (names.map λ(n,k)=>if (k==NameKind.free&&env.scope.kind==.function&&env.kindOf n==some .cell) then (n,NameKind.cell) else (n,k)).lookup x=some .free
 | [],_,h=>by simp at h
 | (n,k)::r,x,h=>by
  have ih:=@zqG env r x
  rw[Vat]
  cases hx:x==n with
  | true=>
   rw[Vav,hx] at h
   have hk:k=.free:=Option.some.inj h
   subst hk
   dsimp only
   split
   ·left; simp[Vav,hx]
   ·right; simp[Vav,hx]
  | false=>
   rw[Vav,hx] at h
   dsimp only
   split
   ·simp only[Vav,hx]; exact ih h
   ·simp only[Vav,hx]; exact ih h
theorem zo4 {env:Env}:∀ {names:List (Str×NameKind)} {x:Str},(∀y∈names,y.2≠.cell)→
  ((names.map λ(n,k)=>if (k==NameKind.free&&env.scope.kind==.function&&env.kindOf n==some .cell) then (n,NameKind.cell) else (n,k)).lookup x=some .cell∨
  (names.map λ(n,k)=>if (k==NameKind.free&&env.scope.kind==.function&&env.kindOf n==some .cell) then (n,NameKind.cell) else (n,k)).lookup x=some .free)→names.lookup x=some .free
 | [],_,_,h=>by simp at h
 | (n,k)::r,x,hc,h=>by
  have ih:=@zo4 env r x λy hy=>hc y (VaF _ hy)
  rw[Vat] at h
  cases hx:x==n with
  | true=>
   rw[Vav,hx]
   dsimp only at h
   split at h
   ·rename_i q
    simp only[Bool.and_eq_true] at q
    have hk:k=.free:=by simpa using q.1.1
    rw[hk]
   ·simp only[Vav,hx] at h
    rcases h with h | h
    ·exact absurd (Option.some.inj h) (hc (n,k) VaZ)
    ·exact h
  | false=>
   rw[Vav,hx]
   dsimp only at h
   split at h
   ·simp only[Vav,hx] at h; exact ih h
   ·simp only[Vav,hx] at h; exact ih h
abbrev Cx.comp (X:Cx)(sc:Scope)(N:List Str)(cl:List (Str×Addr))(C:Addr)(s0:Shared)(H0:Hp)(fp:List Addr)(pn:List (Addr×Obj)):Cx:=
 { X with N:=N,env:=compEnvC sc cl C X.env,s₀:=s0,H₀:=H0,outer:=X.stack,stack:=X.stack,ex:=fp,fn:=λ_=>false,pn:=pn,xe:=λ_ _=>False }
def zbC (caps:List Nat)(σ:St):St:=caps.map λj=>(σ[j]?).join
def zcD (caps:List Nat)(dl:Ev):Ev:=caps.map λj=>(dl[j]?).join
def zg2 (caps:List Nat)(wi:TI)(tc:TT)(te:TE):TE:=λσ H Q=>wi σ H λJ H1=>∀D,H1 D=none→∃W:Nat→Nat→Hp→Prop,(∃m,W 0 m (upd H1 D (.lst [])))∧∀i m H,W i m H→
 (J.stop i H∧Q (.ref D) H)∨(J.go i H∧∀x H',J.yld i H x H'→tc (some x::zbC caps σ) H' λb H2=>if b=true then te (some x::zbC caps σ) H2 λy H3=>∃ys,H3 D=some (.lst ys)∧ys.length<sizeLine∧∃m',m'<m∧W (i+1) m' (upd H3 D (.lst (ys++[y])))
  else ∃m',m'<m∧W (i+1) m' H2)
def PTs (Y:Cx)(ifs:List Expr)(tc:TT):Prop:=∀(pins:List (Addr×Obj)) (s:Shared) (σ:St) (H:Hp) (Q:Bool→Hp→Prop),Inv Y pins σ H s→tc σ H Q→
 wpAny (model Y.prog Y.w) Y.A (forIn ifs true λc r=>if r=true then do let ok ← isTrue c Y.env (eval c Y.env); pure (ForInStep.yield ok) else pure (ForInStep.yield r)) (TP Y pins σ Q) Y.xe s
theorem zws {Y:Cx}:PTs Y [] (λ_ H Q=>Q true H):=λ_ _ _ H _ I h=>wpAny_tests_nil ⟨H,I,h⟩
section
variable {X:Cx}{pins:List (Addr×Obj)}{σ:St}{H:Hp}{s:Shared}
theorem zsE {sc:Scope}{x:Str}{N:List Str}{caps:List Nat}{cl:List (Str×Addr)}{fp:List Addr}{h1:Heap}{m:Str→Option Value}{tk:Nat}(I:Inv X pins σ H s)(cs:zdq sc X.env.scope x N)
  (hN:∀(j:Nat) (y:Str),N[j]?=some y→∃i,caps[j]?=some i∧X.N[i]?=some y)(hlen:caps.length=N.length)
  (c1:∀x c,cl.lookup x=some c→X.env.cells.lookup x=some c)(c2:∀y∈sc.names,y.2=.free→cl.lookup y.1=X.env.cells.lookup y.1)
  (hf:∀b∈fp,zb3 X pins H b)(hfo:∀b∈fp,b<s.heap.objs.size)(hns:h1.Ns s.heap.objs.size m)(hk:∀b o,s.heap.get? b=some o→h1.get? b=some o):
  Inv (Cx.comp X sc (x::N) cl s.heap.objs.size s H fp (X.pn++pins)) [] (none::zbC caps σ) H { s with heap:=h1,toks:=tk }:=by
 have stk:∀b∈frs X.stack,b=X.env.locals∨b∈X.fs:=λb hb=>Vam.mp (I.stkSub b hb)
 refine⟨⟨I.ok.mod,cs.kind,I.ok.glob,I.ok.blt,Vaa _,λa b c h1 h2=>I.ok.inj a b c (c1 _ _ h1) (c1 _ _ h2),λy hy=>?_,λ_ _ z=>Bool.noConfusion z,I.ok.hd,I.ok.frames,.inl rfl,λb hb=>⟨Vas (hfo b hb),λy c e=>(hf b hb).2.2.2.2.1 y c (c1 _ _ e)⟩,
  I.bs,VaB I.ok.bsz I.sz,λb o e hb=>?_,λb hb z=>?_,I.stack,I.stkFree⟩,rfl,I.bare,Un.kept hk,⟨m,hns,λi y v e1 e2 e3=>?_⟩,λy c e=>?_,I.hok.fresh (Vaa _),λy c e=>I.freeC y c (c1 _ _ e),λp hp=>?_,I.hok.kept hk,?_⟩
 ·have hfr:sc.names.lookup y=some .free:=zo4 cs.nocell hy
  have hm:=zni hfr
  obtain⟨c,e⟩:=I.ok.has y (.inl (cs.out _ hm rfl))
  exact⟨c,(c2 _ hm rfl).trans e⟩
 ·rcases (hf b hb).2.2.2.1 with z | z
  ·exact I.ok.noex b o e z
  ·exact absurd (Var (Heap.lt_size (I.ok.bs b o e).1) z) (VaL _)
 ·rcases stk b z with z | z
  ·exact(hf b hb).2.1 z
  ·exact(hf b hb).2.2.1 z
 ·cases i with
  | zero=>simp at e2
  | succ i=>
   have e1':N[i]?=some y:=by simpa using e1
   obtain⟨j,hj,hy⟩:=hN i y e1'
   have e2':σ[j]?=some (some v):=by
    simp only[List.getElem?_cons_succ,zbC,Val,hj,Option.map_some,Option.some.injEq] at e2
    cases q:σ[j]? with
    | none=>rw[q] at e2; cases e2
    | some o=>rw[q] at e2; simp at e2; rw[e2]
   have hfr:sc.names.lookup y=some .free:=cs.cap y (Vau e1')
   have hm:=zni hfr
   have hce:X.env.scope.names.lookup y=some .cell:=cs.out _ hm rfl
   obtain⟨m0,_,hl⟩:=I.loc
   obtain⟨u,r,l⟩:=hl j y v hy e2' (.inr (.inl hce))
   refine⟨u,r,.inr ⟨zqG hfr,?_⟩⟩
   rcases l with ⟨k,_⟩ | ⟨_,c,ec,hcell⟩
   ·rw[show X.env.kindOf y=some .cell from hce] at k; cases k
   ·exact⟨c,(c2 _ hm rfl).trans ec,hcell.keeps hk⟩
 ·obtain⟨v,z⟩:=I.cell y c (c1 _ _ e)
  exact⟨v,z.keeps hk⟩
 ·have hp':p∈X.pn++pins:=by simpa using hp
  obtain⟨p1,p2,p3,p4,p5⟩:=I.pin p hp'
  refine⟨hk _ _ p1,p2,Vas (Heap.lt_size p1),λz=>?_,p5⟩
  rcases stk _ z with z | z
  ·exact p3 z
  ·exact p4 z
 ·simp[zbC,hlen]
end
section
variable {X:Cx}{elt iter:Expr}{x:Str}{px pos:Pos}{ifs:List Expr}{sc:Scope}{N:List Str}{caps:List Nat}{wi:TI}{tc:TT}{te:TE}
structure zuo (X:Cx)(pins:List (Addr×Obj))(σ:St)(C:Addr)(Q:VK)(D:Addr)(s':Shared):Prop where
 q:∃H',Inv X pins σ H' s'∧Q (.ref D) H'∧H' C=none
 ns:∃m,s'.heap.Ns C m
 loc:C≠X.env.locals
 old:X.s₀.heap.objs.size≤C
 cell:∀x c,X.env.cells.lookup x=some c→c≠C
 pin:∀p∈X.pn++pins,p.1≠C
theorem zpd {use:Option (Value→Sem Unit)}{Qr:Value→Shared→Prop}(hc:X.calm=true)(cs:zdq sc X.env.scope x N)(hN:∀(j:Nat) (y:Str),N[j]?=some y→∃i,caps[j]?=some i∧X.N[i]?=some y)(hlen:caps.length=N.length)(hnd:(x::N).Nodup)
  (hi:PI X (.Name x px) iter wi)(ht:∀cl C s0 H0 fp pn,PTs (Cx.comp X sc (x::N) cl C s0 H0 fp pn) ifs tc)(he:∀cl C s0 H0 fp pn,PE (Cx.comp X sc (x::N) cl C s0 H0 fp pn) elt te)
  (hs:∀y,foldedSetIterable iter X.env y=pure y)
  {pins:List (Addr×Obj)}{s:Shared}{σ:St}{H:Hp}{Q:VK}{p2:Pos}(I:Inv X pins σ H s)(h:zg2 caps wi tc te σ H Q)
  (fin:∀D C s',zuo X pins σ C Q D s'→compPost (model X.prog X.w) X.A X.xe use Qr (.ref D) C (.ok .next) s'):
  wpAny (model X.prog X.w) X.A (comprehension (.ListComp elt [⟨.Name x px,iter,ifs,0⟩] sc pos) sc X.env p2 (newList []) false (eval iter X.env) use) Qr X.xe s:=by
 obtain⟨cl,k1,k2,k3⟩:=zr2 (sc:=sc) (env:=X.env) λy hy hf=>I.ok.has y.1 (.inl (cs.out y hy hf))
 refine wpAny_comprehension_free rfl hs k1 cs.kind cs.own (thn (hi pins s σ H _ I h) λv s1 h1=>thn h1 λitv s2 h2=>?_)
 obtain⟨it,fp,tn,J,H2,e,I2,T,st2,f2,body⟩:=h2
 subst e
 have hfo:∀b∈fp,b<s2.heap.objs.size:=λb hb=>by
  obtain⟨o,e,_⟩:=T.obj _ _ st2 b hb
  exact Heap.lt_size e
 have hD:H2 s2.heap.objs.size=none:=I2.hok.fresh (Vaa _)
 obtain⟨W,⟨m0,w0⟩,turn⟩:=body _ hD
 refine wpAny_newObj_type ?_
 have I3:Inv X pins σ (upd H2 s2.heap.objs.size (.lst [])) { s2 with heap:=s2.heap.push { cls:=.type "list",dict:=none,data:=.seq ([]:List Value).toArray },toks:=s2.toks }:=
  I2.laid (t':=s2.toks) (λb u e=>Heap.get?_push_of_some _ e) (Vaa _) ⟨VaA _,[],0,.nil,Heap.get?_push_size _ rfl⟩
 generalize hs3:({ s2 with heap:=s2.heap.push { cls:=.type "list",dict:=none,data:=.seq ([]:List Value).toArray },toks:=s2.toks }:Shared)=s3 at I3
 have es3:({ s2 with heap:=s2.heap.push { cls:=.type "list",dict:=none,data:=.seq ([]:List Value).toArray } }:Shared)=s3:=hs3
 try rw[es3]
 have f3:∀b∈fp,zb3 X pins (upd H2 s2.heap.objs.size (.lst [])) b:=λb hb=>⟨by rw[za3 (Vas (hfo b hb))]; exact(f2 b hb).1,(f2 b hb).2⟩
 have up3:∀b o,s2.heap.get? b=some o→s3.heap.get? b=some o:=λb o e=>by rw[← hs3]; exact Heap.get?_push_of_some _ e
 have st3:tn 0 s3.heap:=T.keep _ _ _ st2 λb _ o e=>up3 b o e
 have hfo3:∀b∈fp,b<s3.heap.objs.size:=λb hb=>by
  obtain⟨o,e,_⟩:=T.obj _ _ st3 b hb
  exact Heap.lt_size e
 refine wpAny_newFunctionEnv cs.nocell (λy hy=>by simp at hy) (λh4 ns4 sb4=>?_) cs.kind
 have hk4:∀b o,s3.heap.get? b=some o→h4.get? b=some o:=λb o e=>(sb4.2 b (Vas (Heap.lt_size e))).trans (Heap.get?_push_of_some _ e)
 have I4:=zsE (tk:=s3.toks+([]:List (Str×Value)).length) I3 cs hN hlen k2 k3 f3 hfo3 ns4 hk4
 generalize hs4:({ s3 with heap:=h4,toks:=s3.toks+([]:List (Str×Value)).length }:Shared)=s4 at I4 ⊢
 have eh4:s4.heap=h4:=by rw[← hs4]
 have st4:tn 0 s4.heap:=by rw[eh4]; exact T.keep _ _ _ st3 λb _ o e=>hk4 b o e
 have fY:∀ {H':Hp},(∀b∈fp,H' b=none)→∀b∈fp,zb3 (Cx.comp X sc (x::N) cl s3.heap.objs.size s3 (upd H2 s2.heap.objs.size (.lst [])) fp (X.pn++pins)) [] H' b:=λhn b hb=>by
  obtain⟨_,z2,z3,z4,z5,z6⟩:=f3 b hb
  refine⟨hn b hb,Vas (hfo3 b hb),λz=>?_,.inl hb,λy c e=>z5 y c (k2 _ _ e),λp hp=>z6 p (by simpa using hp)⟩
  rcases Vam.mp (I3.stkSub b z) with z | z
  ·exact z2 z
  ·exact z3 z
 have locY:(Cx.comp X sc (x::N) cl s3.heap.objs.size s3 (upd H2 s2.heap.objs.size (.lst [])) fp (X.pn++pins)).env.scope.names.lookup x=some .local:=lookup_relabel_local cs.loc
 have loop:codeAny (model X.prog X.w) X.A (.compLoop (.ListComp elt [⟨.Name x px,iter,ifs,0⟩] sc pos) 0 (.ref it) (.ref s2.heap.objs.size) (compEnvC sc cl s3.heap.objs.size X.env))
   (compPost (model X.prog X.w) X.A X.xe use Qr (.ref s2.heap.objs.size) s3.heap.objs.size) s4:=by
  refine codeAny_compLoop_tests (λn s'=>∃i o H',Inv (Cx.comp X sc (x::N) cl s3.heap.objs.size s3 (upd H2 s2.heap.objs.size (.lst [])) fp (X.pn++pins)) [] (o::zbC caps σ) H' s'∧tn i s'.heap∧(∀b∈fp,H' b=none)∧W i n H') ?_ m0
   ⟨0,none,_,I4,st4,λb hb=>(f3 b hb).1,w0⟩
  rintro n s5 ⟨i,o,H5,I5,st5,fr5,w5⟩
  rcases turn i n H5 w5 with ⟨stop,q⟩ | ⟨go,step⟩
  ·refine thn (T.done (Cx.comp X sc (x::N) cl s3.heap.objs.size s3 (upd H2 s2.heap.objs.size (.lst [])) fp (X.pn++pins)) rfl rfl rfl hc i [] s5 _ H5 _ I5 (fY fr5) st5 stop) λr s6 ⟨hr,I6⟩=>?_
   subst hr
   refine fin _ _ _ ⟨⟨H5,I3.call' I6.os I6.base I6.hok I6.bare (λb hb=>?_),q,I6.free⟩,?_,Nat.ne_of_gt I3.lt,I3.sz,λy c e z=>?_,λp hp z=>?_⟩
   ·obtain⟨_,z2,z3,z4,z5,z6⟩:=f3 b hb
    exact⟨z4,z2,z5,z6⟩
   ·obtain⟨m,hm,_⟩:=I6.loc
    exact⟨m,hm⟩
   ·obtain⟨v,hv⟩:=I3.cell y c e
    exact absurd (z ▸ hv.lt) (VaL _)
   ·exact absurd (z ▸ Heap.lt_size (I3.pin p hp).1) (VaL _)
  ·refine thn (T.item (Cx.comp X sc (x::N) cl s3.heap.objs.size s3 (upd H2 s2.heap.objs.size (.lst [])) fp (X.pn++pins)) rfl rfl rfl hc i [] s5 _ H5 _ I5 (fY fr5) st5 go) λr s6 ⟨u,hr,h6⟩=>?_
   subst hr
   show wpAny _ _ (letOwnedTupleGo (.Name x px) (.ref it) u >>= λ_=>assign (.Name x px) (compEnvC sc cl s3.heap.objs.size X.env) u) _ _ s6
   refine wpAny_bind (thn h6 λ_ s7 ⟨y,H7,I7,r7,y7,st7,fr7⟩=>?_)
   have I7':=I7.pinned (fY fr7) (T.obj _ _ st7)
   refine wpAny_mono (zeV (X:=Cx.comp X sc (x::N) cl s3.heap.objs.size s3 (upd H2 s2.heap.objs.size (.lst [])) fp (X.pn++pins)) (pos:=px) hnd (i:=0) rfl (.inl locY) (.inr locY) _ s7 _ H7 y u (λσ8 H8=>σ8=some y::zbC caps σ∧H8=H7) I7' r7 ⟨rfl,rfl⟩) (λ_ s8 ⟨σ8,H8,I8,e8,e8'⟩=>?_) λ_ _ z=>z.elim
   subst e8
   subst e8'
   have stay:∀ {H':Hp} {s':Shared},Inv (Cx.comp X sc (x::N) cl s3.heap.objs.size s3 (upd H2 s2.heap.objs.size (.lst [])) fp (X.pn++pins)) ([]++zhH fp s7.heap) (some y::zbC caps σ) H' s'→∀m',m'<n→W (i+1) m' H'→
     ∃m,m<n∧∃i o H',Inv (Cx.comp X sc (x::N) cl s3.heap.objs.size s3 (upd H2 s2.heap.objs.size (.lst [])) fp (X.pn++pins)) [] (o::zbC caps σ) H' s'∧tn i s'.heap∧(∀b∈fp,H' b=none)∧W i m H':=λ{H' s'} J m' hm w'=>by
    refine⟨m',hm,i+1,some y,H',J.unpinned,T.keep _ _ _ st7 λb hb o e=>(J.pin (b,o) (VaH _ (VaH _ (zhZ hb e)))).1,λb hb=>?_,w'⟩
    obtain⟨o,e,d⟩:=T.obj _ _ st7 b hb
    exact(J.pin (b,o) (VaH _ (VaH _ (zhZ hb e)))).2.1
   refine wpAny_mono (ht _ _ _ _ _ _ _ s8 _ H8 _ I8 (step y H8 y7)) (λb s9 ⟨H9,I9,q9⟩=>?_) λ_ _ z=>z.elim
   cases b with
   | false=>
    rw[if_neg Vao] at q9 ⊢
    obtain⟨m',hm,w9⟩:=q9
    exact stay I9 m' hm w9
   | true=>
    rw[if_pos rfl] at q9 ⊢
    refine wpAny_mono (he _ _ _ _ _ _ _ s9 _ H9 _ I9 q9) (λu2 s10 ⟨z,H10,I10,r10,q10⟩=>?_) λ_ _ z=>z.elim
    obtain⟨ys,hD10,hlt,m',hm,w10⟩:=q10
    refine wpAny_mono (zo0 (X:=(Cx.comp X sc (x::N) cl s3.heap.objs.size s3 (upd H2 s2.heap.objs.size (.lst [])) fp (X.pn++pins))) _ s10 _ H10 (.ref s2.heap.objs.size) [z] (.ref s2.heap.objs.size) [u2] (λ_ H'=>H'=upd H10 s2.heap.objs.size (.lst (ys++[z]))) I10 rfl (.cons r10 .nil) ⟨_,ys,z,rfl,rfl,hD10,hlt,rfl⟩) (λ_ s11 ⟨_,H11,I11,_,e11⟩=>?_) λ_ _ z=>z.elim
    subst e11
    exact stay I11 m' hm w10
 exact codeAny_compStart_list loop (T.self _ 0 s4 _ _ st4 loop)
theorem zjF {X:Cx}{caps:List Nat}{N:List Str}(h:caps.map (λi=>X.N[i]?)=N.map some):(∀(j:Nat) (y:Str),N[j]?=some y→∃i,caps[j]?=some i∧X.N[i]?=some y)∧caps.length=N.length:=by
 refine⟨λj y e=>?_,by simpa using congrArg List.length h⟩
 have z:(caps.map (λi=>X.N[i]?))[j]?=some (some y):=by rw[h,Val,e]; rfl
 rw[Val] at z
 cases q:caps[j]? with
 | none=>rw[q] at z; cases z
 | some i=>rw[q] at z; exact⟨i,rfl,by simpa using z⟩
theorem zxN (hc:X.calm=true)(cs:zdq sc X.env.scope x N)(hN:caps.map (λi=>X.N[i]?)=N.map some)(hnd:(x::N).Nodup)
  (hi:PI X (.Name x px) iter wi)(ht:∀cl C s0 H0 fp pn,PTs (Cx.comp X sc (x::N) cl C s0 H0 fp pn) ifs tc)(he:∀cl C s0 H0 fp pn,PE (Cx.comp X sc (x::N) cl C s0 H0 fp pn) elt te)
  (hs:∀y,foldedSetIterable iter X.env y=pure y:=by intro _; rfl):PE X (.ListComp elt [⟨.Name x px,iter,ifs,0⟩] sc pos) (zg2 caps wi tc te):=by
 intro pins s σ H Q I h
 rw[eval_ListComp]
 refine zpd (use:=none) hc cs (zjF hN).1 (zjF hN).2 hnd hi ht he hs I h λD C s' f=>?_
 obtain⟨⟨H',I',q,hC⟩,⟨m,ns⟩,l,o,c,p⟩:=f
 exact⟨m,ns,λh' sb=>⟨.ref D,H',I'.turned (t':=s'.toks) (λb ob hb e=>(sb.2 b hb).trans e) hC l (.inr o) c p,rfl,q⟩⟩
theorem zoS {i:Nat}{y:Str}{py spos:Pos}(hc:X.calm=true)(cs:zdq sc X.env.scope x N)(hN:caps.map (λi=>X.N[i]?)=N.map some)(hnd:(x::N).Nodup)
  (hi:PI X (.Name x px) iter wi)(ht:∀cl C s0 H0 fp pn,PTs (Cx.comp X sc (x::N) cl C s0 H0 fp pn) ifs tc)(he:∀cl C s0 H0 fp pn,PE (Cx.comp X sc (x::N) cl C s0 H0 fp pn) elt te)
  (hNd:X.N.Nodup)(hy:X.N[i]?=some y)(hl:X.env.scope.names.lookup y=some .local)
  (hsw:swapsWith (.ListComp elt [⟨.Name x px,iter,ifs,0⟩] sc pos) (some (.Name y py)) spos.line X.env=pure true)
  (hs:∀y,foldedSetIterable iter X.env y=pure y:=by intro _; rfl):PS X (.Assign [.Name y py] (.ListComp elt [⟨.Name x px,iter,ifs,0⟩] sc pos) spos) (λE σ H=>zg2 caps wi tc te σ H λv H1=>E.nx (σ.set i (some v)) H1):=by
 intro pins s σ H E I h
 rw[exec_Assign_Name_used (hs:=hsw)]
 refine wpAny_bind (wpAny_standAt ?_); refine wpAny_bind ?_; show wpAny _ _ (comprehension _ sc X.env _ (newList []) false (eval iter X.env) (some (assign (.Name y py) X.env)) >>= λ_=>pure ()) _ _ s
 refine wpAny_bind (thn (zpd (use:=some (assign (.Name y py) X.env)) (Qr:=λ_ s'=>SP X pins E .next s') hc cs (zjF hN).1 (zjF hN).2 hnd hi ht he hs I h λD C s' f=>?_) λ_ s' hq=>wpAny_pure (wpAny_pure hq))
 obtain⟨⟨H',I',q,hC⟩,⟨m,ns⟩,l,o,c,p⟩:=f
 refine wpAny_assign_Name (zpP (v:=.ref D) I' hNd hy (.inl hl) rfl (λs'' I'' ⟨a,sb,ha⟩=>⟨m,ns.sameBut sb ?_,λh' sb'=>⟨_,H',I''.turned (t':=s''.toks) (λb ob hb e=>(sb'.2 b hb).trans e) hC l (.inr o) c p,q⟩⟩) (.inr hl))
 rcases ha with rfl | ha
 ·exact l
 ·exact Ne.symm (c _ _ ha)
end
section
variable {X:Cx}{Z:Zx}{elt iter:Expr}{x:Str}{px pos:Pos}{ifs:List Expr}{sc ar:Scope}{N:List Str}{caps:List Nat}
theorem zuE {r:List Addr}{H:Hp}{dl:Ev}{σ:St}{d:D}{v:V}(h:Rs r H dl σ)(p:Rp r H d v):Rs r H (some d::zcD caps dl) (some v::zbC caps σ):=by
 refine⟨by simp[zcD,zbC],λi e hi=>?_⟩
 cases i with
 | zero=>simp at hi; subst hi; exact⟨v,rfl,p⟩
 | succ i=>
  simp only[List.getElem?_cons_succ,zcD,Val] at hi
  cases q:caps[i]? with
  | none=>rw[q] at hi; cases hi
  | some j=>
   rw[q] at hi
   simp only[Option.map_some,Option.some.injEq] at hi
   have hj:dl[j]?=some (some e):=by
    cases q2:dl[j]? with
    | none=>rw[q2] at hi; cases hi
    | some o=>rw[q2] at hi; simp at hi; rw[hi]
   obtain⟨w,h1,h2⟩:=h.2 j e hj
   refine⟨w,?_,h2⟩
   simp only[List.getElem?_cons_succ,zbC,Val,q,Option.map_some,h1,Option.join_some]
def zmJ (Y:Cx)(ifs:List Expr)(t:TDT):Prop:=PTs Y ifs (upT Y.K Z0 t)
def zcQ:TDT:=λ_ S Q=>Q true S
theorem zgk {Y:Cx}:zmJ Y [] zcQ:=λpins s σ H Qb I ⟨r,dl,S,Q,rs,rel,q,ret⟩=>zws pins s σ H Qb I (ret true H r S Ext.refl rel q)
def zdT (caps:List Nat)(tc:TDT)(te:TDE)(k:Nat)(dl:Ev)(d:D)(S:Sto)(nx:Sto→Prop):Prop:=
 tc (some d::zcD caps dl) S λb S1=>if b=true then te (some d::zcD caps dl) S1 λy S2=>match S2[k]? with
  | some (.lst ys)=>ys.length<1000∧nx (S2.set k (.lst (ys++[y])))
  | _=>False
 else nx S1
@[irreducible] def zdH (caps:List Nat)(tl:TDE)(tc:TDT)(te:TDE):TDE:=λdl S Q=>tl dl S λd S1=>match d with
 | .ref n=>(lAt S1 n).isSome=true∧∃W:Nat→Nat→Sto→Prop,(∃m,W 0 m (S1++[.lst []]))∧∀k m S2,W k m S2→match lAt S2 n with
  | some o=>match (zaz o)[k]? with
   | some y=>zdT caps tc te S1.length dl y S2 λS3=>∃m',m'<m∧W (k+1) m' S3
   | none=>Q (.ref S1.length) S2
  | none=>False
 | _=>False
@[irreducible] def zdi (caps:List Nat)(ta:TDA)(tc:TDT)(te:TDE):TDE:=λdl S Q=>ta dl S λds S1=>match ds with
 | [.int j]=>(-(2^62)≤j∧j<2^62)∧∃W:Nat→Sto→Prop,W 0 (S1++[.lst []])∧∀k S2,W k S2→
   if k<j.toNat then zdT caps tc te S1.length dl (.int k) S2 λS3=>W (k+1) S3 else Q (.ref S1.length) S2
 | _=>False
theorem zqN {tc:TDT}{te:TDE}{r2:List Addr}{H2:Hp}{S1 S2:Sto}{dl:Ev}{σ:St}{D0:Addr}{d:D}{v:V}{nx:Sto→Prop}{Nx:Hp→Prop}(rs:Rs r2 H2 dl σ)(ha:r2[S1.length]?=some D0)(rb:zaU X.K r2 S2 H2)(p:Rp r2 H2 d v)
  (h:zdT caps tc te S1.length dl d S2 nx)(hn:∀r' S' H',Ext r2 r' H2 H'→zaU X.K r' S' H'→nx S'→Nx H'):
  upT X.K Z0 tc (some v::zbC caps σ) H2 λb H3=>if b=true then up X.K Z0 te (some v::zbC caps σ) H3 λy H4=>∃ys,H4 D0=some (.lst ys)∧ys.length<sizeLine∧Nx (upd H4 D0 (.lst (ys++[y]))) else Nx H3:=by
 have rsY:Rs r2 H2 (some d::zcD caps dl) (some v::zbC caps σ):=zuE rs p
 refine⟨r2,_,S2,_,rsY,⟨rb,λ_ _ _ _ _ _ _ _ _ z=>z.elim⟩,h,λb H3 r3 S3 x3 rel3 q3=>?_⟩
 cases b with
 | false=>rw[if_neg Vao] at q3 ⊢; exact hn r3 S3 H3 x3 rel3.b q3
 | true=>
  rw[if_pos rfl] at q3 ⊢
  refine⟨r3,_,S3,_,rsY.ext x3,rel3,q3,λz H4 r4 dz S4 x4 rel4 p4 q4=>?_⟩
  split at q4
  ·rename_i ys eys
   obtain⟨hl,q4⟩:=q4
   have ha4:r4[S1.length]?=some D0:=x4.adr _ _ (x3.adr _ _ ha)
   obtain⟨zs,hD4,pz⟩:=rel4.b.ob _ _ _ ha4 eys
   obtain⟨rel5,x5⟩:=rel4.b.set ha4 eys (pz.snoc p4)
   exact⟨zs,hD4,by rw[← pz.1]; exact zns (VaY hl),hn r4 _ _ (x3.trans (x4.trans x5)) rel5 q4⟩
  ·exact q4.elim
theorem znO {r:List Addr}{D0:Addr}{n:Nat}(h:r.length=n):(r++[D0])[n]?=some D0:=by subst h; simp
theorem zth {tl:TDE}{tc:TDT}{te:TDE}{σ:St}{H:Hp}{Qv:VK}(h:up X.K Z (zdH caps tl tc te) σ H Qv):zg2 caps (zp8 X.K (up X.K Z tl)) (upT X.K Z0 tc) (up X.K Z0 te) σ H Qv:=by
 obtain⟨r,dl,S,Q,rs,rel,h,ret⟩:=h
 unfold zdH at h
 refine⟨r,dl,S,_,rs,rel,h,λv H1 r1 d S1 x1 rel1 p1 q1=>?_⟩
 cases p1 with
 | @ref n a hn=>
  obtain⟨hsome,W,⟨m0,w0⟩,turn⟩:=q1
  have sql:∀ {r':List Addr} {S':Sto} {H':Hp} {o:Ob},Ext r1 r' H1 H'→zaU X.K r' S' H'→lAt S' n=some o→∃xs,SqL X.K H' a xs∧Rps r' H' (zaz o) xs:=λ{r' S' H' o} x' rel' eo=>by
   obtain⟨eo,eL⟩:=zcg eo
   obtain⟨a',ha,ob⟩:=rel'.at eo
   rw[x'.adr n a hn] at ha; cases ha
   exact ob.list eL
  obtain⟨o1,eo1⟩:=Option.isSome_iff_exists.mp hsome
  obtain⟨xs1,sq1,_⟩:=sql Ext.refl rel1.b eo1
  refine⟨a,rfl,⟨xs1,sq1⟩,λD0 hD=>?_⟩
  obtain⟨rel2,x2⟩:=rel1.b.push (ds:=[]) (xs:=[]) hD Rps.nil
  refine⟨λk m H'=>∃r' S',Ext (r1++[D0]) r' (upd H1 D0 (.lst [])) H'∧zaU X.K r' S' H'∧W k m S',⟨m0,_,_,Ext.refl,rel2,w0⟩,?_⟩
  rintro k m H2 ⟨r2,S2,x3,rb2,w2⟩
  have ha2:r2[S1.length]?=some D0:=x3.adr _ _ (znO rel1.len)
  have q:=turn k m S2 w2
  split at q
  ·rename_i o eo
   obtain⟨xs,sq,pr⟩:=sql (x2.trans x3) rb2 eo
   split at q
   ·rename_i y ey
    obtain⟨v,hv,pv⟩:=pr.get ey
    refine .inr ⟨⟨xs,v,sq,hv⟩,λv' H' y'=>?_⟩
    obtain⟨eH,y'⟩:=y'
    subst eH
    have ev:v'=v:=by
     have z:=y' xs sq
     rw[hv] at z; exact(Option.some.inj z).symm
    subst ev
    have z:=zqN (Nx:=λH'=>∃m',m'<m∧∃r' S',Ext (r1++[D0]) r' (upd H1 D0 (.lst [])) H'∧zaU X.K r' S' H'∧W (k+1) m' S') (rs.ext (x1.trans (x2.trans x3))) ha2 rb2 pv q λr' S' H' x' rb' ⟨m',hm,w'⟩=>⟨m',hm,r',S',x3.trans x',rb',w'⟩
    exact z
   ·rename_i ey
    have hlen:(zaz o).length≤k:=VaK.mp ey
    exact .inl ⟨⟨xs,sq,by rw[← pr.1]; exact hlen⟩,ret _ H2 r2 _ S2 (x1.trans (x2.trans x3)) ⟨rb2,rel.xw.ext (x1.trans (x2.trans x3))⟩ (.ref ha2) q⟩
  ·exact q.elim
 | _=>exact(show False from q1).elim
theorem zqB {ta:TDA}{tc:TDT}{te:TDE}{σ:St}{H:Hp}{Qv:VK}(h:up X.K Z (zdi caps ta tc te) σ H Qv):zg2 caps (zpA (upA X.K Z ta)) (upT X.K Z0 tc) (up X.K Z0 te) σ H Qv:=by
 obtain⟨r,dl,S,Q,rs,rel,h,ret⟩:=h
 unfold zdi at h
 refine⟨r,dl,S,_,rs,rel,h,λvs H1 r1 ds S1 x1 rel1 p1 q1=>?_⟩
 split at q1
 ·rename_i j
  obtain⟨v,vs',rfl,p2,p3⟩:=p1.uncons
  have z:=p3.unnil
  subst z
  cases p2
  obtain⟨⟨b1,b2⟩,W,w0,turn⟩:=q1
  refine⟨j,rfl,b1,b2,λD0 hD=>?_⟩
  obtain⟨rel2,x2⟩:=rel1.b.push (ds:=[]) (xs:=[]) hD Rps.nil
  refine⟨λk m H'=>m=j.toNat-k∧∃r' S',Ext (r1++[D0]) r' (upd H1 D0 (.lst [])) H'∧zaU X.K r' S' H'∧W k S',⟨j.toNat,by simp,_,_,Ext.refl,rel2,w0⟩,?_⟩
  rintro k m H2 ⟨em,r2,S2,x3,rb2,w2⟩
  have ha2:r2[S1.length]?=some D0:=x3.adr _ _ (znO rel1.len)
  have q:=turn k S2 w2
  split at q
  ·rename_i hk
   refine .inr ⟨hk,λv' H' y'=>?_⟩
   obtain⟨eH,y'⟩:=y'
   subst eH
   subst y'
   have pk:Rp r2 H' (.int (k:Int)) (.int (0+(k:Int))):=by rw[Int.zero_add]; exact .int _
   have z:=zqN (Nx:=λH'=>∃m',m'<m∧m'=j.toNat-(k+1)∧∃r' S',Ext (r1++[D0]) r' (upd H1 D0 (.lst [])) H'∧zaU X.K r' S' H'∧W (k+1) S') (rs.ext (x1.trans (x2.trans x3))) ha2 rb2 pk q
    λr' S' H' x' rb' w'=>⟨j.toNat-(k+1),by omega,rfl,r',S',x3.trans x',rb',w'⟩
   exact z
  ·rename_i hk
   exact .inl ⟨by show j.toNat≤k; omega,ret _ H2 r2 _ S2 (x1.trans (x2.trans x3)) ⟨rb2,rel.xw.ext (x1.trans (x2.trans x3))⟩ (.ref ha2) q⟩
 ·exact q1.elim
theorem zvE {ta:TDA}{tc:TDT}{te:TDE}{a:Expr}{p pos2:Pos}(har:X.env.scope=ar)(hc:X.calm=true)(cs:zdq sc ar x N)(hN:caps.map (λi=>X.N[i]?)=N.map some)(hnd:(x::N).Nodup)(hg:Gl X "range")(hm:X.mg "range"=none)(ha:PDA X Z [a] ta)
  (ht:∀cl C s0 H0 fp pn,zmJ (Cx.comp X sc (x::N) cl C s0 H0 fp pn) ifs tc)(he:∀cl C s0 H0 fp pn,PD (Cx.comp X sc (x::N) cl C s0 H0 fp pn) Z0 elt te)
  (hs:∀y,foldedSetIterable (.Call (.Name "range" p) [a] [] pos2) X.env y=pure y:=by intro _; rfl)(hst:starEach [a] X.env=[(false,eval a X.env)]:=by rfl):
  PD X Z (.ListComp elt [⟨.Name x px,.Call (.Name "range" p) [a] [] pos2,ifs,0⟩] sc pos) (zdi caps ta tc te):=by
 subst har
 exact za4 (zxN hc cs hN hnd (tc:=upT X.K Z0 tc) (te:=up X.K Z0 te) (zm5 hg hm ha hst) ht he hs) λ_ _ _ h=>zqB h
theorem zoV {t:TE}{td:TDE}{i:Nat}{F:zc2}{σ:St}{H:Hp}(imp:∀Qv,up X.K Z td σ H Qv→t σ H Qv)(h:upS X.K Z (λE dl S=>td dl S λd S1=>E.nx (dl.set i (some d)) S1) F σ H):t σ H λv H1=>F.nx (σ.set i (some v)) H1:=by
 obtain⟨r,dl,S,E,rs,rel,h,ret⟩:=h
 exact imp _ ⟨r,dl,S,_,rs,rel,h,λv H1 r1 d S1 x rel1 p q=>ret.nx _ H1 r1 _ S1 x ((rs.ext x).set i p) rel1 q⟩
theorem znh {tl:TDE}{tc:TDT}{te:TDE}{i:Nat}{y:Str}{py spos:Pos}(har:X.env.scope=ar)(hc:X.calm=true)(cs:zdq sc ar x N)(hN:caps.map (λi=>X.N[i]?)=N.map some)(hnd:(x::N).Nodup)(hNd:X.N.Nodup)(hy:X.N[i]?=some y)(hlo:ar.names.lookup y=some .local)
  (hl:PD X Z iter tl)(ht:∀cl C s0 H0 fp pn,zmJ (Cx.comp X sc (x::N) cl C s0 H0 fp pn) ifs tc)(he:∀cl C s0 H0 fp pn,PD (Cx.comp X sc (x::N) cl C s0 H0 fp pn) Z0 elt te)
  (hsw:swapsWith (.ListComp elt [⟨.Name x px,iter,ifs,0⟩] sc pos) (some (.Name y py)) spos.line X.env=pure true:=by rfl)
  (hs:∀y,foldedSetIterable iter X.env y=pure y:=by intro _; rfl):PDS X Z (.Assign [.Name y py] (.ListComp elt [⟨.Name x px,iter,ifs,0⟩] sc pos) spos) (zkQ i (zdH caps tl tc te)):=by
 subst har
 exact zbG (zoS hc cs hN hnd (tc:=upT X.K Z0 tc) (te:=up X.K Z0 te) (zpY hl) ht he hNd hy hlo hsw hs) λF σ H h=>zoV (λ_ h=>zth h) h
theorem zva {ta:TDA}{tc:TDT}{te:TDE}{a:Expr}{p pos2:Pos}{i:Nat}{y:Str}{py spos:Pos}(har:X.env.scope=ar)(hc:X.calm=true)(cs:zdq sc ar x N)(hN:caps.map (λi=>X.N[i]?)=N.map some)(hnd:(x::N).Nodup)(hNd:X.N.Nodup)(hy:X.N[i]?=some y)
  (hlo:ar.names.lookup y=some .local)(hg:Gl X "range")(hm:X.mg "range"=none)(ha:PDA X Z [a] ta)
  (ht:∀cl C s0 H0 fp pn,zmJ (Cx.comp X sc (x::N) cl C s0 H0 fp pn) ifs tc)(he:∀cl C s0 H0 fp pn,PD (Cx.comp X sc (x::N) cl C s0 H0 fp pn) Z0 elt te)
  (hsw:swapsWith (.ListComp elt [⟨.Name x px,.Call (.Name "range" p) [a] [] pos2,ifs,0⟩] sc pos) (some (.Name y py)) spos.line X.env=pure true:=by rfl)
  (hs:∀y,foldedSetIterable (.Call (.Name "range" p) [a] [] pos2) X.env y=pure y:=by intro _; rfl)(hst:starEach [a] X.env=[(false,eval a X.env)]:=by rfl):
  PDS X Z (.Assign [.Name y py] (.ListComp elt [⟨.Name x px,.Call (.Name "range" p) [a] [] pos2,ifs,0⟩] sc pos) spos) (zkQ i (zdi caps ta tc te)):=by
 subst har
 exact zbG (zoS hc cs hN hnd (tc:=upT X.K Z0 tc) (te:=up X.K Z0 te) (zm5 hg hm ha hst) ht he hNd hy hlo hsw hs) λF σ H h=>zoV (λ_ h=>zqB h) h
@[irreducible] def zdx (to te:TDE):TDE:=λdl S Q=>to dl S λx S1=>match x with
 | .ref n=>match S1[n]? with
  | some (.lst _)=>te dl S1 λy S2=>match S2[n]? with
   | some (.lst xs)=>if xs.length<1000 then Q .non (S2.set n (.lst (xs++[y]))) else False
   | _=>False
  | _=>False
 | _=>False
theorem zc6 {o e:Expr}{to te:TDE}{apos cpos:Pos}(ho:PD X Z o to)(he:PD X Z e te)(hbase:attributeBase o "append" X.env (eval o X.env)=eval o X.env:=by rfl)
  (hfew:((backTo cpos (starEach [e] X.env)).all (λx=>!x.1)&&(backToKw cpos (keywordEach [] X.env)).all (λx=>x.1.isSome)
  &&decide (([e]:List Expr).length+([]:List Keyword).length+(if ([]:List Keyword).isEmpty then 0 else 1)<30))=true:=by rfl)
  (hline:(apos.endLine==cpos.line)=true:=by rfl)(hst:starEach [e] X.env=[(false,eval e X.env)]:=by rfl):
  PD X Z (.Call (.Attribute o "append" apos) [e] [] cpos) (zdx to te):=
 za4 (zpC PySem.F.plainAttrs_list PySem.F.slot_list_append PySem.F.type_list_append zo0 ho (zfc he zhX hst) hbase hfew hline hst rfl) λσ H Qv h=>by
  obtain⟨r,dl,S,Q,rs,rel,h,ret⟩:=h
  unfold zdx at h
  refine⟨r,dl,S,_,rs,rel,h,λv H1 r1 d S1 x1 rel1 p1 h1=>?_⟩
  cases p1 with
  | @ref n a hn=>
   dsimp only at h1
   split at h1
   ·rename_i xs0 e0
    obtain⟨a',ha,ob⟩:=rel1.at e0
    rw[hn] at ha; cases ha
    obtain⟨ys,hH,_⟩:=ob
    refine⟨.inl ⟨rfl,ys,SqL.of hH⟩,r1,dl,S1,_,rs.ext x1,rel1,h1,λv2 H2 r2 d2 S2 x2 rel2 p2 h2=>?_⟩
    split at h2
    ·rename_i xs1 e1
     obtain⟨hlt,h2⟩:=zjB h2
     have ha2:=x2.adr n a hn
     obtain⟨zs,hH2,pz⟩:=rel2.b.ob n a _ ha2 e1
     obtain⟨rel3,x3⟩:=rel2.set ha2 e1 (pz.snoc p2)
     exact⟨a,zs,v2,rfl,rfl,hH2,by rw[← pz.1]; exact zns (VaY hlt),ret .non _ r2 .non _ (x1.trans (x2.trans x3)) rel3 .non h2⟩
    ·exact h2.elim
   ·exact h1.elim
  | _=>exact(show False from h1).elim
def zjS:WC:=λds S Q=>match ds with
 | [.tup xs]=>Q (.ref S.length) (S++[.lst xs])
 | [.ref n]=>match lAt S n with
  | some o=>Q (.ref S.length) (S++[.lst (zaz o)])
  | none=>False
 | _=>False
theorem zeM:zbc X (.type "list") (upC X.K Z zjS):=znq zwA λxs H Qv ⟨r,S,ds,Q,rel,ps,q,ret⟩=>by
 unfold zjS at q
 split at q
 ·rename_i ys
  obtain⟨v,vs,rfl,p1,p2⟩:=ps.uncons
  have z:=p2.unnil
  subst z
  obtain⟨a,zs,rfl,h1,h2⟩:=p1.untup
  refine⟨a,zs,rfl,.inr (SqT.of h1),λl hl=>?_⟩
  obtain⟨rel2,x⟩:=rel.push hl h2
  exact ret _ _ _ (.ref S.length) _ x rel2 (zeH rel.len) q
 ·rename_i n
  obtain⟨v,vs,rfl,p1,p2⟩:=ps.uncons
  have z:=p2.unnil
  subst z
  split at q
  ·rename_i o eo
   obtain⟨eo,eL⟩:=zcg eo
   obtain⟨a,ha,ob⟩:=rel.at eo
   cases p1 with
   | ref h1=>
    rw[h1] at ha; cases ha
    obtain⟨ys,sq,pr⟩:=ob.list eL
    refine⟨_,ys,rfl,.inl sq,λl hl=>?_⟩
    obtain⟨rel2,x⟩:=rel.push hl pr
    exact ret _ _ _ (.ref S.length) _ x rel2 (zeH rel.len) q
  ·exact q.elim
 ·exact q.elim
@[irreducible] def irr (w:WC):WC:=w
@[irreducible] def zcN (w:W2):W2:=w
theorem zfE (w:WC):irr w=w:=by unfold irr; rfl
theorem zdL (w:W2):zcN w=w:=by unfold zcN; rfl
theorem zbo {f:Value}{w:WC}(h:zbc X f (upC X.K Z w)):zbc X f (upC X.K Z (irr w)):=by rw[zfE]; exact h
theorem zaO {a b:Expr}{ta tb:TDE}(ha:PD X Z a ta)(hb:PD X Z b tb)(hs:znC b):PD X Z (.Subscript a b pos) (dOp (zcN wIx) ta tb):=by rw[zdL]; exact zad ha hb hs
theorem zaE (S:Sto)(o:Ob):(S++[o])[S.length]?=some o:=by simp
theorem zqU {S:Sto}{o u:Ob}{n:Nat}(h:S[n]?=some o):(S++[u])[n]?=some o:=by
 rw[Vak (Vab.mp h).1]; exact h
theorem zh3 {tl te:TDE}{dl:Ev}{S S1:Sto}{Q:DK}{n:Nat}{o:Ob}(g:D→D)(htl:∀K:DK,K (.ref n) S1→tl dl S K)(h1:S1[n]?=some o)(hl:(zaz o).length≤1000)
  (ht:∀x∈zaz o,∀(S2:Sto) (K:DK),Pre S1 S2→K (g x) S2→te (some x::zcD caps dl) S2 K)(hq:Q (.ref S1.length) (S1++[.lst ((zaz o).map g)]))(hL:zb0 o=some o:=by rfl):zdH caps tl zcQ te dl S Q:=by
 unfold zdH
 refine htl _ ⟨by rw[zbd h1 hL]; rfl,λk m S2=>S2=S1++[.lst (((zaz o).take k).map g)]∧m+k=(zaz o).length,⟨(zaz o).length,by simp,by omega⟩,?_⟩
 rintro k m S2 ⟨rfl,hm⟩
 rw[zbd (zqU h1) hL]
 dsimp only
 split
 ·rename_i x hx
  have hk:k<(zaz o).length:=(Vab.mp hx).1
  unfold zdT zcQ
  simp only[if_true]
  refine ht x (Vau hx) _ _ Pre.refl.push ?_
  rw[zaE]
  refine⟨by simp; omega,m-1,by omega,?_,by omega⟩
  have e:(zaz o).take (k+1)=(zaz o).take k++[x]:=by rw[List.take_succ,hx]; rfl
  rw[e,VaE,List.set_append_right _ _ (Vaa _)]
  simp
 ·rename_i hx
  have hk:(zaz o).length≤k:=VaK.mp hx
  rw[List.take_of_length_le hk]
  exact hq
theorem zvB {o:Ob}{xs:List Int}(h:zdd (zaz o)=some xs):zb0 o=some o:=by
 cases o <;> first | rfl | cases h
theorem zdw {le:Int→Int→Prop}{two:Int→Int→Int}{n:Nat}{S:Sto}{o:Ob}{xs:List Int}{Q:DK}(h:S[n]?=some o)(hb:zdd (zaz o)=some xs)(hne:xs≠[])(hq:∀m,m∈xs→(∀y∈xs,le y m)→Q (.int m) S):irr (zdS le two) [.ref n] S Q:=by
 rw[zfE]
 unfold zdS
 simp only[zbd h (zvB hb),hb]
 exact⟨hne,hq⟩
theorem zd7 {n:Nat}{S:Sto}{o:Ob}{Q:DK}(h:lAt S n=some o)(hq:Q (.ref S.length) (S++[.lst (zaz o)])):irr zjS [.ref n] S Q:=by
 rw[zfE]
 unfold zjS
 simp only[h]
 exact hq
theorem zdj {to te:TDE}{dl:Ev}{S S1:Sto}{Q:DK}{n:Nat}{xs:List D}{y:D}(hto:∀K:DK,K (.ref n) S1→to dl S K)(h:S1[n]?=some (.lst xs))(hte:∀K:DK,K y S1→te dl S1 K)(hl:xs.length<1000)(hq:Q .non (S1.set n (.lst (xs++[y])))):zdx to te dl S Q:=by
 unfold zdx
 refine hto _ ?_
 simp only[h]
 refine hte _ ?_
 simp only[h]
 exact ifP hl hq
end
theorem zmA {n:Nat}{x y:Int}:Sco n (.tup [.int x,.int y]):=.tup λd hd=>by
 have z:d=.int x∨d=.int y:=by simpa using hd
 rcases z with rfl | rfl <;> exact .int _
open PySem PySem.Spec PyProof.Rows L2 PySem.W Builtin Builtin.ObjectAttr Builtin.Getset_descriptor
structure Nx (K:Frag)(D:Addr):Prop where
 ga:findIn K (.ref D) "__getattribute__"=some (some (.builtin "BaseException.__getattribute__"))
 hk:findIn K (.ref D) "__getattr__"=some none
 ha:findIn K (.ref D) "__class__"=some (some (.builtin "object.__class__"))
 hn:specialIn K (.builtin "object.__class__") "__get__"=some (some (.builtin "getset_descriptor.__get__"))
 ht:takesIn K (.builtin "object.__class__")=some true
 hm:mroIn K D (.type "object")=some true
 hb:mroIn K D (.type "BaseException")=some true
section
variable {X:Cx}{Z:Zx}
end
def eqN:Nat→D→D→Option Bool
 | 0=>eqF
 | k+1=>eqT (eqN k)
theorem zqR:∀k,ze9 (eqN k)
 | 0=>zez
 | k+1=>zo7 (zqR k)
theorem znk:∀k,zdt k (eqN k)
 | 0=>zix 0
 | k+1=>zpo (znk k) (zqR k)
section
variable {X:Cx}{Z:Zx}
def zbF (f:D→D→Option Bool):List D→D→Option Bool
 | [],_=>some false
 | y::ys,x=>match f y x,zbF f ys x with
  | some b,some c=>some (b||c)
  | _,_=>none
def wIn (k:Nat)(neg:Bool):W2:=λx y S Q=>match y with
 | .ref n=>match lAt S n with
  | some o=>match zbF (eqN k) (zaz o) x with
   | some b=>Q (.bl (if neg then !b else b)) S
   | none=>False
  | none=>False
 | _=>False
theorem zqY {v v':V}{u:Value}(h:zav v u)(h':zav v' u):v=v':=by
 cases v <;> cases v' <;> simp[L2.zav] at h h' <;> first
  | rfl
  | (subst h; simp at h'; subst h'; rfl)
  | (obtain⟨t,rfl⟩:=h; simp at h'; subst h'; rfl)
  | (obtain⟨t,rfl⟩:=h; simp at h')
  | (subst h; simp at h')
  | skip
theorem zgQ {r:List Addr}{H:Hp}{d d' x:D}{v:V}{b b':Bool}(p:Rp r H d v)(p':Rp r H d' v)(e:eqF d x=some b)(e':eqF d' x=some b'):b=b':=by
 have z:d=d':=by
  cases p <;> cases p' <;> first
   | rfl
   | (cases x <;> simp[eqF] at e)
   | (cases x <;> simp[eqF] at e')
 subst z
 rw[e] at e'
 exact Option.some.inj e'
theorem zqk {f:D→D→Option Bool}{r:List Addr}{H:Hp}(hf:∀(d d' x:D) (v:V) (b b':Bool),Rp r H d v→Rp r H d' v→f d x=some b→f d' x=some b'→b=b'):
  ∀ {ds ds' zs:List D} {vs:List V} {b b':Bool},Rps r H ds vs→Rps r H ds' vs→eqL f ds zs=some b→eqL f ds' zs=some b'→b=b'
 | [],ds',zs,vs,b,b',p,p',e,e'=>by
  have z:=p.unnil
  subst z
  cases ds' with
  | nil=>rw[e] at e'; exact Option.some.inj e'
  | cons y ys=>exact absurd p'.1 (by simp)
 | d::ds,ds',zs,vs,b,b',p,p',e,e'=>by
  obtain⟨v,vs',rfl,p1,p2⟩:=p.uncons
  cases ds' with
  | nil=>exact absurd p'.1 (by simp)
  | cons d' ds'=>
   obtain⟨q1,q2⟩:=p'.tail
   cases zs with
   | nil=>
    simp only[eqL,Option.some.injEq] at e e'
    exact e.symm.trans e'
   | cons z zs=>
    unfold eqL at e e'
    split at e
    ·rename_i b1 c1 a1 a2
     split at e'
     ·rename_i b2 c2 a3 a4
      have h1:=hf d d' z v b1 b2 p1 q1 a1 a3
      have h2:=zqk hf p2 q2 a2 a4
      subst h1 h2
      simp only[Option.some.injEq] at e e'
      exact e.symm.trans e'
     ·cases e'
    ·cases e
theorem zod:∀(k:Nat) {r:List Addr} {H:Hp} (d d' x:D) (v:V) (b b':Bool),Rp r H d v→Rp r H d' v→eqN k d x=some b→eqN k d' x=some b'→b=b'
 | 0,r,H,d,d',x,v,b,b',p,p',e,e'=>zgQ p p' e e'
 | k+1,r,H,d,d',x,v,b,b',p,p',e,e'=>by
  cases p with
  | tup h1 l1 f1=>
   cases p' with
   | tup h2 l2 f2=>
    rw[h1] at h2; cases h2
    cases x with
    | tup zs=>exact zqk (λd d' x v b b'=>zod k d d' x v b b') ⟨l1,f1⟩ ⟨l2,f2⟩ e e'
    | _=>simp[eqN,eqT,eqF] at e
   | ref h=>cases x <;> simp[eqN,eqT,eqF] at e'
   | exc h=>cases x <;> simp[eqN,eqT,eqF] at e'
  | non=>exact zgQ (x:=x) .non p' (by cases x <;> exact e) (by cases p' <;> cases x <;> exact e')
  | bl i=>exact zgQ (x:=x) (.bl i) p' (by cases x <;> exact e) (by cases p' <;> cases x <;> exact e')
  | int i=>exact zgQ (x:=x) (.int i) p' (by cases x <;> exact e) (by cases p' <;> cases x <;> exact e')
  | str i=>exact zgQ (x:=x) (.str i) p' (by cases x <;> exact e) (by cases p' <;> cases x <;> exact e')
  | ref h=>cases x <;> simp[eqN,eqT,eqF] at e
  | exc h=>cases x <;> simp[eqN,eqT,eqF] at e
theorem zqE {f:D→D→Option Bool}{x:D}:∀ {ys:List D} {b:Bool},zbF f ys x=some b→(∀y∈ys,∃c,f y x=some c)∧(b=true↔∃y∈ys,f y x=some true)
 | [],b,e=>by
  simp only[zbF,Option.some.injEq] at e
  subst e
  simp
 | y::ys,b,e=>by
  unfold zbF at e
  split at e
  ·rename_i b1 c1 e1 e2
   obtain⟨h1,h2⟩:=zqE e2
   simp only[Option.some.injEq] at e
   subst e
   refine⟨λz hz=>?_,?_⟩
   ·rcases Vam.mp hz with rfl | hz'
    ·exact⟨b1,e1⟩
    ·exact h1 z hz'
   ·rw[Bool.or_eq_true,h2]
    refine⟨λq=>?_,λ⟨z,hz,q⟩=>?_⟩
    ·rcases q with q | ⟨z,hz,q⟩
     ·exact⟨y,VaZ,by rw[e1,q]⟩
     ·exact⟨z,VaF _ hz,q⟩
    ·rcases Vam.mp hz with rfl | hz'
     ·left
      rw[e1] at q
      exact Option.some.inj q
     ·exact .inr ⟨z,hz',q⟩
  ·cases e
theorem zwU {k:Nat}{pins:List (Addr×Obj)}{σ:St}{H:Hp}{s:Shared}{r:List Addr}{A:Around}{ds:List D}{vs:List V}{us:List Value}{dx:D}{x:V}{u:Value}{b:Bool}(I:Inv X pins σ H s)(hu:A.units+k<cLine)
  (p:Rps r H ds vs)(rv:zay vs us)(px:Rp r H dx x)(rx:zav x u)(e:zbF (eqN k) ds dx=some b):∃g:Value→Bool,(∀y,y∈us.toArray→SeqAt.EqAt A s y u (g y))∧us.toArray.any g=b:=by
 obtain⟨h1,h2⟩:=zqE e
 have at_:∀y∈us,∃d v,d∈ds∧Rp r H d v∧zav v y:=λy hy=>by
  obtain⟨j,hj,ej⟩:=VaI.mp hy
  have hv:j<vs.length:=by rw[rv.length]; exact hj
  have gv:vs[j]?=some vs[j]:=by simp[hv]
  obtain⟨w,gw,rw'⟩:=rv.get gv
  obtain⟨d,gd,pd⟩:=p.get' gv
  have ew:w=y:=by
   rw[Vaf hj,ej] at gw
   exact(Option.some.inj gw).symm
  subst ew
  exact⟨d,_,Vau gd,pd,rw'⟩
 classical
 refine⟨λy=>decide (∃d v,d∈ds∧Rp r H d v∧zav v y∧eqN k d dx=some true),λy hy=>?_,?_⟩
 ·obtain⟨d,v,hd,pd,rd⟩:=at_ y (by simpa using hy)
  obtain⟨c,hc⟩:=h1 d hd
  have same:decide (∃d v,d∈ds∧Rp r H d v∧zav v y∧eqN k d dx=some true)=c:=by
   cases c with
   | true=>exact decide_eq_true ⟨d,v,hd,pd,rd,hc⟩
   | false=>
    refine decide_eq_false λ⟨d',v',_,pd',rd',hc'⟩=>?_
    have ev:=zqY rd rd'
    subst ev
    exact absurd (zod k d d' dx v false true pd pd' hc hc') (by decide)
  show SeqAt.EqAt A s y u (decide _)
  rw[same]
  exact znk k X pins σ H s r A d dx v x y u c I hu pd px rd rx hc
 ·rw[Bool.eq_iff_iff,h2,List.any_toArray,List.any_eq_true]
  refine⟨λ⟨y,hy,q⟩=>?_,λ⟨d,hd,q⟩=>?_⟩
  ·obtain⟨d,v,hd,_,_,q'⟩:=of_decide_eq_true q
   exact⟨d,hd,q'⟩
  ·obtain⟨j,hj,ej⟩:=VaI.mp hd
   have gd:ds[j]?=some d:=by simp[hj,ej]
   obtain⟨v,gv,pv⟩:=p.get gd
   obtain⟨w,gw,rw'⟩:=rv.get gv
   exact⟨w,Vau gw,decide_eq_true ⟨d,v,hd,pv,rw',q⟩⟩
theorem zxF (k:Nat)(hu:X.A.units+1+k<cLine):OpR X (compareOp .NotIn) (upO X.K Z (wIn k true)):=by
 intro pins s σ H x y v u Qv I rx ry h
 obtain⟨r,S,dx,dy,Q,rel,px,py,q,ret⟩:=h
 cases py with
 | @ref n a hn=>
  unfold wIn at q
  dsimp only at q
  split at q
  ·rename_i o eo
   split at q
   ·rename_i b eb
    cases ry
    obtain⟨eo,eL⟩:=zcg eo
    obtain⟨a',ha,ob⟩:=rel.at eo
    rw[hn] at ha; cases ha
    obtain⟨ys,sq,pr⟩:=ob.list eL
    obtain⟨us,ru,pl,_⟩:=I.list sq
    obtain⟨g,g1,g2⟩:=zwU (A:=X.A.in1) I (by show X.A.units+1+k<_; omega) pr ru px rx eb
    refine SeqAt.notIn_listAt g pl.isList g1 ?_
    rw[g2]
    exact⟨.bl (!b),H,I,rfl,ret _ _ _ _ _ Ext.refl rel (.bl (!b)) q⟩
   ·exact q.elim
  ·exact q.elim
 | _=>exact(show False from q).elim
end
section
variable {X:Cx}{Z:Zx}{pos:Pos}
def dForT (i:Nat)(tl:TDE)(tb:TDS):TDS:=λE dl S=>tl dl S λd S1=>match d with
 | .tup xs=>∃W:Nat→Ev→Sto→Prop,W 0 dl S1∧∀k dl S,W k dl S→match xs[k]? with
  | some x=>tb { nx:=λdl' S'=>W (k+1) dl' S',rt:=E.rt,bk:=E.nx,ct:=λdl' S'=>W (k+1) dl' S' } (dl.set i (some x)) S
  | none=>E.nx dl S
 | _=>False
theorem zv1 {i:Nat}{x:Str}{pos':Pos}{iter:Expr}{body:List Stmt}{tl:TDE}{tb:TDS}(hp:PassesOwn (model X.prog X.w) X.A X.env X.xe)(hc:X.calm=true)(hN:X.N.Nodup)(hi:X.N[i]?=some x)(hx:Loc X.env.scope x)
  (hl:PD X Z iter tl)(hb:zbW X Z body tb)(hf:X.fn x=true∨X.env.scope.names.lookup x=some .local:=by first | exact .inl rfl | exact .inr rfl | assumption)
  (hs:∀y,foldedSetIterable iter X.env y=pure y:=by intro _; rfl):PDS X Z (.For (.Name x pos') iter body [] pos) (dForT i tl tb):=
 zbG (zha hp hc (zsG hl) (zeV hN hi hx hf) hb hs) λF σ H ⟨r,dl,S,E,rs,rel,h,ret⟩=>by
  refine⟨r,dl,S,_,rs,rel,h,λv H1 r1 d S1 x1 rel1 p1 q1=>?_⟩
  cases p1 with
  | @tup ds xs a e1 l1 f1=>
   obtain⟨W,w0,turn⟩:=q1
   have sq:∀ {r':List Addr} {H':Hp},Ext r1 r' H1 H'→SqT X.K H' a xs:=λ{r' H'} x'=>SqT.of (x'.tup _ _ e1)
   refine⟨a,rfl,⟨xs,sq Ext.refl⟩,λk m σ' H'=>m+k=xs.length∧∃r' dl' S',Ext r1 r' H1 H'∧Rs r' H' dl' σ'∧Rel X.K Z r' S' H'∧W k dl' S',⟨xs.length,by omega,r1,dl,S1,Ext.refl,rs.ext x1,rel1,w0⟩,?_⟩
   rintro k m σ2 H2 ⟨em,r2,dl2,S2,x2,rs2,rel2,w2⟩
   have q:=turn k dl2 S2 w2
   split at q
   ·rename_i y ey
    have hk:k<ds.length:=(Vab.mp ey).1
    have hkx:k<xs.length:=by rw[← l1]; exact hk
    have pv:Rp r2 H2 y xs[k]:=(f1 k y xs[k] ey (by simp[hkx])).ext x2
    have go:∀σ' H' r' dl' S',Ext r2 r' H2 H'→Rs r' H' dl' σ'→Rel X.K Z r' S' H'→W (k+1) dl' S'→∃r' dl' S',Ext r1 r' H1 H'∧Rs r' H' dl' σ'∧Rel X.K Z r' S' H'∧W (k+1) dl' S':=
     λσ' H' r' dl' S' x rs' rel' w'=>⟨r',dl',S',x2.trans x,rs',rel',w'⟩
    refine .inr ⟨⟨xs,xs[k],sq x2,by simp[hkx]⟩,λσ' H'=>∃r' dl' S',Ext r1 r' H1 H'∧Rs r' H' dl' σ'∧Rel X.K Z r' S' H'∧W (k+1) dl' S',λσ' H' z=>⟨m-1,by omega,by omega,z⟩,λv' H' y'=>?_⟩
    obtain⟨eH,y'⟩:=y'
    subst eH
    have ev:v'=xs[k]:=by
     have z:=y' xs (sq x2)
     rw[Vaf hkx] at z; exact(Option.some.inj z).symm
    subst ev
    exact⟨r2,_,S2,_,rs2.set i pv,rel2,q,go,λσ' H' r' dl' S' x rs' rel' z=>ret.nx σ' H' r' dl' S' (x1.trans (x2.trans x)) rs' rel' z,go,ret.rt.ext (x1.trans x2)⟩
   ·rename_i ey
    have hlen:ds.length≤k:=VaK.mp ey
    exact .inl ⟨⟨xs,sq x2,by rw[← l1]; exact hlen⟩,ret.nx σ2 H2 r2 dl2 S2 (x1.trans x2) rs2 rel2 q⟩
  | _=>exact(show False from q1).elim
def zgo:List Nat→List D→Ev→Ev
 | i::is,d::ds,dl=>zgo is ds (dl.set i (some d))
 | _,_,dl=>dl
def zjE:List Nat→List V→St→St
 | i::is,v::vs,σ=>zjE is vs (σ.set i (some v))
 | _,_,σ=>σ
theorem zpT {r:List Addr}{H:Hp}:∀ {is:List Nat} {ds:List D} {vs:List V} {dl:Ev} {σ:St},Rs r H dl σ→Rps r H ds vs→Rs r H (zgo is ds dl) (zjE is vs σ)
 | [],ds,vs,dl,σ,h,p=>by cases ds <;> cases vs <;> exact h
 | i::is,[],vs,dl,σ,h,p=>by
  have z:=p.unnil
  subst z
  exact h
 | i::is,d::ds,vs,dl,σ,h,p=>by
  obtain⟨v,vs',rfl,p1,p2⟩:=p.uncons
  show Rs r H (zgo is ds (dl.set i (some d))) (zjE is vs' (σ.set i (some v)))
  exact zpT (Rs.set i h p1) p2
inductive Nms (X:Cx):List Expr→List Nat→Prop
 | nil:Nms X [] []
 | cons {x:Str} {p:Pos} {i:Nat} {es:List Expr} {is:List Nat}:X.N[i]?=some x→Loc X.env.scope x→(X.fn x=true∨X.env.scope.names.lookup x=some .local)→Nms X es is→Nms X (.Name x p::es) (i::is)
def gAll (is:List Nat):TGs:=λvs σ H Q=>vs.length=is.length∧Q (zjE is vs σ) H
theorem zpL (hN:X.N.Nodup):∀ {es:List Expr} {is:List Nat},Nms X es is→PGs X es (gAll is)
 | _,_,.nil=>λpins s σ H vs us Q I r h=>by
  obtain⟨e,h⟩:=h
  have z:vs=[]:=by simpa using e
  subst z
  exact zrP pins s σ H [] us Q I r ⟨rfl,h⟩
 | _,_,.cons (x:=x) (p:=p) (es:=es) (is:=is) h1 h2 h3 t=>λpins s σ H vs us Q I r h=>by
  obtain⟨e,h⟩:=h
  cases vs with
  | nil=>simp at e
  | cons v vs=>exact ztb (zeV hN h1 h2 h3) (zpL hN t) rfl pins s σ H (v::vs) us Q I r ⟨v,vs,rfl,by simpa using e,h⟩
end
open PySem L2
theorem zt0 (S:Sto)(o u:Ob):(S++[o]).set S.length u=S++[u]:=by simp
section
variable {X:Cx}{Z:Zx}
abbrev wShl:W2:=wI zmh λi j=>.int (i*2^j.toNat)
theorem zsU:OpR X (binaryOp .LShift) (upO X.K Z wShl):=opD zrC λ_ _ _ _=>.int _
def dBits (to:TDE):TDE:=λdl S Q=>to dl S λd S1=>match d with
 | .int i=>Q (.int (Builtin.Int.intBits i)) S1
 | _=>False
theorem zvM:MtR X "int.bit_length" (λx xs H Q=>∃i,x=.int i∧xs=[]∧Q (.int (Builtin.Int.intBits i)) H):=by
 intro pins s σ H x xs v us Q I rx rv h
 obtain⟨i,rfl,rfl,q⟩:=h
 obtain⟨t,rfl⟩:=rx
 cases rv
 exact call_int_bit_length ⟨.int _,H,I.tok _,⟨_,rfl⟩,q⟩
theorem ztm {o:Expr}{to:TDE}{apos cpos:Pos}(ho:PD X Z o to)(hbase:attributeBase o "bit_length" X.env (eval o X.env)=eval o X.env:=by rfl)(hline:(apos.endLine==cpos.line)=true:=by rfl):
  PD X Z (.Call (.Attribute o "bit_length" apos) [] [] cpos) (dBits to):=
 za4 (zu6 (T:="int") ⟨⟨_,ga_int,canon_ga_int⟩,no_getattr_int⟩ slot_int_bit_length type_int_bit_length zvM ho hbase hline) λσ H Qv ⟨r,dl,S,Q,rs,rel,h,ret⟩=>⟨r,dl,S,_,rs,rel,h,λv H1 r1 d S1 e1 rel1 p1 q1=>by
  cases p1 with
  | int i=>exact⟨rfl,i,rfl,rfl,ret _ H1 r1 (.int _) S1 e1 rel1 (.int _) q1⟩
  | _=>exact(show False from q1).elim⟩
end
def zo8:Sd:=λ_ _ _ _=>False
def Df.never {P:Program}{w:World}{K:PySem.W.Frag}{mg:Str→Option Value}{base:Heap}{x:Str}{st:Stmt}{ps:List Str}(k:Nat)(d:Df K mg x st ps):Fk P w K mg base k x ps zo8:=
 ⟨d.f,d.fd,⟨λ_ _ _ _ ⟨_,_,_,_,_,_,_,z,_⟩=>z.elim,λ_ _ _ _ _ _ _ _ _ _ _ _ _ ⟨_,_,_,_,_,_,_,z,_⟩=>z.elim⟩,d.m,d.F.kp,d.b⟩
section
variable {X:Cx}{Z:Zx}{pos:Pos}
end
section
variable {X:Cx}{Z:Zx}{elt iter:Expr}{x:Str}{px pos:Pos}{ifs:List Expr}{sc ar:Scope}{N:List Str}{caps:List Nat}
theorem ztu {ta:TDA}{te:TDE}{dl:Ev}{S S1:Sto}{Q:DK}{j:Int}(g:Nat→D)(hta:∀K:List D→Sto→Prop,K [.int j] S1→ta dl S K)(hj:0≤j∧j≤1000)
  (ht:∀k:Nat,k<j.toNat→∀(S2:Sto) (K:DK),Pre S1 S2→K (g k) S2→te (some (.int k)::zcD caps dl) S2 K)(hq:Q (.ref S1.length) (S1++[.lst ((List.range j.toNat).map g)])):zdi caps ta zcQ te dl S Q:=by
 unfold zdi
 refine hta _ ⟨⟨by omega,by omega⟩,λk S2=>S2=S1++[.lst ((List.range k).map g)]∧k≤j.toNat,⟨by simp,by omega⟩,?_⟩
 rintro k S2 ⟨rfl,hk⟩
 split
 ·rename_i hk'
  unfold zdT zcQ
  simp only[if_true]
  refine ht k hk' _ _ Pre.refl.push ?_
  rw[zaE]
  refine⟨by simp; omega,?_,by omega⟩
  rw[List.range_succ,VaE,List.set_append_right _ _ (Vaa _)]
  simp
 ·have e:k=j.toNat:=by omega
  subst e
  exact hq
end
section
variable {X:Cx}{Z:Zx}{pos:Pos}
def zbD (zs:List Str):Str:=⟨(zs.flatMap λz=>z.cps.toList).toArray⟩
abbrev TDO:=Ev→Sto→(Option Int→Sto→Prop)→Prop
def upP (K:PySem.W.Frag)(Z:Zx)(t:TDO):TO:=λσ H Q=>∃(r:List Addr) (dl:Ev) (S:Sto) (Q':Option Int→Sto→Prop),Rs r H dl σ∧Rel K Z r S H∧t dl S Q'∧∀o H' r' S',Ext r r' H H'→Rel K Z r' S' H'→Q' o S'→Q o H'
def PDO (X:Cx)(Z:Zx)(e:Option Expr)(t:TDO):Prop:=PO X e (upP X.K Z t)
def zrX:TDO:=λ_ S Q=>Q none S
def dPart (t:TDE):TDO:=λdl S Q=>t dl S λd S1=>match d with
 | .int i=>Q (some i) S1
 | _=>False
theorem zpr {e:Option Expr}{t t':TO}(h:PO X e t)(g:∀σ H Q,t' σ H Q→t σ H Q):PO X e t':=λpins s σ H Q I q=>h pins s σ H Q I (g σ H Q q)
theorem zeE:PDO X Z none zrX:=zpr zsV λσ H Q ⟨r,dl,S,Q',rs,rel,h,ret⟩=>ret none H r S Ext.refl rel h
theorem zcy {e:Expr}{t:TDE}(he:PD X Z e t):PDO X Z (some e) (dPart t):=zpr (zxZ he) λσ H Q ⟨r,dl,S,Q',rs,rel,h,ret⟩=>⟨r,dl,S,_,rs,rel,h,λv H1 r1 d S1 e1 rel1 p1 q1=>by
 cases p1 with
 | int i=>exact⟨i,rfl,ret (some i) H1 r1 S1 e1 rel1 q1⟩
 | _=>exact(show False from q1).elim⟩
end
section
variable {X:Cx}{Z:Zx}
end
section
variable {X:Cx}{Z:Zx}
end
theorem zaF {n:Nat}{S:Sto}{o:Ob}{Q:DK}{i:Int}{d:D}(ho:S[n]?=some o)(hd:atI (zaz o) i=some d)(hq:Q d S)(hL:zb0 o=some o:=by rfl):zcN wIx (.ref n) (.int i) S Q:=by
 rw[zdL]
 unfold wIx
 simp only[zbd ho hL,hd]
 exact hq
def zfa (f:Str)(v:D):List (Str×D)→List (Str×D)
 | []=>[(f,v)]
 | p::r=>if p.1=f then (f,v)::r else p::zfa f v r
theorem FR.lookup {r:List Addr}{H:Hp}{f:Str}:∀ {fs:List (Str×D)} {fs':List (Str×V)},FR r H fs fs'→(∀d,fs.lookup f=some d→∃v,fs'.lookup f=some v∧Rp r H d v)∧(fs.lookup f=none→fs'.lookup f=none)
 | [],fs',h=>by
  have e:fs'=[]:=by
   have:=h.1
   simpa using this.symm
  subst e
  exact⟨λd z=>by simp at z,λ_=>rfl⟩
 | p::fs,[],h=>by
  have:=h.1
  simp at this
 | p::fs,q::fs',h=>by
  obtain⟨h1,h2⟩:=h
  simp only[Vat,List.cons.injEq] at h1
  obtain⟨p1,p2⟩:=h2.tail
  obtain⟨i1,i2⟩:=FR.lookup (f:=f) (fs:=fs) (fs':=fs') ⟨h1.2,p2⟩
  obtain⟨pk,pv⟩:=p
  obtain⟨qk,qv⟩:=q
  have ek:pk=qk:=h1.1
  subst ek
  by_cases z:f=pk
  ·subst z
   simp only[List.lookup_cons_self]
   exact⟨λd hd=>⟨qv,rfl,by cases hd; exact p1⟩,λhd=>by cases hd⟩
  ·have zb:(f==pk)=false:=by simpa using z
   simp only[Vav,zb]
   exact⟨i1,i2⟩
theorem FR.put {r:List Addr}{H:Hp}{f:Str}{d:D}{v:V}(q:Rp r H d v):∀ {fs:List (Str×D)} {fs':List (Str×V)},FR r H fs fs'→FR r H (zfa f d fs) (zbp f v fs')
 | [],fs',h=>by
  have e:fs'=[]:=by
   have:=h.1
   simpa using this.symm
  subst e
  exact⟨rfl,Rps.cons q Rps.nil⟩
 | p::fs,[],h=>by
  have:=h.1
  simp at this
 | p::fs,p'::fs',h=>by
  obtain⟨h1,h2⟩:=h
  simp only[Vat,List.cons.injEq] at h1
  obtain⟨p1,p2⟩:=h2.tail
  have ih:=FR.put (f:=f) q (fs:=fs) (fs':=fs') ⟨h1.2,p2⟩
  obtain⟨pk,pv⟩:=p
  obtain⟨qk,qv⟩:=p'
  have ek:pk=qk:=h1.1
  subst ek
  unfold zfa zbp
  by_cases z:pk=f
  ·rw[if_pos z,if_pos z]
   exact⟨by simp[h1.2,z],Rps.cons q p2⟩
  ·rw[if_neg z,if_neg z]
   exact⟨by simp[ih.1],Rps.cons p1 ih.2⟩
section
variable {X:Cx}{Z:Zx}{pos:Pos}
def zcG (C:Addr)(S:Sto):D→Option (Nat×List (Str×D))
 | .ref n=>match S[n]? with
  | some (.ins C' fs)=>if C'=C then some (n,fs) else none
  | _=>none
 | _=>none
theorem zn3 {C:Addr}{S:Sto}{d:D}{n:Nat}{fs:List (Str×D)}(h:zcG C S d=some (n,fs)):d=.ref n∧S[n]?=some (.ins C fs):=by
 unfold zcG at h
 split at h
 ·split at h
  ·rename_i m _ C' fs' e
   split at h
   ·rename_i ec
    subst ec
    simp only[Option.some.injEq,Prod.mk.injEq] at h
    obtain⟨rfl,rfl⟩:=h
    exact⟨rfl,e⟩
   ·cases h
  ·cases h
 ·cases h
@[irreducible] def zmn (C:Addr)(f:Str)(to:TDE):TDE:=λdl S Q=>to dl S λd S1=>match zcG C S1 d with
 | some (_,fs)=>match fs.lookup f with
  | some v=>Q v S1
  | none=>False
 | none=>False
theorem zaQ {C:Addr}{f:Str}{o:Expr}{to:TDE}(c:Cls X.K C)(n:zbl X.K C f)(ho:PD X Z o to)(hb:attributeBase o f X.env (eval o X.env)=eval o X.env:=by rfl):PD X Z (.Attribute o f pos) (zmn C f to):=
 za4 (ztq ho hb) λσ H Qv ⟨r,dl,S,Q,rs,rel,h,ret⟩=>by unfold zmn at h; exact⟨r,dl,S,_,rs,rel,h,λv H1 r1 d S1 e1 rel1 p1 q1=>by
  split at q1
  ·rename_i m fs ei
   obtain⟨rfl,eS⟩:=zn3 ei
   split at q1
   ·rename_i w ew
    obtain⟨a,ha,ob⟩:=rel1.at eS
    obtain⟨dx,fs',eH,fr⟩:=ob
    cases p1 with
    | ref hr=>
     rw[hr] at ha; cases ha
     obtain⟨u,hu,pu⟩:=fr.lookup.1 w ew
     exact⟨a,C,dx,fs',u,rfl,eH,c,n,hu,ret u H1 r1 w S1 e1 rel1 pu q1⟩
   ·exact q1.elim
  ·exact q1.elim⟩
@[irreducible] def zmc (C:Addr)(f:Str)(to te:TDE):TDS:=λE dl S=>te dl S λv S1=>to dl S1 λd S2=>match zcG C S2 d with
 | some (n,fs)=>fs.length<1000∧E.nx dl (S2.set n (.ins C (zfa f v fs)))
 | none=>False
theorem zcm {C:Addr}{f:Str}{o e:Expr}{to te:TDE}{p2:Pos}(c:Cls X.K C)(n:zbl X.K C f)(ho:PD X Z o to)(he:PD X Z e te)
  (hs:swapsWith e (some (.Attribute o f p2)) pos.line X.env=pure false:=by rfl):PDS X Z (.Assign [.Attribute o f p2] e pos) (zmc C f to te):=
 zbG (zt5 ho he hs) λF σ H ⟨r,dl,S,E,rs,rel,h,ret⟩=>by unfold zmc at h; exact⟨r,dl,S,_,rs,rel,h,λv H1 r1 dv S1 e1 rel1 p1 q1=>⟨r1,dl,S1,_,rs.ext e1,rel1,q1,λw H2 r2 d S2 e2 rel2 p2' q2=>by
  split at q2
  ·rename_i m fs ei
   obtain⟨rfl,eS⟩:=zn3 ei
   obtain⟨hl,q2⟩:=q2
   obtain⟨a,ha,ob⟩:=rel2.at eS
   obtain⟨dx,fs',eH,fr⟩:=id ob
   cases p2' with
   | ref hr=>
    rw[hr] at ha; cases ha
    have hlen:fs'.length=fs.length:=by
     have:=congrArg List.length fr.1
     simpa using this.symm
    obtain⟨rb,x⟩:=rel2.b.setO (o':=.ins C (zfa f dv fs)) (u:=.ins C dx (zbp f v fs')) hr eS rfl rfl λx=>⟨dx,_,zcz,(fr.put (p1.ext e2)).ext x⟩
    exact⟨a,C,dx,fs',rfl,eH,c,n,by omega,ret.nx _ _ r2 _ _ (e1.trans (e2.trans x)) (rs.ext (e1.trans (e2.trans x))) ⟨rb,rel2.xw.ext x⟩ q2⟩
  ·exact q2.elim⟩⟩
@[irreducible] def zh6 (C:Addr)(m:Str)(ex:Ev→Addr→Sto→Prop)(sd:Sd)(to:TDE)(t:TDA):TDE:=λdl S Q=>to dl S λd S1=>match zcG C S1 d with
 | some (_,fs)=>fs.lookup m=none∧t dl S1 λds S2=>sd (d::ds) S2 Q (ex dl)
 | none=>False
theorem zwr {C:Addr}{m:Str}{f:Addr}{fd:FuncData}{k:Nat}{ps:List Str}{sp:Sp}{W:St→XK}{o e:Expr}{es:List Expr}{ta:TE}{t:TA}{apos:Pos}{pl:Sem Bool}(he:PE X o ta)(c:Cls X.K C)(hm:zeU X.K C m f)
  (F:za1 X.prog X.w X.K X.mg X.base (CXE X.prog X.w) k f fd ps sp)(hr:zaN k X.A)(hb:zbs X.K fd ps [])(hx:zcK X W)(ha:PA X (e::es) t)(hst:starEach (e::es) X.env=(false,eval e X.env)::starEach es X.env)(hpl:(backTo pos (starEach es X.env)).any (·.1)=false)
  (ht:eval (.Call (.Attribute o m apos) (e::es) [] pos) X.env=(do
   let ov ← eval o X.env
   standAt apos.atName
   let (f,first) ← holding [ov] (getMethod ov m pl)
   callWith pos f first (backTo pos (starEach (e::es) X.env)) (backToKw pos (keywordEach [] X.env)))):
  PE X (.Call (.Attribute o m apos) (e::es) [] pos) (λσ H Q=>ta σ H λx H1=>∃a dx fs,x=.ref a∧H1 a=some (.ins C dx fs)∧fs.lookup m=none∧t σ H1 λvs H2=>sp (x::vs) H2 Q (W σ)):=by
 intro pins s σ H Q I h
 refine PySem.W.methodCall_KW (pl:=pl) (thn (he pins s σ H _ I h) λu s1 ⟨x,H1,I1,rx,a,dx,fs,ex,ea,l,q⟩=>?_) ht
 subst ex
 obtain rfl:u=Value.ref a:=rx
 refine zqg I1 ea c hm l ?_
 exact PySem.W.callWith_K (first:=[.ref a]) (h₀:=X.base) I.ok.mod.kin hm.kp (thn (ha pos pins s1 σ H1 _ I1 q) λus s2 ⟨vs,H2,I2,r,q2⟩=>⟨I2.kIn,zm7 (us:=.ref a::us) (vs:=.ref a::vs) F hr hb hx I2 (.cons rfl r) q2⟩) hst hpl
theorem zqS {C:Addr}{r:List Addr}{S:Sto}{H:Hp}{d:D}{v:V}{n:Nat}{fs:List (Str×D)}(rel:zaU X.K r S H)(p:Rp r H d v)(h:zcG C S d=some (n,fs)):∃a dx fs',v=.ref a∧r[n]?=some a∧H a=some (.ins C dx fs')∧FR r H fs fs':=by
 obtain⟨rfl,eS⟩:=zn3 h
 obtain⟨a,ha,dx,fs',eH,fr⟩:=rel.at eS
 cases p with
 | ref hr=>
  rw[hr] at ha; cases ha
  exact⟨a,dx,fs',rfl,hr,eH,fr⟩
theorem zeZ {C:Addr}{m:Str}{f:Addr}{fd:FuncData}{k:Nat}{ps:List Str}{sd:Sd}{o e:Expr}{es:List Expr}{to:TDE}{t:TDA}{apos:Pos}{pl:Sem Bool}{ex:Ev→Addr→Sto→Prop}{W:St→XK}(ho:PD X ⟨ex,W⟩ o to)(c:Cls X.K C)(hm:zeU X.K C m f)
  (F:za1 X.prog X.w X.K X.mg X.base (CXE X.prog X.w) k f fd ps (upF X.K sd))(hr:zaN k X.A)(hb:zbs X.K fd ps [])(hx:zcK X W)(ha:PDA X ⟨ex,W⟩ (e::es) t)
  (hst:starEach (e::es) X.env=(false,eval e X.env)::starEach es X.env:=by rfl)(hpl:(backTo pos (starEach es X.env)).any (·.1)=false:=by rfl)
  (ht:eval (.Call (.Attribute o m apos) (e::es) [] pos) X.env=(do
   let ov ← eval o X.env
   standAt apos.atName
   let (f,first) ← holding [ov] (getMethod ov m pl)
   callWith pos f first (backTo pos (starEach (e::es) X.env)) (backToKw pos (keywordEach [] X.env))):=by rfl):PD X ⟨ex,W⟩ (.Call (.Attribute o m apos) (e::es) [] pos) (zh6 C m ex sd to t):=
 za4 (zwr ho c hm F hr hb hx ha hst hpl ht) λσ H Qv ⟨r,dl,S,Q,rs,rel,h,ret⟩=>by unfold zh6 at h; exact⟨r,dl,S,_,rs,rel,h,λv H1 r1 d S1 e1 rel1 p1 q1=>by
  split at q1
  ·rename_i n fs ei
   obtain⟨hl,q1⟩:=q1
   obtain⟨a,dx,fs',rfl,hr1,eH,fr⟩:=zqS rel1.b p1 ei
   exact⟨a,dx,fs',rfl,eH,fr.lookup.2 hl,r1,dl,S1,_,rs.ext e1,rel1,q1,λvs H2 r2 ds S2 e2 rel2 p2 q2=>zn8 (Z:=⟨ex,W⟩) (rs.ext (e1.trans e2)) rel2 (Rps.cons (p1.ext e2) p2) q2 (ret.ext (e1.trans e2))⟩
  ·exact q1.elim⟩
def dMake (C:Addr)(ex:Addr→Sto→Prop)(sd:Sd)(t:TDA):TDE:=λdl S Q=>t dl S λds S1=>sd (.ref S1.length::ds) (S1++[.ins C []]) (λd S2=>d=.non∧Q (.ref S1.length) S2) ex
theorem zxs {C x dx:Addr}{r:List Addr}{S:Sto}{H:Hp}(rel:Rel X.K Z r S H)(h1:H x=none)(h2:H dx=none)(h3:dx≠x):
  Rel X.K Z (r++[x]) (S++[.ins C []]) (upd (upd H dx (.own x)) x (.ins C dx []))∧Ext r (r++[x]) H (upd (upd H dx (.own x)) x (.ins C dx [])):=by
 obtain⟨rb,e⟩:=rel.b.pushO (o:=.ins C []) (H':=upd (upd H dx (.own x)) x (.ins C dx [])) h1 (λb u q=>by rw[za3 (zdm q h1),za3 (zdm q h2)]; exact q) λ_=>⟨dx,[],zcz,FR.nil⟩
 exact⟨⟨rb,rel.xw.ext e⟩,e⟩
theorem zrI {C x:Addr}{r r':List Addr}{n:Nat}{H H':Hp}{Z:Zx}{K:PySem.W.Frag}{Q:DK}{Qv:VK}(ret:Ret K Z r H Q Qv)(e:Ext r r' H H')(hx:r'[n]?=some x):
  Ret K Z r' H' (λd S2=>d=.non∧Q (.ref n) S2) (λv H2=>v=.non∧Qv (.ref x) H2):=λv H2 r2 d S2 e2 rel2 p2 q2=>by
 obtain⟨rfl,q2⟩:=q2
 cases p2
 exact⟨rfl,ret _ H2 r2 (.ref n) S2 (e.trans e2) rel2 (.ref (e2.adr _ _ hx)) q2⟩
theorem zec {C f:Addr}{fd:FuncData}{k:Nat}{ps:List Str}{sd:Sd}{ex:Addr→Sto→Prop}{W:XK}{x:Str}{p:Pos}{e:Expr}{es:List Expr}{t:TDA}(M:Mk X.K C f)
  (F:za1 X.prog X.w X.K X.mg X.base (CXE X.prog X.w) k f fd ps (upF X.K sd))(hr:zaN (k+1) X.A)(hg:Gl X x)(hm:X.mg x=some (.ref C))(hb:zbs X.K fd ps [])(hx:ziV (CXE X.prog X.w) X W)(ha:PDA X (Zc ex W) (e::es) t)
  (hdb:(x==("__debug__":Str))=false:=by decide)(he:starEach (e::es) X.env=(false,eval e X.env)::starEach es X.env:=by rfl)(hpl:(backTo pos (starEach es X.env)).any (·.1)=false:=by rfl):
  PD X (Zc ex W) (.Call (.Name x p) (e::es) [] pos) (dMake C ex sd t):=
 za4 (zxD M F hr hg hm hb .nil hx ha hdb he hpl) λσ H Qv ⟨r,dl,S,Q,rs,rel,h,ret⟩=>⟨r,dl,S,_,rs,rel,h,λvs H1 r1 ds S1 e1 rel1 p1 q1=>λx dx n1 n2 n3=>by
  obtain⟨rel2,e2⟩:=zxs (C:=C) rel1 n1 n2 n3
  show upF X.K sd (.ref x::(vs++[])) _ _ W
  rw[Va3]
  exact⟨ex,_,_,.ref S1.length::ds,_,rel2,Rps.cons (zeH rel1.len) (p1.ext e2),q1,zrI (C:=C) ret (e1.trans e2) (znO rel1.len)⟩⟩
end
section
variable {κ:Type} [DecidableEq κ]
def zd1 (kvs:List (κ×D))(k:κ):Option D:=(kvs.find? λkv=>decide (kv.1=k)).map (·.2)
def zoZ (kvs:List (κ×D))(k:κ)(v:D):List (κ×D):=
 if (kvs.any λkv=>decide (kv.1=k))=true then kvs.map (λkv=>if kv.1=k then (kv.1,v) else kv) else kvs++[(k,v)]
theorem FR.split {r:List Addr}{H:Hp}{p:κ×D}{fs:List (κ×D)}{gs:List (κ×V)}(h:FR r H (p::fs) gs):∃q gs',gs=q::gs'∧p.1=q.1∧Rp r H p.2 q.2∧FR r H fs gs':=by
 cases gs with
 | nil=>
  have:=h.1
  simp at this
 | cons q gs'=>
  obtain⟨h1,h2⟩:=h
  simp only[Vat,List.cons.injEq] at h1
  obtain⟨p1,p2⟩:=h2.tail
  exact⟨q,gs',rfl,h1.1,p1,h1.2,p2⟩
theorem FR.unnil {r:List Addr}{H:Hp}{gs:List (κ×V)}(h:FR r H ([]:List (κ×D)) gs):gs=[]:=by
 have:=h.1
 simpa using this.symm
theorem FR.cons {r:List Addr}{H:Hp}{k:κ}{d:D}{v:V}{fs:List (κ×D)}{gs:List (κ×V)}(p:Rp r H d v)(h:FR r H fs gs):FR r H ((k,d)::fs) ((k,v)::gs):=⟨by simp[h.1],Rps.cons p h.2⟩
theorem FR.val {r:List Addr}{H:Hp}{k:κ}:∀ {fs:List (κ×D)} {gs:List (κ×V)},FR r H fs gs→(∀d,zd1 fs k=some d→∃v,zbS gs k=some v∧Rp r H d v)∧(zd1 fs k=none→zbS gs k=none)
 | [],gs,h=>by
  have z:=h.unnil
  subst z
  exact⟨(λd e=>by cases e),λ_=>rfl⟩
 | p::fs,gs,h=>by
  obtain⟨q,gs',rfl,e,pr,t⟩:=h.split
  obtain⟨i1,i2⟩:=FR.val (k:=k) t
  by_cases z:p.1=k
  ·have z':q.1=k:=e.symm.trans z
   rw[zl5 z']
   have zd:zd1 (p::fs) k=some p.2:=by simp[zd1,VaV,z]
   rw[zd]
   exact⟨λd hd=>⟨q.2,rfl,by cases hd; exact pr⟩,λhd=>by cases hd⟩
  ·have z':¬ q.1=k:=λy=>z (e.trans y)
   rw[zks z']
   have zd:zd1 (p::fs) k=zd1 fs k:=by simp[zd1,VaV,z]
   rw[zd]
   exact⟨i1,i2⟩
theorem FR.putK {r:List Addr}{H:Hp}{k:κ}{d:D}{v:V}{fs:List (κ×D)}{gs:List (κ×V)}(p:Rp r H d v)(h:FR r H fs gs):FR r H (zoZ fs k d) (putK gs k v):=by
 have any:∀ {fs:List (κ×D)} {gs:List (κ×V)},FR r H fs gs→(fs.any λkv=>decide (kv.1=k))=(gs.any λkv=>decide (kv.1=k)):=by
  intro fs
  induction fs with
  | nil=>intro gs h; have z:=h.unnil; subst z; rfl
  | cons q fs ih=>
   intro gs h
   obtain⟨q',gs',rfl,e,_,t⟩:=h.split
   rw[List.any_cons,List.any_cons,ih t,e]
 have mp:∀ {fs:List (κ×D)} {gs:List (κ×V)},FR r H fs gs→FR r H (fs.map λkv=>if kv.1=k then (kv.1,d) else kv) (gs.map λkv=>if kv.1=k then (kv.1,v) else kv):=by
  intro fs
  induction fs with
  | nil=>intro gs h; have z:=h.unnil; subst z; exact FR.nil
  | cons q fs ih=>
   intro gs h
   obtain⟨q',gs',rfl,e,pr,t⟩:=h.split
   rw[Vat,Vat]
   obtain⟨qk,qd⟩:=q
   obtain⟨qk',qv⟩:=q'
   have e':qk=qk':=e
   subst e'
   by_cases z:qk=k
   ·rw[if_pos z,if_pos z]; exact FR.cons p (ih t)
   ·rw[if_neg z,if_neg z]; exact FR.cons pr (ih t)
 have ap:∀ {fs:List (κ×D)} {gs:List (κ×V)},FR r H fs gs→FR r H (fs++[(k,d)]) (gs++[(k,v)]):=by
  intro fs
  induction fs with
  | nil=>intro gs h; have z:=h.unnil; subst z; exact FR.cons p FR.nil
  | cons q fs ih=>
   intro gs h
   obtain⟨q',gs',rfl,e,pr,t⟩:=h.split
   obtain⟨qk,qd⟩:=q
   obtain⟨qk',qv⟩:=q'
   have e':qk=qk':=e
   subst e'
   exact FR.cons pr (ih t)
 unfold zoZ L2.putK
 rw[any h]
 split
 ·exact mp h
 ·exact ap h
end
section
variable {X:Cx}{Z:Zx}{pos:Pos}
end
section
variable {X:Cx}{Z:Zx}{pos:Pos}
def zaS (xs:List D)(lo hi:Option Int):List D:=(xs.drop (HT.sIx xs.length 0 lo)).take (HT.sIx xs.length xs.length hi-HT.sIx xs.length 0 lo)
theorem Rps.drop {r:List Addr}{H:Hp}{ds:List D}{vs:List V}(h:Rps r H ds vs)(k:Nat):Rps r H (ds.drop k) (vs.drop k):=
 ⟨by simp[h.1],λi d v h1 h2=>h.2 (k+i) d v (by simpa using h1) (by simpa using h2)⟩
theorem Rps.take {r:List Addr}{H:Hp}{ds:List D}{vs:List V}(h:Rps r H ds vs)(k:Nat):Rps r H (ds.take k) (vs.take k):=by
 refine⟨by simp[h.1],λi d v h1 h2=>?_⟩
 rw[List.getElem?_take] at h1 h2
 split at h1
 ·rw[if_pos (by assumption)] at h2
  exact h.2 i d v h1 h2
 ·cases h1
theorem Rps.cut {r:List Addr}{H:Hp}{ds:List D}{vs:List V}(h:Rps r H ds vs)(lo hi:Option Int):Rps r H (zaS ds lo hi) (zee vs lo hi):=by
 unfold zaS zee
 rw[h.1]
 exact(h.drop _).take _
@[irreducible] def zjI (te:TDE)(tl th:TDO):TDE:=λdl S Q=>te dl S λd S1=>tl dl S1 λl S2=>th dl S2 λu S3=>match d with
 | .ref n=>match lAt S3 n with
  | some o=>Q (.ref S3.length) (S3++[.lst (zaS (zaz o) l u)])
  | none=>False
 | _=>False
theorem zdh {e:Expr}{te:TDE}{lo hi:Option Expr}{tl th:TDO}{p2:Pos}(he:PD X Z e te)(hl:PDO X Z lo tl)(hu:PDO X Z hi th):PD X Z (.Subscript e (.Slice lo hi none p2) pos) (zjI te tl th):=
 za4 (zvc zrk he hl hu) λσ H Qv ⟨r,dl,S,Q,rs,rel,h,ret⟩=>by
  unfold zjI at h
  refine⟨r,dl,S,_,rs,rel,h,λv H1 r1 d S1 e1 rel1 p1 q1=>⟨r1,dl,S1,_,rs.ext e1,rel1,q1,λl H2 r2 S2 e2 rel2 q2=>⟨r2,dl,S2,_,rs.ext (e1.trans e2),rel2,q2,λu H3 r3 S3 e3 rel3 q3=>?_⟩⟩⟩
  cases p1 with
  | @ref n a hn=>
   dsimp only at q3
   split at q3
   ·rename_i o eo
    obtain⟨eo,eL⟩:=zcg eo
    obtain⟨a',ha,ob⟩:=rel3.at eo
    rw[e3.adr _ _ (e2.adr _ _ hn)] at ha; cases ha
    obtain⟨xs,sq,pr⟩:=ob.list eL
    refine⟨a,xs,rfl,sq,λp hp=>?_⟩
    obtain⟨rel4,x⟩:=rel3.push hp (pr.cut l u)
    exact ret _ _ _ (.ref S3.length) _ (e1.trans (e2.trans (e3.trans x))) rel4 (zeH rel3.len) q3
   ·exact q3.elim
  | _=>exact(show False from q3).elim
theorem zc9 {te:TDE}{tl th:TDO}{dl:Ev}{S S3:Sto}{Q:DK}{n:Nat}{o:Ob}{lo hi:Option Int}(h:∀K:DK,K (.ref n) S3→te dl S K)(hl:∀K:Option Int→Sto→Prop,K lo S3→tl dl S3 K)(hh:∀K:Option Int→Sto→Prop,K hi S3→th dl S3 K)(ho:S3[n]?=some o)
  (hq:Q (.ref S3.length) (S3++[.lst (zaS (zaz o) lo hi)]))(hL:zb0 o=some o:=by rfl):zjI te tl th dl S Q:=by
 unfold zjI
 refine h _ (hl _ (hh _ ?_))
 simp only[zbd ho hL]
 exact hq
end
section
variable {X:Cx}{Z:Zx}{pos:Pos}
theorem Rps.put {r:List Addr}{H:Hp}{ds:List D}{vs:List V}{d:D}{v:V}(h:Rps r H ds vs)(p:Rp r H d v)(j:Nat):Rps r H (ds.set j d) (vs.set j v):=by
 refine⟨by simp[h.1],λi x y h1 h2=>?_⟩
 by_cases z:j=i
 ·subst z
  have hl:j<ds.length:=by
   have:=(Vab.mp h1).1
   simpa using this
  rw[Va0 hl] at h1
  rw[Va0 (by rw[← h.1]; exact hl)] at h2
  cases h1
  cases h2
  exact p
 ·rw[VaU z] at h1 h2
  exact h.2 i x y h1 h2
@[irreducible] def ziU (to ti te:TDE):TDS:=λE dl S=>te dl S λv S1=>to dl S1 λd S2=>ti dl S2 λi S3=>match d,i with
 | .ref n,.int k=>match S3[n]? with
  | some (.lst xs)=>match ixN xs.length k with
   | some j=>E.nx dl (S3.set n (.lst (xs.set j v)))
   | none=>False
  | _=>False
 | _,_=>False
theorem zkO {o i e:Expr}{to ti te:TDE}{p2:Pos}(ho:PD X Z o to)(hi:PD X Z i ti)(he:PD X Z e te)
  (hs:swapsWithSole [.Subscript o i p2] e pos.line X.env=pure false:=by rfl)(hw:swappedStores [.Subscript o i p2] e X.env=pure none:=by rfl)(h1:(assignEach [.Subscript o i p2] X.env).map (·.2)=[assign (.Subscript o i p2) X.env]:=by rfl)
  (ha:∀v,assign (.Subscript o i p2) X.env v=(do let ov ← holding [v] (eval o X.env); let iv ← holding [v,ov] (eval i X.env); standAt p2; holding [v,ov,iv] (setItem ov iv v); release [v,ov,iv] []):=by intro _; rfl):PDS X Z (.Assign [.Subscript o i p2] e pos) (ziU to ti te):=
 zbG (zta he (zuz ho hi zsj ha) hs hw h1) λF σ H ⟨r,dl,S,E,rs,rel,h,ret⟩=>by
  unfold ziU at h
  refine⟨r,dl,S,_,rs,rel,h,λv H1 r1 dv S1 e1 rel1 p1 q1=>⟨r1,dl,S1,_,rs.ext e1,rel1,q1,λx H2 r2 d S2 e2 rel2 pd q2=>⟨r2,dl,S2,_,rs.ext (e1.trans e2),rel2,q2,λy H3 r3 di S3 e3 rel3 pi q3=>?_⟩⟩⟩
  cases pd with
  | @ref n a hn=>
   cases pi with
   | int k=>
    dsimp only at q3
    split at q3
    ·rename_i xs eS
     split at q3
     ·rename_i j ej
      have hn3:=e3.adr _ _ hn
      obtain⟨ys,eH,pr⟩:=rel3.b.ob n a _ hn3 eS
      obtain⟨rel4,x4⟩:=rel3.set hn3 eS (pr.put (p1.ext (e2.trans e3)) j)
      exact⟨a,ys,k,j,rfl,rfl,eH,by rw[← pr.1]; exact ej,ret.nx _ _ r3 _ _ (e1.trans (e2.trans (e3.trans x4))) (rs.ext (e1.trans (e2.trans (e3.trans x4)))) rel4 q3⟩
     ·exact q3.elim
    ·exact q3.elim
   | _=>exact(show False from q3).elim
  | _=>exact(show False from q3).elim
def zc5 (f:D→D→Option Bool):List D→D→Option (Option Nat)
 | [],_=>some none
 | y::ys,x=>match f y x,zc5 f ys x with
  | some true,some _=>some (some 0)
  | some false,some o=>some (o.map (·+1))
  | _,_=>none
theorem zoe {f:D→D→Option Bool}{x:D}:∀ {ys:List D} {o:Option Nat},zc5 f ys x=some o→(∀y∈ys,∃c,f y x=some c)∧∀j,o=some j→(∃y,ys[j]?=some y∧f y x=some true)∧∀m y,m<j→ys[m]?=some y→f y x=some false
 | [],o,e=>by
  have h:=Option.some.inj e
  subst h
  exact⟨(λy hy=>by cases hy),λj z=>by cases z⟩
 | y::ys,o,e=>by
  unfold zc5 at e
  split at e
  ·rename_i o1 e1 e2
   have h:=Option.some.inj e
   subst h
   obtain⟨h1,_⟩:=zoe e2
   refine⟨λz hz=>?_,λj hj=>?_⟩
   ·rcases Vam.mp hz with rfl | hz
    ·exact⟨true,e1⟩
    ·exact h1 z hz
   ·cases hj
    exact⟨⟨y,rfl,e1⟩,λm z hm=>by omega⟩
  ·rename_i o1 e1 e2
   have h:=Option.some.inj e
   subst h
   obtain⟨h1,h2⟩:=zoe e2
   refine⟨λz hz=>?_,λj hj=>?_⟩
   ·rcases Vam.mp hz with rfl | hz
    ·exact⟨false,e1⟩
    ·exact h1 z hz
   ·obtain⟨k,rfl,rfl⟩:=Vaq.mp hj
    obtain⟨⟨z,hz1,hz2⟩,h3⟩:=h2 k rfl
    refine⟨⟨z,by simpa using hz1,hz2⟩,λm w hm hw=>?_⟩
    cases m with
    | zero=>
     have:w=y:=by simpa using hw.symm
     rw[this]; exact e1
    | succ m=>exact h3 m w (by omega) (by simpa using hw)
  ·cases e
theorem zs3 {k:Nat}{pins:List (Addr×Obj)}{σ:St}{H:Hp}{s:Shared}{r:List Addr}{A:Around}{ds:List D}{vs:List V}{us:List Value}{dx:D}{x:V}{u:Value}{j:Nat}(I:Inv X pins σ H s)(hu:A.units+k<cLine)
  (p:Rps r H ds vs)(rv:zay vs us)(px:Rp r H dx x)(rx:zav x u)(e:zc5 (eqN k) ds dx=some (some j)):
  ∃g:Value→Bool,(∀y,y∈us.toArray→SeqAt.EqAt A s y u (g y))∧∃hj:j<us.toArray.size,g us.toArray[j]=true∧∀m (hm:m<us.toArray.size),m<j→g us.toArray[m]=false:=by
 obtain⟨h1,h2⟩:=zoe e
 obtain⟨⟨yj,hyj,htj⟩,hno⟩:=h2 j rfl
 classical
 have at_:∀(m:Nat) (hm:m<us.length),∃d v,ds[m]?=some d∧Rp r H d v∧zav v us[m]:=λm hm=>by
  have hv:m<vs.length:=by rw[rv.length]; exact hm
  have gv:vs[m]?=some vs[m]:=by simp[hv]
  obtain⟨w,gw,rw'⟩:=rv.get gv
  obtain⟨d,gd,pd⟩:=p.get' gv
  have ew:w=us[m]:=by
   rw[Vaf hm] at gw
   exact(Option.some.inj gw).symm
  subst ew
  exact⟨d,_,gd,pd,rw'⟩
 have val:∀(m:Nat) (hm:m<us.length) (d:D) (c:Bool),ds[m]?=some d→eqN k d dx=some c→decide (∃d v,d∈ds∧Rp r H d v∧zav v us[m]∧eqN k d dx=some true)=c:=λm hm d c hd hc=>by
  obtain⟨d',v',gd,pd,rd⟩:=at_ m hm
  rw[hd] at gd; cases gd
  cases c with
  | true=>exact decide_eq_true ⟨d,v',Vau hd,pd,rd,hc⟩
  | false=>
   refine decide_eq_false λ⟨d2,v2,_,pd2,rd2,hc2⟩=>?_
   have ev:=zqY rd rd2
   subst ev
   exact absurd (zod k d d2 dx v' false true pd pd2 hc hc2) (by decide)
 refine⟨λy=>decide (∃d v,d∈ds∧Rp r H d v∧zav v y∧eqN k d dx=some true),λy hy=>?_,?_⟩
 ·have hy':y∈us:=by simpa using hy
  obtain⟨m,hm,rfl⟩:=VaI.mp hy'
  obtain⟨d,v,gd,pd,rd⟩:=at_ m hm
  obtain⟨c,hc⟩:=h1 d (Vau gd)
  show SeqAt.EqAt A s us[m] u (decide _)
  rw[val m hm d c gd hc]
  exact znk k X pins σ H s r A d dx v x _ u c I hu pd px rd rx hc
 ·have hjl:j<us.length:=by
   have:=(Vab.mp hyj).1
   rw[p.1,rv.length] at this
   exact this
  refine⟨by simpa using hjl,?_,λm hm hmj=>?_⟩
  ·have z:=val j hjl yj true hyj htj
   simpa using z
  ·have hm':m<us.length:=by simpa using hm
   obtain⟨d,v,gd,pd,rd⟩:=at_ m hm'
   have z:=val m hm' d false gd (hno m d hmj gd)
   simpa using z
def zlC (k:Nat)(d y:D)(S:Sto)(Q:DK):Prop:=match d with
 | .ref n=>match lAt S n with
  | some o=>match zc5 (eqN k) (zaz o) y with
   | some (some j)=>Q (.int (j:Int)) S
   | _=>False
  | none=>False
 | _=>False
@[irreducible] def zkh (k:Nat)(to:TDE)(t:TDA):TDE:=λdl S Q=>to dl S λd S1=>(match d with
 | .ref n=>(lAt S1 n).isSome=true∧t dl S1 λds S2=>match ds with
  | [y]=>zlC k d y S2 Q
  | _=>False
 | _=>False)
theorem zs2 {k j:Nat}(hr:zaN j X.A)(hk:k≤3):MtR X "list.index" (λx xs H Qv=>∃(r:List Addr) (S:Sto) (d y:D) (v:V) (Q:DK),Rel X.K Z r S H∧Rp r H d x∧xs=[v]∧Rp r H y v∧zlC k d y S Q∧Ret X.K Z r H Q Qv):=by
 intro pins s σ H x xs v us Qv I rx rv h
 obtain⟨r,S,d,y,v1,Q,rel,pd,rfl,py,q,ret⟩:=h
 obtain⟨u,rfl,ru⟩:=zeb rv
 unfold zlC at q
 split at q
 ·rename_i n
  split at q
  ·rename_i o eo
   obtain⟨eo,eL⟩:=zcg eo
   split at q
   ·rename_i i ei
    cases pd with
    | @ref n a hn=>
     cases rx
     obtain⟨a',ha,ob⟩:=rel.at eo
     rw[hn] at ha; cases ha
     obtain⟨ys,sq,pr⟩:=ob.list eL
     obtain⟨its,ri,pl,hz⟩:=I.list sq
     have hun:=hr.un
     obtain⟨g,g1,hj,g2,g3⟩:=zs3 (A:=X.A.in1) I (by show X.A.units+1+k<_; omega) pr ri py ru ei
     obtain⟨ob2,m,e,c,hd,hdat⟩:=pl
     obtain⟨oc,od,odat,osl⟩:=ob2
     have c':oc=.type "list":=c
     have hdat':odat=.seq its.toArray m:=hdat
     subst c' hdat'
     refine call_meets PySem.F.slot_list_index ⟨_,e,rfl⟩ PySem.F.entry_list_index (PySem.F.args_list_index_2 _ _) (PySem.SeqAt.list_indexAt a its.toArray m od osl u g i hj (by
      have:its.toArray.size≤sizeLine:=by rw[Vai,← ri.length]; exact hz
      have h2:=zhS
      omega) g2 λm hm h2=>g3 m hm h2) ⟨e,g1,?_⟩
     exact⟨.int (i:Int),H,I.tok _,⟨_,rfl⟩,ret _ H r (.int _) S Ext.refl rel (.int _) q⟩
   ·exact q.elim
  ·exact q.elim
 ·exact q.elim
theorem zvf {k j:Nat}{o e:Expr}{to:TDE}{t:TDA}{apos cpos:Pos}(hr:zaN j X.A)(hk:k≤3)(ho:PD X Z o to)(ha:PDA X Z [e] t)(hbase:attributeBase o "index" X.env (eval o X.env)=eval o X.env:=by rfl)
  (hfew:((backTo cpos (starEach [e] X.env)).all (λx=>!x.1)&&(backToKw cpos (keywordEach [] X.env)).all (λx=>x.1.isSome)
  &&decide ([e].length+([]:List Keyword).length+(if ([]:List Keyword).isEmpty then 0 else 1)<30))=true:=by rfl)
  (hline:(apos.endLine==cpos.line)=true:=by rfl)(hs:starEach [e] X.env=(false,eval e X.env)::starEach [] X.env:=by rfl)(hplain:(backTo cpos (starEach [] X.env)).any (·.1)=false:=by rfl):
  PD X Z (.Call (.Attribute o "index" apos) [e] [] cpos) (zkh k to t):=
 za4 (zpC (T:="list") PySem.F.plainAttrs_list PySem.F.slot_list_index PySem.F.type_list_index (zs2 (Z:=Z) hr hk) ho ha hbase hfew hline hs hplain) λσ H Qv ⟨r,dl,S,Q,rs,rel,h,ret⟩=>by
  unfold zkh at h
  refine⟨r,dl,S,_,rs,rel,h,λv H1 r1 d S1 e1 rel1 p1 q1=>?_⟩
  cases p1 with
  | @ref n a hn=>
   obtain⟨hsome,q1⟩:=q1
   obtain⟨o1,eo⟩:=Option.isSome_iff_exists.mp hsome
   obtain⟨eo,eL⟩:=zcg eo
   obtain⟨a',ha',ob⟩:=rel1.at eo
   rw[hn] at ha'; cases ha'
   obtain⟨xs,sq,_⟩:=ob.list eL
   refine⟨.inl ⟨rfl,xs,sq⟩,r1,dl,S1,_,rs.ext e1,rel1,q1,λvs H2 r2 ds S2 e2 rel2 p2 q2=>?_⟩
   split at q2
   ·rename_i y
    obtain⟨v2,vs',rfl,p3,p4⟩:=p2.uncons
    have z:=p4.unnil
    subst z
    exact⟨r2,S2,.ref n,y,v2,Q,rel2,.ref (e2.adr _ _ hn),rfl,p3,q2,ret.ext (e1.trans e2)⟩
   ·exact q2.elim
  | _=>exact(show False from q1).elim
end
section
variable {X:Cx}{pins:List (Addr×Obj)}{σ:St}{H:Hp}{s:Shared}{h':Heap}
theorem zx0 {t':Nat}{ch:List Addr}{T:Addr}{xs:List V}{vals:Array Value}(I:Inv X pins σ H s)(k:∀b o,b ∉ ch→s.heap.get? b=some o→h'.get? b=some o)(hch:∀b∈ch,zb3 X pins H b)
  (hT:s.heap.objs.size≤T)(ht:h'.IsTuple T vals)(rv:zay xs vals.toList)(hl:xs.length≤sizeLine):Inv X pins σ (upd H T (.tup xs)) { s with heap:=h',toks:=t' }:=by
 have hTn:H T=none:=I.hok.fresh hT
 have old:∀ {b:Addr} {o:Obj},s.heap.get? b=some o→b≠T:=λ{b o} e z=>absurd (Var (Heap.lt_size e) hT) (by rw[z]; exact VaL _)
 have trk:∀b u,H b=some u→b ∉ ch:=λb u e z=>by
  rw[(hch b z).1] at e; cases e
 have up:∀b u,H b=some u→(upd H T (.tup xs)) b=some u:=zdn hTn
 refine I.step (g':=s.gens) (d':=s.drawn) (ch:=ch) (λb hb=>?_) (λb o _ _ hc e _=>k b o hc e) (λb o _ _ hc e _=>⟨o.slots,k b o hc e⟩) (λb o _ e n=>by rw[za3 (old e)]; exact n)
  (λb o hc e=>⟨o,k b o hc e⟩) (λb ys e=>up _ _ e) (λb o u e=>up _ _ e) (λb ps e=>⟨#[],by rw[up _ _ e]; simp⟩) (λm hm=>?_) (λb u e=>?_) I.bare
 ·obtain⟨_,f1,_,f3,f4,f5⟩:=hch b hb
  exact⟨f3,f1,f4,f5⟩
 ·obtain⟨o,es,ep,ho,r⟩:=hm
  exact⟨o,es,ep,k _ o (λz=>(hch _ z).2.1 rfl) ho,r⟩
 ·by_cases hb:b=T
  ·subst hb
   rw[zcz] at e
   cases e
   exact⟨hl,vals.toList,rv,by rw[Array.toArray_toList]; exact ht⟩
  ·rw[za3 hb] at e
   refine(I.hok b u e).stay (λc v hc q=>k c v ?_ q) (λd z=>up _ _ z) λd ys z=>up _ _ z
   rcases hc with z | z
   ·rw[z]; exact trk b u e
   ·exact trk c _ z
theorem zpk {t':Nat}{ch:List Addr}(I:Inv X pins σ H s)(k:∀b o,b ∉ ch→s.heap.get? b=some o→h'.get? b=some o)(hch:∀b∈ch,zb3 X pins H b):Inv X pins σ H { s with heap:=h',toks:=t' }:=by
 have trk:∀b u,H b=some u→b ∉ ch:=λb u e z=>by
  rw[(hch b z).1] at e; cases e
 refine I.step (g':=s.gens) (d':=s.drawn) (ch:=ch) (λb hb=>?_) (λb o _ _ hc e _=>k b o hc e) (λb o _ _ hc e _=>⟨o.slots,k b o hc e⟩) (λb o _ e n=>n)
  (λb o hc e=>⟨o,k b o hc e⟩) (λb ys e=>e) (λb o u e=>e) (λb ps e=>⟨#[],by rw[e]; simp⟩) (λm hm=>?_) (λb u e=>?_) I.bare
 ·obtain⟨_,f1,_,f3,f4,f5⟩:=hch b hb
  exact⟨f3,f1,f4,f5⟩
 ·obtain⟨o,es,ep,ho,r⟩:=hm
  exact⟨o,es,ep,k _ o (λz=>(hch _ z).2.1 rfl) ho,r⟩
 ·refine(I.hok b u e).stay (λc v hc q=>k c v ?_ q) (λd z=>z) λd ys z=>z
  rcases hc with z | z
  ·rw[z]; exact trk b u e
  ·exact trk c _ z
end
def Ite (K:PySem.W.Frag)(a:Addr):It:=
 ⟨λi H=>∃xs x,SqL K H a xs∧xs[i]?=some x,λi H x H'=>∃T v,x=.ref T∧H T=none∧H'=upd H T (.tup [.int (i:Int),v])∧∀xs,SqL K H a xs→xs[i]?=some v,λi H=>∃xs,SqL K H a xs∧xs.length=i⟩
theorem zvP {P:Program}{w:World}{K:PySem.W.Frag}{elts:List Expr}{kk:Nat}{tp:Pos}(a e it:Addr)(hei:e≠it)(hae:a≠e)(hai:a≠it):
  zeu P w K (.Tuple elts kk tp) (Ite K a) [e,it] e (λi h=>(∃old,IsEnum h e it i old)∧h.IsListIter it a i) where
 mem:=by simp
 obj:=λi h st b hb=>by
  obtain⟨⟨old,he⟩,o,e1,c,d⟩:=st
  have hb':b=e∨b=it:=by simpa using hb
  rcases hb' with rfl | rfl
  ·exact⟨_,he,λv z=>by cases z⟩
  ·exact⟨o,e1,λv z=>by rw[d] at z; cases z⟩
 keep:=λi h h' st k=>by
  obtain⟨⟨old,he⟩,hit⟩:=st
  exact⟨⟨old,k e (by simp) _ he⟩,hit.at λo x=>k it (by simp) o x⟩
 item:=by
  intro X hP hw hK hc i pins s σ H E I hf st hg
  subst hP hw hK
  obtain⟨xs,x,hq,hx⟩:=hg
  obtain⟨its,rv,p,hz⟩:=I.list hq
  obtain⟨u,hu,ru⟩:=rv.get hx
  have hi:i<its.toArray.size:=by
   have:=(Vab.mp hu).1
   simpa using this
  have W:=WalksT.enumerate (prog:=X.prog) (w:=X.w) (A:=X.A) (I.ok.hd hc) e it a hei hae hai its.toArray
  refine W.item i s _ _ hi ⟨st.1,st.2,p.isList⟩ λT vals h' tk hP hT ht mid k1=>?_
  obtain⟨t,y,hy,rfl⟩:=hP
  have ey:y=u:=by
   have z:its[i]?=some y:=by simpa using hy
   rw[hu] at z; exact(Option.some.inj z).symm
  subst ey
  have hw:∀b∈[e,it],zb3 X pins H b:=hf
  have I1:Inv X pins σ (upd H T (.tup [.int (i:Int),x])) { s with heap:=h',toks:=tk }:=zx0 I k1 hw hT ht (.cons ⟨t,rfl⟩ (.cons ru .nil)) (show 2≤sizeLine from zkq (by decide))
  have neT:∀b∈[e,it],b≠T:=λb hb z=>W.apart i T h' mid (z ▸ hb)
  have hf1:∀b∈[e,it],zb3 X pins (upd H T (.tup [.int (i:Int),x])) b:=λb hb=>⟨by rw[za3 (neT b hb)]; exact(hf b hb).1,(hf b hb).2⟩
  refine⟨.ref T,rfl,W.go elts kk tp i T _ _ _ mid λh2 st2 k2=>?_⟩
  have I2:Inv X pins σ (upd H T (.tup [.int (i:Int),x])) { s with heap:=h2,toks:=tk }:=zpk (s:={ s with heap:=h',toks:=tk }) (t':=tk) I1 k2 hf1
  exact⟨.ref T,_,I2,rfl,⟨T,x,rfl,I.hok.fresh hT,rfl,λys hy=>by rw[I.list_inj hy hq]; exact hx⟩,⟨st2.1,st2.2.1⟩,λb hb=>(hf1 b hb).1⟩
 done:=by
  intro X hP hw hK hc i pins s σ H E I hf st hg
  subst hP hw hK
  obtain⟨xs,hq,hx⟩:=hg
  obtain⟨its,rv,p,hz⟩:=I.list hq
  have W:=WalksT.enumerate (prog:=X.prog) (w:=X.w) (A:=X.A) (I.ok.hd hc) e it a hei hae hai its.toArray
  have hi:i=its.toArray.size:=by rw[Vai,← rv.length]; exact hx.symm
  subst hi
  exact W.done s _ _ ⟨st.1,st.2,p.isList⟩ λh' tk k1=>⟨rfl,zpk (t':=tk) I k1 hf⟩
 self:=λA i s Q E st h=>by
  obtain⟨⟨old,he⟩,_⟩:=st
  exact wpAny_pyIter_enum he h
section
variable {X:Cx}
def iEnum (K:PySem.W.Frag)(ta:TA):TI:=λσ H R=>ta σ H λvs H1=>∃a,vs=[.ref a]∧(∃xs,SqL K H1 a xs)∧R (Ite K a) H1
theorem zvq {a:Expr}{ta:TA}{p pos tp:Pos}{elts:List Expr}{kk:Nat}(hg:Gl X "enumerate")(hm:X.mg "enumerate"=none)(hv:bootBuiltins "enumerate"=some (.type "enumerate"))(ha:PA X [a] ta)(hs:starEach [a] X.env=[(false,eval a X.env)]:=by rfl):
  PI X (.Tuple elts kk tp) (.Call (.Name "enumerate" p) [a] [] pos) (iEnum X.K ta):=by
 intro pins s σ H R I h
 refine Call_ (zfe I hg hm hv (PyProof.Rows.callWith_type1 (thn (ha pos pins s σ H _ I h) λus s1 ⟨vs,H1,I1,r1,q1⟩=>?_) hs rfl))
 obtain⟨l,e,⟨xs,hq⟩,q⟩:=q1
 subst e
 cases r1 with
 | cons r rr=>
  cases rr
  cases r
  obtain⟨its,rv,pl,hz⟩:=I1.list hq
  have hll:l<s1.heap.objs.size:=by
   obtain⟨o,e,_⟩:=pl.isList
   exact Heap.lt_size e
  refine call_enumerate_list pl.isList λh' he hit hsz hk=>?_
  have I2:Inv X pins σ H1 { s1 with heap:=h' }:=I1.kept (t':=s1.toks) hk
  refine wpAny_pyIter_enum he ⟨s1.heap.objs.size+1,[s1.heap.objs.size+1,s1.heap.objs.size],_,_,H1,rfl,I2,zvP l _ _ (Nat.succ_ne_self _) (Vas (Nat.lt_succ_of_lt hll)) (Vas hll),⟨⟨_,he⟩,hit⟩,λb hb=>?_,q⟩
  have hb':b=s1.heap.objs.size+1∨b=s1.heap.objs.size:=by simpa using hb
  rcases hb' with rfl | rfl
  ·exact I1.fpOk (Nat.le_succ _) (I1.hok.fresh (Nat.le_succ _))
  ·exact I1.fpOk (Vaa _) (I1.hok.fresh (Vaa _))
end
section
variable {X:Cx}
end
section
variable {X:Cx}{Z:Zx}{pos:Pos}
@[irreducible] def zi5 (is:List Nat)(ta:TDA)(tb:TDS):TDS:=λE dl S=>ta dl S λds S1=>match ds with
 | [.ref n]=>(lAt S1 n).isSome=true∧∃W:Nat→Nat→Ev→Sto→Prop,(∃m,W 0 m dl S1)∧∀k m dl S,W k m dl S→match lAt S n with
  | some o=>match (zaz o)[k]? with
   | some x=>tb { nx:=λdl' S'=>∃m',m'<m∧W (k+1) m' dl' S',rt:=E.rt,bk:=E.nx,ct:=λdl' S'=>∃m',m'<m∧W (k+1) m' dl' S' } (zgo is [.int (k:Int),x] dl) S
   | none=>k=(zaz o).length∧E.nx dl S
  | none=>False
 | _=>False
theorem zpy {r r':List Addr}{S':Sto}{H':Hp}{n:Nat}{a:Addr}{o:Ob}(hn:r'[n]?=some a)(rel:zaU X.K r' S' H')(eo:lAt S' n=some o):∃xs,SqL X.K H' a xs∧Rps r' H' (zaz o) xs:=by
 obtain⟨eo,eL⟩:=zcg eo
 obtain⟨a',ha,ob⟩:=rel.at eo
 rw[hn] at ha; cases ha
 exact ob.list eL
theorem zpM {iter:Expr}{body:List Stmt}{es:List Expr}{kk:Nat}{tp p pos2:Pos}{is:List Nat}{ta:TDA}{tb:TDS}(hp:PassesOwn (model X.prog X.w) X.A X.env X.xe)(hc:X.calm=true)(hN:X.N.Nodup)(hn:Nms X es is)(h2:is.length=2)
  (hg:Gl X "enumerate")(hm:X.mg "enumerate"=none)(hv:bootBuiltins "enumerate"=some (.type "enumerate"))(ha:PDA X Z [iter] ta)(hb:zbW X Z body tb)
  (hlen:(assignEach es X.env).length=is.length:=by rfl)(hst:(assignEach es X.env).findIdx? (·.1)=none:=by rfl)(hse:starEach [iter] X.env=[(false,eval iter X.env)]:=by rfl)
  (hs:∀y,foldedSetIterable (.Call (.Name "enumerate" p) [iter] [] pos2) X.env y=pure y:=by intro _; rfl):PDS X Z (.For (.Tuple es kk tp) (.Call (.Name "enumerate" p) [iter] [] pos2) body [] pos) (zi5 is ta tb):=
 zbG (zha hp hc (zvq hg hm hv ha hse) (zq0 hc (zpL hN hn) hlen hst) hb hs) λF σ H ⟨r,dl,S,E,rs,rel,h,ret⟩=>by
  unfold zi5 at h
  refine⟨r,dl,S,_,rs,rel,h,λvs H1 r1 ds S1 x1 rel1 p1 q1=>?_⟩
  split at q1
  ·rename_i n
   obtain⟨v,vs',rfl,p2,p3⟩:=p1.uncons
   have z:=p3.unnil
   subst z
   cases p2 with
   | @ref n a hr=>
    obtain⟨hsome,W,⟨m0,w0⟩,turn⟩:=q1
    obtain⟨o1,eo1⟩:=Option.isSome_iff_exists.mp hsome
    obtain⟨xs1,sq1,_⟩:=zpy (r:=r1) hr rel1.b eo1
    refine⟨a,rfl,⟨xs1,sq1⟩,λk m σ' H'=>∃r' dl' S',Ext r1 r' H1 H'∧Rs r' H' dl' σ'∧Rel X.K Z r' S' H'∧W k m dl' S',⟨m0,r1,dl,S1,Ext.refl,rs.ext x1,rel1,w0⟩,?_⟩
    rintro k m σ2 H2 ⟨r2,dl2,S2,x2,rs2,rel2,w2⟩
    have q:=turn k m dl2 S2 w2
    split at q
    ·rename_i o eo
     obtain⟨xs,sq,pr⟩:=zpy (r:=r2) (x2.adr _ _ hr) rel2.b eo
     split at q
     ·rename_i y ey
      obtain⟨v,hvv,pv⟩:=pr.get ey
      refine .inr ⟨⟨xs,v,sq,hvv⟩,λσ' H'=>∃m',m'<m∧∃r' dl' S',Ext r1 r' H1 H'∧Rs r' H' dl' σ'∧Rel X.K Z r' S' H'∧W (k+1) m' dl' S',λ_ _ z=>z,λv' H' y'=>?_⟩
      obtain⟨T,w,rfl,hT,rfl,hw⟩:=y'
      have ew:w=v:=by
       have z:=hw xs sq
       rw[hvv] at z; exact(Option.some.inj z).symm
      subst ew
      have x3:Ext r2 r2 H2 (upd H2 T (.tup [.int (k:Int),w])):=ztK hT
      have pp:Rps r2 (upd H2 T (.tup [.int (k:Int),w])) [.int (k:Int),y] [.int (k:Int),w]:=Rps.cons (.int _) (Rps.cons (pv.ext x3) Rps.nil)
      have rel3:=rel2.same (zdn (o:=.tup [.int (k:Int),w]) hT)
      have go:∀σ' H' r' dl' S',Ext r2 r' (upd H2 T (.tup [.int (k:Int),w])) H'→Rs r' H' dl' σ'→Rel X.K Z r' S' H'→(∃m',m'<m∧W (k+1) m' dl' S')→∃m',m'<m∧∃r' dl' S',Ext r1 r' H1 H'∧Rs r' H' dl' σ'∧Rel X.K Z r' S' H'∧W (k+1) m' dl' S':=
       λσ' H' r' dl' S' x rs' rel' ⟨m',hm,w'⟩=>⟨m',hm,r',dl',S',x2.trans (x3.trans x),rs',rel',w'⟩
      refine⟨T,[.int (k:Int),w],rfl,SqT.of zcz,by rw[h2]; rfl,by rw[h2]; rfl,r2,_,S2,_,zpT (rs2.ext x3) pp,rel3,q,⟨go,λσ' H' r' dl' S' x rs' rel' z=>ret.nx σ' H' r' dl' S' (x1.trans (x2.trans (x3.trans x))) rs' rel' z,go,ret.rt.ext (x1.trans (x2.trans x3))⟩⟩
     ·obtain⟨hk,q⟩:=q
      exact .inl ⟨⟨xs,sq,by rw[← pr.1]; exact hk.symm⟩,ret.nx σ2 H2 r2 dl2 S2 (x1.trans x2) rs2 rel2 q⟩
    ·exact q.elim
  ·exact q1.elim
end
section
variable {X:Cx}{Z:Zx}{pos:Pos}
@[irreducible] def zje (T:String)(te:TDE):TDE:=λdl S Q=>te dl S λd S1=>match d with
 | .ref n=>match S1[n]? with
  | some (.lst _)=>Q (.bl (zcU "list" T)) S1
  | _=>False
 | _=>False
theorem zoI {T:String}{e:Expr}{te:TDE}{y:Str}{p p2:Pos}(KT:PySem.W.kitOne X.K (.type "list") (.type T)=some (zcU "list" T))(hg:Gl X "isinstance")(hm:X.mg "isinstance"=none)(hg2:Gl X y)(hm2:X.mg y=none)(hv2:bootBuiltins y=some (.type T))(ha:PD X Z e te)
  (hv:bootBuiltins "isinstance"=some (.builtin "isinstance"):=by exact PyProof.Rows.Boot.«isinstance»)
  (hn2:y≠"__name__":=by decide)(hd2:(y==("__debug__":Str))=false:=by decide)(he2:starEach [e,.Name y p2] X.env=(false,eval e X.env)::starEach [.Name y p2] X.env:=by rfl)
  (he3:starEach [.Name y p2] X.env=(false,eval (.Name y p2) X.env)::starEach [] X.env:=by rfl)(hpl:(backTo pos (starEach [.Name y p2] X.env)).any (·.1)=false:=by rfl):
  PD X Z (.Call (.Name "isinstance" p) [e,.Name y p2] [] pos) (zje T te):=
 za4 (zn0 zqm hg hm hv (zfc ha (zfc (zpB (v:=.ty T) hg2 hm2 hv2 rfl hn2 hd2) zhX he3) he2) (by decide) (by decide) he2 hpl) λσ H Qv ⟨r,dl,S,Q,rs,rel,h,ret⟩=>
  by unfold zje at h; exact⟨r,dl,S,_,rs,rel,h,λv H1 r1 d S1 e1 rel1 p1 h1=>by
   cases p1 with
   | @ref n a hr=>
    dsimp only at h1
    split at h1
    ·rename_i xs eS
     obtain⟨ys,eH,_⟩:=rel1.b.ob n a _ hr eS
     exact⟨_,T,_,_,rfl,.lst eH,KT,ret _ _ _ _ _ e1 rel1 (.bl _) h1⟩
    ·exact h1.elim
   | _=>exact(show False from h1).elim⟩
end
theorem zpO (K:PySem.W.Frag):PySem.W.kitOne K (.type "list") (.type "list")=some (zcU "list" "list"):=by kernel_rfl
structure Dm (K:PySem.W.Frag)(C:Addr)(m qual:Str)(st:Stmt)(ps:List Str) where
 f:Addr
 fd:FuncData
 F:Fun K m qual st f fd
 m:zeU K C m f
 b:zbs K fd ps []
structure Fm (P:Program)(w:World)(K:PySem.W.Frag)(mg:Str→Option Value)(base:Heap)(k:Nat)(C:Addr)(x:Str)(ps:List Str)(sd:Sd) where
 f:Addr
 fd:FuncData
 ok:za1 P w K mg base (CXE P w) k f fd ps (upF K sd)
 m:zeU K C x f
 b:zbs K fd ps []
def Dm.mk' {P:Program}{w:World}{K:PySem.W.Frag}{mg:Str→Option Value}{base:Heap}{k:Nat}{C:Addr}{x qual:Str}{st:Stmt}{ps:List Str}{sd:Sd}(d:Dm K C x qual st ps)(h:za1 P w K mg base (CXE P w) k d.f d.fd ps (upF K sd)):Fm P w K mg base k C x ps sd:=
 ⟨d.f,d.fd,h,d.m,d.b⟩
theorem zeP {P:Program}{w:World}{X:Cx}:ziV (CXE P w) X (λ_ _ _=>False):=λ_ _ _ _ _ _ _ h=>by
 obtain⟨_,_,_,_,_,_,_,_,_,_,_,_,q⟩:=h
 exact q.elim
section
variable {X:Cx}{Z:Zx}
theorem zo6 {k:Nat}(hr:zaN k X.A):OpR X (compareOp .NotIn) (upO X.K Z (zcN (wIn 1 true))):=by rw[zdL]; exact zxF 1 (by have:=hr.un; omega)
end
section
variable {X:Cx}{Z:Zx}{pos:Pos}
def zlX:W2:=λx y S Q=>match x,y with
 | .ref n,.ref m=>match S[n]?,S[m]? with
  | some (.lst xs),some (.lst ys)=>xs.length+ys.length≤1000∧Q (.ref S.length) (S++[.lst (xs++ys)])
  | _,_=>False
 | _,_=>False
theorem Rps.app {r:List Addr}{H:Hp}:∀ {ds es:List D} {xs ys:List V},Rps r H ds xs→Rps r H es ys→Rps r H (ds++es) (xs++ys)
 | [],es,xs,ys,p,q=>by
  have z:=p.unnil
  subst z
  exact q
 | d::ds,es,xs,ys,p,q=>by
  obtain⟨v,vs,rfl,p1,p2⟩:=p.uncons
  exact Rps.cons p1 (p2.app q)
theorem zom:OpR X (binaryOp .Add) (upO X.K Z (zcN zlX)):=by
 rw[zdL]
 exact zgI zrN λx y H Qv ⟨r,S,dx,dy,Q,rel,px,py,q,ret⟩=>by
  unfold zlX at q
  split at q
  ·rename_i n m
   split at q
   ·rename_i xs ys e1 e2
    obtain⟨hl,q⟩:=q
    cases px with
    | @ref _ a hn=>
     cases py with
     | @ref _ a' hm=>
      obtain⟨z,hz,ob⟩:=rel.at e1
      rw[hn] at hz; cases hz
      obtain⟨z,hz,ob'⟩:=rel.at e2
      rw[hm] at hz; cases hz
      obtain⟨us,h1,p1⟩:=ob
      obtain⟨vs,h2,p2⟩:=ob'
      refine⟨a,a',us,vs,rfl,rfl,h1,h2,?_,λp hp=>?_⟩
      ·rw[← p1.1,← p2.1]; exact zkq hl
      ·obtain⟨rel4,x⟩:=rel.push hp (p1.app p2)
       exact ret _ _ _ (.ref S.length) _ x rel4 (zeH rel.len) q
   ·exact q.elim
  ·exact q.elim
theorem zox {n m:Nat}{S:Sto}{Q:DK}{xs ys:List D}(h1:S[n]?=some (.lst xs))(h2:S[m]?=some (.lst ys))(hl:xs.length+ys.length≤1000)(hq:Q (.ref S.length) (S++[.lst (xs++ys)])):zcN zlX (.ref n) (.ref m) S Q:=by
 rw[zdL]
 unfold zlX
 simp only[h1,h2]
 exact⟨hl,hq⟩
def MT (X:Cx)(m:Str)(tbl:List (Addr×Sd)):Prop:=∀C sd,(C,sd)∈tbl→Cls X.K C∧∃(f:Addr) (fd:FuncData) (k:Nat) (ps:List Str),zeU X.K C m f∧za1 X.prog X.w X.K X.mg X.base (CXE X.prog X.w) k f fd ps (upF X.K sd)∧zaN k X.A∧zbs X.K fd ps []
theorem zqF {m:Str}:MT X m []:=λ_ _ h=>by cases h
theorem zb8 {C:Addr}{m:Str}{k:Nat}{ps:List Str}{sd:Sd}{tbl:List (Addr×Sd)}(c:Cls X.K C)(G:Fm X.prog X.w X.K X.mg X.base k C m ps sd)(hr:zaN k X.A)(h:MT X m tbl):MT X m ((C,sd)::tbl):=λC' sd' hm=>by
 rcases Vam.mp hm with e | e
 ·cases e
  exact⟨c,G.f,G.fd,k,ps,G.m,G.ok,hr,G.b⟩
 ·exact h C' sd' e
theorem zwe {m:Str}{W:St→XK}{o e:Expr}{es:List Expr}{ta:TE}{t:TA}{apos:Pos}{pl:Sem Bool}{tbl:List (Addr×Sd)}(he:PE X o ta)(M:MT X m tbl)(hx:zcK X W)(ha:PA X (e::es) t)(hst:starEach (e::es) X.env=(false,eval e X.env)::starEach es X.env)(hpl:(backTo pos (starEach es X.env)).any (·.1)=false)
  (ht:eval (.Call (.Attribute o m apos) (e::es) [] pos) X.env=(do
   let ov ← eval o X.env
   standAt apos.atName
   let (f,first) ← holding [ov] (getMethod ov m pl)
   callWith pos f first (backTo pos (starEach (e::es) X.env)) (backToKw pos (keywordEach [] X.env)))):
  PE X (.Call (.Attribute o m apos) (e::es) [] pos) (λσ H Q=>ta σ H λx H1=>∃a C dx fs sd,x=.ref a∧H1 a=some (.ins C dx fs)∧(C,sd)∈tbl∧fs.lookup m=none∧t σ H1 λvs H2=>upF X.K sd (x::vs) H2 Q (W σ)):=by
 intro pins s σ H Q I h
 refine PySem.W.methodCall_KW (pl:=pl) (thn (he pins s σ H _ I h) λu s1 ⟨x,H1,I1,rx,a,C,dx,fs,sd,ex,ea,hm',l,q⟩=>?_) ht
 subst ex
 obtain rfl:u=Value.ref a:=rx
 obtain⟨c,f,fd,k,ps,hm,F,hr,hb⟩:=M C sd hm'
 refine zqg I1 ea c hm l ?_
 exact PySem.W.callWith_K (first:=[.ref a]) (h₀:=X.base) I.ok.mod.kin hm.kp (thn (ha pos pins s1 σ H1 _ I1 q) λus s2 ⟨vs,H2,I2,r,q2⟩=>⟨I2.kIn,zm7 (us:=.ref a::us) (vs:=.ref a::vs) F hr hb hx I2 (.cons rfl r) q2⟩) hst hpl
@[irreducible] def zkw (tbl:List (Addr×Sd))(m:Str)(ex:Ev→Addr→Sto→Prop)(to:TDE)(t:TDA):TDE:=λdl S Q=>to dl S λd S1=>∃n C fs sd,d=.ref n∧S1[n]?=some (.ins C fs)∧(C,sd)∈tbl∧fs.lookup m=none∧t dl S1 λds S2=>sd (d::ds) S2 Q (ex dl)
theorem zqL {m:Str}{o e:Expr}{es:List Expr}{to:TDE}{t:TDA}{apos:Pos}{pl:Sem Bool}{ex:Ev→Addr→Sto→Prop}{W:St→XK}{tbl:List (Addr×Sd)}(ho:PD X ⟨ex,W⟩ o to)(M:MT X m tbl)(hx:zcK X W)(ha:PDA X ⟨ex,W⟩ (e::es) t)
  (hst:starEach (e::es) X.env=(false,eval e X.env)::starEach es X.env:=by rfl)(hpl:(backTo pos (starEach es X.env)).any (·.1)=false:=by rfl)
  (ht:eval (.Call (.Attribute o m apos) (e::es) [] pos) X.env=(do
   let ov ← eval o X.env
   standAt apos.atName
   let (f,first) ← holding [ov] (getMethod ov m pl)
   callWith pos f first (backTo pos (starEach (e::es) X.env)) (backToKw pos (keywordEach [] X.env))):=by rfl):PD X ⟨ex,W⟩ (.Call (.Attribute o m apos) (e::es) [] pos) (zkw tbl m ex to t):=
 za4 (zwe ho M hx ha hst hpl ht) λσ H Qv ⟨r,dl,S,Q,rs,rel,h,ret⟩=>by
  unfold zkw at h
  refine⟨r,dl,S,_,rs,rel,h,λv H1 r1 d S1 e1 rel1 p1 q1=>?_⟩
  obtain⟨n,C,fs,sd,rfl,eS,hm,hl,q1⟩:=q1
  obtain⟨a,dx,fs',rfl,hr1,eH,fr⟩:=zqS (C:=C) (n:=n) (fs:=fs) rel1.b p1 (by simp only[zcG,eS,if_pos])
  exact⟨a,C,dx,fs',sd,rfl,eH,hm,fr.lookup.2 hl,r1,dl,S1,_,rs.ext e1,rel1,q1,λvs H2 r2 ds S2 e2 rel2 p2 q2=>zn8 (Z:=⟨ex,W⟩) (rs.ext (e1.trans e2)) rel2 (Rps.cons (p1.ext e2) p2) q2 (ret.ext (e1.trans e2))⟩
theorem zpQ {tbl:List (Addr×Sd)}{C:Addr}{m:Str}{ex:Ev→Addr→Sto→Prop}{sd:Sd}{to:TDE}{t:TDA}{dl:Ev}{S S1:Sto}{Q:DK}{n:Nat}{fs:List (Str×D)}(hto:∀K:DK,K (.ref n) S1→to dl S K)(h:S1[n]?=some (.ins C fs))(hm:(C,sd)∈tbl)(hf:fs.lookup m=none)(hq:t dl S1 λds S2=>sd (.ref n::ds) S2 Q (ex dl)):zkw tbl m ex to t dl S Q:=by
 unfold zkw
 exact hto _ ⟨n,C,fs,sd,rfl,h,hm,hf,hq⟩
structure Kx (K:PySem.W.Frag)(C:Addr):Prop where
 cl:Cls K C
 ha:PySem.W.findIn K (.ref C) "__class__"=some (some (.builtin "object.__class__"))
 hn:PySem.W.specialIn K (.builtin "object.__class__") "__get__"=some (some (.builtin "getset_descriptor.__get__"))
 ht:PySem.W.takesIn K (.builtin "object.__class__")=some true
 hm:PySem.W.mroIn K C (.type "object")=some true
def KT (K:PySem.W.Frag)(cv:Value)(ans:List (Addr×Bool)):Prop:=∀C b,(C,b)∈ans→PySem.W.kitOne K (.ref C) cv=some b∧Kx K C
end
section
variable {X:Cx}{Z:Zx}
end
section
variable {n:Nat}{I:Addr}{fp wr:List Addr}{P:Nat→Value→Prop}{St:Nat→Shared→Prop}{prog:Program}{w:World}{A:Around}{s:Shared}{E:Value→Shared→Prop}{G:Array GenState→Array GenState→Prop}
end
section
variable {X:Cx}{Z:Zx}
end
structure CompScG (sc around:Scope)(own caps:List Str):Prop where
 kind:sc.kind=.function
 nocell:∀y∈sc.names,y.2≠.cell
 own:∀y∈sc.names,y.2=.local→sc.names.lookup y.1=some .local
 cap:∀y∈caps,sc.names.lookup y=some .free
 out:∀y∈sc.names,y.2=.free→around.names.lookup y.1=some .cell
section
variable {X:Cx}{pins:List (Addr×Obj)}{σ:St}{H:Hp}{s:Shared}
end
section
variable {X:Cx}{elt iter:Expr}{elts:List Expr}{kk:Nat}{tp:Pos}{pos:Pos}{sc:Scope}{own N:List Str}{caps:List Nat}{wi:TI}{gt:TG}{te:TE}
end
section
variable {X:Cx}{Z:Zx}{elt:Expr}{pos:Pos}{sc ar:Scope}{N:List Str}{caps:List Nat}
end
section
variable {X:Cx}{Z:Zx}{pos:Pos}
end
section
variable {X:Cx}{Z:Zx}
end
section
variable {X:Cx}{Z:Zx}{pos:Pos}
theorem zmd:∀ {us:List Value} {ms:List Int},IntsAre us ms→zay (ms.map V.int) us
 | _,_,.nil=>.nil
 | _,_,.cons n t h=>.cons ⟨t,rfl⟩ (zmd h)
end
section
variable {X:Cx}{Z:Zx}{elt:Expr}{pos:Pos}{sc ar:Scope}{N:List Str}{caps:List Nat}
end
section
variable {X:Cx}{Z:Zx}{pos:Pos}
end
section
variable {n:Nat}{I:Addr}{fp wr:List Addr}{P:Nat→Value→Prop}{St:Nat→Shared→Prop}{prog:Program}{w:World}{A:Around}{s:Shared}{E:Value→Shared→Prop}{G:Array GenState→Array GenState→Prop}
end
section
variable {X:Cx}{Z:Zx}{pos:Pos}
end
section
variable {X:Cx}{Z:Zx}{pos:Pos}
theorem Rps.ins {r:List Addr}{H:Hp}{y:D}{w:V}(hy:Rp r H y w):∀ {ds:List D} {xs:List V} (k:Nat),Rps r H ds xs→Rps r H (ds.take k++y::ds.drop k) (xs.take k++w::xs.drop k)
 | [],xs,k,h=>by
  have z:=h.unnil
  subst z
  simpa using Rps.cons hy h
 | d::ds,xs,0,h=>Rps.cons hy h
 | d::ds,xs,k+1,h=>by
  obtain⟨v,vs,rfl,p1,p2⟩:=h.uncons
  exact Rps.cons p1 (Rps.ins hy k p2)
theorem zoG {P:Sto→D→D→Prop}{A:Around}{H:Hp}{s:Shared}{r:List Addr}{S:Sto}{ds es:List D}{xs ys:List V}{is js:List Value}(f:∀ {d e:D} {v1 v2:V} {u1 u2:Value},P S d e→Rp r H d v1→Rp r H e v2→zav v1 u1→zav v2 u2→SeqAt.EqAt A s u1 u2 true)(pr:Rps r H ds xs)(pr':Rps r H es ys)(ri:zay xs is)(rj:zay ys js)(hall:∀(k:Nat) (d e:D),ds[k]?=some d→es[k]?=some e→P S d e):
  ∀(k:Nat) (h1:k<is.toArray.size) (h2:k<js.toArray.size),SeqAt.EqAt A s is.toArray[k] js.toArray[k] true:=λk h1 h2=>by
 have l3:=ri.length
 have l4:=rj.length
 have k1:k<is.length:=by simpa using h1
 have k2:k<js.length:=by simpa using h2
 obtain⟨d,hd,pd⟩:=pr.get' (Vaf (l:=xs) (i:=k) (by omega))
 obtain⟨e,he,pe⟩:=pr'.get' (Vaf (l:=ys) (i:=k) (by omega))
 obtain⟨u1,hu1,ru1⟩:=ri.get (Vaf (l:=xs) (i:=k) (by omega))
 obtain⟨u2,hu2,ru2⟩:=rj.get (Vaf (l:=ys) (i:=k) (by omega))
 have z1:is.toArray[k]=u1:=by
  rw[Vaf k1] at hu1
  simpa using Option.some.inj hu1
 have z2:js.toArray[k]=u2:=by
  rw[Vaf k2] at hu2
  simpa using Option.some.inj hu2
 rw[z1,z2]
 exact f (hall k d e hd he) pd pe ru1 ru2
end
section
variable {X:Cx}{Z:Zx}{elt iter:Expr}{elts:List Expr}{kk:Nat}{tp pos:Pos}{sc ar:Scope}{own N:List Str}{caps:List Nat}{wi:TI}{gt:TG}
end
section
variable {X:Cx}{Z:Zx}
end
section
variable {X:Cx}{Z:Zx}{pos:Pos}
end
end L3
namespace L2
open PySem PySem.Spec PyProof.Rows
def Itd (lo:Int)(n:Nat):It:=⟨λi _=>i<n,λi H x H'=>H'=H∧x=.int (lo-i),λi _=>n≤i⟩
theorem zvh {P:Program}{w:World}{K:PySem.W.Frag}{tg:Expr}(it:Addr)(lo:Int)(n:Nat):zeu P w K tg (Itd lo n) [it] it (λi h=>IsRangeIter h it (lo+(i:Nat)*(-1)) ((n:Int)-(i:Nat)) (-1)) where
 mem:=VaJ.mpr rfl
 obj:=λi h st b hb=>by
  cases VaJ.mp hb
  refine⟨_,st,λv z=>?_⟩
  have z':Data.fields _=Data.cell v:=z
  cases z'
 keep:=λi h h' st k=>k it (VaJ.mpr rfl) _ st
 item:=by
  intro X hP hw hK hc i pins s σ H E I hf st hg
  subst hP hw hK
  obtain⟨f0,f1,f2,f3,f4,f5⟩:=hf it (VaJ.mpr rfl)
  have W:=Walks.range (prog:=X.prog) (w:=X.w) (I.ok.hd hc) it lo (-1) n
  refine W.item i s _ _ hg st λv h' tk hv st' kk=>?_
  obtain⟨t,rfl⟩:=hv
  have I1:Inv X pins σ H { s with heap:=h',toks:=tk }:=I.turned (λb o hb e=>kk b o (λz=>hb (VaJ.mp z)) e) f0 f1 f3 f4 f5
  have ev:lo+(i:Int)*(-1)=lo-(i:Int):=by omega
  exact⟨_,rfl,zls (s:={ s with heap:=h',toks:=tk }) (n:="range_iterator") st' rfl rfl (by decide) ⟨.int (lo-i),H,I1,⟨t,by rw[ev]⟩,⟨rfl,rfl⟩,st',λb hb=>(hf b hb).1⟩⟩
 done:=by
  intro X hP hw hK hc i pins s σ H E I hf st hg
  subst hP hw hK
  obtain⟨f0,f1,f2,f3,f4,f5⟩:=hf it (VaJ.mpr rfl)
  have hg':n≤i:=hg
  exact wpAny_pyNext_range_end (I.ok.hd hc) st (by omega) λh' eb=>⟨rfl,I.turned (t':=s.toks) (λb o hb e=>eb b o hb e) f0 f1 f3 f4 f5⟩
 self:=λ_ _ _ _ _ st h=>wpAny_pyIter_rangeiter st h
section
variable {X:Cx}{tg:Expr}
theorem zwP {pins:List (Addr×Obj)}{σ:St}{H:Hp}{s:Shared}{R:It→Hp→Prop}{E:Value→Shared→Prop}{lo hi:Int}{t u v:Tok}{tk:Nat}(I:Inv X pins σ H s)(h1:-(2^62)≤lo)(h2:lo<2^62)(h3:-(2^62)≤hi)(h4:hi<2^62)
  (q:R (Itd lo (lo-hi).toNat) H):wpAny (model X.prog X.w) X.A (pyIter (.ref s.heap.objs.size)) (PIE X pins σ tg R) E { s with heap:=s.heap.push { cls:=.type "range",data:=.fields #[.int lo t,.int hi u,.int (-1) v] },toks:=tk }:=by
 have I1:Inv X pins σ H { s with heap:=s.heap.push { cls:=.type "range",data:=.fields #[.int lo t,.int hi u,.int (-1) v] },toks:=tk }:=I.kept λb o e=>Heap.get?_push_of_some _ e
 refine wpAny_pyIter_range (IsRange.new ..) (PySem.W.small_down h1 h2 h3 h4) ?_
 refine⟨(s.heap.push { cls:=.type "range",data:=.fields #[.int lo t,.int hi u,.int (-1) v] }).objs.size,[(s.heap.push { cls:=.type "range",data:=.fields #[.int lo t,.int hi u,.int (-1) v] }).objs.size],_,_,H,rfl,
  I1.kept (t':=tk) λb o e=>Heap.get?_push_of_some _ e,zvh _ lo (lo-hi).toNat,?_,λb hb=>?_,q⟩
 ·show IsRangeIter _ _ (lo+((0:Nat):Int)*(-1)) ((((lo-hi).toNat:Nat):Int)-((0:Nat):Int)) (-1)
  rw[show lo+((0:Nat):Int)*(-1)=lo by simp,show (((lo-hi).toNat:Nat):Int)-((0:Nat):Int)=Builtin.Range.rangeSize lo hi (-1) by rw[PySem.W.rangeSize_downNat]; simp]
  exact Heap.get?_push_size _ rfl
 ·cases VaJ.mp hb
  exact I1.fpOk (Vaa _) (I1.hok.fresh (Vaa _))
def iRngD (ta:TA):TI:=λσ H R=>ta σ H λvs H1=>∃i j:Int,vs=[.int i,.int j,.int (-1)]∧(-(2^62)≤i∧i<2^62∧-(2^62)≤j∧j<2^62)∧R (Itd i (i-j).toNat) H1
theorem zwL {a b c:Expr}{ta:TA}{p pos:Pos}(hg:Gl X "range")(hm:X.mg "range"=none)(ha:PA X [a,b,c] ta)(hs:starEach [a,b,c] X.env=[(false,eval a X.env),(false,eval b X.env),(false,eval c X.env)]:=by rfl)(hs2:starEach [b,c] X.env=[(false,eval b X.env),(false,eval c X.env)]:=by rfl):
  PI X tg (.Call (.Name "range" p) [a,b,c] [] pos) (iRngD ta):=by
 intro pins s σ H R I h
 refine Call_ (zfe I hg hm boot_range (PyProof.Rows.callWith_type1 (thn (ha pos pins s σ H _ I h) λus s1 ⟨vs,H1,I1,r1,q1⟩=>?_) (by rw[hs,hs2]) (by rw[hs2]; rfl)))
 obtain⟨i,j,e,⟨q1,q2,q3,q4⟩,q⟩:=q1
 subst e
 cases r1 with
 | cons r rr=>
  cases rr with
  | cons r' rr=>
   cases rr with
   | cons r2 rr=>
    cases rr
    obtain⟨t,rfl⟩:=r
    obtain⟨t',rfl⟩:=r'
    obtain⟨t2,rfl⟩:=r2
    exact call_range_3 (by decide) (zwP I1 q1 q2 q3 q4 q) (.inl (PyProof.noPylong_small (by omega)))
end
end L2
namespace L3
open PySem PySem.Spec PyProof.Rows L2
section
variable {X:Cx}{Z:Zx}{pos:Pos}
def zwN (i:Nat)(ta:TDA)(tb:TDS):TDS:=λE dl S=>ta dl S λds S1=>match ds with
 | [.int lo,.int hi,.int st]=>st=-1∧(-(2^62)≤lo∧lo<2^62∧-(2^62)≤hi∧hi<2^62)∧∃W:Nat→Ev→Sto→Prop,W 0 dl S1∧∀k dl S,W k dl S→
   if k<(lo-hi).toNat then tb { nx:=λdl' S'=>W (k+1) dl' S',rt:=E.rt,bk:=E.nx,ct:=λdl' S'=>W (k+1) dl' S' } (dl.set i (some (.int (lo-k)))) S else E.nx dl S
 | _=>False
theorem zvd {i:Nat}{x:Str}{pos2 pos' p:Pos}{a b c:Expr}{body:List Stmt}{ta:TDA}{tb:TDS}(hp:PassesOwn (model X.prog X.w) X.A X.env X.xe)(hc:X.calm=true)(hN:X.N.Nodup)(hi:X.N[i]?=some x)(hx:Loc X.env.scope x)
  (hg:Gl X "range")(hm:X.mg "range"=none)(ha:PDA X Z [a,b,c] ta)(hb:zbW X Z body tb)(hf:X.fn x=true∨X.env.scope.names.lookup x=some .local:=by first | exact .inl rfl | exact .inr rfl | assumption)
  (hs:∀y,foldedSetIterable (.Call (.Name "range" p) [a,b,c] [] pos) X.env y=pure y:=by intro _; rfl)(hst:starEach [a,b,c] X.env=[(false,eval a X.env),(false,eval b X.env),(false,eval c X.env)]:=by rfl)(hst2:starEach [b,c] X.env=[(false,eval b X.env),(false,eval c X.env)]:=by rfl):
  PDS X Z (.For (.Name x pos') (.Call (.Name "range" p) [a,b,c] [] pos) body [] pos2) (zwN i ta tb):=
 zbG (zha hp hc (zwL hg hm ha hst hst2) (zeV hN hi hx hf) hb hs) λF σ H ⟨r,dl,S,E,rs,rel,h,ret⟩=>by
  refine⟨r,dl,S,_,rs,rel,h,λvs H1 r1 ds S1 x1 rel1 p1 q1=>?_⟩
  split at q1
  ·rename_i lo hi st
   obtain⟨v,vs',rfl,p2,p3⟩:=p1.uncons
   obtain⟨v2,vs2,rfl,p4,p5⟩:=p3.uncons
   obtain⟨v3,vs3,rfl,p6,p7⟩:=p5.uncons
   have z:=p7.unnil
   subst z
   cases p2
   cases p4
   cases p6
   obtain⟨e3,bds,W,w0,turn⟩:=q1
   subst e3
   refine⟨lo,hi,rfl,bds,λk m σ' H'=>m=(lo-hi).toNat-k∧∃r' dl' S',Ext r1 r' H1 H'∧Rs r' H' dl' σ'∧Rel X.K Z r' S' H'∧W k dl' S',⟨(lo-hi).toNat,by simp,r1,dl,S1,Ext.refl,rs.ext x1,rel1,w0⟩,?_⟩
   rintro k m σ2 H2 ⟨em,r2,dl2,S2,x2,rs2,rel2,w2⟩
   have q:=turn k dl2 S2 w2
   split at q
   ·rename_i hk
    have go:∀σ' H' r' dl' S',Ext r2 r' H2 H'→Rs r' H' dl' σ'→Rel X.K Z r' S' H'→W (k+1) dl' S'→∃r' dl' S',Ext r1 r' H1 H'∧Rs r' H' dl' σ'∧Rel X.K Z r' S' H'∧W (k+1) dl' S':=
     λσ' H' r' dl' S' x rs' rel' w'=>⟨r',dl',S',x2.trans x,rs',rel',w'⟩
    have pk:Rp r2 H2 (.int (lo-(k:Int))) (.int (lo-(k:Int))):=.int _
    refine .inr ⟨hk,λσ' H'=>∃r' dl' S',Ext r1 r' H1 H'∧Rs r' H' dl' σ'∧Rel X.K Z r' S' H'∧W (k+1) dl' S',λσ' H' z=>⟨(lo-hi).toNat-(k+1),by omega,rfl,z⟩,λv' H' y'=>?_⟩
    obtain⟨eH,y'⟩:=y'
    subst eH
    subst y'
    exact⟨r2,_,S2,_,rs2.set i pk,rel2,q,go,λσ' H' r' dl' S' x rs' rel' z=>ret.nx σ' H' r' dl' S' (x1.trans (x2.trans x)) rs' rel' z,go,ret.rt.ext (x1.trans x2)⟩
   ·rename_i hk
    exact .inl ⟨by show (lo-hi).toNat≤k; omega,ret.nx σ2 H2 r2 dl2 S2 (x1.trans x2) rs2 rel2 q⟩
  ·exact q1.elim
end
end L3
set_option Elab.async false
set_option linter.all false
set_option maxRecDepth 100000
set_option maxHeartbeats 40000000
namespace Mine
open PySem PySem.Spec PyProof.Rows L2 L3
theorem fsc {N P:List Str}{sc:Scope}(a:sc.kind=.function:=by rfl)(b:sc.isCoroutine=false:=by rfl)(c:sc.isGenerator=false:=by rfl)(d:N.Nodup:=by decide +kernel)(e:N.take P.length=P:=by rfl)(f:∀x∈P,sc.names.lookup x=some .local∨sc.names.lookup x=some .cell:=by decide +kernel)(g:∀y∈sc.names,y.2≠.free:=by decide +kernel):zat N P sc:=⟨a,b,c,d,e,f,g⟩
theorem csc {sc ar:Scope}{x:Str}{caps:List Str}(a:sc.kind=.function:=by rfl)(b:∀y∈sc.names,y.2≠.cell:=by decide +kernel)(c:∀y∈sc.names,y.2=.local→sc.names.lookup y.1=some .local:=by decide +kernel)(d:sc.names.lookup x=some .local:=by rfl)(e:∀y∈caps,sc.names.lookup y=some .free:=by decide +kernel)(f:∀y∈sc.names,y.2=.free→ar.names.lookup y.1=some .cell:=by decide +kernel):zdq sc ar x caps:=⟨a,b,c,d,e,f⟩
abbrev Ln (sp:Sd)(n:Nat):Prop:=∀ds S Q ex,sp ds S Q ex→ds.length=n
theorem zao {X:Cx}{x:Str}{p pos:Pos}{e:Expr}{es:List Expr}{t:TDA}{k j:Nat}{ps:List Str}{sd:Sd}{ex:Ev→Addr→Sto→Prop}(G:Fk X.prog X.w X.K X.mg X.base k x ps sd)(hr:zaN j X.A)(ha:PDA X ⟨ex,Z0.w⟩ (e::es) t)(hk:k≤j:=by decide)(hg:Gl X x:=by rfl)
  (hdb:(x==("__debug__":Str))=false:=by decide)(he:starEach (e::es) X.env=(false,eval e X.env)::starEach es X.env:=by rfl)(hpl:(backTo pos (starEach es X.env)).any (·.1)=false:=by rfl):PD X ⟨ex,Z0.w⟩ (.Call (.Name x p) (e::es) [] pos) (zkl ex sd t):=zos G (hr.mono hk) zcs hg ha hdb he hpl
abbrev zlU:Stmt:=top 59
abbrev zhM:List Str:=["_law_cell_here"]
theorem zqy:zat ["_law_cell_here","_law_c"] zhM (zaq zlU):=fsc
abbrev zh4:Stmt:=top 57
abbrev zfW:List Str:=["_law_a","_law_b"]
theorem zlO:zat ["_law_a","_law_b","_law_rest"] zfW (zaq zh4):=fsc
abbrev zmD:Stmt:=top 58
abbrev zd2:List Str:=["_law_top","_law_bottom"]
theorem zp4:zat ["_law_top","_law_bottom","_law_shared"] zd2 (zaq zmD):=fsc
abbrev ziM:Stmt:=top 68
abbrev zfv:List Str:=["_law_box","_law_grid_here","_law_cell_here"]
theorem zdA:zat ["_law_box","_law_grid_here","_law_cell_here","_law_point_here","_law_c","_law_span_here","_law_whole_here","_law_part"] zfv (zaq ziM):=fsc
abbrev zmw:Stmt:=top 62
abbrev zg1:List Str:=["_law_cell_here"]
theorem zlt:zat ["_law_cell_here","_law_c","_law_made"] zg1 (zaq zmw):=fsc
abbrev zmK:Stmt:=top 63
abbrev zfC:List Str:=["_law_cell_here","_law_size","_law_many"]
theorem zd6:zat ["_law_cell_here","_law_size","_law_many","_law_c","_law_kind","_law_one"] zfC (zaq zmK):=fsc
abbrev zkb:Stmt:=top 64
abbrev zg7:List Str:=["_law_node_here","_law_weights"]
theorem zvZ:zat ["_law_node_here","_law_weights"] zg7 (zaq zkb):=fsc
abbrev zeq:Stmt:=top 65
abbrev zfG:List Str:=["_law_cells","_law_many","_law_ahead","_law_heavy","_law_most"]
theorem zd0:zat ["_law_cells","_law_many","_law_ahead","_law_heavy","_law_most","_law_nodes","_law_weights","_law_cell_here","_law_node_here","_law_weight_here"] zfG (zaq zeq):=fsc
abbrev zli:Stmt:=top 71
abbrev zhD:List Str:=["_law_nodes","_law_node_here"]
theorem zwp:zat ["_law_nodes","_law_node_here"] zhD (zaq zli):=fsc
abbrev ziR:Stmt:=top 61
abbrev zfP:List Str:=["_law_a","_law_many"]
theorem zkJ:zat ["_law_a","_law_many","_law_found","_law_turn"] zfP (zaq ziR):=fsc
abbrev zjv:Stmt:=top 66
abbrev zg5:List Str:=["_law_node_here","_law_values","_law_point_here"]
theorem znv:zat ["_law_node_here","_law_values","_law_point_here","_law_a","_law_b"] zg5 (zaq zjv):=fsc
abbrev zku:Stmt:=top 67
abbrev zeJ:List Str:=["_law_nodes","_law_point_here"]
theorem zny:zat ["_law_nodes","_law_point_here","_law_values","_law_node_here"] zeJ (zaq zku):=fsc
abbrev zkc:Stmt:=top 72
abbrev zhN:List Str:=["_law_nodes","_law_point_here","_law_at","_law_cell_here"]
theorem zc4:zat ["_law_nodes","_law_point_here","_law_at","_law_cell_here","_law_c","_law_k","_law_a","_law_one","_law_far","_law_number_here"] zhN (zaq zkc):=fsc
abbrev zkB:Stmt:=top 73
abbrev zhz:List Str:=["_law_nodes","_law_point_here","_law_first","_law_cell_here"]
theorem zpJ:zat ["_law_nodes","_law_point_here","_law_first","_law_cell_here","_law_at"] zhz (zaq zkB):=fsc
abbrev zin:Stmt:=top 40
abbrev zgG:List Str:=["word","span"]
theorem zra:zat ["word","span"] zgG (zaq zin):=fsc
abbrev zmi:Stmt:=top 6
abbrev zhR:List Str:=["a","b"]
theorem zuB:zat ["a","b"] zhR (zaq zmi):=fsc
abbrev zic:Stmt:=top 8
abbrev zds:List Str:=["top","bottom"]
theorem zte:zat ["top","bottom"] zds (zaq zic):=fsc
abbrev zkr:Stmt:=top 9
abbrev zfK:List Str:=["low","high","grid"]
theorem zuQ:zat ["low","high","grid"] zfK (zaq zkr):=fsc
abbrev zik:Stmt:=zaJ (top 30) 2
abbrev zfR:List Str:=["self","spans","box","grid"]
theorem zpn:zat ["self","spans","box","grid","number"] zfR (zaq zik):=fsc
abbrev ziN:Stmt:=zaJ (top 31) 2
abbrev zgl:List Str:=["self","spans","box","grid"]
theorem zxd:zat ["self","spans","box","grid"] zgl (zaq ziN):=fsc
abbrev zit:Stmt:=top 10
abbrev zeI:List Str:=["a","b"]
theorem zr0:zat ["a","b"] zeI (zaq zit):=fsc
abbrev zij:Stmt:=zaJ (top 33) 1
abbrev zgU:List Str:=["self","spans","box","grid"]
theorem zsi:zat ["self","spans","box","grid"] zgU (zaq zij):=fsc
abbrev zkE:Stmt:=top 11
abbrev zdy:List Str:=["a","b"]
theorem zsp:zat ["a","b"] zdy (zaq zkE):=fsc
abbrev zmu:Stmt:=zaJ (top 34) 1
abbrev zf2:List Str:=["self","spans","box","grid"]
theorem zux:zat ["self","spans","box","grid"] zf2 (zaq zmu):=fsc
abbrev zlH:Stmt:=top 12
abbrev zfT:List Str:=["a","b","grid"]
theorem zpX:zat ["a","b","grid","products"] zfT (zaq zlH):=fsc
abbrev zmI:Stmt:=zaJ (top 35) 1
abbrev zfO:List Str:=["self","spans","box","grid"]
theorem ztI:zat ["self","spans","box","grid"] zfO (zaq zmI):=fsc
abbrev zlk:Stmt:=top 5
abbrev zcM:List Str:=["number","many"]
theorem zj0:zat ["number","many","worth","step"] zcM (zaq zlk):=fsc
abbrev zht:Stmt:=top 13
abbrev zhq:List Str:=["a","many","grid"]
theorem zj8:zat ["a","many","grid","places","powers","bottom"] zhq (zaq zht):=fsc
abbrev zjt:Stmt:=zaJ (top 36) 2
abbrev zfZ:List Str:=["self","spans","box","grid"]
theorem zq9:zat ["self","spans","box","grid"] zfZ (zaq zjt):=fsc
abbrev ziX:Stmt:=zaJ (top 36) 0
abbrev zf3:List Str:=["self","one","many"]
theorem zsh:zat ["self","one","many"] zf3 (zaq ziX):=fsc
abbrev zkF:Stmt:=zaJ (top 30) 0
abbrev zgM:List Str:=["self","top","bottom"]
theorem zwK:zat ["self","top","bottom"] zgM (zaq zkF):=fsc
abbrev zjl:Stmt:=zaJ (top 31) 0
abbrev zfU:List Str:=["self","place"]
theorem zsD:zat ["self","place"] zfU (zaq zjl):=fsc
abbrev zkH:Stmt:=zaJ (top 32) 0
abbrev zfF:List Str:=["self","one","other"]
theorem zxu:zat ["self","one","other"] zfF (zaq zkH):=fsc
abbrev zk4:Stmt:=zaJ (top 32) 0
abbrev zhk:List Str:=["self","one","other"]
theorem zvO:zat ["self","one","other"] zhk (zaq zk4):=fsc
abbrev zh8:Stmt:=zaJ (top 32) 0
abbrev zgw:List Str:=["self","one","other"]
theorem zw3:zat ["self","one","other"] zgw (zaq zh8):=fsc
abbrev zlj:Stmt:=top 37
abbrev zeN:List Str:=["node"]
theorem zrw:zat ["node"] zeN (zaq zlj):=fsc
abbrev ziO:Stmt:=top 39
abbrev zeW:List Str:=["nodes","box","grid"]
theorem znK:zat ["nodes","box","grid","found","node"] zeW (zaq ziO):=fsc
abbrev zjM:Stmt:=top 47
abbrev zfl:List Str:=["nodes","row","box","grid"]
theorem zpH:zat ["nodes","row","box","grid","at"] zfl (zaq zjM):=fsc
abbrev zid:Stmt:=top 14
abbrev zcS:List Str:=["a","b"]
theorem zno:zat ["a","b","low","high"] zcS (zaq zid):=fsc
abbrev zmE:Stmt:=top 42
abbrev zhE:List Str:=["word","span"]
theorem zvo:zat ["word","span"] zhE (zaq zmE):=fsc
abbrev zmk:Stmt:=zaJ (top 30) 3
abbrev zgC:List Str:=["self","spans","here","grid"]
theorem zt9:zat ["self","spans","here","grid"] zgC (zaq zmk):=fsc
abbrev zlQ:Stmt:=zaJ (top 31) 3
abbrev zhG:List Str:=["self","spans","here","grid"]
theorem zu9:zat ["self","spans","here","grid"] zhG (zaq zlQ):=fsc
abbrev zkL:Stmt:=zaJ (top 33) 2
abbrev zf1:List Str:=["self","here","x","y","grid"]
theorem zxf:zat ["self","here","x","y","grid"] zf1 (zaq zkL):=fsc
abbrev zma:Stmt:=zaJ (top 33) 3
abbrev zho:List Str:=["self","here","x","y","grid"]
theorem zxq:zat ["self","here","x","y","grid"] zho (zaq zma):=fsc
abbrev zlD:Stmt:=zaJ (top 32) 1
abbrev zgt:List Str:=["self","spans","here","grid"]
theorem zk2:zat ["self","spans","here","grid","x","y"] zgt (zaq zlD):=fsc
abbrev zk3:Stmt:=zaJ (top 34) 2
abbrev zgx:List Str:=["self","here","x","y","grid"]
theorem zxV:zat ["self","here","x","y","grid"] zgx (zaq zk3):=fsc
abbrev ziJ:Stmt:=zaJ (top 34) 3
abbrev zf9:List Str:=["self","here","x","y","grid"]
theorem zw2:zat ["self","here","x","y","grid"] zf9 (zaq ziJ):=fsc
abbrev zkn:Stmt:=zaJ (top 32) 1
abbrev zgc:List Str:=["self","spans","here","grid"]
theorem zmN:zat ["self","spans","here","grid","x","y"] zgc (zaq zkn):=fsc
abbrev zmv:Stmt:=top 17
abbrev zgy:List Str:=["span"]
theorem zvi:zat ["span"] zgy (zaq zmv):=fsc
abbrev zj1:Stmt:=top 20
abbrev zfj:List Str:=["x","low","high"]
theorem zw1:zat ["x","low","high"] zfj (zaq zj1):=fsc
abbrev zlY:Stmt:=top 21
abbrev zhA:List Str:=["top","bottom"]
theorem zvV:zat ["top","bottom"] zhA (zaq zlY):=fsc
abbrev zmF:Stmt:=top 22
abbrev zg9:List Str:=["products","x","y"]
theorem zgH:zat ["products","x","y","low_by","high_by","low","high"] zg9 (zaq zmF):=fsc
abbrev zi3:Stmt:=top 15
abbrev zhB:List Str:=["a","b"]
theorem zsC:zat ["a","b"] zhB (zaq zi3):=fsc
abbrev zlb:Stmt:=top 19
abbrev zd4:List Str:=["one","other"]
theorem ztw:zat ["one","other"] zd4 (zaq zlb):=fsc
abbrev zkK:Stmt:=top 18
abbrev zdr:List Str:=["pair"]
theorem zvG:zat ["pair"] zdr (zaq zkK):=fsc
abbrev zir:Stmt:=top 23
abbrev zeA:List Str:=["z","x","y","grid"]
theorem zeG:zat ["z","x","y","grid","products","left","turned"] zeA (zaq zir):=fsc
abbrev zl2:Stmt:=zaJ (top 35) 2
abbrev zfz:List Str:=["self","here","x","y","grid"]
theorem zxC:zat ["self","here","x","y","grid"] zfz (zaq zl2):=fsc
abbrev zko:Stmt:=zaJ (top 35) 3
abbrev zgi:List Str:=["self","here","x","y","grid"]
theorem zuL:zat ["self","here","x","y","grid"] zgi (zaq zko):=fsc
abbrev zmo:Stmt:=zaJ (top 32) 1
abbrev zf5:List Str:=["self","spans","here","grid"]
theorem zl1:zat ["self","spans","here","grid","x","y"] zf5 (zaq zmo):=fsc
abbrev zmj:Stmt:=top 25
abbrev zgJ:List Str:=["guess","number","many"]
theorem ztM:zat ["guess","number","many"] zgJ (zaq zmj):=fsc
abbrev zjp:Stmt:=top 24
abbrev zfq:List Str:=["number","many"]
theorem zhK:zat ["number","many","guess","better"] zfq (zaq zjp):=fsc
abbrev zfQ:Stmt:=top 26
abbrev zcT:List Str:=["number","many"]
theorem zj2:zat ["number","many","below"] zcT (zaq zfQ):=fsc
abbrev zlS:Stmt:=top 27
abbrev zfA:List Str:=["z","x","many","grid"]
theorem zhL:zat ["z","x","many","grid","scale","powers","low","high"] zfA (zaq zlS):=fsc
abbrev zh1:Stmt:=zaJ (top 36) 3
abbrev zgS:List Str:=["self","spans","here","grid"]
theorem zpz:zat ["self","spans","here","grid","x"] zgS (zaq zh1):=fsc
abbrev zjd:Stmt:=top 43
abbrev zgE:List Str:=["nodes","row","box","grid"]
theorem zdP:zat ["nodes","row","box","grid","at","spans","wished","number","left","part"] zgE (zaq zjd):=fsc
abbrev zi2:Stmt:=top 44
abbrev zgj:List Str:=["nodes","row","box","grid"]
theorem zhj:zat ["nodes","row","box","grid","spans","left","number","span","node"] zgj (zaq zi2):=fsc
abbrev zjc:Stmt:=top 46
abbrev zhe:List Str:=["box","k","span"]
theorem zsM:zat ["box","k","span"] zhe (zaq zjc):=fsc
abbrev zii:Stmt:=top 48
abbrev zgK:List Str:=["span","cut"]
theorem ztt:zat ["span","cut"] zgK (zaq zii):=fsc
abbrev zh7:Stmt:=top 50
abbrev zhl:List Str:=["nodes","row","box","grid","cut"]
theorem zm2:zat ["nodes","row","box","grid","cut","k","span"] zhl (zaq zh7):=fsc
abbrev zlL:Stmt:=top 49
abbrev zgD:List Str:=["span","cut"]
theorem zso:zat ["span","cut"] zgD (zaq zlL):=fsc
abbrev zhV:Stmt:=top 51
abbrev zhO:List Str:=["nodes","row","box","grid"]
theorem zes:zat ["nodes","row","box","grid","left","wished","cuts","k","span","cut"] zhO (zaq zhV):=fsc
abbrev zie:Stmt:=top 53
abbrev zg4:List Str:=["_law_script","_law_k"]
theorem zvJ:zat ["_law_script","_law_k"] zg4 (zaq zie):=fsc
abbrev zlz:Stmt:=top 60
abbrev zf7:List Str:=["_law_cell_here"]
theorem zdc:zat ["_law_cell_here","_law_c","_law_way","_law_low","_law_wide"] zf7 (zaq zlz):=fsc
abbrev zhY:Stmt:=top 54
abbrev zej:List Str:=["_law_found"]
theorem zsO:zat ["_law_found"] zej (zaq zhY):=fsc
abbrev zmp:Stmt:=top 55
abbrev zgA:List Str:=["_law_found"]
theorem zrT:zat ["_law_found"] zgA (zaq zmp):=fsc
abbrev zig:Stmt:=top 56
abbrev zgB:List Str:=["_law_found","_law_many"]
theorem zoJ:zat ["_law_found","_law_many","_law_span_here"] zgB (zaq zig):=fsc
abbrev zl7:Stmt:=top 75
abbrev zfV:List Str:=["_law_found","_law_many"]
theorem zpv:zat ["_law_found","_law_many","_law_cut"] zfV (zaq zl7):=fsc
abbrev zjs:Stmt:=top 74
abbrev zg3:List Str:=["_law_nodes","_law_row","_law_point_here"]
theorem zpu:zat ["_law_nodes","_law_row","_law_point_here","_law_a"] zg3 (zaq zjs):=fsc
abbrev zla:Stmt:=top 76
abbrev zfM:List Str:=["_law_point_here","_law_cuts","_law_grid_here"]
theorem zmS:zat ["_law_point_here","_law_cuts","_law_grid_here","_law_cut","_law_a"] zfM (zaq zla):=fsc
abbrev zjP:Stmt:=top 69
abbrev zft:List Str:=["_law_a","_law_span_here","_law_grid_here"]
theorem zxc:zat ["_law_a","_law_span_here","_law_grid_here"] zft (zaq zjP):=fsc
abbrev zj4:Stmt:=top 70
abbrev zfB:List Str:=["_law_point_here","_law_box","_law_grid_here"]
theorem zps:zat ["_law_point_here","_law_box","_law_grid_here","_law_k"] zfB (zaq zj4):=fsc
abbrev zc0:Stmt:=top 77
abbrev zl6:List Str:=["_law_script"]
theorem zct:zat ["_law_script","_law_grid_here","_law_first","_law_many","_law_box","_law_points","_law_point_here","_law_nodes","_law_row","_law_found","_law_place"] zl6 (zaq zc0):=fsc
theorem kfo {K:PySem.W.Frag}{f c:Addr}{m:Value}{n q:Str}{st:Stmt}(l:K.lookup f=some (fo n q st m c)):PySem.W.keepIn K (.ref f)=true:=by
 unfold PySem.W.keepIn
 simp only[l]
theorem ifo {K:PySem.W.Frag}{f c:Addr}{m:Value}{n q:Str}{st:Stmt}(l:K.lookup f=some (fo n q st m c)):PySem.W.isFn K (.ref f)=true:=by
 unfold PySem.W.isFn PySem.W.typeIn
 simp only[l]
 rfl
theorem ln1 {P:List Value→Prop}(h:∀a,P [a]):∀us:List Value,us.length=1→P us
 | [a],_=>h a
theorem ln2 {P:List Value→Prop}(h:∀a b,P [a,b]):∀us:List Value,us.length=2→P us
 | [a,b],_=>h a b
theorem ln3 {P:List Value→Prop}(h:∀a b c,P [a,b,c]):∀us:List Value,us.length=3→P us
 | [a,b,c],_=>h a b c
theorem ln4 {P:List Value→Prop}(h:∀a b c d,P [a,b,c,d]):∀us:List Value,us.length=4→P us
 | [a,b,c,d],_=>h a b c d
theorem ln5 {P:List Value→Prop}(h:∀a b c d e,P [a,b,c,d,e]):∀us:List Value,us.length=5→P us
 | [a,b,c,d,e],_=>h a b c d e
abbrev Bn (n q:Str)(st:Stmt)(ps:List Str):Prop:=∀(kV doc pm:Value) (an:Option Addr) (cdv ct:Value) (us:List Value),us.length=ps.length→bindArgs (PySem.W.fnOf n q (zdJ st) (zcW st) (zaq st) .none kV doc pm an cdv ct) ⟨us,[]⟩=pure (ps.zip us)
def dfo {K:PySem.W.Frag}{mg:Str→Option Value}{h:Heap}(X:K.In h)(G:h.Ns mainGlobals mg){n:Str}{st:Stmt}{f c:Addr}{m:Value}{ps:List Str}(a:PySem.W.nsIn K mainGlobals n=some (some (.ref f)))(l:K.lookup f=some (fo n n st m c))(e:PySem.W.codeIn K (.ref c) n=true)(b:Bn n n st ps):Df K mg n st ps:=⟨_,_,ziC (st:=st) l e (kfo l),PySem.W.mg_of X G a,(ziC (st:=st) l e (kfo l)).binds b⟩
def dmo {K:PySem.W.Frag}{C:Addr}{n q:Str}{st:Stmt}{f c:Addr}{m:Value}{ps:List Str}(a:PySem.W.findIn K (.ref C) n=some (some (.ref f)))(l:K.lookup f=some (fo n q st m c))(e:PySem.W.codeIn K (.ref c) q=true)(b:Bn n q st ps):Dm K C n q st ps:=⟨_,_,ziC (st:=st) l e (kfo l),⟨a,ifo l,kfo l⟩,(ziC (st:=st) l e (kfo l)).binds b⟩
abbrev nsA (K:PySem.W.Frag)(n:Str)(f:Addr):Prop:=PySem.W.nsIn K mainGlobals n=some (some (.ref f))
abbrev fdA (K:PySem.W.Frag)(C:Addr)(n:Str)(f:Addr):Prop:=PySem.W.findIn K (.ref C) n=some (some (.ref f))
abbrev lkA (K:PySem.W.Frag)(f:Addr)(n q:Str)(st:Stmt)(m:Value)(c:Addr):Prop:=K.lookup f=some (fo n q st m c)
abbrev cdA (K:PySem.W.Frag)(c:Addr)(q:Str):Prop:=PySem.W.codeIn K (.ref c) q=true
theorem zaM {C:Addr}{f:Str}{to:TDE}{dl:Ev}{S S1:Sto}{Q:DK}{n:Nat}{fs:List (Str×D)}{v:D}(hto:∀K:DK,K (.ref n) S1→to dl S K)(h:S1[n]?=some (.ins C fs))(hf:fs.lookup f=some v)(hq:Q v S1):zmn C f to dl S Q:=by
 unfold zmn
 refine hto _ ?_
 simp only[zcG,h,if_pos,hf]
 exact hq
theorem zcq {C:Addr}{f:Str}{to te:TDE}{dl:Ev}{S S1 S2:Sto}{E:zcC}{n:Nat}{fs:List (Str×D)}{v:D}(hte:∀K:DK,K v S1→te dl S K)(hto:∀K:DK,K (.ref n) S2→to dl S1 K)(h:S2[n]?=some (.ins C fs))(hl:fs.length<1000)(hq:E.nx dl (S2.set n (.ins C (zfa f v fs)))):zmc C f to te E dl S:=by
 unfold zmc
 refine hte _ (hto _ ?_)
 simp only[zcG,h,if_pos]
 exact⟨hl,hq⟩
theorem zc1 {C:Addr}{m:Str}{ex:Ev→Addr→Sto→Prop}{sd:Sd}{to:TDE}{t:TDA}{dl:Ev}{S S1:Sto}{Q:DK}{n:Nat}{fs:List (Str×D)}(hto:∀K:DK,K (.ref n) S1→to dl S K)(h:S1[n]?=some (.ins C fs))(hf:fs.lookup m=none)(hq:t dl S1 λds S2=>sd (.ref n::ds) S2 Q (ex dl)):zh6 C m ex sd to t dl S Q:=by
 unfold zh6
 refine hto _ ?_
 simp only[zcG,h,if_pos]
 exact⟨hf,hq⟩
theorem zqj {te:TDE}{dl:Ev}{S:Sto}{Q:DK}{n:Nat}{xs:List D}(ht:∀K:DK,K (.ref n) S→te dl S K)(h:S[n]?=some (.lst xs))(hq:Q (.bl true) S):zje "list" te dl S Q:=by
 unfold zje
 refine ht _ ?_
 simp only[h]
 exact hq
theorem zfH {to ti te:TDE}{dl:Ev}{S:Sto}{E:zcC}{n j:Nat}{k:Int}{xs:List D}{v:D}(hte:∀K:DK,K v S→te dl S K)(hto:∀K:DK,K (.ref n) S→to dl S K)(hti:∀K:DK,K (.int k) S→ti dl S K)(h:S[n]?=some (.lst xs))(hj:ixN xs.length k=some j)(hq:E.nx dl (S.set n (.lst (xs.set j v)))):ziU to ti te E dl S:=by
 unfold ziU
 refine hte _ (hto _ (hti _ ?_))
 simp only[h,hj]
 exact hq
theorem zdE {n:Nat}{S:Sto}{Q:DK}{xs:List D}(h:S[n]?=some (.lst xs))(hq:Q (.int (xs.length:Nat)) S):irr zem [.ref n] S Q:=by
 rw[zfE]
 unfold zem
 simp only[zbd h rfl]
 exact hq
theorem zbj {S:Sto}{n a:Nat}{o u:Ob}(h:S[n]?=some o)(hn:a≠n):(S.set a u)[n]?=some o:=by rw[VaU hn]; exact h
theorem zbA {S:Sto}{n:Nat}{o u:Ob}(h:S[n]?=some o):(S.set n u)[n]?=some u:=by
 have hk:=(Vab.mp h).1
 simp[hk]
theorem zaB {S:Sto}{n:Nat}{o:Ob}{T:Sto}(h:S[n]?=some o):(S++T)[n]?=some o:=by
 have hk:=(Vab.mp h).1
 rw[Vak hk]
 exact h
theorem zco (T R:Sto)(u:Ob):(T++u::R)[T.length]?=some u:=by simp
theorem zcj (T R:Sto)(u v:Ob):(T++u::R).set T.length v=T++v::R:=by simp
theorem zbR {S:Sto}{n:Nat}{o:Ob}(h:S[n]?=some o):n<S.length:=(Vab.mp h).1
theorem zqO {xs:List Int}{lo hi:Option Int}{k:Nat}{x:D}(h:(zaS (xs.map D.int) lo hi)[k]?=some x):∃c:Int,x=.int c:=by
 have m:=Vau h
 unfold L3.zaS at m
 obtain⟨c,_,rfl⟩:=List.mem_map.mp (List.mem_of_mem_drop (List.mem_of_mem_take m))
 exact⟨c,rfl⟩
theorem zcY {i n:Nat}{tb:TDS}{E:zcC}{dl:Ev}{S:Sto}{o:Ob}(W:Nat→Ev→Sto→Prop)(h0:W 0 dl S)(hk:∀k dl' S',W k dl' S'→S'[n]?=some o)
  (ht:∀(k:Nat) (x:D) (dl':Ev) (S':Sto) (nx ct:Ev→Sto→Prop),(zaz o)[k]?=some x→W k dl' S'→(∀dl2 S2,W (k+1) dl2 S2→nx dl2 S2)→tb { nx:=nx,rt:=E.rt,bk:=E.nx,ct:=ct } (dl'.set i (some x)) S')(he:∀dl' S',W (zaz o).length dl' S'→E.nx dl' S')(hL:zb0 o=some o:=by rfl):
  (lAt S n).isSome=true∧∃W:Nat→Nat→Ev→Sto→Prop,(∃m,W 0 m dl S)∧∀k m dl S,W k m dl S→match lAt S n with
  | some o=>match (zaz o)[k]? with
   | some x=>tb { nx:=λdl' S'=>∃m',m'<m∧W (k+1) m' dl' S',rt:=E.rt,bk:=E.nx,ct:=λdl' S'=>∃m',m'<m∧W (k+1) m' dl' S' } (dl.set i (some x)) S
   | none=>E.nx dl S
  | none=>False:=by
 refine⟨by rw[zbd (hk _ _ _ h0) hL]; rfl,λk m dl' S'=>m+k=(zaz o).length∧W k dl' S',⟨(zaz o).length,by omega,h0⟩,?_⟩
 rintro k m dl' S' ⟨hm,w⟩
 rw[zbd (hk _ _ _ w) hL]
 show (match (zaz o)[k]? with
   | some x=>tb { nx:=λdl' S''=>∃m',m'<m∧(m'+(k+1)=(zaz o).length∧W (k+1) dl' S''),rt:=E.rt,bk:=E.nx,ct:=λdl' S''=>∃m',m'<m∧(m'+(k+1)=(zaz o).length∧W (k+1) dl' S'') } (dl'.set i (some x)) S'
   | none=>E.nx dl' S')
 split
 ·rename_i x hx
  have hk:k<(zaz o).length:=(Vab.mp hx).1
  exact ht k x dl' S' _ _ hx w λdl2 S2 w2=>⟨m-1,by omega,by omega,w2⟩
 ·rename_i hx
  have hk:k=(zaz o).length:=by
   have:=VaK.mp hx
   omega
  exact he dl' S' (hk ▸ w)
inductive Nd where
 | number (t b:Int) | unknown (k:Int) | plus (i j:Int) | minus (i j:Int) | times (i j:Int) | power (i n:Int)
def Nd.d:Nd→D
 | .number t b=>.tup [.str "number",.int t,.int b]
 | .unknown k=>.tup [.str "unknown",.int k]
 | .plus i j=>.tup [.str "plus",.int i,.int j]
 | .minus i j=>.tup [.str "minus",.int i,.int j]
 | .times i j=>.tup [.str "times",.int i,.int j]
 | .power i n=>.tup [.str "power",.int i,.int n]
def Nd.ob (cN cU cP cM cT cW:Addr):Nd→Ob
 | .number t b=>.ins cN [("top",.int t),("bottom",.int b)]
 | .unknown k=>.ins cU [("place",.int k)]
 | .plus i j=>.ins cP [("one",.int i),("other",.int j)]
 | .minus i j=>.ins cM [("one",.int i),("other",.int j)]
 | .times i j=>.ins cT [("one",.int i),("other",.int j)]
 | .power i n=>.ins cW [("one",.int i),("many",.int n)]
def inR (m i:Int):Prop:=0≤i∧i<m
def Nd.ok (m q:Int):Nd→Prop
 | .number t b=>(1≤b∧b≤10^9)∧Int.gcd t b=1∧t.natAbs≤10^9
 | .unknown k=>inR q k
 | .plus i j=>inR m i∧inR m j
 | .minus i j=>inR m i∧inR m j
 | .times i j=>inR m i∧inR m j
 | .power i n=>inR m i∧2≤n∧n≤6
def frD (p:Int×Int):D:=.tup [.int p.1,.int p.2]
abbrev gt (vs:List (Int×Int))(i:Int):Int×Int:=vs.getD i.toNat (0,1)
theorem zne {vs:List (Int×Int)}{i:Int}(h:inR vs.length i):gt vs i∈vs:=by
 obtain⟨h0,h1⟩:=h
 have hk:i.toNat<vs.length:=by omega
 have e:gt vs i=vs[i.toNat]:=by simp[gt,hk]
 rw[e]
 exact List.getElem_mem hk
theorem zaP {vs:List (Int×Int)}{i:Int}(h:inR vs.length i):atI (vs.map frD) i=some (frD (gt vs i)):=by
 obtain⟨h0,h1⟩:=h
 have hk:i.toNat<vs.length:=by omega
 have z:=zjO (xs:=vs.map frD) (j:=i.toNat) (v:=frD (gt vs i)) (by rw[Val,Vaf hk]; simp[gt,hk])
 rw[show ((i.toNat:Nat):Int)=i by omega] at z
 exact z
theorem zo1 {G:Int×Int→Prop}:∀xs:List D,(∀(k:Nat) (d:D),xs[k]?=some d→∃p,d=frD p∧G p)→∃vs:List (Int×Int),xs=vs.map frD∧∀p∈vs,G p
 | [],_=>⟨[],rfl,λp h=>by cases h⟩
 | x::xs,h=>by
  obtain⟨p,rfl,hp⟩:=h 0 x rfl
  obtain⟨vs,rfl,hv⟩:=zo1 xs λk d hd=>h (k+1) d hd
  exact⟨p::vs,rfl,λq hq=>by
   rcases Vam.mp hq with e | e
   ·subst e; exact hp
   ·exact hv q e⟩
theorem zvU {xs:List D}{d e:D}{i:Nat}{P:Nat→D→Prop}(h:(xs++[d])[i]?=some e)(hp:∀i d,xs[i]?=some d→P i d)(hd:P xs.length d):P i e:=by
 by_cases hi:i<xs.length
 ·rw[Vak hi] at h
  exact hp i e h
 ·have hk:=(Vab.mp h).1
  simp only[Vap,Vaz,VaP] at hk
  have e1:i=xs.length:=by omega
  subst e1
  simp at h
  subst h
  exact hd
theorem zwm {caps:List Nat}{ta:TDA}{te:TDE}{dl:Ev}{S S1:Sto}{Q:DK}{j:Int}(P:Nat→D→Prop)(hta:∀K:List D→Sto→Prop,K [.int j] S1→ta dl S K)(hj:0≤j∧j≤1000)
  (ht:∀k:Nat,k<j.toNat→∀(S2:Sto) (K:DK),Pre S1 S2→(∀d,P k d→K d S2)→te (some (.int k)::zcD caps dl) S2 K)(hq:∀xs:List D,xs.length=j.toNat→(∀k d,xs[k]?=some d→P k d)→Q (.ref S1.length) (S1++[.lst xs])):zdi caps ta zcQ te dl S Q:=by
 unfold zdi
 refine hta _ ⟨⟨by omega,by omega⟩,λk S2=>(∃xs:List D,S2=S1++[.lst xs]∧xs.length=k∧∀i d,xs[i]?=some d→P i d)∧k≤j.toNat,⟨⟨[],rfl,rfl,λi d h=>by simp at h⟩,by omega⟩,?_⟩
 rintro k S2 ⟨⟨xs,rfl,hx,hp⟩,hk⟩
 split
 ·rename_i hk'
  unfold zdT zcQ
  simp only[if_true]
  refine ht k hk' _ _ Pre.refl.push λd hd=>?_
  rw[zaE]
  refine⟨by omega,⟨xs++[d],zt0 _ _ _,by simp[hx],λi e he=>zvU he hp (hx ▸ hd)⟩,by omega⟩
 ·have e:k=j.toNat:=by omega
  subst e
  exact hq xs hx hp
theorem zn7 {α:Type}{xs:List D}{lo hi:Option Int}:(zaS xs lo hi).length≤xs.length:=by
 unfold L3.zaS
 rw[Vaj,List.length_drop]
 omega
theorem zwa {S T:Sto}(h:Pre S T){n:Nat}{o:Ob}(e:S[n]?=some o):T[n]?=some o:=h n o e
structure zeS (a b c d mn mx:Int):Prop where
 lo:mn=a*c∨mn=a*d∨mn=b*c∨mn=b*d
 l1:mn≤a*c
 l2:mn≤a*d
 l3:mn≤b*c
 l4:mn≤b*d
 hi:mx=a*c∨mx=a*d∨mx=b*c∨mx=b*d
 h1:a*c≤mx
 h2:a*d≤mx
 h3:b*c≤mx
 h4:b*d≤mx
theorem zeS.of {a b c d mn mx:Int}(m1:mn∈[a*c,a*d,b*c,b*d])(m2:∀y∈[a*c,a*d,b*c,b*d],mn≤y)(x1:mx∈[a*c,a*d,b*c,b*d])(x2:∀y∈[a*c,a*d,b*c,b*d],y≤mx):zeS a b c d mn mx:=by
 simp only[Vam,VaO,or_false] at m1 x1
 exact⟨m1,m2 _ (by simp),m2 _ (by simp),m2 _ (by simp),m2 _ (by simp),x1,x2 _ (by simp),x2 _ (by simp),x2 _ (by simp),x2 _ (by simp)⟩
structure zcE (a b:Int)(n:Nat)(m M:Int):Prop where
 lo:m=a^n∨m=b^n∨(a<0∧0<b∧m=0)
 l1:m≤a^n
 l2:m≤b^n
 l3:a<0→0<b→m≤0
 hi:M=a^n∨M=b^n
 h1:a^n≤M
 h2:b^n≤M
theorem zpow {n:Nat}(h:1≤n):(0:Int)^n=0:=by
 cases n with
 | zero=>omega
 | succ k=>rw[Vad,VaW]
theorem zp2 (n:Nat):(∀x:Int,(-x)^n=x^n)∨(∀x:Int,(-x)^n=-(x^n)):=by
 induction n with
 | zero=>left; intro x; rw[VaQ,VaQ]
 | succ k ih=>
  rcases ih with e | e
  ·right; intro x; rw[Vad,Vad,e,Va4]
  ·left; intro x; rw[Vad,Vad,e,Int.neg_mul_neg]
theorem zef {x y:Int}(h0:0≤x)(h:x≤y)(n:Nat):x^n≤y^n:=by
 induction n with
 | zero=>rw[VaQ,VaQ]; exact VaN _
 | succ k ih=>
  rw[Vad,Vad]
  exact Int.mul_le_mul ih h h0 (VaG (by omega))
theorem zp9 {y z x m M:Int}{n:Nat}(hn:1≤n)(h1:y≤x)(h2:x≤z)(m1:m≤y^n)(m2:m≤z^n)(m3:y<0→0<z→m≤0)(M1:y^n≤M)(M2:z^n≤M):m≤x^n∧x^n≤M:=by
 by_cases hy:0≤y
 ·have e1:=zef hy h1 n
  have e2:=zef (show 0≤x by omega) h2 n
  omega
 ·by_cases hz:z≤0
  ·have e1:=zef (show 0≤-z by omega) (show -z≤-x by omega) n
   have e2:=zef (show 0≤-x by omega) (show -x≤-y by omega) n
   rcases zp2 n with p | p <;> rw[p,p] at e1 e2 <;> omega
  ·have m3':=m3 (by omega) (by omega)
   have z0:(0:Int)≤z^n:=VaG (by omega)
   by_cases hx:0≤x
   ·have e1:(0:Int)≤x^n:=VaG hx
    have e2:=zef hx h2 n
    omega
   ·have e1:(0:Int)≤(-x)^n:=VaG (by omega)
    have e2:=zef (show 0≤-x by omega) (show -x≤-y by omega) n
    rcases zp2 n with p | p
    ·rw[p] at e1
     rw[p,p] at e2
     omega
    ·rw[p] at e1
     rw[p,p] at e2
     omega
theorem zcE.scale {a b:Int}{n:Nat}{m M:Int}(h:zcE a b n m M)(hn:1≤n){p x:Int}(hp:1≤p)(h1:a*p≤x)(h2:x≤b*p):m*p^n≤x^n∧x^n≤M*p^n:=by
 have pp:(0:Int)≤p^n:=VaG (by omega)
 refine zp9 hn h1 h2 ?_ ?_ ?_ ?_ ?_
 ·rw[VaR]; exact Vag h.l1 pp
 ·rw[VaR]; exact Vag h.l2 pp
 ·intro y1 y2
  have a1:a<0:=by
   by_cases q:a<0
   ·exact q
   ·have:=Van (show 0≤a by omega) (show 0≤p by omega)
    omega
  have b1:0<b:=by
   by_cases q:0<b
   ·exact q
   ·have:=Van (show 0≤-b by omega) (show 0≤p by omega)
    rw[Vah] at this
    omega
  have:=Van (show 0≤-m by have:=h.l3 a1 b1; omega) pp
  rw[Vah] at this
  omega
 ·rw[VaR]; exact Vag h.h1 pp
 ·rw[VaR]; exact Vag h.h2 pp
theorem zcE.of {a b g mn mx:Int}{n:Nat}(hg:1≤g){l:List Int}(hl:l=[a^n*g,b^n*g]∧¬ (a<0∧0<b)∨l=[a^n*g,b^n*g,0^n*g]∧a<0∧0<b)(hn:1≤n)(m1:mn∈l)(m2:∀y∈l,mn≤y)(x1:mx∈l)(x2:∀y∈l,y≤mx):
  ∃m M,zcE a b n m M∧mn=m*g∧mx=M*g:=by
 have can:∀ {x y:Int},x*g≤y*g→x≤y:=λ{x y} h=>Va2 h (by omega)
 rcases hl with ⟨rfl,hz⟩ | ⟨rfl,hz1,hz2⟩
 ·simp only[Vam,VaO,or_false] at m1 x1
  have a1:=m2 (a^n*g) (by simp)
  have a2:=m2 (b^n*g) (by simp)
  have b1:=x2 (a^n*g) (by simp)
  have b2:=x2 (b^n*g) (by simp)
  obtain⟨m,hm,em⟩:∃m,(m=a^n∨m=b^n)∧mn=m*g:=by
   rcases m1 with e | e
   ·exact⟨_,.inl rfl,e⟩
   ·exact⟨_,.inr rfl,e⟩
  obtain⟨M,hM,eM⟩:∃m,(m=a^n∨m=b^n)∧mx=m*g:=by
   rcases x1 with e | e
   ·exact⟨_,.inl rfl,e⟩
   ·exact⟨_,.inr rfl,e⟩
  subst em eM
  exact⟨m,M,⟨hm.elim .inl λe=>.inr (.inl e),can a1,can a2,λc1 c2=>absurd ⟨c1,c2⟩ hz,hM,can b1,can b2⟩,rfl,rfl⟩
 ·rw[zpow hn,Int.zero_mul] at m1 m2 x1 x2
  simp only[Vam,VaO,or_false] at m1 x1
  have a1:=m2 (a^n*g) (by simp)
  have a2:=m2 (b^n*g) (by simp)
  have a3:=m2 0 (by simp)
  have b1:=x2 (a^n*g) (by simp)
  have b2:=x2 (b^n*g) (by simp)
  have b3:=x2 0 (by simp)
  obtain⟨m,hm,em⟩:∃m,(m=a^n∨m=b^n∨m=0)∧mn=m*g:=by
   rcases m1 with e | e | e
   ·exact⟨_,.inl rfl,e⟩
   ·exact⟨_,.inr (.inl rfl),e⟩
   ·exact⟨0,.inr (.inr rfl),by rw[e,Int.zero_mul]⟩
  have bp:(0:Int)≤b^n:=VaG (by omega)
  have bg:=Van bp (show 0≤g by omega)
  obtain⟨M,hM,eM⟩:∃m,(m=a^n∨m=b^n)∧mx=m*g:=by
   rcases x1 with e | e | e
   ·exact⟨_,.inl rfl,e⟩
   ·exact⟨_,.inr rfl,e⟩
   ·exact⟨_,.inr rfl,by omega⟩
  subst em eM
  refine⟨m,M,⟨?_,can a1,can a2,λ_ _=>can (by rw[Int.zero_mul]; exact a3),hM,can b1,can b2⟩,rfl,rfl⟩
  rcases hm with e | e | e
  ·exact .inl e
  ·exact .inr (.inl e)
  ·exact .inr (.inr ⟨hz1,hz2,e⟩)
theorem zfd {m g:Int}{n:Nat}(hg:1≤g)(hn:1≤n):m*g/g^n=m/g^(n-1):=by
 obtain⟨k,rfl⟩:∃k,n=k+1:=⟨n-1,by omega⟩
 rw[Vad,Nat.add_sub_cancel,Int.mul_ediv_mul_of_pos_left _ _ (by omega)]
def mn4 (a b c d:Int):Int:=min (min (a*c) (a*d)) (min (b*c) (b*d))
def mx4 (a b c d:Int):Int:=max (max (a*c) (a*d)) (max (b*c) (b*d))
theorem zeS.eq {a b c d mn mx:Int}(h:zeS a b c d mn mx):mn=mn4 a b c d∧mx=mx4 a b c d:=by
 obtain⟨h0,h1,h2,h3,h4,h5,h6,h7,h8,h9⟩:=h
 unfold mn4 mx4
 omega
def zbM (a b:Int)(n:Nat):Int:=if n%2=0∧a≤0∧0≤b then 0 else min (a^n) (b^n)
def zdC (a b:Int)(n:Nat):Int:=max (a^n) (b^n)
theorem ze8 {n:Nat}(h:n%2=0)(x:Int):0≤x^n:=by
 obtain⟨k,rfl⟩:∃k,n=k+k:=⟨n/2,by omega⟩
 rw[Int.pow_add]
 by_cases c:0≤x^k
 ·exact Van c c
 ·have:=Van (show 0≤-(x^k) by omega) (show 0≤-(x^k) by omega)
  rw[Int.neg_mul_neg] at this
  exact this
theorem zoY {n:Nat}(h:n%2=1){x:Int}(hx:x<0):x^n<0:=by
 obtain⟨k,rfl⟩:∃k,n=k+1:=⟨n-1,by omega⟩
 have z:=ze8 (n:=k) (by omega) x
 have nz:∀k:Nat,x^k≠0:=λk=>by
  induction k with
  | zero=>rw[VaQ]; decide
  | succ k ih=>rw[Vad]; exact Int.mul_ne_zero ih (by omega)
 have nz:=nz k
 have:=VaS (show 0<x^k by omega) (show 0 < -x by omega)
 rw[Va4] at this
 rw[Vad]
 omega
theorem zcE.eq {a b m M:Int}{n:Nat}(h:zcE a b n m M)(hn:1≤n):m=zbM a b n∧M=zdC a b n:=by
 obtain⟨h0,h1,h2,h3,h4,h5,h6⟩:=h
 refine⟨?_,by unfold zdC; omega⟩
 unfold zbM
 split
 ·rename_i c
  obtain⟨c1,c2,c3⟩:=c
  have e1:=ze8 c1 a
  have e2:=ze8 c1 b
  by_cases z:a<0∧0<b
  ·have:=h3 z.1 z.2
   omega
  ·have z':a=0∨b=0:=by omega
   rcases z' with rfl | rfl
   ·rw[zpow hn] at h1
    omega
   ·rw[zpow hn] at h2
    omega
 ·rename_i c
  have hz:a<0→0<b→m≠0:=λa1 b1 e=>by
   by_cases p:n%2=0
   ·exact c ⟨p,by omega,by omega⟩
   ·have:=zoY (n:=n) (by omega) a1
    omega
  omega
def Nd.fw (vs bs:List (Int×Int))(g:Int):Nd→Int×Int
 | .number t b=>(t*g/b,-(-(t*g)/b))
 | .unknown k=>gt bs k
 | .plus i j=>((gt vs i).1+(gt vs j).1,(gt vs i).2+(gt vs j).2)
 | .minus i j=>((gt vs i).1-(gt vs j).2,(gt vs i).2-(gt vs j).1)
 | .times i j=>(mn4 (gt vs i).1 (gt vs i).2 (gt vs j).1 (gt vs j).2/g,-(-mx4 (gt vs i).1 (gt vs i).2 (gt vs j).1 (gt vs j).2/g))
 | .power i n=>(zbM (gt vs i).1 (gt vs i).2 n.toNat/g^(n.toNat-1),-(-zdC (gt vs i).1 (gt vs i).2 n.toNat/g^(n.toNat-1)))
def Spn (B:Nat)(vs:List (Int×Int)):Prop:=∀p∈vs,p.1≤p.2∧Sz B p.1∧Sz B p.2
theorem Spn.at {B:Nat}{vs:List (Int×Int)}(h:Spn B vs){i:Int}(hi:inR vs.length i):(gt vs i).1≤(gt vs i).2∧Sz B (gt vs i).1∧Sz B (gt vs i).2:=h _ (zne hi)
theorem Spn.mono {B C:Nat}{vs:List (Int×Int)}(h:Spn B vs)(hc:B≤C):Spn C vs:=λp hp=>⟨(h p hp).1,(h p hp).2.1.mono hc,(h p hp).2.2.mono hc⟩
theorem zoq {m M g:Int}(hg:1≤g)(h:m≤M):m/g≤-(-M/g):=by
 have h1:=Int.ediv_mul_le m (show g≠0 by omega)
 have h2:=Int.ediv_mul_le (-M) (show g≠0 by omega)
 have:m/g*g≤-(-M/g)*g:=by rw[Vah]; omega
 exact Va2 this (by omega)
theorem zxa (a b:Int)(n:Nat):zbM a b n≤zdC a b n:=by
 unfold zbM zdC
 split
 ·rename_i c
  have:=ze8 c.1 a
  omega
 ·omega
theorem zxl (a b c d:Int):mn4 a b c d≤mx4 a b c d:=by unfold mn4 mx4; omega
theorem Nd.fw_le {vs bs:List (Int×Int)}{g:Int}{B:Nat}(h1:Spn B vs)(h2:Spn B bs)(hg:1≤g):∀v:Nd,v.ok vs.length bs.length→(v.fw vs bs g).1≤(v.fw vs bs g).2
 | .number t b,ok=>zoq ok.1.1 (VaN _)
 | .unknown k,ok=>(h2.at ok).1
 | .plus i j,ok=>by
  have a:=(h1.at ok.1).1
  have b:=(h1.at ok.2).1
  show (gt vs i).1+(gt vs j).1≤(gt vs i).2+(gt vs j).2
  omega
 | .minus i j,ok=>by
  have a:=(h1.at ok.1).1
  have b:=(h1.at ok.2).1
  show (gt vs i).1-(gt vs j).2≤(gt vs i).2-(gt vs j).1
  omega
 | .times i j,ok=>zoq hg (zxl _ _ _ _)
 | .power i n,ok=>zoq (Vaw (by omega)) (zxa _ _ _)
theorem ziH {n:Nat}(v:Nd):Sco n v.d:=by
 cases v <;> exact .tup λd hd=>by
  simp only[Vam,VaO,or_false] at hd
  rcases hd with rfl | rfl | rfl <;> first | exact .str _ | exact .int _
def zaX (p q:Int×Int):Option (Int×Int):=if (if q.2<p.2 then q.2 else p.2)<(if q.1 > p.1 then q.1 else p.1) then none else some (if q.1 > p.1 then q.1 else p.1,if q.2<p.2 then q.2 else p.2)
theorem zuu {p q r:Int×Int}(h:zaX p q=some r):r.1≤r.2:=by
 have go:∀lo hi:Int,(if hi<lo then none else some (lo,hi))=some r→r.1≤r.2:=λlo hi e=>by
  split at e
  ·cases e
  ·rename_i c
   cases e
   exact Int.not_lt.mp c
 exact go _ _ h
def ptD (q:Int×(Int×Int)):D:=.tup [.int q.1,.tup [.int q.2.1,.int q.2.2]]
theorem zh9 {a b:TDS}{E:zcC}{dl:Ev}{S:Sto}(W:Ev→Sto→Prop)(ha:∀nx:Ev→Sto→Prop,(∀dl' S',W dl' S'→nx dl' S')→a { nx:=nx,rt:=E.rt,bk:=E.bk,ct:=E.ct } dl S)(hb:∀dl' S',W dl' S'→b E dl' S'):zb9 a b E dl S:=ha _ hb
theorem zqa {S:Sto}{Q:DK}{xs:List D}(hq:Q (.int (xs.length:Nat)) S):irr zem [.tup xs] S Q:=by
 rw[zfE]
 exact hq
theorem zwz {a b c:TDS}{E:zcC}{dl:Ev}{S:Sto}(W:Ev→Sto→Prop)(ha:∀nx:Ev→Sto→Prop,(∀dl' S',W dl' S'→nx dl' S')→zb9 a b { nx:=nx,rt:=E.rt,bk:=E.bk,ct:=E.ct } dl S)(hb:∀dl' S',W dl' S'→c E dl' S'):zb9 a (zb9 b c) E dl S:=ha _ hb
theorem znF {n:Nat}{m g:Int}(h:Sz n m)(hg:1≤g):Sz n (-(-m/g)):=(h.neg.div hg).neg
theorem zkX {n:Nat}{a b:Int}(ha:Sz n a)(hb:Sz n b):Sz n (min a b):=by unfold Sz at *; omega
theorem zjY {n:Nat}{a b:Int}(ha:Sz n a)(hb:Sz n b):Sz n (max a b):=by unfold Sz at *; omega
theorem Spn.set {B:Nat}{vs:List (Int×Int)}(h:Spn B vs){k:Nat}{u:Int}(hu:Sz B u):Spn B (vs.set k (u,u)):=λp hp=>by
 rcases List.mem_or_eq_of_mem_set hp with e | e
 ·exact h p e
 ·subst e; exact⟨VaN _,hu,hu⟩
theorem zg8 (vs:List (Int×Int))(k:Nat)(p:Int×Int):(vs.map frD).set k (frD p)=(vs.set k p).map frD:=(List.map_set).symm
theorem zga {n:Nat}{i:Int}(h:inR n i):ixN n i=some i.toNat:=by
 obtain⟨h0,h1⟩:=h
 unfold ixN
 split <;> first | omega | rfl | (split <;> first | omega | rfl)
def Nd.wt (ws:List Nat):Nd→Nat
 | .number _ _=>1
 | .unknown _=>1
 | .plus i j=>ws.getD i.toNat 0+ws.getD j.toNat 0
 | .minus i j=>ws.getD i.toNat 0+ws.getD j.toNat 0
 | .times i j=>ws.getD i.toNat 0+ws.getD j.toNat 0
 | .power i n=>n.toNat*ws.getD i.toNat 0
structure zaD (q:Int)(ns:List Nd)(ws:List Nat):Prop where
 len:ws.length=ns.length
 ok:∀(k:Nat) (v:Nd),ns[k]?=some v→v.ok k q∧ws.getD k 0=v.wt ws∧1≤v.wt ws∧v.wt ws≤16
theorem zaD.nil (q:Int):zaD q [] []:=⟨rfl,λk v h=>by simp at h⟩
theorem zaD.w1 {q:Int}{ns:List Nd}{ws:List Nat}(h:zaD q ns ws){i:Int}(hi:inR ns.length i):1≤ws.getD i.toNat 0∧ws.getD i.toNat 0≤16:=by
 obtain⟨h0,h1⟩:=hi
 have hk:i.toNat<ns.length:=(by omega)
 obtain⟨_,e,a,b⟩:=h.ok i.toNat _ (Vaf hk)
 omega
theorem zaD.w2 {q:Int}{ns:List Nd}{ws:List Nat}(h:zaD q ns ws):∀v:Nd,v.ok ns.length q→1≤v.wt ws∧v.wt ws≤96
 | .number _ _,_=>⟨Vaa 1,show 1≤96 by decide⟩
 | .unknown _,_=>⟨Vaa 1,show 1≤96 by decide⟩
 | .plus i j,ok=>by have a:=h.w1 ok.1; have b:=h.w1 ok.2; simp only[Nd.wt]; omega
 | .minus i j,ok=>by have a:=h.w1 ok.1; have b:=h.w1 ok.2; simp only[Nd.wt]; omega
 | .times i j,ok=>by have a:=h.w1 ok.1; have b:=h.w1 ok.2; simp only[Nd.wt]; omega
 | .power i n,ok=>by
  have a:=h.w1 ok.1
  have n2:=ok.2.1
  have n6:=ok.2.2
  have m1:=Nat.mul_le_mul (show 1≤n.toNat by omega) a.1
  have m2:=Nat.mul_le_mul (show n.toNat≤6 by omega) a.2
  simp only[Nd.wt]
  omega
theorem zn4 {ws:List Nat}{w:Nat}{k:Nat}(h:k<ws.length):(ws++[w]).getD k 0=ws.getD k 0:=by
 rw[Vax,Vax,Vak h]
theorem zqV {ws:List Nat}{w:Nat}{q:Int}{k:Nat}(hk:k≤ws.length):∀v:Nd,v.ok k q→v.wt (ws++[w])=v.wt ws:=by
 have e:∀i:Int,inR k i→(ws++[w]).getD i.toNat 0=ws.getD i.toNat 0:=λi hi=>zn4 (by have a:=hi.1; have b:=hi.2; omega)
 intro v ok
 cases v with
 | number _ _=>rfl
 | unknown _=>rfl
 | plus i j=>show _+_=_+_; rw[e i ok.1,e j ok.2]
 | minus i j=>show _+_=_+_; rw[e i ok.1,e j ok.2]
 | times i j=>show _+_=_+_; rw[e i ok.1,e j ok.2]
 | power i n=>show _*_=_*_; rw[e i ok.1]
theorem zaD.snoc {q:Int}{ns:List Nd}{ws:List Nat}(h:zaD q ns ws){v:Nd}(ok:v.ok ns.length q)(h16:v.wt ws≤16):zaD q (ns++[v]) (ws++[v.wt ws]):=by
 refine⟨by simp[h.len],λk u hu=>?_⟩
 by_cases hk:k<ns.length
 ·rw[Vak hk] at hu
  obtain⟨a,b,c,d⟩:=h.ok k u hu
  have e:=zqV (w:=v.wt ws) (q:=q) (k:=k) (by rw[h.len]; omega) u a
  rw[e,zn4 (by rw[h.len]; exact hk)]
  exact⟨a,b,c,d⟩
 ·have hl:=(Vab.mp hu).1
  simp only[Vap,Vaz,VaP] at hl
  have ek:k=ns.length:=by omega
  subst ek
  simp at hu
  subst hu
  have e:=zqV (w:=v.wt ws) (q:=q) (k:=ns.length) (by rw[h.len]; omega) v ok
  rw[e]
  refine⟨ok,?_,(h.w2 v ok).1,h16⟩
  rw[← h.len]
  simp
theorem zaD.take {q:Int}{ns:List Nd}{ws:List Nat}(h:zaD q ns ws)(n:Nat):zaD q (ns.take n) (ws.take n):=by
 have e:∀k:Nat,k<n→(ws.take n).getD k 0=ws.getD k 0:=λk hk=>by
  rw[Vax,Vax,List.getElem?_take_of_lt hk]
 refine⟨by simp[h.len],λk u hu=>?_⟩
 have hl:=(Vab.mp hu).1
 rw[Vaj] at hl
 have hk:k<n:=by omega
 rw[List.getElem?_take_of_lt hk] at hu
 obtain⟨a,b,c,d⟩:=h.ok k u hu
 have e2:u.wt (ws.take n)=u.wt ws:=by
  have f:∀i:Int,inR k i→(ws.take n).getD i.toNat 0=ws.getD i.toNat 0:=λi hi=>e _ (by have:=hi.1; have:=hi.2; omega)
  cases u with
  | number _ _=>rfl
  | unknown _=>rfl
  | plus i j=>show _+_=_+_; rw[f i a.1,f j a.2]
  | minus i j=>show _+_=_+_; rw[f i a.1,f j a.2]
  | times i j=>show _+_=_+_; rw[f i a.1,f j a.2]
  | power i m=>show _*_=_*_; rw[f i a.1]
 rw[e2,e k hk]
 exact⟨a,b,c,d⟩
def zaK (bs:List (Int×Int))(g:Int)(ns:List Nd):List (Int×Int):=ns.foldl (λacc v=>acc++[v.fw acc bs g]) []
theorem ziv (bs:List (Int×Int))(g:Int)(ns:List Nd)(v:Nd):zaK bs g (ns++[v])=zaK bs g ns++[v.fw (zaK bs g ns) bs g]:=by
 unfold zaK
 rw[List.foldl_append]
 rfl
theorem zbP {α:Type}{xs:List α}{k:Nat}{x:α}(h:xs[k]?=some x):xs.take (k+1)=xs.take k++[x]:=by rw[List.take_succ,h]; rfl
theorem zdo (bs:List (Int×Int))(g:Int)(ns:List Nd):(zaK bs g ns).length=ns.length:=by
 have z:∀k,k≤ns.length→(zaK bs g (ns.take k)).length=k:=λk=>by
  induction k with
  | zero=>intro _; rfl
  | succ k ih=>
   intro hk
   rw[zbP (Vaf (show k<ns.length by omega)),ziv]
   simp[ih (by omega)]
 have:=z ns.length (Vaa _)
 rwa [VaX] at this
def SzW (ws:List Nat)(vs:List (Int×Int)):Prop:=∀(k:Nat) (p:Int×Int),vs[k]?=some p→p.1≤p.2∧Sz (60*ws.getD k 0-1) p.1∧Sz (60*ws.getD k 0-1) p.2
theorem SzW.at {ws:List Nat}{vs:List (Int×Int)}(h:SzW ws vs){i:Int}(hi:inR vs.length i):(gt vs i).1≤(gt vs i).2∧Sz (60*ws.getD i.toNat 0-1) (gt vs i).1∧Sz (60*ws.getD i.toNat 0-1) (gt vs i).2:=by
 obtain⟨h0,h1⟩:=hi
 have hk:i.toNat<vs.length:=by omega
 have e:gt vs i=vs[i.toNat]:=by simp[gt,hk]
 rw[e]
 exact h _ _ (Vaf hk)
theorem fw_w {ws:List Nat}{vs bs:List (Int×Int)}{g:Int}(hs:SzW ws vs)(hb:Spn 51 bs)(hg:1≤g∧g≤1000000)(hw:∀i:Int,inR vs.length i→1≤ws.getD i.toNat 0):∀v:Nd,v.ok vs.length bs.length→Sz (60*v.wt ws-1) (v.fw vs bs g).1∧Sz (60*v.wt ws-1) (v.fw vs bs g).2
 | .number t b,ok=>by
  have z:Sz 52 (t*g):=(Sz.of (n:=31) (10^9) ok.2.2).mul (Sz.of (n:=21) (10^6) (show g.natAbs≤_ by omega))
  exact⟨(z.div ok.1.1).mono (show 52≤60*1-1 by decide),(znF z ok.1.1).mono (show 52≤60*1-1 by decide)⟩
 | .unknown k,ok=>⟨(hb.at ok).2.1.mono (show 51≤60*1-1 by decide),(hb.at ok).2.2.mono (show 51≤60*1-1 by decide)⟩
 | .plus i j,ok=>by
  have a:=hs.at ok.1
  have b:=hs.at ok.2
  have p:=hw i ok.1
  have q:=hw j ok.2
  exact⟨(a.2.1.add b.2.1).mono (by simp only[Nd.wt]; omega),(a.2.2.add b.2.2).mono (by simp only[Nd.wt]; omega)⟩
 | .minus i j,ok=>by
  have a:=hs.at ok.1
  have b:=hs.at ok.2
  have p:=hw i ok.1
  have q:=hw j ok.2
  exact⟨(a.2.1.sub b.2.2).mono (by simp only[Nd.wt]; omega),(a.2.2.sub b.2.1).mono (by simp only[Nd.wt]; omega)⟩
 | .times i j,ok=>by
  have a:=hs.at ok.1
  have b:=hs.at ok.2
  have p:=hw i ok.1
  have q:=hw j ok.2
  have le:∀ {x y:Int},Sz (60*ws.getD i.toNat 0-1) x→Sz (60*ws.getD j.toNat 0-1) y→Sz (60*Nd.wt ws (.times i j)-1) (x*y):=λh1 h2=>(h1.mul h2).mono (by simp only[Nd.wt]; omega)
  have l:=zkX (zkX (le a.2.1 b.2.1) (le a.2.1 b.2.2)) (zkX (le a.2.2 b.2.1) (le a.2.2 b.2.2))
  have u:=zjY (zjY (le a.2.1 b.2.1) (le a.2.1 b.2.2)) (zjY (le a.2.2 b.2.1) (le a.2.2 b.2.2))
  exact⟨l.div hg.1,znF u hg.1⟩
 | .power i n,ok=>by
  have a:=hs.at ok.1
  have p:=hw i ok.1
  have n2:=ok.2.1
  have gp:(1:Int)≤g^(n.toNat-1):=Vaw (by omega)
  have hn:(60*ws.getD i.toNat 0-1)*n.toNat+1≤60*Nd.wt ws (.power i n)-1:=by
   simp only[Nd.wt]
   rw[Nat.sub_mul,Nat.one_mul]
   have e:60*ws.getD i.toNat 0*n.toNat=60*(n.toNat*ws.getD i.toNat 0):=by rw[Nat.mul_assoc,Nat.mul_comm (ws.getD i.toNat 0)]
   have m1:=Nat.mul_le_mul (Vaa n.toNat) p
   omega
  have p1:Sz (60*Nd.wt ws (.power i n)-1) ((gt vs i).1^n.toNat):=(a.2.1.pow _).mono hn
  have p2:Sz (60*Nd.wt ws (.power i n)-1) ((gt vs i).2^n.toNat):=(a.2.2.pow _).mono hn
  have l:Sz (60*Nd.wt ws (.power i n)-1) (zbM (gt vs i).1 (gt vs i).2 n.toNat):=by
   unfold zbM
   split
   ·exact(Sz.of (n:=1) 0 (by decide)).mono (by have:=Nat.mul_le_mul (show 1≤n.toNat by omega) p; simp only[Nd.wt]; omega)
   ·exact zkX p1 p2
  exact⟨l.div gp,znF (zjY p1 p2) gp⟩
theorem Spn.of_w {ws:List Nat}{vs:List (Int×Int)}(h:SzW ws vs)(hw:∀k:Nat,k<vs.length→ws.getD k 0≤16):Spn 1000 vs:=λp hp=>by
 obtain⟨k,hk,e⟩:=VaI.mp hp
 obtain⟨a,b,c⟩:=h k p (by rw[Vaf hk,e])
 have:=hw k hk
 exact⟨a,b.mono (by omega),c.mono (by omega)⟩
theorem zuX {q:Int}{ns:List Nd}{ws:List Nat}{bs:List (Int×Int)}{g:Int}(h:zaD q ns ws)(hq:q=bs.length)(hb:Spn 51 bs)(hg:1≤g∧g≤1000000):∀k,k≤ns.length→SzW ws (zaK bs g (ns.take k)):=λk=>by
 induction k with
 | zero=>intro _ i p hp; simp[zaK] at hp
 | succ k ih=>
  intro hk
  have hv:=Vaf (show k<ns.length by omega)
  have s:=ih (by omega)
  have ln:(zaK bs g (ns.take k)).length=k:=by rw[zdo,Vaj]; omega
  obtain⟨ok,e,_,_⟩:=h.ok k _ hv
  rw[zbP hv,ziv]
  have okv:(ns[k]).ok (zaK bs g (ns.take k)).length bs.length:=by rw[ln,← hq]; exact ok
  have w1:∀i:Int,inR (zaK bs g (ns.take k)).length i→1≤ws.getD i.toNat 0:=λi hi=>(h.w1 (i:=i) (by rw[ln] at hi; exact⟨hi.1,by have:=hi.2; omega⟩)).1
  have z:=fw_w s hb hg w1 ns[k] okv
  have l:((ns[k]).fw (zaK bs g (ns.take k)) bs g).1≤((ns[k]).fw (zaK bs g (ns.take k)) bs g).2:=by
   refine Nd.fw_le (B:=6000) ?_ (hb.mono (by decide)) hg.1 _ okv
   intro p hp
   obtain⟨i,hi,ei⟩:=VaI.mp hp
   obtain⟨a,b,c⟩:=s i p (by rw[Vaf hi,ei])
   have:=(h.w1 (i:=i) ⟨by omega,by rw[ln] at hi; omega⟩).2
   rw[Vae] at this
   exact⟨a,b.mono (by omega),c.mono (by omega)⟩
  intro i p hp
  by_cases hi:i<k
  ·rw[Vak (by rw[ln]; exact hi)] at hp
   exact s i p hp
  ·have hl:=(Vab.mp hp).1
   simp only[Vap,Vaz,VaP,ln] at hl
   have ei:i=k:=by omega
   subst ei
   rw[VaM (by rw[ln]; exact Vaa _),ln,Nat.sub_self] at hp
   simp at hp
   subst hp
   rw[e]
   exact⟨l,z⟩
theorem zjR {q:Int}{ns:List Nd}{ws:List Nat}{bs:List (Int×Int)}{g:Int}(h:zaD q ns ws)(hq:q=bs.length)(hb:Spn 51 bs)(hg:1≤g∧g≤1000000)(k:Nat)(hk:k≤ns.length):Spn 1000 (zaK bs g (ns.take k)):=
 Spn.of_w (zuX h hq hb hg k hk) λi hi=>by
  rw[zdo,Vaj] at hi
  have:=(h.w1 (i:=i) ⟨by omega,by omega⟩).2
  rwa [Vae] at this
theorem zbN {S T:Sto}{n:Nat}{o:Ob}(h:Pre S T)(hn:S.length≤n):Pre S (T.set n o):=λk u e=>by
 have hk:=(Vab.mp e).1
 rw[VaU (by omega)]
 exact h k u e
theorem zdU {S T:Sto}(h:Pre S T)(U:Sto):Pre S (T++U):=λk u e=>zaB (h k u e)
theorem zuZ {to te:TDE}{dl:Ev}{S S1 S2:Sto}{Q:DK}{n:Nat}{xs:List D}{y:D}(hto:∀K:DK,K (.ref n) S1→to dl S K)(h:S1[n]?=some (.lst xs))(hte:∀K:DK,K y S2→te dl S1 K)(h2:S2[n]?=some (.lst xs))(hl:xs.length<1000)(hq:Q .non (S2.set n (.lst (xs++[y])))):zdx to te dl S Q:=by
 unfold zdx
 refine hto _ ?_
 simp only[h]
 refine hte _ ?_
 simp only[h2,if_pos hl]
 exact hq
theorem znD (u v:Nd):∃b,eqN 1 u.d v.d=some b:=by cases u <;> cases v <;> exact⟨_,rfl⟩
theorem zs8 (u:Nd):eqN 1 u.d u.d=some true:=by cases u <;> simp[Nd.d,eqN,L3.eqT,eqL,eqF]
theorem zjU (v:Nd):∀ns:List Nd,∃b,zbF (eqN 1) (ns.map Nd.d) v.d=some b
 | []=>⟨false,rfl⟩
 | u::us=>by
  obtain⟨b,e⟩:=znD u v
  obtain⟨c,e2⟩:=zjU v us
  refine⟨b||c,?_⟩
  show (match eqN 1 u.d v.d,zbF (eqN 1) (us.map Nd.d) v.d with | some b,some c=>some (b||c) | _,_=>none)=_
  rw[e,e2]
theorem zut {v:Nd}{ns:List Nd}{n:Nat}{S:Sto}{Q:DK}(h:S[n]?=some (.lst (ns.map Nd.d)))(hq:∀b:Bool,Q (.bl b) S):zcN (wIn 1 true) v.d (.ref n) S Q:=by
 obtain⟨b,e⟩:=zjU v ns
 rw[zdL]
 unfold wIn
 simp only[zbd h rfl,zaz,e]
 exact hq _
def wtD (w:Nat):D:=.int (w:Int)
theorem zdO {ws:List Nat}{i:Int}(h:inR ws.length i):atI (ws.map wtD) i=some (.int ((ws.getD i.toNat 0:Nat):Int)):=by
 obtain⟨h0,h1⟩:=h
 have hk:i.toNat<ws.length:=by omega
 have z:=zjO (xs:=ws.map wtD) (j:=i.toNat) (v:=wtD (ws.getD i.toNat 0)) (by rw[Val,Vaf hk]; simp[hk])
 rw[show ((i.toNat:Nat):Int)=i by omega] at z
 exact z
theorem zuT (q:Nat):zaD q ((List.range q).map λ(k:Nat)=>Nd.unknown (k:Int)) ((List.range q).map λ_=>1):=by
 refine⟨by simp,λk v hv=>?_⟩
 have hl:=(Vab.mp hv).1
 simp only[Vac,List.length_range] at hl
 rw[Val,List.getElem?_range hl] at hv
 cases hv
 refine⟨⟨by omega,by omega⟩,?_,Vaa _,show 1≤16 by decide⟩
 simp[Nd.wt,hl]
theorem zw9 {u v:Nd}(h:eqN 1 u.d v.d=some true):u=v:=by
 cases u <;> cases v <;> simp[Nd.d,eqN,L3.eqT,eqL,eqF] at h
 all_goals first | (obtain⟨rfl,rfl⟩:=h; rfl) | (subst h; rfl) | exact absurd h.1 (by decide)
theorem zot (v:Nd):∀ns:List Nd,∃o:Option Nat,zc5 (eqN 1) (ns.map Nd.d) v.d=some o∧zbF (eqN 1) (ns.map Nd.d) v.d=some o.isSome∧∀j,o=some j→ns[j]?=some v
 | []=>⟨none,rfl,rfl,λj h=>by cases h⟩
 | u::us=>by
  obtain⟨b,e⟩:=znD u v
  obtain⟨o,h1,h2,h3⟩:=zot v us
  have f1:zc5 (eqN 1) ((u::us).map Nd.d) v.d=(match eqN 1 u.d v.d,zc5 (eqN 1) (us.map Nd.d) v.d with | some true,some _=>some (some 0) | some false,some o=>some (o.map (·+1)) | _,_=>none):=rfl
  have f2:zbF (eqN 1) ((u::us).map Nd.d) v.d=(match eqN 1 u.d v.d,zbF (eqN 1) (us.map Nd.d) v.d with | some b,some c=>some (b||c) | _,_=>none):=rfl
  rw[f1,f2,e,h1,h2]
  cases b with
  | true=>exact⟨some 0,rfl,rfl,λj hj=>by
    cases hj
    rw[zw9 e]
    rfl⟩
  | false=>exact⟨o.map (·+1),rfl,by cases o <;> rfl,λj hj=>by
    cases o with
    | none=>cases hj
    | some i=>
     cases hj
     exact h3 i rfl⟩
theorem zpS {v:Nd}{ns:List Nd}{n j:Nat}{to:TDE}{t:TDA}{dl:Ev}{S:Sto}{Q:DK}(hto:∀K:DK,K (.ref n) S→to dl S K)(ht:∀K:List D→Sto→Prop,K [v.d] S→t dl S K)(h:S[n]?=some (.lst (ns.map Nd.d)))(e:zc5 (eqN 1) (ns.map Nd.d) v.d=some (some j))(hq:Q (.int (j:Int)) S):zkh 1 to t dl S Q:=by
 unfold zkh
 refine hto _ ⟨by rw[zbd h rfl]; rfl,ht _ ?_⟩
 unfold zlC
 simp only[zbd h rfl,zaz,e]
 exact hq
theorem zpG {k m q:Int}(h:k≤m):∀ {v:Nd},v.ok k q→v.ok m q:=λ{v} ok=>by
 have z:∀i:Int,inR k i→inR m i:=λi hi=>⟨hi.1,by have:=hi.2; omega⟩
 cases v with
 | number _ _=>exact ok
 | unknown _=>exact ok
 | plus i j=>exact⟨z _ ok.1,z _ ok.2⟩
 | minus i j=>exact⟨z _ ok.1,z _ ok.2⟩
 | times i j=>exact⟨z _ ok.1,z _ ok.2⟩
 | power i n=>exact⟨z _ ok.1,ok.2⟩
theorem ztf {vs us:List (Int×Int)}{k:Nat}{i:Int}(h:inR k i)(hk:k≤vs.length):gt (vs++us) i=gt vs i:=by
 have:=h.1
 have:=h.2
 unfold gt
 rw[Vax,Vax,Vak (by omega)]
theorem gt_at {vs:List (Int×Int)}{k:Nat}{p:Int×Int}(h:vs[k]?=some p):gt vs (k:Int)=p:=by
 unfold gt
 rw[Vax,Vae,h]
 rfl
theorem SzW.spn {ws:List Nat}{vs:List (Int×Int)}(h:SzW ws vs)(hw:∀k:Nat,k<vs.length→ws.getD k 0≤16):Spn 1000 vs:=Spn.of_w h hw
theorem SzW.snoc {ws:List Nat}{vs:List (Int×Int)}{p:Int×Int}(h:SzW ws vs)(h1:p.1≤p.2)(h2:Sz (60*ws.getD vs.length 0-1) p.1)(h3:Sz (60*ws.getD vs.length 0-1) p.2):SzW ws (vs++[p]):=λk q hq=>by
 by_cases hk:k<vs.length
 ·rw[Vak hk] at hq
  exact h k q hq
 ·have hl:=(Vab.mp hq).1
  simp only[Vap,Vaz,VaP] at hl
  have ek:k=vs.length:=by omega
  subst ek
  simp at hq
  subst hq
  exact⟨h1,h2,h3⟩
theorem znn {A B x:Int}(y:Int)(h1:A≤x)(h2:x≤B):min (A*y) (B*y)≤x*y∧x*y≤max (A*y) (B*y):=by
 rcases Int.le_total 0 y with h | h
 ·have a:=Vag h1 h
  have b:=Vag h2 h
  omega
 ·have a:=Vag h1 (show 0≤-y by omega)
  have b:=Vag h2 (show 0≤-y by omega)
  simp only[Va4] at a b
  omega
theorem zrv {A B C D x y:Int}(h1:A≤x)(h2:x≤B)(h3:C≤y)(h4:y≤D):mn4 A B C D≤x*y∧x*y≤mx4 A B C D:=by
 have a:=znn y h1 h2
 have b:=znn A h3 h4
 have c:=znn B h3 h4
 rw[VaC C A,VaC D A,VaC y A] at b
 rw[VaC C B,VaC D B,VaC y B] at c
 unfold mn4 mx4
 omega
theorem zjH {vs:List (Int×Int)}{p:Int×Int}{i:Int}(h:inR vs.length i):gt (vs++[p]) i=gt vs i:=by
 have hk:i.toNat<vs.length:=by
  have:=h.1
  have:=h.2
  omega
 simp only[gt,Vax,Vak hk]
theorem zf0 {vs:List (Int×Int)}{p:Int×Int}{k:Nat}(h:vs.length=k):gt (vs++[p]) (k:Int)=p:=by
 subst h
 simp[gt]
def Gd (B:Nat)(vs:List (Int×Int)):Prop:=∀p∈vs,1≤p.2∧Int.gcd p.1 p.2=1∧Sz B p.1∧Sz B p.2
theorem Gd.at {B:Nat}{vs:List (Int×Int)}(h:Gd B vs){i:Int}(hi:inR vs.length i):1≤(gt vs i).2∧Int.gcd (gt vs i).1 (gt vs i).2=1∧Sz B (gt vs i).1∧Sz B (gt vs i).2:=h _ (zne hi)
theorem Gd.mono {B C:Nat}{vs:List (Int×Int)}(h:Gd B vs)(hc:B≤C):Gd C vs:=λp hp=>⟨(h p hp).1,(h p hp).2.1,(h p hp).2.2.1.mono hc,(h p hp).2.2.2.mono hc⟩
def Pz (B:Nat)(vs:List (Int×Int)):Prop:=∀p∈vs,1≤p.2∧Sz B p.1∧Sz B p.2
theorem Pz.at {B:Nat}{vs:List (Int×Int)}(h:Pz B vs){i:Int}(hi:inR vs.length i):1≤(gt vs i).2∧Sz B (gt vs i).1∧Sz B (gt vs i).2:=h _ (zne hi)
def Nd.due (vs ps:List (Int×Int)):Nd→Int×Int
 | .number t b=>(t,b)
 | .unknown k=>gt ps k
 | .plus i j=>((gt vs i).1*(gt vs j).2+(gt vs j).1*(gt vs i).2,(gt vs i).2*(gt vs j).2)
 | .minus i j=>((gt vs i).1*(gt vs j).2-(gt vs j).1*(gt vs i).2,(gt vs i).2*(gt vs j).2)
 | .times i j=>((gt vs i).1*(gt vs j).1,(gt vs i).2*(gt vs j).2)
 | .power i n=>((gt vs i).1^n.toNat,(gt vs i).2^n.toNat)
def PzW (ws:List Nat)(vs:List (Int×Int)):Prop:=∀(k:Nat) (p:Int×Int),vs[k]?=some p→1≤p.2∧Sz (112*ws.getD k 0-2) p.1∧Sz (112*ws.getD k 0-2) p.2
theorem PzW.at {ws:List Nat}{vs:List (Int×Int)}(h:PzW ws vs){i:Int}(hi:inR vs.length i):1≤(gt vs i).2∧Sz (112*ws.getD i.toNat 0-2) (gt vs i).1∧Sz (112*ws.getD i.toNat 0-2) (gt vs i).2:=by
 obtain⟨h0,h1⟩:=hi
 have hk:i.toNat<vs.length:=by omega
 have e:gt vs i=vs[i.toNat]:=by simp[gt,hk]
 rw[e]
 exact h _ _ (Vaf hk)
theorem due_w {ws:List Nat}{vs ps:List (Int×Int)}(hs:PzW ws vs)(hp:Pz 110 ps)(hw:∀i:Int,inR vs.length i→1≤ws.getD i.toNat 0):∀v:Nd,v.ok vs.length ps.length→1≤(v.due vs ps).2∧Sz (112*v.wt ws-2) (v.due vs ps).1∧Sz (112*v.wt ws-2) (v.due vs ps).2
 | .number t b,ok=>⟨ok.1.1,(Sz.of (n:=31) (10^9) ok.2.2).mono (show 31≤112*1-2 by decide),(Sz.of (n:=31) (10^9) (by have:=ok.1; show b.natAbs≤_; omega)).mono (show 31≤112*1-2 by decide)⟩
 | .unknown k,ok=>⟨(hp.at ok).1,(hp.at ok).2.1.mono (show 110≤112*1-2 by decide),(hp.at ok).2.2.mono (show 110≤112*1-2 by decide)⟩
 | .plus i j,ok=>by
  have a:=hs.at ok.1
  have b:=hs.at ok.2
  have p:=hw i ok.1
  have q:=hw j ok.2
  exact⟨VaS (show 0<_ by omega) (show 0<_ by omega),((a.2.1.mul b.2.2).add (b.2.1.mul a.2.2)).mono (by simp only[Nd.wt]; omega),(a.2.2.mul b.2.2).mono (by simp only[Nd.wt]; omega)⟩
 | .minus i j,ok=>by
  have a:=hs.at ok.1
  have b:=hs.at ok.2
  have p:=hw i ok.1
  have q:=hw j ok.2
  exact⟨VaS (show 0<_ by omega) (show 0<_ by omega),((a.2.1.mul b.2.2).sub (b.2.1.mul a.2.2)).mono (by simp only[Nd.wt]; omega),(a.2.2.mul b.2.2).mono (by simp only[Nd.wt]; omega)⟩
 | .times i j,ok=>by
  have a:=hs.at ok.1
  have b:=hs.at ok.2
  have p:=hw i ok.1
  have q:=hw j ok.2
  exact⟨VaS (show 0<_ by omega) (show 0<_ by omega),(a.2.1.mul b.2.1).mono (by simp only[Nd.wt]; omega),(a.2.2.mul b.2.2).mono (by simp only[Nd.wt]; omega)⟩
 | .power i n,ok=>by
  have a:=hs.at ok.1
  have p:=hw i ok.1
  have n2:=ok.2.1
  have hn:(112*ws.getD i.toNat 0-2)*n.toNat+1≤112*Nd.wt ws (.power i n)-2:=by
   simp only[Nd.wt]
   rw[Nat.sub_mul]
   have e:112*ws.getD i.toNat 0*n.toNat=112*(n.toNat*ws.getD i.toNat 0):=by rw[Nat.mul_assoc,Nat.mul_comm (ws.getD i.toNat 0)]
   have m1:=Nat.mul_le_mul (Vaa n.toNat) p
   omega
  exact⟨Vaw (show 0<_ by omega),(a.2.1.pow _).mono hn,(a.2.2.pow _).mono hn⟩
def zaC (ps:List (Int×Int))(ns:List Nd):List (Int×Int):=ns.foldl (λacc v=>acc++[v.due acc ps]) []
theorem zdX (ps:List (Int×Int))(ns:List Nd)(v:Nd):zaC ps (ns++[v])=zaC ps ns++[v.due (zaC ps ns) ps]:=by
 unfold zaC
 rw[List.foldl_append]
 rfl
theorem zdz (ps:List (Int×Int))(ns:List Nd):(zaC ps ns).length=ns.length:=by
 have z:∀k,k≤ns.length→(zaC ps (ns.take k)).length=k:=λk=>by
  induction k with
  | zero=>intro _; rfl
  | succ k ih=>
   intro hk
   rw[zbP (Vaf (show k<ns.length by omega)),zdX]
   simp[ih (by omega)]
 have y:=z ns.length (Vaa _)
 rwa [VaX] at y
theorem ztJ {ws:List Nat}{vs:List (Int×Int)}{p:Int×Int}{k:Nat}(h:PzW ws vs)(lk:vs.length=k)(hp:1≤p.2∧Sz (112*ws.getD k 0-2) p.1∧Sz (112*ws.getD k 0-2) p.2):PzW ws (vs++[p]):=λi q hq=>by
 by_cases hi:i<k
 ·rw[Vak (by omega)] at hq
  exact h i q hq
 ·have hl:=(Vab.mp hq).1
  simp only[Vap,Vaz,VaP,lk] at hl
  have ei:i=k:=by omega
  subst ei
  rw[VaM (by omega),lk,Nat.sub_self] at hq
  simp at hq
  subst hq
  exact hp
theorem zrg {q:Int}{ns:List Nd}{ws:List Nat}(h:zaD q ns ws){k:Nat}{vs:List (Int×Int)}(hk:k≤ns.length)(lv:vs.length=k):∀i:Int,inR vs.length i→1≤ws.getD i.toNat 0:=λi hi=>(h.w1 (i:=i) ⟨hi.1,by have:=hi.2; omega⟩).1
theorem zlF {q:Int}{ns:List Nd}{ws:List Nat}{ps:List (Int×Int)}(h:zaD q ns ws)(hq:q=ps.length)(hp:Pz 110 ps):∀k,k≤ns.length→PzW ws (zaC ps (ns.take k)):=by
 intro k
 induction k with
 | zero=>intro _ i p hp; simp[zaC] at hp
 | succ k ih=>
  intro hk
  have hv:=Vaf (show k<ns.length by omega)
  have s:=ih (by omega)
  have ln:(zaC ps (ns.take k)).length=k:=by rw[zdz,Vaj]; omega
  obtain⟨ok,e,_,_⟩:=h.ok k _ hv
  rw[zbP hv,zdX]
  refine ztJ s ln ?_
  rw[e]
  exact due_w s hp (zrg h (by omega) ln) _ (by rw[ln,← hq]; exact ok)
theorem Pz.of_w {ws:List Nat}{vs:List (Int×Int)}(h:PzW ws vs)(hw:∀k:Nat,k<vs.length→ws.getD k 0≤16):Pz 1800 vs:=λp hp=>by
 obtain⟨k,hk,e⟩:=VaI.mp hp
 obtain⟨a,b,c⟩:=h k p (by rw[Vaf hk,e])
 have:=hw k hk
 exact⟨a,b.mono (by omega),c.mono (by omega)⟩
theorem zed {p q k:Int}(h:0≤k):min (p*k) (q*k)=min p q*k∧max (p*k) (q*k)=max p q*k:=by
 rcases Int.le_total p q with c | c
 ·have:=Vag c h
  rw[Int.min_eq_left c,Int.max_eq_right c]
  omega
 ·have:=Vag c h
  rw[Int.min_eq_right c,Int.max_eq_left c]
  omega
theorem zpU {a b c d p q:Int}(h:0≤p*q):mn4 (a*p) (b*p) (c*q) (d*q)=mn4 a b c d*(p*q)∧mx4 (a*p) (b*p) (c*q) (d*q)=mx4 a b c d*(p*q):=by
 have e:∀x y:Int,x*p*(y*q)=x*y*(p*q):=λx y=>by grind
 unfold mn4 mx4
 rw[e,e,e,e]
 refine⟨?_,?_⟩
 ·rw[(zed h).1,(zed h).1,(zed h).1]
 ·rw[(zed h).2,(zed h).2,(zed h).2]
theorem zsH {a b p x:Int}{n:Nat}(hn:1≤n)(hp:1≤p)(h1:a*p≤x)(h2:x≤b*p):zbM a b n*p^n≤x^n∧x^n≤zdC a b n*p^n:=by
 have pp:0<p^n:=Vaw (by omega)
 have lo1:zbM a b n≤a^n:=by
  unfold zbM
  split
  ·rename_i c; exact ze8 c.1 a
  ·omega
 have lo2:zbM a b n≤b^n:=by
  unfold zbM
  split
  ·rename_i c; exact ze8 c.1 b
  ·omega
 refine zp9 hn h1 h2 ?_ ?_ (λha hb=>?_) ?_ ?_
 ·rw[VaR]; exact Vag lo1 (by omega)
 ·rw[VaR]; exact Vag lo2 (by omega)
 ·have a0:a<0:=by
   by_cases c:a<0
   ·exact c
   ·have:=Van (show 0≤a by omega) (show 0≤p by omega)
    omega
  have b0:0<b:=by
   by_cases c:0<b
   ·exact c
   ·have:=Van (show 0≤-b by omega) (show 0≤p by omega)
    rw[Vah] at this
    omega
  have z:zbM a b n≤0:=by
   unfold zbM
   split
   ·exact VaN _
   ·rename_i c
    have:=zoY (n:=n) (by omega) a0
    omega
  have:=Van (show 0≤-zbM a b n by omega) (show 0≤p^n by omega)
  rw[Vah] at this
  omega
 ·rw[VaR]; exact Vag (by unfold zdC; omega) (by omega)
 ·rw[VaR]; exact Vag (by unfold zdC; omega) (by omega)
theorem zoL {m M G X B:Int}(hG:1≤G)(hB:0≤B)(h1:m*B≤X*G)(h2:X*G≤M*B):m/G*B≤X∧X≤-(-M/G)*B:=by
 have a:=Vag (zlP m (show 0<G by omega)).1 hB
 have b:=Vag (zoM M (show 0<G by omega)).1 hB
 have e1:m/G*G*B=m/G*B*G:=by grind
 have e2:-(-M/G)*G*B=-(-M/G)*B*G:=by grind
 rw[e1] at a
 rw[e2] at b
 exact⟨Va2 (a:=G) (by omega) (by omega),Va2 (a:=G) (by omega) (by omega)⟩
theorem zoP {to te:TDE}{dl:Ev}{S S1:Sto}{Q:DK}{n:Nat}{xs:List D}(hto:∀K:DK,K (.ref n) S1→to dl S K)(h1:S1[n]?=some (.lst xs))(hte:te dl S1 λy S2=>match S2[n]? with
   | some (.lst xs)=>if xs.length<1000 then Q .non (S2.set n (.lst (xs++[y]))) else False
   | _=>False):zdx to te dl S Q:=by
 unfold zdx
 refine hto _ ?_
 simp only[h1]
 exact hte
theorem zpK {S2:Sto}{n:Nat}{xs:List D}{P:List D→Prop}(h:S2[n]?=some (.lst xs))(hl:xs.length<1000)(hq:P xs):match S2[n]? with
   | some (.lst xs)=>if xs.length<1000 then P xs else False
   | _=>False:=by
 rw[h]
 simp only[if_pos hl]
 exact hq
theorem zqn {lo hi w p g t b:Int}(h:lo≤hi)(hw:1≤w)(hg:1≤g)(p0:0≤p)(p1:p≤w)(hb:1≤b)(e:t*(g*w)=(lo*w+(hi-lo)*p)*b):lo*b≤t*g∧t*g≤hi*b:=by
 have a1:=Van (show 0≤hi-lo by omega) p0
 have a2:=Int.mul_le_mul_of_nonneg_left p1 (show 0≤hi-lo by omega)
 have b1:=Vag (show lo*w≤lo*w+(hi-lo)*p by omega) (show 0≤b by omega)
 have e2:(hi-lo)*w=hi*w-lo*w:=by grind
 have b2:=Vag (show lo*w+(hi-lo)*p≤hi*w by omega) (show 0≤b by omega)
 rw[← e] at b1 b2
 have c1:lo*w*b=lo*b*w:=by grind
 have c2:hi*w*b=hi*b*w:=by grind
 have c3:t*(g*w)=t*g*w:=by grind
 rw[c1,c3] at b1
 rw[c2,c3] at b2
 exact⟨Va2 b1 (by omega),Va2 b2 (by omega)⟩
theorem zqf {lo hi w p:Int}(h:lo≤hi)(s1:Sz 51 lo)(s2:Sz 51 hi)(hw:1≤w∧w≤1000000000)(p0:0≤p)(p1:p≤w):IntMulOk lo w∧IntMulOk (hi-lo) p∧Sz 84 (lo*w+(hi-lo)*p):=by
 have sw:Sz 30 w:=Sz.of 1000000000 (by omega)
 have sp:Sz 30 p:=Sz.of 1000000000 (by omega)
 have sd:Sz 52 (hi-lo):=s2.sub s1
 exact⟨zaG s1 sw,zaG sd sp,((s1.mul sw).add (sd.mul sp)).mono (by decide)⟩
def InW (g:Int)(vs ds:List (Int×Int)):Prop:=∀i:Int,inR ds.length i→(gt vs i).1*(gt ds i).2≤(gt ds i).1*g∧(gt ds i).1*g≤(gt vs i).2*(gt ds i).2
theorem zwX {vs bs ds ps:List (Int×Int)}{g:Int}{B:Nat}(hg:1≤g)(h:InW g vs ds)(hp:InW g bs ps)(pd:Pz B ds)(pp:Pz B ps):∀v:Nd,v.ok ds.length ps.length→(v.fw vs bs g).1*(v.due ds ps).2≤(v.due ds ps).1*g∧(v.due ds ps).1*g≤(v.fw vs bs g).2*(v.due ds ps).2
 | .number t b,ok=>⟨(zlP (t*g) (show 0<b by have:=ok.1.1; omega)).1,(zoM (t*g) (show 0<b by have:=ok.1.1; omega)).1⟩
 | .unknown k,ok=>hp k ok
 | .plus i j,ok=>by
  have a:=h i ok.1
  have b:=h j ok.2
  have p1:=(pd.at ok.1).1
  have p2:=(pd.at ok.2).1
  simp only[Nd.fw,Nd.due]
  have a1:=Vag a.1 (show 0≤(gt ds j).2 by omega)
  have a2:=Vag a.2 (show 0≤(gt ds j).2 by omega)
  have b1:=Vag b.1 (show 0≤(gt ds i).2 by omega)
  have b2:=Vag b.2 (show 0≤(gt ds i).2 by omega)
  grind
 | .minus i j,ok=>by
  have a:=h i ok.1
  have b:=h j ok.2
  have p1:=(pd.at ok.1).1
  have p2:=(pd.at ok.2).1
  simp only[Nd.fw,Nd.due]
  have a1:=Vag a.1 (show 0≤(gt ds j).2 by omega)
  have a2:=Vag a.2 (show 0≤(gt ds j).2 by omega)
  have b1:=Vag b.1 (show 0≤(gt ds i).2 by omega)
  have b2:=Vag b.2 (show 0≤(gt ds i).2 by omega)
  grind
 | .times i j,ok=>by
  have a:=h i ok.1
  have b:=h j ok.2
  have p1:=(pd.at ok.1).1
  have p2:=(pd.at ok.2).1
  have pq:0≤(gt ds i).2*(gt ds j).2:=Van (by omega) (by omega)
  have z:=zrv a.1 a.2 b.1 b.2
  rw[(zpU pq).1,(zpU pq).2] at z
  have e:(gt ds i).1*g*((gt ds j).1*g)=(gt ds i).1*(gt ds j).1*g*g:=by grind
  rw[e] at z
  exact zoL hg pq z.1 z.2
 | .power i n,ok=>by
  have a:=h i ok.1
  have p1:=(pd.at ok.1).1
  have n2:=ok.2.1
  obtain⟨k,hk⟩:∃k,n.toNat=k+1:=⟨n.toNat-1,by omega⟩
  have z:=zsH (n:=n.toNat) (by omega) p1 a.1 a.2
  have e:((gt ds i).1*g)^n.toNat=(gt ds i).1^n.toNat*g*g^(n.toNat-1):=by
   rw[VaR,hk,Nat.add_sub_cancel,Vad g k]
   grind
  rw[e] at z
  exact zoL (Vaw (by omega)) (Vay (Vaw (by omega))) z.1 z.2
theorem zwy {q:Int}{ns:List Nd}{ws:List Nat}{bs ps:List (Int×Int)}{g:Int}(h:zaD q ns ws)(hq:q=bs.length)(hqp:q=ps.length)(hg:1≤g)(hp:InW g bs ps)(pp:Pz 110 ps):∀k,k≤ns.length→InW g (zaK bs g (ns.take k)) (zaC ps (ns.take k)):=by
 intro k
 induction k with
 | zero=>intro _ i hi; exact absurd hi.2 (by have:=hi.1; simp[zaC]; omega)
 | succ k ih=>
  intro hk i hi
  have hv:ns[k]?=some ns[k]:=Vaf (by omega)
  obtain⟨ok,_⟩:=h.ok k _ hv
  have ln:(zaK bs g (ns.take k)).length=k:=by rw[zdo,Vaj]; omega
  have lN:(zaC ps (ns.take k)).length=k:=by rw[zdz,Vaj]; omega
  rw[zbP hv,zdX] at hi
  rw[zbP hv,ziv,zdX]
  have hi2:i<k+1:=by have:=hi.2; simp only[Vap,Vaz,VaP,lN] at this; omega
  by_cases c:i<k
  ·rw[zjH (by rw[ln]; exact⟨hi.1,c⟩),zjH (by rw[lN]; exact⟨hi.1,c⟩)]
   exact ih (by omega) i (by rw[lN]; exact⟨hi.1,c⟩)
  ·have e:i=k:=by omega
   subst e
   rw[zf0 ln,zf0 lN]
   have pz:Pz 1800 (zaC ps (ns.take k)):=Pz.of_w (zlF h hqp pp k (by omega)) λj hj=>(h.w1 (i:=j) ⟨by omega,by omega⟩).2
   refine zwX (B:=1800) hg (ih (by omega)) hp pz (λp hp=>⟨(pp p hp).1,(pp p hp).2.1.mono (by decide),(pp p hp).2.2.mono (by decide)⟩) _ ?_
   rw[lN,← hqp]
   exact ok
theorem zs6 {v:Nd}{ns:List Nd}{n:Nat}{S:Sto}{Q:DK}{o:Option Nat}(h:S[n]?=some (.lst (ns.map Nd.d)))(e:zbF (eqN 1) (ns.map Nd.d) v.d=some o.isSome)(hq:Q (.bl (!o.isSome)) S):zcN (wIn 1 true) v.d (.ref n) S Q:=by
 rw[zdL]
 unfold wIn
 simp only[zbd h rfl,zaz,e]
 exact hq
theorem any_some {v:Nd}:∀ {ns:List Nd} {k:Nat},ns[k]?=some v→zbF (eqN 1) (ns.map Nd.d) v.d≠some (none:Option Nat).isSome
 | [],k,h=>by simp at h
 | u::us,0,h=>by
  have e:u=v:=by simpa using h
  subst e
  show (match eqN 1 u.d u.d,zbF (eqN 1) (us.map Nd.d) u.d with | some b,some c=>some (b||c) | _,_=>none)≠_
  obtain⟨c,hc⟩:=zjU u us
  rw[zs8,hc]
  simp
 | u::us,k+1,h=>by
  have ih:=any_some (ns:=us) (k:=k) (by simpa using h)
  show (match eqN 1 u.d v.d,zbF (eqN 1) (us.map Nd.d) v.d with | some b,some c=>some (b||c) | _,_=>none)≠_
  obtain⟨b,hb⟩:=znD u v
  obtain⟨c,hc⟩:=zjU v us
  rw[hc] at ih
  rw[hb,hc]
  cases c
  ·exact absurd rfl ih
  ·simp
theorem zp1 {vs us ps:List (Int×Int)}{k:Nat}{q:Int}(h:∀i:Int,inR k i→gt vs i=gt us i):∀v:Nd,v.ok k q→v.due vs ps=v.due us ps
 | .number _ _,_=>rfl
 | .unknown _,_=>rfl
 | .plus i j,ok=>by simp only[Nd.due,h i ok.1,h j ok.2]
 | .minus i j,ok=>by simp only[Nd.due,h i ok.1,h j ok.2]
 | .times i j,ok=>by simp only[Nd.due,h i ok.1,h j ok.2]
 | .power i n,ok=>by simp only[Nd.due,h i ok.1]
theorem zoX (P:List (Int×Int))(ns:List Nd):∀ms:List Nd,∃r,zaC P (ns++ms)=zaC P ns++r
 | []=>⟨[],by rw[Va3,Va3]⟩
 | v::ms=>by
  obtain⟨r,e⟩:=zoX P (ns++[v]) ms
  rw[List.append_assoc] at e
  refine⟨v.due (zaC P ns) P::r,?_⟩
  rw[show ns++v::ms=ns++([v]++ms) from rfl,e,zdX,List.append_assoc]
  rfl
theorem zmP {P:List (Int×Int)}{ns ms:List Nd}{i:Int}(h:inR ns.length i):gt (zaC P (ns++ms)) i=gt (zaC P ns) i:=by
 obtain⟨r,e⟩:=zoX P ns ms
 rw[e]
 exact ztf (k:=ns.length) h (by rw[zdz]; exact Vaa _)
theorem zwb {P:List (Int×Int)}{ns:List Nd}{ws:List Nat}{q:Int}{j:Nat}{v:Nd}(net:zaD q ns ws)(h:ns[j]?=some v):gt (zaC P ns) (j:Int)=v.due (zaC P ns) P:=by
 have hj:=(Vab.mp h).1
 have e:ns=ns.take (j+1)++ns.drop (j+1):=(List.take_append_drop _ _).symm
 have e2:ns=ns.take j++ns.drop j:=(List.take_append_drop _ _).symm
 have l:(ns.take (j+1)).length=j+1:=by rw[Vaj]; omega
 have lj:(ns.take j).length=j:=by rw[Vaj]; omega
 have g1:gt (zaC P ns) (j:Int)=gt (zaC P (ns.take (j+1))) (j:Int):=by
  have z:=zmP (P:=P) (ns:=ns.take (j+1)) (ms:=ns.drop (j+1)) (i:=(j:Int)) ⟨by omega,by rw[l]; omega⟩
  rw[← e] at z
  exact z
 rw[g1,zbP h,zdX,zf0 (by rw[zdz,lj])]
 refine zp1 (k:=j) (q:=q) (λi hi=>?_) v (net.ok j v h).1
 have z:=zmP (P:=P) (ns:=ns.take j) (ms:=ns.drop j) (i:=i) (by rw[lj]; exact hi)
 rw[← e2] at z
 exact z.symm
theorem zuq {ws us:List Nat}{i:Nat}(h:i<ws.length):(ws++us).getD i 0=ws.getD i 0:=by rw[Vax,Vax,Vak h]
structure Gr (q a c:Nat)(S:Sto)(ns:List Nd)(ws:List Nat)(T:Sto)(ns':List Nd)(ws':List Nat):Prop where
 net:zaD q ns' ws'
 pn:∃ms,ns'=ns++ms∧ms.length≤c
 pw:∃us,ws'=ws++us
 nd:T[a]?=some (.lst (ns'.map Nd.d))
 len:S.length≤T.length
 kp:∀(x:Nat) (o:Ob),x≠a→S[x]?=some o→T[x]?=some o
theorem Gr.refl {q a:Nat}{S:Sto}{ns:List Nd}{ws:List Nat}(net:zaD q ns ws)(h:S[a]?=some (.lst (ns.map Nd.d))):Gr q a 0 S ns ws S ns ws:=⟨net,⟨[],by simp,by simp⟩,⟨[],by simp⟩,h,Vaa _,λ_ _ _ e=>e⟩
theorem Gr.trans {q a c d:Nat}{S T U:Sto}{ns ns' ns2:List Nd}{ws ws' ws2:List Nat}(h:Gr q a c S ns ws T ns' ws')(k:Gr q a d T ns' ws' U ns2 ws2):Gr q a (c+d) S ns ws U ns2 ws2:=by
 obtain⟨n1,⟨ms,rfl,l1⟩,⟨us,rfl⟩,a1,e1,k1⟩:=h
 obtain⟨n2,⟨ms2,rfl,l2⟩,⟨us2,rfl⟩,a2,e2,k2⟩:=k
 exact⟨n2,⟨ms++ms2,by rw[List.append_assoc],by rw[Vap]; omega⟩,⟨us++us2,by rw[List.append_assoc]⟩,a2,by omega,λx o hx e=>k2 x o hx (k1 x o hx e)⟩
theorem Gr.mono {q a c d:Nat}{S T:Sto}{ns ns':List Nd}{ws ws':List Nat}(h:Gr q a c S ns ws T ns' ws')(l:c≤d):Gr q a d S ns ws T ns' ws':=by
 obtain⟨n1,⟨ms,e,l1⟩,u,a1,e1,k1⟩:=h
 exact⟨n1,⟨ms,e,by omega⟩,u,a1,e1,k1⟩
theorem Gr.ln {q a c:Nat}{S T:Sto}{ns ns':List Nd}{ws ws':List Nat}(h:Gr q a c S ns ws T ns' ws'):ns.length≤ns'.length∧ns'.length≤ns.length+c:=by
 obtain⟨n1,⟨ms,rfl,l1⟩,_⟩:=h
 rw[Vap]
 omega
theorem Gr.wt {q a c:Nat}{S T:Sto}{ns ns':List Nd}{ws ws':List Nat}(h:Gr q a c S ns ws T ns' ws')(net:zaD q ns ws){i:Nat}(hi:i<ns.length):ws'.getD i 0=ws.getD i 0:=by
 obtain⟨us,rfl⟩:=h.pw
 exact zuq (by rw[net.len]; exact hi)
theorem Gr.due {q a c:Nat}{S T:Sto}{ns ns':List Nd}{ws ws':List Nat}(h:Gr q a c S ns ws T ns' ws')(P:List (Int×Int)){i:Nat}(hi:i<ns.length):gt (zaC P ns') (i:Int)=gt (zaC P ns) (i:Int):=by
 obtain⟨ms,rfl,_⟩:=h.pn
 exact zmP ⟨by omega,by omega⟩
theorem Gr.push {q a:Nat}{S:Sto}{ns:List Nd}{ws:List Nat}(net:zaD q ns ws)(h:S[a]?=some (.lst (ns.map Nd.d)))(U:Sto):Gr q a 0 S ns ws (S++U) ns ws:=⟨net,⟨[],by simp,by simp⟩,⟨[],by simp⟩,zaB h,by simp,λ_ _ _ e=>zaB e⟩
structure Zr (P:List (Int×Int))(ns:List Nd)(ws:List Nat)(w i:Nat):Prop where
 lt:i<ns.length
 wt:ws.getD i 0≤w
 due:(gt (zaC P ns) (i:Int)).1=0
theorem Zr.up {P:List (Int×Int)}{q a c w i:Nat}{S T:Sto}{ns ns':List Nd}{ws ws':List Nat}(z:Zr P ns ws w i)(h:Gr q a c S ns ws T ns' ws')(net:zaD q ns ws):Zr P ns' ws' w i:=⟨by have:=h.ln; have:=z.lt; omega,by rw[h.wt net z.lt]; exact z.wt,by rw[h.due P z.lt]; exact z.due⟩
theorem zwn {q a c:Nat}{S T:Sto}{ns ns':List Nd}{ws ws':List Nat}(h:Gr q a c S ns ws T ns' ws')(net:zaD q ns ws){v:Nd}(ok:v.ok ns.length q):v.wt ws'=v.wt ws:=by
 have z:∀i:Int,inR (ns.length:Nat) i→ws'.getD i.toNat 0=ws.getD i.toNat 0:=λi hi=>by
  have h0:=hi.1
  have h1:=hi.2
  exact h.wt net (by omega)
 cases v with
 | number _ _=>rfl
 | unknown _=>rfl
 | plus i j=>show ws'.getD i.toNat 0+ws'.getD j.toNat 0=ws.getD i.toNat 0+ws.getD j.toNat 0; rw[z i ok.1,z j ok.2]
 | minus i j=>show ws'.getD i.toNat 0+ws'.getD j.toNat 0=ws.getD i.toNat 0+ws.getD j.toNat 0; rw[z i ok.1,z j ok.2]
 | times i j=>show ws'.getD i.toNat 0+ws'.getD j.toNat 0=ws.getD i.toNat 0+ws.getD j.toNat 0; rw[z i ok.1,z j ok.2]
 | power i n=>show n.toNat*ws'.getD i.toNat 0=n.toNat*ws.getD i.toNat 0; rw[z i ok.1]
theorem zvk {q a c j:Nat}{S T:Sto}{ns ns':List Nd}{ws ws':List Nat}(h:Gr q a c S ns ws T ns' ws'){v:Nd}(ok:v.ok ns.length q)(hj:ns'[j]?=some v)(P:List (Int×Int)):gt (zaC P ns') (j:Int)=v.due (zaC P ns) P:=by
 rw[zwb (P:=P) h.net hj]
 refine zp1 (k:=ns.length) (q:=q) (λi hi=>?_) v ok
 have h0:=hi.1
 have h1:=hi.2
 have z:=h.due P (i:=i.toNat) (by omega)
 rw[show ((i.toNat:Nat):Int)=i by omega] at z
 exact z
def Ans (lo hi y0 y1 p q:Int):Prop:=(p*y0≤hi*q∨p*y1≤hi*q)∧(lo*q≤p*y0∨lo*q≤p*y1)
structure za5 (x0 x1:Int)(V Sp:Int→Int→Prop)(L U:Int):Prop where
 all:∀p q,0<q→x0*q≤p→p≤x1*q→V p q→L*q≤p∧p≤U*q
 lo:∃p q,Sp p q∧0<q∧x0*q≤p∧p≤x1*q∧V p q∧p<(L+1)*q
 hi:∃p q,Sp p q∧0<q∧x0*q≤p∧p≤x1*q∧V p q∧(U-1)*q<p
theorem dl (m:Int){g:Int}(hg:0<g):m/g*g≤m∧m<(m/g+1)*g:=by
 have h1:=Int.emod_add_mul_ediv m g
 have h2:=Int.emod_nonneg m (show g≠0 by omega)
 have h3:=Int.emod_lt_of_pos m hg
 have e:(m/g+1)*g=g*(m/g)+g:=by grind
 have e2:m/g*g=g*(m/g):=VaC _ _
 omega
theorem dh (m:Int){g:Int}(hg:0<g):m≤-(-m/g)*g∧(-(-m/g)-1)*g<m:=by
 obtain⟨h1,h2⟩:=dl (-m) hg
 have e1:-(-m/g)*g=-(-m/g*g):=by rw[Vah]
 have e2:(-(-m/g)-1)*g=-((-m/g+1)*g):=by grind
 omega
theorem mlr {a b c:Int}(h:a≤b)(hc:0≤c):a*c≤b*c:=Vag h hc
theorem mll {a b c:Int}(h:a≤b)(hc:0≤c):c*a≤c*b:=Int.mul_le_mul_of_nonneg_left h hc
theorem can {a b c:Int}(h:a*c≤b*c)(hc:0<c):a≤b:=Va2 h hc
structure Low (x0 x1 lo hi lb hb L:Int):Prop where
 all:∀p q,0<q→x0*q≤p→lo*q≤p*lb→L*q≤p
 ex:∃p q,(p=x0∧q=1∨p=lo∧q=lb)∧0<q∧x0*q≤p∧p≤x1*q∧(lo*q≤p*lb∧p*hb≤hi*q)∧p<(L+1)*q
theorem zfu {x0 x1 lo hi lb hb L f:Int}(hx:x0≤x1)(hl:0≤lb)(hh:0≤hb)(l0:lb=0→lo≤0)(h0:hb=0→0≤hi)(cr:lo*hb≤hi*lb)(ef:lb≠0→f=lo/lb)(hc:lb≠0→-(-lo/lb)≤x1)(hr:hb≠0→x0≤hi/hb)
  (eL:L=x0∧(lb=0∨f≤x0)∨lb≠0∧L=f∧x0≤f):Low x0 x1 lo hi lb hb L:=by
 have xh:x0*hb≤hi:=by
  by_cases z:hb=0
  ·subst z; rw[VaW]; exact h0 rfl
  ·exact Va5 (mlr (hr z) hh) (dl hi (by omega)).1
 refine⟨λp q hq h1 h2=>?_,?_⟩
 ·rcases eL with ⟨rfl,_⟩ | ⟨z,rfl,_⟩
  ·exact h1
  ·have e:=ef z
   subst e
   have d:=mlr (dl lo (show 0<lb by omega)).1 (Vay hq)
   have e:lo/lb*lb*q=lo/lb*q*lb:=by grind
   exact can (show lo/lb*q*lb≤p*lb by omega) (by omega)
 ·by_cases z:lb=0
  ·refine⟨x0,1,.inl ⟨rfl,rfl⟩,by omega,by omega,by omega,⟨?_,by omega⟩,?_⟩
   ·have:=l0 z
    subst z; rw[VaW]; omega
   ·rcases eL with ⟨rfl,_⟩ | ⟨z',_⟩
    ·omega
    ·exact absurd z z'
  ·have lp:0<lb:=by omega
   obtain⟨d1,d2⟩:=dl lo lp
   have e:=ef z
   subst e
   have hL:lo/lb≤L∧x0≤L:=by
    rcases eL with ⟨rfl,z' | z'⟩ | ⟨_,rfl,z'⟩ <;> omega
   by_cases c:lo≤x0*lb
   ·exact⟨x0,1,.inl ⟨rfl,rfl⟩,by omega,by omega,by omega,⟨by omega,by omega⟩,by omega⟩
   ·refine⟨lo,lb,.inr ⟨rfl,rfl⟩,lp,by omega,?_,⟨VaN _,cr⟩,?_⟩
    ·exact Va5 (dh lo lp).1 (mlr (hc z) hl)
    ·exact Int.lt_of_lt_of_le d2 (mlr (by omega) hl)
theorem zpp {x1 lo lb p q:Int}(hq:0<q)(lp:0<lb)(h:x1 < -(-lo/lb))(hp:p≤x1*q)(hv:lo*q≤p*lb):False:=by
 have d:=(dh lo lp).2
 have h1:x1*lb≤(-(-lo/lb)-1)*lb:=mlr (by omega) (Vay lp)
 have h2:p*lb≤x1*q*lb:=mlr hp (Vay lp)
 have h3:x1*lb*q<lo*q:=Int.mul_lt_mul_of_pos_right (by omega) hq
 have e:x1*lb*q=x1*q*lb:=by grind
 omega
theorem zgd {lo hi c d p q:Int}(h0:0≤c)(hcd:c≤d)(hd:0<d)(hq:0<q):Ans lo hi c d p q↔lo*q≤p*(if lo > 0 then d else c)∧p*(if hi<0 then d else c)≤hi*q:=by
 unfold Ans
 have sl:lo > 0→0<lo*q:=λh=>VaS h hq
 have sl':¬ lo > 0→lo*q≤0:=λh=>by
  have:=mlr (show lo≤0 by omega) (Vay hq)
  omega
 have sh:hi<0→hi*q<0:=λh=>by
  have:=Int.mul_lt_mul_of_pos_right h hq
  omega
 have sh':¬ hi<0→0≤hi*q:=λh=>Van (by omega) (Vay hq)
 by_cases z:0≤p
 ·have a1:=mll hcd z
  have a2:=Van z h0
  split <;> split <;> omega
 ·have b1:=mll hcd (show 0≤-p by omega)
  have b2:=Van (show 0≤-p by omega) h0
  simp only[Vah] at b1 b2
  split <;> split <;> omega
structure zbO (lo hi x0 x1 c d:Int):Prop where
 hz:lo≤hi
 hx:x0≤x1
 h0:0≤c
 hcd:c≤d
 hd:0<d
abbrev zaV (lo c d:Int):Int:=if lo > 0 then d else c
abbrev zaR (hi c d:Int):Int:=if hi<0 then d else c
section
variable {lo hi x0 x1 c d:Int}
theorem zbO.cross (h:zbO lo hi x0 x1 c d):lo*zaR hi c d≤hi*zaV lo c d:=by
 obtain⟨hz,hx,h0,hcd,hd⟩:=h
 unfold zaR zaV
 split <;> split
 ·omega
 ·have a1:=mlr hz h0
  have a2:=mll hcd (show 0≤-lo by omega)
  simp only[Vah] at a2
  omega
 ·have a1:=mlr hz h0
  have a2:=mll hcd (show 0≤hi by omega)
  omega
 ·exact mlr hz h0
theorem zbO.l (h:zbO lo hi x0 x1 c d):0≤zaV lo c d∧(zaV lo c d=0→lo≤0):=by
 obtain⟨hz,hx,h0,hcd,hd⟩:=h
 unfold zaV
 split <;> omega
theorem zbO.h (h:zbO lo hi x0 x1 c d):0≤zaR hi c d∧(zaR hi c d=0→0≤hi):=by
 obtain⟨hz,hx,h0,hcd,hd⟩:=h
 unfold zaR
 split <;> omega
theorem zbO.none1 (h:zbO lo hi x0 x1 c d)(n:zaV lo c d≠0)(e:x1 < -(-lo/zaV lo c d)):∀p q,0<q→x0*q≤p→p≤x1*q→¬ Ans lo hi c d p q:=λp q hq _ h2 hv=>
 zpp hq (by have:=h.l.1; omega) e h2 ((zgd h.h0 h.hcd h.hd hq).mp hv).1
theorem zbO.none2 (h:zbO lo hi x0 x1 c d)(n:zaR hi c d≠0)(e:hi/zaR hi c d<x0):∀p q,0<q→x0*q≤p→p≤x1*q→¬ Ans lo hi c d p q:=λp q hq h1 _ hv=>by
 have v:=((zgd h.h0 h.hcd h.hd hq).mp hv).2
 refine zpp (x1:=-x0) (lo:=-hi) (lb:=zaR hi c d) (p:=-p) hq (by have:=h.h.1; omega) (by rw[Int.neg_neg]; omega) (by rw[Vah]; omega) ?_
 show -hi*q≤-p*zaR hi c d
 rw[Vah,Vah]
 exact Int.neg_le_neg v
def zbX (lo hi x0 x1 c d p q:Int):Prop:=(p=x0∧q=1)∨(p=x1∧q=1)∨((p=lo∨p=hi)∧(q=c∨q=d))
theorem zbO.some (h:zbO lo hi x0 x1 c d){L U:Int}(hc:zaV lo c d≠0→-(-lo/zaV lo c d)≤x1)(hr:zaR hi c d≠0→x0≤hi/zaR hi c d)
  (eL:L=x0∧(zaV lo c d=0∨lo/zaV lo c d≤x0)∨zaV lo c d≠0∧L=lo/zaV lo c d∧x0≤lo/zaV lo c d)
  (eU:U=x1∧(zaR hi c d=0∨x1≤-(-hi/zaR hi c d))∨zaR hi c d≠0∧U=-(-hi/zaR hi c d)∧-(-hi/zaR hi c d)≤x1):za5 x0 x1 (Ans lo hi c d) (zbX lo hi x0 x1 c d) L U:=by
 obtain⟨l1,l2⟩:=h.l
 obtain⟨h1,h2⟩:=h.h
 have cr:=h.cross
 have A:=zfu h.hx l1 h1 l2 h2 cr (λ_=>rfl) hc hr eL
 have B:=zfu (x0:=-x1) (x1:=-x0) (lo:=-hi) (hi:=-lo) (lb:=zaR hi c d) (hb:=zaV lo c d) (L:=-U) (f:=-hi/zaR hi c d) (by have:=h.hx; omega) h1 l1 (λz=>by have:=h2 z; omega) (λz=>by have:=l2 z; omega)
  (by rw[Vah,Vah]; exact Int.neg_le_neg cr) (λ_=>rfl) (λz=>by have:=hr z; rw[Int.neg_neg]; omega) (λz=>by have:=hc z; omega) (by omega)
 refine⟨λp q hq p1 p2 hv=>?_,?_,?_⟩
 ·obtain⟨v1,v2⟩:=(zgd h.h0 h.hcd h.hd hq).mp hv
  refine⟨A.all p q hq p1 v1,?_⟩
  have:=B.all (-p) q hq (by rw[Vah]; omega) (by rw[Vah,Vah]; exact Int.neg_le_neg v2)
  rw[Vah] at this
  omega
 ·obtain⟨p,q,hs,hq,p1,p2,hv,t⟩:=A.ex
  refine⟨p,q,?_,hq,p1,p2,(zgd h.h0 h.hcd h.hd hq).mpr hv,t⟩
  unfold zbX
  unfold zaV at hs
  split at hs <;> omega
 ·obtain⟨p,q,hs,hq,p1,p2,hv,t⟩:=B.ex
  rw[Vah] at p1 p2
  have hv':lo*q≤-p*zaV lo c d∧-p*zaR hi c d≤hi*q:=by
   simp only[Vah] at hv ⊢
   exact⟨by omega,by omega⟩
  refine⟨-p,q,?_,hq,by omega,by omega,(zgd h.h0 h.hcd h.hd hq).mpr hv',?_⟩
  ·unfold zbX
   unfold zaR at hs
   split at hs <;> omega
  ·have e:(U-1)*q=-((-U+1)*q):=by grind
   omega
end
theorem za5.mono {x0 x1 L U:Int}{V V' Sp Sp':Int→Int→Prop}(h:za5 x0 x1 V Sp L U)(hv:∀p q,0<q→(V p q↔V' p q))(hs:∀p q,0<q→Sp p q→Sp' p q):za5 x0 x1 V' Sp' L U:=by
 refine⟨λp q hq h1 h2 v=>h.all p q hq h1 h2 ((hv p q hq).mpr v),?_,?_⟩
 ·obtain⟨p,q,s,hq,h1,h2,v,t⟩:=h.lo
  exact⟨p,q,hs p q hq s,hq,h1,h2,(hv p q hq).mp v,t⟩
 ·obtain⟨p,q,s,hq,h1,h2,v,t⟩:=h.hi
  exact⟨p,q,hs p q hq s,hq,h1,h2,(hv p q hq).mp v,t⟩
abbrev NoV (x0 x1:Int)(V:Int→Int→Prop):Prop:=∀p q,0<q→x0*q≤p→p≤x1*q→¬ V p q
theorem za5.left {x0 x1 L U:Int}{V V' Sp:Int→Int→Prop}(h:za5 x0 x1 V Sp L U)(n:NoV x0 x1 V'):za5 x0 x1 (λp q=>V p q∨V' p q) Sp L U:=by
 refine⟨λp q hq h1 h2 v=>h.all p q hq h1 h2 (v.resolve_right (n p q hq h1 h2)),?_,?_⟩
 ·obtain⟨p,q,s,hq,h1,h2,v,t⟩:=h.lo
  exact⟨p,q,s,hq,h1,h2,.inl v,t⟩
 ·obtain⟨p,q,s,hq,h1,h2,v,t⟩:=h.hi
  exact⟨p,q,s,hq,h1,h2,.inl v,t⟩
theorem za5.right {x0 x1 L U:Int}{V V' Sp:Int→Int→Prop}(h:za5 x0 x1 V' Sp L U)(n:NoV x0 x1 V):za5 x0 x1 (λp q=>V p q∨V' p q) Sp L U:=by
 refine⟨λp q hq h1 h2 v=>h.all p q hq h1 h2 (v.resolve_left (n p q hq h1 h2)),?_,?_⟩
 ·obtain⟨p,q,s,hq,h1,h2,v,t⟩:=h.lo
  exact⟨p,q,s,hq,h1,h2,.inr v,t⟩
 ·obtain⟨p,q,s,hq,h1,h2,v,t⟩:=h.hi
  exact⟨p,q,s,hq,h1,h2,.inr v,t⟩
theorem za5.both {x0 x1 L U L' U' l u:Int}{V V' Sp Sp':Int→Int→Prop}(h:za5 x0 x1 V Sp L U)(h':za5 x0 x1 V' Sp' L' U')(el:l=L∧L≤L'∨l=L'∧L'≤L)(eu:u=U∧U'≤U∨u=U'∧U≤U'):za5 x0 x1 (λp q=>V p q∨V' p q) (λp q=>Sp p q∨Sp' p q) l u:=by
 refine⟨λp q hq h1 h2 v=>?_,?_,?_⟩
 ·have hq':=Vay hq
  rcases v with v | v
  ·obtain⟨a,b⟩:=h.all p q hq h1 h2 v
   exact⟨Va5 (mlr (by omega) hq') a,Va5 b (mlr (by omega) hq')⟩
  ·obtain⟨a,b⟩:=h'.all p q hq h1 h2 v
   exact⟨Va5 (mlr (by omega) hq') a,Va5 b (mlr (by omega) hq')⟩
 ·rcases el with ⟨rfl,_⟩ | ⟨rfl,_⟩
  ·obtain⟨p,q,s,hq,h1,h2,v,t⟩:=h.lo
   exact⟨p,q,.inl s,hq,h1,h2,.inl v,t⟩
  ·obtain⟨p,q,s,hq,h1,h2,v,t⟩:=h'.lo
   exact⟨p,q,.inr s,hq,h1,h2,.inr v,t⟩
 ·rcases eu with ⟨rfl,_⟩ | ⟨rfl,_⟩
  ·obtain⟨p,q,s,hq,h1,h2,v,t⟩:=h.hi
   exact⟨p,q,.inl s,hq,h1,h2,.inl v,t⟩
  ·obtain⟨p,q,s,hq,h1,h2,v,t⟩:=h'.hi
   exact⟨p,q,.inr s,hq,h1,h2,.inr v,t⟩
theorem za5.le {x0 x1 L U:Int}{V Sp:Int→Int→Prop}(h:za5 x0 x1 V Sp L U):L≤U:=by
 obtain⟨p,q,s,hq,h1,h2,v,t⟩:=h.lo
 obtain⟨a,b⟩:=h.all p q hq h1 h2 v
 exact can (show L*q≤U*q by omega) hq
theorem za5.within {x0 x1 L U:Int}{V Sp:Int→Int→Prop}(h:za5 x0 x1 V Sp L U):x0≤L∧U≤x1:=by
 constructor
 ·obtain⟨p,q,s,hq,h1,h2,v,t⟩:=h.lo
  have:=Int.lt_of_mul_lt_mul_right (show x0*q<(L+1)*q by omega) (Vay hq)
  omega
 ·obtain⟨p,q,s,hq,h1,h2,v,t⟩:=h.hi
  have:=Int.lt_of_mul_lt_mul_right (show (U-1)*q<x1*q by omega) (Vay hq)
  omega
abbrev tur (t e:Int):Int×Int:=(if e<0 then -t else t,if e<0 then -e else e)
def zex (lo hi e:Int):List (Int×Int):=if e=0 then [] else [tur lo e,tur hi e]
def zoA (lo hi x0 x1 y0 y1:Int):List (Int×Int):=[(x0,1),(x1,1)]++zex lo hi y0++zex lo hi y1
abbrev SpY (lo hi x0 x1 y0 y1 p q:Int):Prop:=(p,q)∈zoA lo hi x0 x1 y0 y1
theorem ziA {lo hi e p q:Int}:(p,q)∈zex lo hi e↔e≠0∧((p,q)=tur lo e∨(p,q)=tur hi e):=by
 unfold zex
 split
 ·simp[*]
 ·rename_i h
  simp[h]
theorem zlN {lo hi x0 x1 y0 y1 p q:Int}:(p,q)∈zoA lo hi x0 x1 y0 y1↔(p=x0∧q=1)∨(p=x1∧q=1)∨(p,q)∈zex lo hi y0∨(p,q)∈zex lo hi y1:=by
 unfold zoA
 simp[VaT,or_assoc]
abbrev mx0 (a:Int):Int:=if 0 > a then 0 else a
theorem zdQ {lo hi y0 y1 p q:Int}(hz:lo≤hi)(hy:y0≤y1)(nb:¬ ((y0≤0∧0≤y1)∧lo≤0∧0≤hi))(hq:0<q):
  Ans lo hi y0 y1 p q↔(y1 > 0∧Ans lo hi (mx0 y0) y1 p q)∨(y0<0∧Ans (-hi) (-lo) (mx0 (-y1)) (-y0) p q):=by
 unfold Ans mx0
 have sl:lo > 0→0<lo*q:=λh=>VaS h hq
 have sl':¬ lo > 0→lo*q≤0:=λh=>by
  have:=mlr (show lo≤0 by omega) (Vay hq)
  omega
 have sh:hi<0→hi*q<0:=λh=>by
  have:=Int.mul_lt_mul_of_pos_right h hq
  omega
 have sh':¬ hi<0→0≤hi*q:=λh=>Van (by omega) (Vay hq)
 have zz:=mlr hz (Vay hq)
 have f:∀y:Int,(0≤p→0≤y→0≤p*y)∧(0≤p→y≤0→p*y≤0)∧(p≤0→0≤y→p*y≤0)∧(p≤0→y≤0→0≤p*y):=λy=>
  ⟨Van,Int.mul_nonpos_of_nonneg_of_nonpos,Int.mul_nonpos_of_nonpos_of_nonneg,Int.mul_nonneg_of_nonpos_of_nonpos⟩
 obtain⟨f1,f2,f3,f4⟩:=f y0
 obtain⟨g1,g2,g3,g4⟩:=f y1
 simp only[Va4,Vah]
 by_cases c1:0 > y0
 ·by_cases c2:0 > -y1
  ·rw[if_pos c1,if_pos c2,VaW]
   omega
  ·rw[if_pos c1,if_neg c2,VaW,Va4]
   omega
 ·by_cases c2:0 > -y1
  ·rw[if_neg c1,if_pos c2,VaW]
   omega
  ·rw[if_neg c1,if_neg c2,Va4]
   have e0:y0=0:=by omega
   have e1:y1=0:=by omega
   subst e0 e1
   simp only[VaW]
   omega
theorem zmZ {lo hi x0 x1 y0 y1 p q:Int}(hy:y0≤y1)(hq:0<q)(h:zbX lo hi x0 x1 (mx0 y0) y1 p q):SpY lo hi x0 x1 y0 y1 p q:=by
 unfold SpY
 rw[zlN,ziA,ziA]
 simp only[tur,Prod.mk.injEq]
 rcases h with h | h | ⟨h1,h2⟩
 ·exact .inl h
 ·exact .inr (.inl h)
 ·rcases h2 with e | e
  ·have c:¬ 0 > y0:=λc=>by rw[mx0,if_pos c] at e; omega
   rw[mx0,if_neg c] at e
   subst e
   refine .inr (.inr (.inl ⟨by omega,?_⟩))
   rw[if_neg (by omega),if_neg (by omega),if_neg (by omega)]
   omega
  ·subst e
   refine .inr (.inr (.inr ⟨by omega,?_⟩))
   rw[if_neg (by omega),if_neg (by omega),if_neg (by omega)]
   omega
theorem znS {lo hi x0 x1 y0 y1 p q:Int}(hy:y0≤y1)(hq:0<q)(h:zbX (-hi) (-lo) x0 x1 (mx0 (-y1)) (-y0) p q):SpY lo hi x0 x1 y0 y1 p q:=by
 unfold SpY
 rw[zlN,ziA,ziA]
 simp only[tur,Prod.mk.injEq]
 rcases h with h | h | ⟨h1,h2⟩
 ·exact .inl h
 ·exact .inr (.inl h)
 ·rcases h2 with e | e
  ·have c:¬ 0 > -y1:=λc=>by rw[mx0,if_pos c] at e; omega
   rw[mx0,if_neg c] at e
   subst e
   refine .inr (.inr (.inr ⟨by omega,?_⟩))
   rw[if_pos (by omega),if_pos (by omega),if_pos (by omega)]
   omega
  ·subst e
   refine .inr (.inr (.inl ⟨by omega,?_⟩))
   rw[if_pos (by omega),if_pos (by omega),if_pos (by omega)]
   omega
abbrev zdZ (lo hi x0 x1 y0 y1 L U:Int):Prop:=za5 x0 x1 (Ans lo hi y0 y1) (SpY lo hi x0 x1 y0 y1) L U
section
variable {lo hi x0 x1 y0 y1 L U L' U' l u:Int}
theorem ztR (hx:x0≤x1)(hy:y0≤0∧0≤y1)(hz:lo≤0∧0≤hi):zdZ lo hi x0 x1 y0 y1 x0 x1:=by
 have v:∀p:Int,Ans lo hi y0 y1 p 1:=λp=>by
  unfold Ans
  by_cases c:0≤p
  ·have:=Int.mul_nonpos_of_nonneg_of_nonpos c hy.1
   have:=Van c hy.2
   omega
  ·have:=Int.mul_nonneg_of_nonpos_of_nonpos (show p≤0 by omega) hy.1
   have:=Int.mul_nonpos_of_nonpos_of_nonneg (show p≤0 by omega) hy.2
   omega
 refine⟨λp q hq h1 h2 _=>⟨h1,h2⟩,⟨x0,1,zlN.mpr (.inl ⟨rfl,rfl⟩),by omega,by omega,by omega,v _,by omega⟩,⟨x1,1,zlN.mpr (.inr (.inl ⟨rfl,rfl⟩)),by omega,by omega,by omega,v _,by omega⟩⟩
variable (hz:lo≤hi)(hy:y0≤y1)(nb:¬ ((y0≤0∧0≤y1)∧lo≤0∧0≤hi))
abbrev zdR (lo hi y0 y1:Int):Int→Int→Prop:=Ans lo hi (mx0 y0) y1
abbrev zdI (lo hi y0 y1:Int):Int→Int→Prop:=Ans (-hi) (-lo) (mx0 (-y1)) (-y0)
include hz hy nb
theorem zti (c1:¬ y1 > 0)(c2:¬ y0<0):NoV x0 x1 (Ans lo hi y0 y1):=λp q hq _ _ v=>by
 rcases (zdQ hz hy nb hq).mp v with ⟨h,_⟩ | ⟨h,_⟩
 ·exact c1 h
 ·exact c2 h
theorem zrl (h:NoV x0 x1 (zdR lo hi y0 y1))(c2:¬ y0<0):NoV x0 x1 (Ans lo hi y0 y1):=λp q hq h1 h2 v=>by
 rcases (zdQ hz hy nb hq).mp v with ⟨_,z⟩ | ⟨z,_⟩
 ·exact h p q hq h1 h2 z
 ·exact c2 z
theorem zuP (c1:¬ y1 > 0)(h:NoV x0 x1 (zdI lo hi y0 y1)):NoV x0 x1 (Ans lo hi y0 y1):=λp q hq h1 h2 v=>by
 rcases (zdQ hz hy nb hq).mp v with ⟨z,_⟩ | ⟨_,z⟩
 ·exact c1 z
 ·exact h p q hq h1 h2 z
theorem zwk (h1:NoV x0 x1 (zdR lo hi y0 y1))(h2:NoV x0 x1 (zdI lo hi y0 y1)):NoV x0 x1 (Ans lo hi y0 y1):=λp q hq a b v=>by
 rcases (zdQ hz hy nb hq).mp v with ⟨_,z⟩ | ⟨_,z⟩
 ·exact h1 p q hq a b z
 ·exact h2 p q hq a b z
theorem zsF (c1:y1 > 0)(c2:¬ y0<0)(h:za5 x0 x1 (zdR lo hi y0 y1) (zbX lo hi x0 x1 (mx0 y0) y1) L U):zdZ lo hi x0 x1 y0 y1 L U:=
 h.mono (λp q hq=>by rw[zdQ hz hy nb hq]; exact⟨λz=>.inl ⟨c1,z⟩,λz=>z.elim (λz=>z.2) λz=>absurd z.1 c2⟩) λp q hq s=>zmZ hy hq s
theorem zsy (c1:¬ y1 > 0)(c2:y0<0)(h:za5 x0 x1 (zdI lo hi y0 y1) (zbX (-hi) (-lo) x0 x1 (mx0 (-y1)) (-y0)) L U):zdZ lo hi x0 x1 y0 y1 L U:=
 h.mono (λp q hq=>by rw[zdQ hz hy nb hq]; exact⟨λz=>.inr ⟨c2,z⟩,λz=>z.elim (λz=>absurd z.1 c1) λz=>z.2⟩) λp q hq s=>znS hy hq s
theorem znG (c1:y1 > 0)(c2:y0<0):∀p q,0<q→(zdR lo hi y0 y1 p q∨zdI lo hi y0 y1 p q↔Ans lo hi y0 y1 p q):=λp q hq=>by
 rw[zdQ hz hy nb hq]
 exact⟨λz=>z.elim (λz=>.inl ⟨c1,z⟩) λz=>.inr ⟨c2,z⟩,λz=>z.elim (λz=>.inl z.2) λz=>.inr z.2⟩
theorem zqZ (c1:y1 > 0)(c2:y0<0)(h:za5 x0 x1 (zdR lo hi y0 y1) (zbX lo hi x0 x1 (mx0 y0) y1) L U)(n:NoV x0 x1 (zdI lo hi y0 y1)):zdZ lo hi x0 x1 y0 y1 L U:=
 (h.left n).mono (znG hz hy nb c1 c2) λp q hq s=>zmZ hy hq s
theorem zvR (c1:y1 > 0)(c2:y0<0)(n:NoV x0 x1 (zdR lo hi y0 y1))(h:za5 x0 x1 (zdI lo hi y0 y1) (zbX (-hi) (-lo) x0 x1 (mx0 (-y1)) (-y0)) L U):zdZ lo hi x0 x1 y0 y1 L U:=
 (h.right n).mono (znG hz hy nb c1 c2) λp q hq s=>znS hy hq s
theorem ztc (c1:y1 > 0)(c2:y0<0)(h:za5 x0 x1 (zdR lo hi y0 y1) (zbX lo hi x0 x1 (mx0 y0) y1) L U)(h':za5 x0 x1 (zdI lo hi y0 y1) (zbX (-hi) (-lo) x0 x1 (mx0 (-y1)) (-y0)) L' U'):zdZ lo hi x0 x1 y0 y1 (if L'<L then L' else L) (if U' > U then U' else U):=
 (h.both h' (by split <;> omega) (by split <;> omega)).mono (znG hz hy nb c1 c2) λp q hq s=>s.elim (zmZ hy hq) (znS hy hq)
end
theorem zsK {lo hi x0 x1 c d l0 l1 h0 h1:Int}(h:zbO lo hi x0 x1 c d)(hl:zaV lo c d=0∧l0=x0∧l1=x0∨zaV lo c d≠0∧l0=lo/zaV lo c d∧l1=-(-lo/zaV lo c d))
  (hh:zaR hi c d=0∧h0=x1∧h1=x1∨zaR hi c d≠0∧h0=hi/zaR hi c d∧h1=-(-hi/zaR hi c d)):
  (l1 > x1∨h0<x0→NoV x0 x1 (Ans lo hi c d))∧(¬ l1 > x1→¬ h0<x0→za5 x0 x1 (Ans lo hi c d) (zbX lo hi x0 x1 c d) (if x0 > l0 then x0 else l0) (if x1<h1 then x1 else h1)):=by
 have hx:=h.hx
 refine⟨λz=>?_,λz1 z2=>h.some (λn=>?_) (λn=>?_) ?_ ?_⟩
 ·rcases z with z | z
  ·rcases hl with ⟨_,_,rfl⟩ | ⟨n,_,rfl⟩
   ·omega
   ·exact h.none1 n z
  ·rcases hh with ⟨_,rfl,_⟩ | ⟨n,rfl,_⟩
   ·omega
   ·exact h.none2 n z
 ·rcases hl with ⟨z,_⟩ | ⟨_,_,rfl⟩
  ·exact absurd z n
  ·omega
 ·rcases hh with ⟨z,_⟩ | ⟨_,rfl,_⟩
  ·exact absurd z n
  ·omega
 ·rcases hl with ⟨z,rfl,_⟩ | ⟨n,rfl,_⟩
  ·refine .inl ⟨by split <;> omega,.inl z⟩
  ·split <;> omega
 ·rcases hh with ⟨z,_,rfl⟩ | ⟨n,_,rfl⟩
  ·refine .inl ⟨by split <;> omega,.inl z⟩
  ·split <;> omega
theorem if2 {a b:Prop} [Decidable a] [Decidable b] {A B:Prop}(h1:a→b→A)(h2:¬ (a∧b)→B):if (decide a&&decide b)=true then A else B:=by
 by_cases z:a∧b
 ·rw[decide_eq_true z.1,decide_eq_true z.2]; exact zcd (h1 z.1 z.2)
 ·have e:(decide a&&decide b)=false:=by
   simp only[Bool.and_eq_false_iff,decide_eq_false_iff_not]
   by_cases y:a
   ·exact .inr λy2=>z ⟨y,y2⟩
   ·exact .inl y
  rw[e]; exact zbE (h2 z)
theorem and2 {a b:Prop} [Decidable a] [Decidable b] {Q:DK}{S:Sto}(h:Q (.bl (decide a&&decide b)) S):if decide a=true then Q (.bl (decide b)) S else Q (.bl false) S:=
 ifD (λe=>by rw[decide_eq_true e,Bool.true_and] at h; exact h) (λe=>by rw[decide_eq_false e,Bool.false_and] at h; exact h)
theorem zb2 (a:Int):0≤mx0 a:=by unfold mx0; split <;> omega
theorem zjT {a b:Int}(h:a≤b)(h0:0≤b):mx0 a≤b:=by unfold mx0; split <;> omega
theorem zc8 {a:Int}(h:Sz 1400 a):Sz 1400 (mx0 a):=by
 unfold mx0
 split
 ·exact Sz.of 0 (by decide)
 ·exact h
theorem cut {a b c t2:TDS}{E:zcC}{dl:Ev}{S:Sto}{α:Type}(G:α→Ev)(P:α→Prop)(h:(∀a,P a→t2 E (G a) S)→zb9 a (zb9 b (zb9 c t2)) E dl S)(main:∀a,P a→t2 E (G a) S):zb9 a (zb9 b (zb9 c t2)) E dl S:=h main
theorem zdu {a b:Int}{n:Nat}(ha:0≤a)(h:a≤b):a^n≤b^n:=by
 induction n with
 | zero=>simp
 | succ n ih=>
  rw[Vad,Vad]
  exact Int.mul_le_mul ih h ha (VaG (by omega))
theorem zgV {a b:Int}{n:Nat}(ha:0≤a)(h:a<b)(hn:1≤n):a^n<b^n:=by
 obtain⟨k,rfl⟩:∃k,n=k+1:=⟨n-1,by omega⟩
 rw[Vad,Vad]
 have h1:a^k*a≤b^k*a:=Vag (zdu ha (by omega)) ha
 have h2:b^k*a<b^k*b:=Int.mul_lt_mul_of_pos_left h (Vaw (by omega))
 omega
theorem plt {a b:Int}{n:Nat}(hb:0≤b)(h:a^n<b^n):a<b:=by
 by_cases c:a<b
 ·exact c
 ·have:=zdu (n:=n) hb (show b≤a by omega)
  omega
theorem zqt {r g:Int}(hr:0≤r)(hg:0≤g):∀k:Nat,((k:Int)+1)*g^k*r-(k:Int)*(g^k*g)≤r^k*r
 | 0=>by simp
 | k+1=>by
  have ih:=zqt hr hg k
  have m:=Vag ih hr
  have sq:0≤((k:Int)+1)*g^k*((r-g)*(r-g)):=by
   refine Van (Van (by omega) (VaG hg)) ?_
   by_cases c:0≤r-g
   ·exact Van c c
   ·exact Int.mul_nonneg_of_nonpos_of_nonpos (by omega) (by omega)
  rw[Vad,Vad]
  have e:((k:Int)+1+1)*(g^k*g)*r-((k:Int)+1)*(g^k*g*g)=(((k:Int)+1)*g^k*r-(k:Int)*(g^k*g))*r-((k:Int)+1)*g^k*((r-g)*(r-g)):=by
   grind
  have e2:(((k+1:Nat):Int)+1)*(g^k*g)*r-((k+1:Nat):Int)*(g^k*g*g)=((k:Int)+1+1)*(g^k*g)*r-((k:Int)+1)*(g^k*g*g):=by
   rw[Int.natCast_add]; rfl
  rw[e2,e]
  omega
theorem zuW {r g N:Int}{n:Nat}(hn:1≤n)(hr:0≤r)(hg:0<g)(h:r^n≤N):r≤(((n:Int)-1)*g+N/g^(n-1))/n:=by
 obtain⟨k,rfl⟩:∃k,n=k+1:=⟨n-1,by omega⟩
 have t:=zqt hr (Vay hg) k
 rw[Vad] at h
 have gp:0<g^k:=Vaw hg
 have e0:(((k+1:Nat):Int)-1)=k:=by omega
 rw[e0,Nat.add_sub_cancel]
 have q:((k:Int)+1)*r-k*g≤N/g^k:=by
  refine(Int.le_ediv_iff_mul_le gp).mpr ?_
  have e:(((k:Int)+1)*r-k*g)*g^k=((k:Int)+1)*g^k*r-(k:Int)*(g^k*g):=by grind
  omega
 refine(Int.le_ediv_iff_mul_le (by omega)).mpr ?_
 have e:r*((k+1:Nat):Int)=((k:Int)+1)*r:=by rw[VaC]; rfl
 omega
theorem ztX {g N:Int}{n:Nat}(hn:1≤n)(hg:0<g)(h:N<g^n):(((n:Int)-1)*g+N/g^(n-1))/n<g:=by
 obtain⟨k,rfl⟩:∃k,n=k+1:=⟨n-1,by omega⟩
 have gp:0<g^k:=Vaw hg
 rw[Vad] at h
 have e0:(((k+1:Nat):Int)-1)=k:=by omega
 rw[e0,Nat.add_sub_cancel]
 have q:N/g^k<g:=(Int.ediv_lt_iff_lt_mul gp).mpr (by rw[VaC g]; exact h)
 refine(Int.ediv_lt_iff_lt_mul (by omega)).mpr ?_
 have e:g*((k+1:Nat):Int)=(k:Int)*g+g:=by
  rw[VaC,Int.natCast_add,Int.add_mul]
  simp
 omega
theorem zda {n:Nat}(h:n%2=1)(a:Int):(-a)^n=-(a^n):=by
 obtain⟨k,rfl⟩:∃k,n=2*k+1:=⟨n/2,by omega⟩
 rw[Vad,Vad,Int.pow_mul,Int.pow_mul]
 have e:(-a)^2=a^2:=by rw[Vad,Vad,Vad,Vad]; grind
 rw[e]
 grind
theorem zmQ {n:Nat}(h:n%2=0)(a:Int):(-a)^n=a^n:=by
 obtain⟨k,rfl⟩:∃k,n=2*k:=⟨n/2,by omega⟩
 rw[Int.pow_mul,Int.pow_mul]
 have e:(-a)^2=a^2:=by rw[Vad,Vad,Vad,Vad]; grind
 rw[e]
theorem zkV {n:Nat}(h:n%2=1){a b:Int}(hab:a≤b):a^n≤b^n:=by
 by_cases c:0≤a
 ·exact zdu c hab
 ·by_cases d:0≤b
  ·have h1:a^n=-((-a)^n):=by rw[zda h,Int.neg_neg]
   have h2:(0:Int)≤(-a)^n:=VaG (by omega)
   have h3:(0:Int)≤b^n:=VaG d
   omega
  ·have h1:=zdu (n:=n) (show 0≤-b by omega) (show -b≤-a by omega)
   rw[zda h,zda h] at h1
   omega
theorem zna {n:Nat}(h:n%2=1){a b:Int}(hab:a<b):a^n<b^n:=by
 by_cases c:0≤a
 ·exact zgV c hab (by omega)
 ·by_cases d:0≤b
  ·have h1:a^n=-((-a)^n):=by rw[zda h,Int.neg_neg]
   have h2:(0:Int)<(-a)^n:=Vaw (by omega)
   have h3:(0:Int)≤b^n:=VaG d
   omega
  ·have h1:=zgV (n:=n) (show 0≤-b by omega) (show -b < -a by omega) (by omega)
   rw[zda h,zda h] at h1
   omega
def Mt (n:Nat)(lo hi l h:Int):Prop:=((n%2=0∧l<0∧0<h)∧0≤hi∨¬ (n%2=0∧l<0∧0<h)∧(l^n≤hi∨h^n≤hi))∧(lo≤l^n∨lo≤h^n)
def zbB (n:Nat)(N a b:Int):Prop:=b=a∧a^n=N∨b=a+1∧a^n<N∧N<b^n
structure Rts (n:Nat)(lo hi al bl ah bh:Int):Prop where
 hz:lo≤hi
 hn:1≤n
 nn:n%2=0→0≤al∧0≤ah
 up:∀t:Int,n%2=1∨0≤t→(t^n≤hi↔t≤ah)
 dn:∀t:Int,n%2=1∨0≤t→(lo≤t^n↔bl≤t)
 el:bl=al∧(bl^n=lo∨bl=0∧n%2=0)∨bl=al+1∧bl^n≠lo
 eh:bh=ah∧ah^n=hi∨bh=ah+1∧ah^n≠hi
theorem zbB.le {n:Nat}{N a b:Int}(hn:1≤n)(h:zbB n N a b)(ok:n%2=1∨0≤a){t:Int}(ht:n%2=1∨0≤t):t^n≤N↔t≤a:=by
 have mono:t≤a→t^n≤a^n:=λz=>by
  rcases ht with o | o
  ·exact zkV o z
  ·exact zdu o z
 have strict:a+1≤t→(a+1)^n≤t^n:=λz=>by
  rcases ok with o | o
  ·exact zkV o z
  ·exact zdu (by omega) z
 have s1:a^n<(a+1)^n:=by
  rcases ok with o | o
  ·exact zna o (by omega)
  ·exact zgV o (by omega) hn
 constructor
 ·intro q
  by_cases c:t≤a
  ·exact c
  ·have:=strict (by omega)
   rcases h with ⟨rfl,e⟩ | ⟨rfl,e1,e2⟩ <;> omega
 ·intro q
  have:=mono q
  rcases h with ⟨rfl,e⟩ | ⟨rfl,e1,e2⟩ <;> omega
theorem zbB.ge {n:Nat}{N a b:Int}(hn:1≤n)(h:zbB n N a b)(ok:n%2=1∨0≤a){t:Int}(ht:n%2=1∨0≤t):N≤t^n↔b≤t:=by
 have okb:n%2=1∨0≤b:=by
  rcases ok with o | o
  ·exact .inl o
  ·right
   rcases h with ⟨rfl,_⟩ | ⟨rfl,_⟩ <;> omega
 have mono:b≤t→b^n≤t^n:=λz=>by
  rcases okb with o | o
  ·exact zkV o z
  ·exact zdu o z
 have strict:t<b→t^n<b^n:=λz=>by
  rcases ht with o | o
  ·exact zna o z
  ·exact zgV o z hn
 have down:t≤a→t^n≤a^n:=λz=>by
  rcases ht with o | o
  ·exact zkV o z
  ·exact zdu o z
 constructor
 ·intro q
  by_cases c:b≤t
  ·exact c
  ·have:=strict (by omega)
   rcases h with ⟨rfl,e⟩ | ⟨rfl,e1,e2⟩
   ·omega
   ·have:=down (by omega)
    omega
 ·intro q
  have:=mono q
  rcases h with ⟨rfl,e⟩ | ⟨rfl,e1,e2⟩ <;> omega
theorem znp {n:Nat}(hn:1≤n):(0:Int)^n=0:=by
 obtain⟨k,rfl⟩:∃k,n=k+1:=⟨n-1,by omega⟩
 rw[Vad,VaW]
def Mp (n:Nat)(bl ah l h:Int):Prop:=l≤ah∧bl≤h∨n%2=0∧-ah≤h∧l≤-bl
section
variable {n:Nat}{lo hi al bl ah bh:Int}
theorem Rts.b0 (R:Rts n lo hi al bl ah bh)(he:n%2=0):0≤bl:=by
 have:=(R.nn he).1
 rcases R.el with ⟨e,_⟩ | ⟨e,_⟩ <;> omega
theorem Rts.hi0 (R:Rts n lo hi al bl ah bh)(he:n%2=0):0≤hi:=by
 have h:=(R.up 0 (.inr (by omega))).mpr (R.nn he).2
 rw[znp R.hn] at h
 exact h
theorem Rts.up' (R:Rts n lo hi al bl ah bh)(t:Int)(he:n%2=0)(ht:t≤0):t^n≤hi↔-t≤ah:=by
 rw[← R.up (-t) (.inr (by omega)),zmQ he]
theorem Rts.dn' (R:Rts n lo hi al bl ah bh)(t:Int)(he:n%2=0)(ht:t≤0):lo≤t^n↔bl≤-t:=by
 rw[← R.dn (-t) (.inr (by omega)),zmQ he]
theorem Rts.meets (R:Rts n lo hi al bl ah bh){l h:Int}(hlh:l≤h):Mt n lo hi l h↔Mp n bl ah l h:=by
 unfold Mt Mp
 rcases Va6 n with he | ho
 ·have b0:=R.b0 he
  have a0:=(R.nn he).2
  have h0:=R.hi0 he
  rcases Int.le_total 0 l with c | c
  ·have u1:=R.up l (.inr c)
   have u2:=R.up h (.inr (by omega))
   have d1:=R.dn l (.inr c)
   have d2:=R.dn h (.inr (by omega))
   rw[u1,u2,d1,d2]
   omega
  ·have u1:=R.up' l he c
   have d1:=R.dn' l he c
   rcases Int.le_total 0 h with d | d
   ·have u2:=R.up h (.inr d)
    have d2:=R.dn h (.inr d)
    rw[u1,u2,d1,d2]
    omega
   ·have u2:=R.up' h he d
    have d2:=R.dn' h he d
    rw[u1,u2,d1,d2]
    omega
 ·have u1:=R.up l (.inl ho)
  have u2:=R.up h (.inl ho)
  have d1:=R.dn l (.inl ho)
  have d2:=R.dn h (.inl ho)
  rw[u1,u2,d1,d2]
  omega
structure Least (n:Nat)(lo hi x0 x1 m:Int):Prop where
 a:x0≤m
 b:m≤x1
 c:Mt n lo hi x0 m
 d:∀k,x0≤k→k<m→¬ Mt n lo hi x0 k
def zk5 (n:Nat)(lo hi x0 x1 v:Int):Prop:=∃m,Least n lo hi x0 x1 m∧(m=x0∧v=x0∨m≠x0∧(((m-1)^n<lo∧m^n=lo∨(m-1)^n > hi∧m^n=hi)∧v=m∨¬ ((m-1)^n<lo∧m^n=lo∨(m-1)^n > hi∧m^n=hi)∧v=m-1))
def zs9 (n:Nat)(al bl ah bh x0 x1 v:Int):Prop:=
 (x0≤ah∧bl≤x1)∧¬ (n%2=0∧-ah≤x1∧x0≤-bl)∧v=(if x0 > al then x0 else al)∨
 (n%2=0∧-ah≤x1∧x0≤-bl)∧v=(if x0 > -bh then x0 else -bh)
theorem Rts.first (R:Rts n lo hi al bl ah bh){x0 x1 v w:Int}(F:zk5 n lo hi x0 x1 v)(L:zs9 n al bl ah bh x0 x1 w):v=w:=by
 obtain⟨m,⟨a,b,c,d⟩,e⟩:=F
 rw[R.meets a] at c
 have d':∀k,x0≤k→k<m→¬ Mp n bl ah x0 k:=λk h1 h2=>by
  rw[← R.meets h1]
  exact d k h1 h2
 unfold Mp at c d'
 have hz:=R.hz
 have el:=R.el
 have eh:=R.eh
 rcases L with ⟨⟨p1,p2⟩,p3,rfl⟩ | ⟨⟨q0,q1,q2⟩,rfl⟩
 ·have c':bl≤m:=by omega
  by_cases z:m=x0
  ·subst z
   split <;> omega
  ·have z2:m≤bl:=by
    have:=d' (m-1) (by omega) (by omega)
    omega
   have em:m=bl:=by omega
   subst em
   rcases Va6 n with he | ho
   ·have b0:=R.b0 he
    have a0:=(R.nn he).2
    have m1:¬ (lo≤(m-1)^n):=λz=>by
     have:=(R.dn (m-1) (.inr (by omega))).mp z
     omega
    split <;> omega
   ·have m1:¬ (lo≤(m-1)^n):=λz=>by
     have:=(R.dn (m-1) (.inl ho)).mp z
     omega
    split <;> omega
 ·have b0:=R.b0 q0
  have a0:=(R.nn q0).2
  have c':-ah≤m:=by omega
  by_cases z:m=x0
  ·subst z
   split <;> omega
  ·have z2:m≤-ah:=by
    have:=d' (m-1) (by omega) (by omega)
    omega
   have em:m=-ah:=by omega
   subst em
   have m1:¬ ((-ah-1)^n≤hi):=λz=>by
    have:=(R.up' (-ah-1) q0 (by omega)).mp z
    omega
   have m2:(-ah)^n=ah^n:=zmQ q0 ah
   rw[m2] at e
   split <;> omega
theorem Rts.has (R:Rts n lo hi al bl ah bh){t:Int}(h1:lo≤t^n)(h2:t^n≤hi):bl≤t∧t≤ah∨n%2=0∧-ah≤t∧t≤-bl:=by
 rcases Va6 n with he | ho
 ·rcases Int.le_total 0 t with c | c
  ·exact .inl ⟨(R.dn t (.inr c)).mp h1,(R.up t (.inr c)).mp h2⟩
  ·have a:=(R.dn' t he c).mp h1
   have b:=(R.up' t he c).mp h2
   exact .inr ⟨he,by omega,by omega⟩
 ·exact .inl ⟨(R.dn t (.inl ho)).mp h1,(R.up t (.inl ho)).mp h2⟩
end
structure zc2 (n:Nat)(lo hi x0 x1 L U:Int):Prop where
 m:Mt n lo hi x0 x1
 low:∀v,zk5 n lo hi x0 x1 v→v=L
 he:n%2=0→∀v,zk5 n lo hi (-x1) (-x0) v→v=-U
 ho:n%2=1→∀v,zk5 n (-hi) (-lo) (-x1) (-x0) v→v=-U
 lu:L≤U
 has:∀t,x0≤t→t≤x1→lo≤t^n→t^n≤hi→L≤t∧t≤U
section
variable {n:Nat}{lo hi al bl ah bh x0 x1:Int}
theorem Rts.ord (R:Rts n lo hi al bl ah bh):al≤bl∧ah≤bh∧al≤ah∧bl≤bh∧al≤bh:=by
 have e1:=R.el
 have e2:=R.eh
 have hz:=R.hz
 have k:al≤ah:=by
  rcases Va6 n with he | ho
  ·have a0:=(R.nn he).1
   rcases e1 with ⟨e,z⟩ | ⟨e,z⟩
   ·rcases z with z | z
    ·have:=(R.up bl (.inr (by omega))).mp (by omega)
     omega
    ·have:=(R.nn he).2
     omega
   ·have q:¬ lo≤al^n:=λq=>by
     have:=(R.dn al (.inr a0)).mp q
     omega
    exact(R.up al (.inr a0)).mp (by omega)
  ·rcases e1 with ⟨e,z⟩ | ⟨e,z⟩
   ·rcases z with z | z
    ·have:=(R.up bl (.inl ho)).mp (by omega)
     omega
    ·omega
   ·have q:¬ lo≤al^n:=λq=>by
     have:=(R.dn al (.inl ho)).mp q
     omega
    exact(R.up al (.inl ho)).mp (by omega)
 have k2:bl≤bh:=by
  have u:=R.up bh
  have d:=R.dn bh
  rcases e2 with ⟨e,z⟩ | ⟨e,z⟩
  ·subst e
   rcases Va6 n with he | ho
   ·exact(d (.inr (R.nn he).2)).mp (by omega)
   ·exact(d (.inl ho)).mp (by omega)
  ·rcases Va6 n with he | ho
   ·have a1:=(R.nn he).2
    have:=u (.inr (by omega))
    exact(d (.inr (by omega))).mp (by omega)
   ·have:=u (.inl ho)
    exact(d (.inl ho)).mp (by omega)
 omega
end
theorem zpw {n:Nat}(hn:1≤n){N:Int}(h0:0≤N):∃r:Int,0≤r∧r^n≤N∧N<(r+1)^n:=by
 have key:∀k:Nat,N<((k:Int)+1)^n→∃r:Int,0≤r∧r^n≤N∧N<(r+1)^n:=by
  intro k
  induction k with
  | zero=>exact λh=>⟨0,by omega,by rw[znp hn]; exact h0,by simpa using h⟩
  | succ k ih=>
   intro h
   by_cases c:N<((k:Int)+1)^n
   ·exact ih c
   ·exact⟨(k:Int)+1,by omega,by omega,by simpa using h⟩
 refine key N.toNat ?_
 have h1:N<N+1:=by omega
 have h2:(N+1)^1≤(N+1)^n:=by
  obtain⟨k,rfl⟩:∃k,n=k+1:=⟨n-1,by omega⟩
  rw[Vad (N+1) k,Vad,VaQ]
  have:0<(N+1)^k:=Vaw (by omega)
  exact Vag (show (1:Int)≤(N+1)^k by omega) (by omega)
 have e:((N.toNat:Nat):Int)=N:=by omega
 rw[e]
 have e1:(N+1)^1=N+1:=by rw[Vad,VaQ,Int.one_mul]
 omega
theorem zo2 {n:Nat}{N r:Int}(h1:r^n≤N)(h2:N<(r+1)^n):(r^n=N→zbB n N r r)∧(r^n≠N→zbB n N r (r+1)):=
 ⟨λe=>.inl ⟨rfl,e⟩,λe=>.inr ⟨rfl,by omega,h2⟩⟩
theorem zxM {n:Nat}{N a b:Int}(ho:n%2=1)(h:zbB n (-N) a b):zbB n N (-b) (-a):=by
 unfold zbB at h ⊢
 rw[zda ho,zda ho]
 rcases h with ⟨rfl,e⟩ | ⟨rfl,e1,e2⟩
 ·exact .inl ⟨rfl,by omega⟩
 ·exact .inr ⟨by omega,by omega,by omega⟩
theorem Sz.mid {n:Nat}{a b x:Int}(ha:Sz n a)(hb:Sz n b)(h1:a≤x)(h2:x≤b):Sz n x:=by
 unfold Sz at *
 generalize 2^n=B at *
 omega
theorem zuc (N:Int)(h:0≤N):N<2^(Builtin.Int.intBits N):=by
 unfold Builtin.Int.intBits
 split
 ·rename_i z
  have:N=0:=by simpa using z
  subst this
  decide
 ·have l:N.natAbs<2^(N.natAbs.log2+1):=Nat.lt_log2_self
  have e:((2^(N.natAbs.log2+1):Nat):Int)=2^(N.natAbs.log2+1):=by simp
  omega
theorem zsa {N n:Int}(h0:0≤N)(hn:1≤n):N<(1*2^((Builtin.Int.intBits N:Int)/n+1).toNat)^n.toNat:=by
 have b:=zuc N h0
 rw[Int.one_mul,← Int.pow_mul]
 refine Int.lt_of_lt_of_le b ?_
 have e:(2:Int)^(((Builtin.Int.intBits N:Int)/n+1).toNat*n.toNat)=((2^(((Builtin.Int.intBits N:Int)/n+1).toNat*n.toNat):Nat):Int):=by simp
 have e2:(2:Int)^(Builtin.Int.intBits N)=((2^(Builtin.Int.intBits N):Nat):Int):=by simp
 rw[e,e2]
 refine Int.ofNat_le.mpr (Nat.pow_le_pow_right (by decide) ?_)
 have d1:=Int.emod_add_mul_ediv (Builtin.Int.intBits N:Int) n
 have d2:=Int.emod_lt_of_pos (Builtin.Int.intBits N:Int) (show 0<n by omega)
 have d3:=Int.ediv_nonneg (show (0:Int)≤(Builtin.Int.intBits N:Int) by omega) (show 0≤n by omega)
 have m:(((((Builtin.Int.intBits N:Int)/n+1).toNat*n.toNat:Nat):Int))=n*((Builtin.Int.intBits N:Int)/n)+n:=by
  rw[Int.natCast_mul,Int.toNat_of_nonneg (by omega),Int.toNat_of_nonneg (by omega)]
  grind
 omega
theorem zsc {N n:Int}(hn:2≤n)(s:Sz 1300 N):Sz 652 (1*2^((Builtin.Int.intBits N:Int)/n+1).toNat):=by
 have b:=s.bits
 rw[Int.one_mul]
 unfold Sz
 rw[Int.natAbs_pow]
 have e:(2:Int).natAbs=2:=rfl
 rw[e]
 refine Nat.pow_lt_pow_right (by decide) ?_
 have d:(Builtin.Int.intBits N:Int)/n≤650:=by
  have h1:(Builtin.Int.intBits N:Int)/n≤(Builtin.Int.intBits N:Int)/2:=by
   refine(Int.le_ediv_iff_mul_le (by omega)).mpr ?_
   have d1:=Int.emod_add_mul_ediv (Builtin.Int.intBits N:Int) n
   have d2:=Int.emod_nonneg (Builtin.Int.intBits N:Int) (show n≠0 by omega)
   have d3:=Int.ediv_nonneg (show (0:Int)≤(Builtin.Int.intBits N:Int) by omega) (show 0≤n by omega)
   have d4:=Vag hn d3
   have d5:(Builtin.Int.intBits N:Int)/n*2=2*((Builtin.Int.intBits N:Int)/n):=VaC _ _
   omega
  omega
 omega
theorem zrB {n g N:Int}(hn:1≤n):((n-1)*g+N/g^(n-1).toNat)/n=((((n.toNat:Nat):Int)-1)*g+N/g^(n.toNat-1))/((n.toNat:Nat):Int):=by
 have e1:((n.toNat:Nat):Int)=n:=by omega
 have e2:(n-1).toNat=n.toNat-1:=by omega
 rw[e1,e2]
def bk2 (i j:Int)(f:Option (Int×Int))(s:Int×Int→Option (Int×Int)):Option (List (Int×(Int×Int))):=match f with
 | none=>none
 | some x=>match s x with
  | none=>none
  | some y=>some [(i,x),(j,y)]
theorem zsB {caps:List Nat}{tl te:TDE}{dl:Ev}{S S1:Sto}{Q:DK}{n:Nat}{o:Ob}(W:Nat→List D→Sto→Prop)(htl:∀K:DK,K (.ref n) S1→tl dl S K)(h1:S1[n]?=some o)(hw:∀k ys S2,W k ys S2→S2[n]?=some o∧S2[S1.length]?=some (.lst ys)∧ys.length=k)(hl:(zaz o).length≤1000)(h0:W 0 [] (S1++[.lst []]))
  (ht:∀(k:Nat) (x:D) (ys:List D) (S2:Sto) (K:DK),(zaz o)[k]?=some x→W k ys S2→(∀y S3,S3[S1.length]?=some (.lst ys)→W (k+1) (ys++[y]) (S3.set S1.length (.lst (ys++[y])))→K y S3)→te (some x::zcD caps dl) S2 K)
  (hq:∀ys S2,W (zaz o).length ys S2→Q (.ref S1.length) S2)(hL:zb0 o=some o:=by rfl):zdH caps tl zcQ te dl S Q:=by
 unfold zdH
 refine htl _ ⟨by rw[zbd h1 hL]; rfl,λk m S2=>(∃ys,W k ys S2)∧m+k=(zaz o).length,⟨(zaz o).length,⟨_,h0⟩,by omega⟩,?_⟩
 rintro k m S2 ⟨⟨ys,w⟩,hm⟩
 obtain⟨w1,w2,w3⟩:=hw _ _ _ w
 rw[zbd w1 hL]
 dsimp only
 split
 ·rename_i x hx
  have hk:k<(zaz o).length:=(Vab.mp hx).1
  unfold zdT zcQ
  simp only[if_true]
  refine ht k x ys S2 _ hx w λy S3 e3 w4=>?_
  rw[e3]
  exact⟨by omega,m-1,by omega,⟨_,w4⟩,by omega⟩
 ·rename_i hx
  have hk:k=(zaz o).length:=by
   have:=VaK.mp hx
   omega
  exact hq ys S2 (hk ▸ w)
theorem zpx {vs:List Nd}{k:Nat}{v:Nd}(h:vs[k]?=some v):atI (vs.map Nd.d) (k:Int)=some v.d:=zjO (by rw[Val,h]; rfl)
theorem zqA {is:List Nat}{ta:TDA}{tb:TDS}{E:zcC}{dl:Ev}{S S1:Sto}{n:Nat}{xs:List D}(W:Nat→Ev→Sto→Prop)(hta:∀K:List D→Sto→Prop,K [.ref n] S1→ta dl S K)(hk:∀k dl' S',W k dl' S'→S'[n]?=some (.lst xs))(h0:W 0 dl S1)
  (hb:∀(k:Nat) (x:D) (dl':Ev) (S':Sto) (nx ct:Ev→Sto→Prop),xs[k]?=some x→W k dl' S'→(∀dl2 S2,W (k+1) dl2 S2→nx dl2 S2)→tb { nx:=nx,rt:=E.rt,bk:=E.nx,ct:=ct } (zgo is [.int (k:Int),x] dl') S')(he:∀dl' S',W xs.length dl' S'→E.nx dl' S'):zi5 is ta tb E dl S:=by
 unfold zi5
 refine hta _ ⟨by rw[zbd (hk _ _ _ h0) rfl]; rfl,λk m dl' S'=>W k dl' S'∧k+m=xs.length,⟨xs.length,h0,by omega⟩,?_⟩
 rintro k m dl' S' ⟨w,hm⟩
 rw[zbd (hk _ _ _ w) rfl]
 dsimp only[zaz]
 split
 ·rename_i x e1
  have l1:=(Vab.mp e1).1
  exact hb k x dl' S' _ _ e1 w (λdl2 S2 w2=>⟨m-1,by omega,w2,by omega⟩)
 ·rename_i e1
  have l1:=VaK.mp e1
  have ek:k=xs.length:=by omega
  exact⟨ek,he _ _ (ek ▸ w)⟩
theorem zgq {xs:List D}{n:Int}(h0:0≤n)(h1:n≤xs.length):zaS xs none (some n)=xs.take n.toNat:=by
 unfold L3.zaS
 have e:HT.sIx xs.length xs.length (some n)=n.toNat:=by
  have z:=HT.sIx_nat xs.length xs.length n.toNat
  rw[Int.toNat_of_nonneg h0] at z
  rw[z]
  omega
 rw[e,HT.sIx_none,List.drop_zero,Nat.sub_zero]
def ptB (x l h:Int×Int):Option (Int×Int):=if l.2 > x.2 then none else if h.1<x.1 then none else some (if x.1 > l.1 then x.1 else l.1,if x.2<h.2 then x.2 else h.2)
def loE (lo:Int)(x:Int×Int)(lb:Int):Int×Int:=if lb=0 then (x.1,x.1) else (lo/lb,-(-lo/lb))
def hiE (hi:Int)(x:Int×Int)(hb:Int):Int×Int:=if hb=0 then (x.2,x.2) else (hi/hb,-(-hi/hb))
def sdS (lo hi:Int)(x:Int×Int)(c d:Int):Option (Int×Int):=ptB x (loE lo x (zaV lo c d)) (hiE hi x (zaR hi c d))
def joS:Option (Int×Int)→Option (Int×Int)→Option (Int×Int)
 | none,o=>o
 | some p,none=>some p
 | some p,some q=>some (if q.1<p.1 then q.1 else p.1,if q.2 > p.2 then q.2 else p.2)
def btS (z x y:Int×Int)(g:Int):Option (Int×Int):=
 if (y.1≤0∧0≤y.2)∧z.1≤0∧0≤z.2 then some x else
  joS (if y.2 > 0 then sdS (z.1*g) (z.2*g) x (mx0 y.1) y.2 else none) (if y.1<0 then sdS (-(z.2*g)) (-(z.1*g)) x (mx0 (-y.2)) (-y.1) else none)
theorem znM {lo hi c d:Int}{x:Int×Int}(h:zbO lo hi x.1 x.2 c d):(sdS lo hi x c d=none→NoV x.1 x.2 (Ans lo hi c d))∧∀p,sdS lo hi x c d=some p→za5 x.1 x.2 (Ans lo hi c d) (zbX lo hi x.1 x.2 c d) p.1 p.2:=by
 have hl:zaV lo c d=0∧(loE lo x (zaV lo c d)).1=x.1∧(loE lo x (zaV lo c d)).2=x.1∨zaV lo c d≠0∧(loE lo x (zaV lo c d)).1=lo/zaV lo c d∧(loE lo x (zaV lo c d)).2=-(-lo/zaV lo c d):=by
  by_cases e:zaV lo c d=0
  ·exact .inl ⟨e,by rw[loE,if_pos e],by rw[loE,if_pos e]⟩
  ·exact .inr ⟨e,by rw[loE,if_neg e],by rw[loE,if_neg e]⟩
 have hh:zaR hi c d=0∧(hiE hi x (zaR hi c d)).1=x.2∧(hiE hi x (zaR hi c d)).2=x.2∨zaR hi c d≠0∧(hiE hi x (zaR hi c d)).1=hi/zaR hi c d∧(hiE hi x (zaR hi c d)).2=-(-hi/zaR hi c d):=by
  by_cases e:zaR hi c d=0
  ·exact .inl ⟨e,by rw[hiE,if_pos e],by rw[hiE,if_pos e]⟩
  ·exact .inr ⟨e,by rw[hiE,if_neg e],by rw[hiE,if_neg e]⟩
 have z:=zsK h hl hh
 unfold sdS ptB
 refine⟨λe=>?_,λp e=>?_⟩
 ·refine z.1 ?_
  split at e
  ·exact .inl ‹_›
  ·split at e
   ·exact .inr ‹_›
   ·cases e
 ·split at e
  ·cases e
  ·split at e
   ·cases e
   ·cases e
    exact z.2 ‹_› ‹_›
theorem zro {z x y:Int×Int}{g:Int}(hz:z.1≤z.2)(hx:x.1≤x.2)(hy:y.1≤y.2)(hg:1≤g):(btS z x y g=none→NoV x.1 x.2 (Ans (z.1*g) (z.2*g) y.1 y.2))∧∀p,btS z x y g=some p→zdZ (z.1*g) (z.2*g) x.1 x.2 y.1 y.2 p.1 p.2:=by
 have hzz:z.1*g≤z.2*g:=mlr hz (by omega)
 have zlo:z.1*g≤0∧0≤z.2*g↔z.1≤0∧0≤z.2:=by
  constructor
  ·rintro⟨a,b⟩
   exact⟨can (show z.1*g≤0*g by omega) (by omega),can (show 0*g≤z.2*g by omega) (by omega)⟩
  ·rintro⟨a,b⟩
   exact⟨Int.mul_nonpos_of_nonpos_of_nonneg a (by omega),Van b (by omega)⟩
 unfold btS
 split
 ·rename_i c
  refine⟨λe=>(by cases e),λp e=>?_⟩
  cases e
  exact ztR hx c.1 (zlo.mpr c.2)
 ·rename_i c
  have nb:¬ ((y.1≤0∧0≤y.2)∧z.1*g≤0∧0≤z.2*g):=λq=>c ⟨q.1,zlo.mp q.2⟩
  by_cases c1:y.2 > 0
  ·have S1:=znM (x:=x) (lo:=z.1*g) (hi:=z.2*g) (c:=mx0 y.1) (d:=y.2) ⟨hzz,hx,zb2 _,zjT (by omega) (by omega),c1⟩
   rw[if_pos c1]
   by_cases c2:y.1<0
   ·have S2:=znM (x:=x) (lo:=-(z.2*g)) (hi:=-(z.1*g)) (c:=mx0 (-y.2)) (d:=-y.1) ⟨by omega,hx,zb2 _,zjT (by omega) (by omega),by omega⟩
    rw[if_pos c2]
    generalize sdS (z.1*g) (z.2*g) x (mx0 y.1) y.2=o1 at S1
    generalize sdS (-(z.2*g)) (-(z.1*g)) x (mx0 (-y.2)) (-y.1)=o2 at S2
    cases o1 with
    | none=>cases o2 with
     | none=>exact⟨λ_=>zwk hzz hy nb (S1.1 rfl) (S2.1 rfl),λp e=>by cases e⟩
     | some q=>exact⟨λe=>(by cases e),λp e=>by cases e; exact zvR hzz hy nb c1 c2 (S1.1 rfl) (S2.2 _ rfl)⟩
    | some p=>cases o2 with
     | none=>exact⟨λe=>(by cases e),λp e=>by cases e; exact zqZ hzz hy nb c1 c2 (S1.2 _ rfl) (S2.1 rfl)⟩
     | some q=>exact⟨λe=>(by cases e),λp e=>by cases e; exact ztc hzz hy nb c1 c2 (S1.2 _ rfl) (S2.2 _ rfl)⟩
   ·rw[if_neg c2]
    generalize sdS (z.1*g) (z.2*g) x (mx0 y.1) y.2=o1 at S1
    cases o1 with
    | none=>exact⟨λ_=>zrl hzz hy nb (S1.1 rfl) c2,λp e=>by cases e⟩
    | some p=>exact⟨λe=>(by cases e),λp e=>by cases e; exact zsF hzz hy nb c1 c2 (S1.2 _ rfl)⟩
  ·rw[if_neg c1]
   by_cases c2:y.1<0
   ·have S2:=znM (x:=x) (lo:=-(z.2*g)) (hi:=-(z.1*g)) (c:=mx0 (-y.2)) (d:=-y.1) ⟨by omega,hx,zb2 _,zjT (by omega) (by omega),by omega⟩
    rw[if_pos c2]
    generalize sdS (-(z.2*g)) (-(z.1*g)) x (mx0 (-y.2)) (-y.1)=o2 at S2
    cases o2 with
    | none=>exact⟨λ_=>zuP hzz hy nb c1 (S2.1 rfl),λp e=>by cases e⟩
    | some q=>exact⟨λe=>(by cases e),λp e=>by cases e; exact zsy hzz hy nb c1 c2 (S2.2 _ rfl)⟩
   ·rw[if_neg c2]
    exact⟨λ_=>zti hzz hy nb c1 c2,λp e=>by cases e⟩
def Sub (x:Int×Int)(o:Option (Int×Int)):Prop:=∀p,o=some p→p.1≤p.2∧x.1≤p.1∧p.2≤x.2
theorem zoy {z x y:Int×Int}{g:Int}(hz:z.1≤z.2)(hx:x.1≤x.2)(hy:y.1≤y.2)(hg:1≤g):Sub x (btS z x y g):=λp e=>by
 have W:=(zro hz hx hy hg).2 p e
 exact⟨W.le,W.within.1,W.within.2⟩
def InF (s:Int×Int)(g t u:Int):Prop:=s.1*u≤t*g∧t*g≤s.2*u
noncomputable def rbS (N:Int)(n:Nat):Int:=open Classical in if h:∃r:Int,0≤r∧r^n≤N∧N<(r+1)^n then Classical.choose h else 0
theorem znB {N r:Int}{n:Nat}(h0:0≤r)(h1:r^n≤N)(h2:N<(r+1)^n):r=rbS N n:=by
 have ex:∃r:Int,0≤r∧r^n≤N∧N<(r+1)^n:=⟨r,h0,h1,h2⟩
 have e:rbS N n=Classical.choose ex:=by unfold rbS; rw[dif_pos ex]
 obtain⟨c0,c1,c2⟩:=Classical.choose_spec ex
 rw[← e] at c0 c1 c2
 have a:=plt (n:=n) (show 0≤rbS N n+1 by omega) (Int.lt_of_le_of_lt h1 c2)
 have b:=plt (n:=n) (show 0≤r+1 by omega) (Int.lt_of_le_of_lt c1 h2)
 omega
noncomputable def rt0 (N:Int)(n:Nat):Int×Int:=if (rbS N n)^n=N then (rbS N n,rbS N n) else (rbS N n,rbS N n+1)
noncomputable def rtS (N:Int)(n:Nat):Int×Int:=if N<0 then (-(rt0 (-N) n).2,-(rt0 (-N) n).1) else rt0 N n
theorem zoO {N:Int}{n:Nat}(hn:1≤n)(h0:0≤N):zbB n N (rt0 N n).1 (rt0 N n).2∧0≤(rt0 N n).1:=by
 obtain⟨r,r0,r1,r2⟩:=zpw hn h0
 have e:=znB r0 r1 r2
 unfold rt0
 rw[← e]
 split
 ·exact⟨(zo2 r1 r2).1 ‹_›,r0⟩
 ·exact⟨(zo2 r1 r2).2 ‹_›,r0⟩
theorem zjr {N:Int}{n:Nat}(hn:1≤n)(h:n%2=1∨0≤N):zbB n N (rtS N n).1 (rtS N n).2∧(0≤N→0≤(rtS N n).1):=by
 unfold rtS
 split
 ·exact⟨zxM (by omega) (zoO hn (by omega)).1,λz=>by omega⟩
 ·have z:=zoO (N:=N) hn (by omega)
  exact⟨z.1,λ_=>z.2⟩
noncomputable def bpS (z x:Int×Int)(n g:Int):Option (Int×Int):=
 if n%2=1 then ptB x (rtS (z.1*g^(n-1).toNat) n.toNat) (rtS (z.2*g^(n-1).toNat) n.toNat) else
  if z.2*g^(n-1).toNat<0 then none else
   joS (ptB x (rtS (mx0 (z.1*g^(n-1).toNat)) n.toNat) (rtS (z.2*g^(n-1).toNat) n.toNat))
    (ptB x (-(rtS (z.2*g^(n-1).toNat) n.toNat).2,-(rtS (z.2*g^(n-1).toNat) n.toNat).1) (-(rtS (mx0 (z.1*g^(n-1).toNat)) n.toNat).2,-(rtS (mx0 (z.1*g^(n-1).toNat)) n.toNat).1))
theorem zbB.ab {n:Nat}{N a b:Int}(h:zbB n N a b):a≤b∧a^n≤N∧N≤b^n:=by
 unfold zbB at h
 rcases h with ⟨e,h⟩ | ⟨e,h1,h2⟩
 ·subst e; omega
 ·omega
theorem zoE {x l h:Int×Int}(hx:x.1≤x.2)(hl:l.1≤l.2)(hh:h.1≤h.2)(lh:l.1≤h.2):Sub x (ptB x l h):=λp e=>by
 unfold ptB at e
 split at e
 ·cases e
 ·split at e
  ·cases e
  ·cases e
   dsimp only
   split <;> split <;> omega
theorem zvA {x:Int×Int}{a b:Option (Int×Int)}(h1:Sub x a)(h2:Sub x b):Sub x (joS a b):=λp e=>by
 cases a with
 | none=>exact h2 p e
 | some q=>cases b with
  | none=>exact h1 p e
  | some r=>
   have z1:=h1 q rfl
   have z2:=h2 r rfl
   cases e
   dsimp only
   split <;> split <;> omega
theorem zpE {n:Nat}{N M al bl ah bh:Int}(hn:1≤n)(ok:n%2=1∨0≤al∧0≤ah)(h1:zbB n N al bl)(h2:zbB n M ah bh)(h:N≤M):al≤bh:=by
 have a:=h1.ab
 have b:=h2.ab
 by_cases c:al≤bh
 ·exact c
 ·rcases ok with ho | ⟨o1,o2⟩
  ·have:=zna ho (show bh<al by omega)
   omega
  ·have:=zgV (n:=n) (show 0≤bh by omega) (show bh<al by omega) hn
   omega
theorem ztG {z x:Int×Int}{n g:Int}(hz:z.1≤z.2)(hx:x.1≤x.2)(hg:1≤g)(hn:2≤n):Sub x (bpS z x n g):=by
 have gp:(0:Int)<g^(n-1).toNat:=Vaw (by omega)
 have hzz:z.1*g^(n-1).toNat≤z.2*g^(n-1).toNat:=mlr hz (by omega)
 unfold bpS
 generalize g^(n-1).toNat=G at gp hzz
 generalize z.1*G=lo at hzz
 generalize z.2*G=hi at hzz
 have hn1:1≤n.toNat:=by omega
 split
 ·have ho:n.toNat%2=1:=by omega
  have r1:=(zjr (N:=lo) hn1 (.inl ho)).1
  have r2:=(zjr (N:=hi) hn1 (.inl ho)).1
  exact zoE hx r1.ab.1 r2.ab.1 (zpE hn1 (.inl ho) r1 r2 hzz)
 ·split
  ·exact λp e=>by cases e
  ·have m0:0≤mx0 lo:=zb2 lo
   have r1:=zjr (N:=mx0 lo) hn1 (.inr m0)
   have r2:=zjr (N:=hi) hn1 (.inr (by omega))
   have le:mx0 lo≤hi:=zjT hzz (by omega)
   have k:=zpE hn1 (.inr ⟨r1.2 m0,r2.2 (by omega)⟩) r1.1 r2.1 le
   have a1:=r1.1.ab.1
   have a2:=r2.1.ab.1
   refine zvA (zoE hx a1 a2 k) (zoE hx ?_ ?_ ?_)
   ·show -(rtS hi n.toNat).2≤-(rtS hi n.toNat).1
    omega
   ·show -(rtS (mx0 lo) n.toNat).2≤-(rtS (mx0 lo) n.toNat).1
    omega
   ·show -(rtS hi n.toNat).2≤-(rtS (mx0 lo) n.toNat).1
    omega
theorem zgN {p q:Int×Int}:Sub p (zaX p q):=λr e=>by
 refine⟨zuu e,?_⟩
 unfold zaX at e
 have go:∀lo hi:Int,p.1≤lo→hi≤p.2→(if hi<lo then none else some (lo,hi))=some r→p.1≤r.1∧r.2≤p.2:=λlo hi a b e=>by
  split at e
  ·cases e
  ·cases e
   exact⟨a,b⟩
 refine go _ _ ?_ ?_ e
 ·split <;> omega
 ·split <;> omega
noncomputable def Nd.bk (vs:List (Int×Int))(z:Int×Int)(g:Int):Nd→Option (List (Int×(Int×Int)))
 | .plus i j=>bk2 i j (zaX (gt vs i) (z.1-(gt vs j).2,z.2-(gt vs j).1)) λx=>zaX (if i=j then x else gt vs j) (z.1-x.2,z.2-x.1)
 | .minus i j=>bk2 i j (zaX (gt vs i) (z.1+(gt vs j).1,z.2+(gt vs j).2)) λx=>zaX (if i=j then x else gt vs j) (x.1-z.2,x.2-z.1)
 | .times i j=>bk2 i j (btS z (gt vs i) (gt vs j) g) λx=>btS z (if i=j then x else gt vs j) x g
 | .power i n=>match bpS z (gt vs i) n g with
  | none=>none
  | some x=>some [(i,x)]
 | _=>some []
theorem Sz.in2 {B:Nat}{x p:Int×Int}(h1:Sz B x.1)(h2:Sz B x.2)(h:p.1≤p.2∧x.1≤p.1∧p.2≤x.2):p.1≤p.2∧Sz B p.1∧Sz B p.2:=⟨h.1,Sz.mid h1 h2 h.2.1 (by omega),Sz.mid h1 h2 (by omega) h.2.2⟩
def Pts (B:Nat)(m:Int)(l:List (Int×(Int×Int))):Prop:=l.length≤2∧∀p∈l,inR m p.1∧p.2.1≤p.2.2∧Sz B p.2.1∧Sz B p.2.2
theorem zmO {B:Nat}{vs:List (Int×Int)}{i j:Int}{f:Option (Int×Int)}{s:Int×Int→Option (Int×Int)}{l:List (Int×(Int×Int))}(hs:Spn B vs)(hi:inR vs.length i)(hj:inR vs.length j)(h1:Sub (gt vs i) f)(h2:∀x,f=some x→Sub (if i=j then x else gt vs j) (s x))(h:bk2 i j f s=some l):Pts B vs.length l:=by
 unfold bk2 at h
 split at h
 ·cases h
 ·rename_i x
  split at h
  ·cases h
  ·rename_i y ey
   cases h
   have a:=(hs.at hi).2
   have b:=(hs.at hj).2
   have zx:=Sz.in2 a.1 a.2 (h1 x rfl)
   have zy:y.1≤y.2∧Sz B y.1∧Sz B y.2:=by
    have q:=h2 x rfl y ey
    split at q
    ·exact Sz.in2 zx.2.1 zx.2.2 q
    ·exact Sz.in2 b.1 b.2 q
   refine⟨by simp,λp hp=>?_⟩
   simp only[Vam,VaO,or_false] at hp
   rcases hp with rfl | rfl
   ·exact⟨hi,zx⟩
   ·exact⟨hj,zy⟩
theorem Nd.bk_pts {B:Nat}{vs:List (Int×Int)}{z:Int×Int}{g q:Int}(hs:Spn B vs)(hz:z.1≤z.2)(hg:1≤g):∀(v:Nd) (l:List (Int×(Int×Int))),v.ok vs.length q→v.bk vs z g=some l→Pts B vs.length l
 | .number _ _,l,_,h=>by cases h; exact⟨by simp,λp hp=>nomatch hp⟩
 | .unknown _,l,_,h=>by cases h; exact⟨by simp,λp hp=>nomatch hp⟩
 | .plus i j,l,ok,h=>zmO hs ok.1 ok.2 zgN (λx _=>zgN) h
 | .minus i j,l,ok,h=>zmO hs ok.1 ok.2 zgN (λx _=>zgN) h
 | .times i j,l,ok,h=>by
  have a:=(hs.at ok.1).1
  have b:=(hs.at ok.2).1
  have s1:=zoy (z:=z) (x:=gt vs i) (y:=gt vs j) hz a b hg
  refine zmO hs ok.1 ok.2 s1 (λx e=>?_) h
  have lx:=(s1 x e).1
  refine zoy hz ?_ lx hg
  split
  ·exact lx
  ·exact b
 | .power i n,l,ok,h=>by
  have a:=hs.at ok.1
  have s1:=ztG (z:=z) (x:=gt vs i) (n:=n) hz a.1 hg ok.2.1
  unfold Nd.bk at h
  dsimp only at h
  split at h
  ·cases h
  ·rename_i x ex
   cases h
   refine⟨by simp,λp hp=>?_⟩
   simp only[Vam,VaO,or_false] at hp
   subst hp
   exact⟨ok.1,Sz.in2 a.2.1 a.2.2 (s1 x ex)⟩
def zcc (vs:List (Int×Int))(l:List (Int×(Int×Int))):List (Int×Int):=l.foldl (λa p=>a.set p.1.toNat p.2) vs
theorem zr7 (vs:List (Int×Int))(l:List (Int×(Int×Int)))(p:Int×(Int×Int)):zcc vs (l++[p])=(zcc vs l).set p.1.toNat p.2:=by
 unfold zcc
 rw[List.foldl_append]
 rfl
theorem zhd:∀(l:List (Int×(Int×Int))) (vs:List (Int×Int)),(zcc vs l).length=vs.length
 | [],vs=>rfl
 | p::r,vs=>by
  show (zcc (vs.set p.1.toNat p.2) r).length=_
  rw[zhd r,VaD]
theorem zoK {vs:List (Int×Int)}{k:Int}{i:Int}{p:Int×Int}(hi:inR vs.length i)(hk:inR vs.length k):gt (vs.set k.toNat p) i=if i=k then p else gt vs i:=by
 have h0:=hi.1
 have h1:=hi.2
 have k0:=hk.1
 unfold gt
 rw[Vax,Vax,List.getElem?_set]
 by_cases e:i=k
 ·subst e
  rw[if_pos rfl,if_pos (by omega),if_pos rfl]
  rfl
 ·rw[if_neg (by omega),if_neg e]
theorem Spn.set2 {B:Nat}{vs:List (Int×Int)}(h:Spn B vs){k:Nat}{u:Int×Int}(hu:u.1≤u.2∧Sz B u.1∧Sz B u.2):Spn B (vs.set k u):=λp hp=>by
 rcases List.mem_or_eq_of_mem_set hp with e | e
 ·exact h p e
 ·subst e; exact hu
theorem znT {B:Nat}:∀(l:List (Int×(Int×Int))) (vs:List (Int×Int)),Spn B vs→(∀p∈l,p.2.1≤p.2.2∧Sz B p.2.1∧Sz B p.2.2)→Spn B (zcc vs l)
 | [],vs,h,_=>h
 | p::r,vs,h,hl=>znT r _ (h.set2 (hl p (.head _))) λq hq=>hl q (.tail _ hq)
theorem InW.set {g:Int}{vs ds:List (Int×Int)}{k:Int}{p:Int×Int}(h:InW g vs ds)(ln:vs.length=ds.length)(hk:inR vs.length k)(hp:InF p g (gt ds k).1 (gt ds k).2):InW g (vs.set k.toNat p) ds:=λi hi=>by
 rw[zoK (by rw[ln]; exact hi) hk]
 split
 ·rename_i e; subst e; exact hp
 ·exact h i hi
noncomputable def zcl (g:Int)(ns:List Nd):Nat→List (Int×Int)→Option (List (Int×Int))
 | 0,vs=>some vs
 | k+1,vs=>match ns[k]? with
  | none=>none
  | some v=>match v.bk vs (gt vs (k:Int)) g with
   | none=>none
   | some l=>zcl g ns k (zcc vs l)
theorem zpI {g:Int}{ns:List Nd}{k:Nat}{vs:List (Int×Int)}{v:Nd}(hv:ns[k]?=some v)(h:v.bk vs (gt vs (k:Int)) g=none):zcl g ns (k+1) vs=none:=by
 unfold zcl
 rw[hv]
 dsimp only
 rw[h]
theorem zpD {g:Int}{ns:List Nd}{k:Nat}{vs:List (Int×Int)}{v:Nd}{l:List (Int×(Int×Int))}(hv:ns[k]?=some v)(h:v.bk vs (gt vs (k:Int)) g=some l):zcl g ns (k+1) vs=zcl g ns k (zcc vs l):=by
 conv=>lhs; unfold zcl
 rw[hv]
 dsimp only
 rw[h]
def zet (zero:Bool)(s:Int×Int):Option (Int×Int):=zaX s (if zero then (0,0) else (0,mx0 s.2))
noncomputable def sbS (ns:List Nd)(zero:Bool)(k:Nat)(bs:List (Int×Int))(g:Int):Option (List (Int×Int)):=match zet zero (gt (zaK bs g (ns.take (k+1))) (k:Int)) with
 | none=>none
 | some w=>zcl g ns (k+1) ((zaK bs g (ns.take (k+1))).set k w)
def zbT (bs:List (Int×Int))(l:List (Nd×(Int×Int))):List (Int×Int):=l.foldl (λa p=>match p.1 with
 | .unknown u=>a.set u.toNat p.2
 | _=>a) bs
theorem zql (bs:List (Int×Int))(l:List (Nd×(Int×Int)))(p:Nd×(Int×Int)):zbT bs (l++[p])=match p.1 with
 | .unknown u=>(zbT bs l).set u.toNat p.2
 | _=>zbT bs l:=by
 unfold zbT
 rw[List.foldl_append]
 rfl
noncomputable def nwS (ns:List Nd)(zero:Bool)(k:Nat)(bs:List (Int×Int))(g:Int):Option (List (Int×Int)):=(sbS ns zero k bs g).map λus=>zbT bs (ns.zip us)
theorem zo3 {q:Nat}{ns:List Nd}{ws:List Nat}{bs us:List (Int×Int)}(net:zaD q ns ws)(hq:q=bs.length)(P:Int→Int×Int→Prop)(h0:∀i:Int,inR bs.length i→P i (gt bs i))(hu:∀(k:Nat) (u:Int),ns[k]?=some (.unknown u)→k<us.length→P u (gt us (k:Int))):∀k,k≤(ns.zip us).length→(zbT bs ((ns.zip us).take k)).length=bs.length∧∀i:Int,inR bs.length i→P i (gt (zbT bs ((ns.zip us).take k)) i):=by
 intro k
 induction k with
 | zero=>intro _; exact⟨rfl,h0⟩
 | succ k ih=>
  intro hk
  obtain⟨ln,ih⟩:=ih (by omega)
  have hl:k<ns.length∧k<us.length:=by rw[List.length_zip] at hk; omega
  have hz:(ns.zip us)[k]?=some (ns[k],us[k]):=by rw[Vaf (by omega)]; simp
  have hv:ns[k]?=some ns[k]:=Vaf hl.1
  have eu:us[k]=gt us (k:Int):=by simp[gt,hl.2]
  rw[zbP hz,zql]
  dsimp only
  generalize ns[k]=v at hv
  cases v with
  | unknown u=>
   dsimp only
   have ok:inR q u:=(net.ok k _ hv).1
   rw[hq] at ok
   refine⟨by rw[VaD]; exact ln,λi hi=>?_⟩
   rw[zoK (by rw[ln]; exact hi) (by rw[ln]; exact ok)]
   split
   ·rename_i e
    subst e
    rw[eu]
    exact hu k i hv hl.2
   ·exact ih i hi
  | number _ _=>exact⟨ln,ih⟩
  | plus _ _=>exact⟨ln,ih⟩
  | minus _ _=>exact⟨ln,ih⟩
  | times _ _=>exact⟨ln,ih⟩
  | power _ _=>exact⟨ln,ih⟩
theorem znV {q:Nat}{ns:List Nd}{ws:List Nat}{B:Nat}{g:Int}(net:zaD q ns ws)(hg:1≤g):∀(k:Nat) (vs us:List (Int×Int)),k≤vs.length→Spn B vs→zcl g ns k vs=some us→us.length=vs.length∧Spn B us
 | 0,vs,us,_,hs,e=>by cases e; exact⟨rfl,hs⟩
 | k+1,vs,us,hk,hs,e=>by
  cases hv:ns[k]? with
  | none=>
   unfold zcl at e
   rw[hv] at e
   cases e
  | some v=>
   have ok:v.ok vs.length q:=zpG (by omega) (net.ok k v hv).1
   have ik:inR ((vs.length:Nat):Int) (k:Int):=⟨by omega,by omega⟩
   cases el:v.bk vs (gt vs (k:Int)) g with
   | none=>rw[zpI hv el] at e; cases e
   | some l=>
    have P:=v.bk_pts hs (hs.at ik).1 hg l ok el
    rw[zpD hv el] at e
    have z:=znV net hg k (zcc vs l) us (by rw[zhd]; omega) (znT l vs hs λp hp=>(P.2 p hp).2) e
    rw[zhd] at z
    exact z
theorem znc {zero:Bool}{s:Int×Int}:Sub s (zet zero s):=zgN
theorem zu1 {B:Nat}{vs:List (Int×Int)}(h:∀i:Int,inR vs.length i→(gt vs i).1≤(gt vs i).2∧Sz B (gt vs i).1∧Sz B (gt vs i).2):Spn B vs:=λp hp=>by
 obtain⟨k,hk,e⟩:=VaI.mp hp
 have z:=h (k:Int) ⟨by omega,by omega⟩
 have e2:gt vs (k:Int)=p:=by simp[gt,hk,e]
 rw[e2] at z
 exact z
theorem ztL {vs:List (Int×Int)}(h:Spn 51 vs):Spn 1000 vs:=h.mono (by decide)
theorem zpj {ns:List Nd}{ws:List Nat}{zero:Bool}{k:Nat}{bs r:List (Int×Int)}{g:Int}(net:zaD bs.length ns ws)(gp:Spn 51 bs)(hg:1≤g∧g≤1000000)(hk:k<ns.length)(e:nwS ns zero k bs g=some r):r.length=bs.length∧Spn 1000 r:=by
 unfold nwS at e
 obtain⟨us,eu,er⟩:=Vaq.mp e
 have s1:Spn 1000 (zaK bs g (ns.take (k+1))):=zjR net rfl gp hg (k+1) (by omega)
 have l1:(zaK bs g (ns.take (k+1))).length=k+1:=by rw[zdo,Vaj]; omega
 unfold sbS at eu
 split at eu
 ·cases eu
 ·rename_i w ew
  have a:=s1.at (i:=(k:Int)) ⟨by omega,by rw[l1]; omega⟩
  have zw:=Sz.in2 a.2.1 a.2.2 (znc w ew)
  obtain⟨lu,su⟩:=znV net hg.1 (k+1) _ us (by rw[VaD,l1]; omega) (s1.set2 zw) eu
  rw[VaD,l1] at lu
  have lz:(ns.zip us).length=k+1:=by rw[List.length_zip]; omega
  obtain⟨lr,P⟩:=zo3 net rfl (us:=us) (bs:=bs) (λ_ p=>p.1≤p.2∧Sz 1000 p.1∧Sz 1000 p.2) (λi hi=>(ztL gp).at hi) (λj u _ hj=>su.at ⟨by omega,by omega⟩) (ns.zip us).length (Vaa _)
  rw[VaX] at lr P
  subst er
  exact⟨lr,zu1 λi hi=>P i (by rw[← lr]; exact hi)⟩
theorem zrf {ns:List Nd}{ws:List Nat}{zero:Bool}{k:Nat}{bs us:List (Int×Int)}{g:Int}(net:zaD bs.length ns ws)(gp:Spn 51 bs)(hg:1≤g∧g≤1000000)(hk:k<ns.length)(eu:sbS ns zero k bs g=some us):us.length=k+1:=by
 have s1:Spn 1000 (zaK bs g (ns.take (k+1))):=zjR net rfl gp hg (k+1) (by omega)
 have l1:(zaK bs g (ns.take (k+1))).length=k+1:=by rw[zdo,Vaj]; omega
 unfold sbS at eu
 split at eu
 ·cases eu
 ·rename_i w ew
  have a:=s1.at (i:=(k:Int)) ⟨by omega,by rw[l1]; omega⟩
  have zw:=Sz.in2 a.2.1 a.2.2 (znc w ew)
  obtain⟨lu,su⟩:=znV net hg.1 (k+1) _ us (by rw[VaD,l1]; omega) (s1.set2 zw) eu
  rw[VaD,l1] at lu
  exact lu
theorem zvv {ns:List Nd}{us:List (Int×Int)}{i:Nat}{v:Nd}{p:Int×Int}(h1:ns[i]?=some v)(h2:us[i]?=some p):(ns.zip us)[i]?=some (v,p):=by
 obtain⟨a1,rfl⟩:=Vab.mp h1
 obtain⟨a2,rfl⟩:=Vab.mp h2
 rw[Vaf (by rw[List.length_zip]; omega)]
 simp
def rwW (zero:Bool)(w:Str):Prop:=zero=true∧w="zero"∨zero=false∧w="least"
def Hv (hv:Nat)(ws:List Nat):Prop:=∀k:Nat,ws.getD k 0≤hv
theorem zvp {hv:Nat}(h:1≤hv)(ns:List Nd):Hv hv (ns.map λ_=>1):=λk=>by
 rw[Vax,Val]
 cases ns[k]? with
 | none=>exact VaA _
 | some _=>exact h
theorem zqq {hv w:Nat}{ws:List Nat}(h:Hv hv ws)(hw:w≤hv):Hv hv (ws++[w]):=λk=>by
 by_cases c:k<ws.length
 ·rw[zn4 c]
  exact h k
 ·rw[Vax,VaM (by omega)]
  match k-ws.length with
  | 0=>exact hw
  | j+1=>exact VaA _
theorem Gr.pre {q a:Nat}{S T:Sto}{ns:List Nd}{ws:List Nat}(net:zaD q ns ws)(h:S[a]?=some (.lst (ns.map Nd.d)))(pr:Pre S T)(hl:S.length≤T.length):Gr q a 0 S ns ws T ns ws:=⟨net,⟨[],by simp,by simp⟩,⟨[],by simp⟩,pr _ _ h,hl,λx o _ e=>pr x o e⟩
def Ptn (g:Int)(bs qs:List (Int×Int)):Prop:=qs.length=bs.length∧Gd 110 qs∧InW g bs qs
def zdl (g:Int)(bs:List (Int×Int))(L:Nat)(S:Sto)(ys:List D):Prop:=∀y∈ys,∃(m:Nat) (qs:List (Int×Int)),y=.ref m∧m≠L∧S[m]?=some (.lst (qs.map frD))∧Ptn g bs qs
theorem zdl.up {g:Int}{bs:List (Int×Int)}{L:Nat}{S T:Sto}{ys:List D}(h:zdl g bs L S ys)(pr:Pre S T):zdl g bs L T ys:=λy hy=>by
 obtain⟨m,qs,e,n,hm,p⟩:=h y hy
 exact⟨m,qs,e,n,pr _ _ hm,p⟩
theorem zdl.snoc {g:Int}{bs qs:List (Int×Int)}{L m:Nat}{S:Sto}{ys:List D}{o:Ob}(h:zdl g bs L S ys)(n:m≠L)(hm:S[m]?=some (.lst (qs.map frD)))(p:Ptn g bs qs):zdl g bs L (S.set L o) (ys++[.ref m]):=λy hy=>by
 rcases VaT.mp hy with z | z
 ·obtain⟨m,qs,e,n,hm,p⟩:=h y z
  exact⟨m,qs,e,n,zbj hm (Ne.symm n),p⟩
 ·exact⟨m,qs,VaJ.mp z,n,zbj hm (Ne.symm n),p⟩
def FdAt (o:Option (List (Int×Int)))(L:Nat)(S:Sto)(fd:D):Prop:=(fd=.non∧o=none)∨∃(r:List (Int×Int)) (mf:Nat),fd=.ref mf∧o=some r∧S[mf]?=some (.lst (r.map frD))∧L≤mf
theorem nine {i:Int}(h:(if i<0 then -i else i)<10^Int.toNat 9):i.natAbs≤10^9:=by
 have e:(10:Int)^Int.toNat 9=1000000000:=rfl
 split at h <;> omega
theorem zoW {u:Int}(h:u<10^Int.toNat 9):u≤10^9:=by
 have e:(10:Int)^Int.toNat 9=1000000000:=rfl
 omega
theorem zrq (hv:Nat):Hv hv []:=λk=>by simp
theorem zpf {S T:Sto}(h:Pre S T):S.length≤T.length:=by
 by_cases c:S.length≤T.length
 ·exact c
 ·have e:=h T.length _ (Vaf (by omega))
  have:=(Vab.mp e).1
  omega
structure Ct where
 k:Nat
 p:Int
 s:Bool
def Ct.d (c:Ct):D:=.tup [.int (c.k:Int),.int c.p,.int (if c.s then 1 else 0)]
def brS (zero:Bool)(s:Int×Int):Bool:=if zero then decide (0<s.1)||decide (s.2<0) else decide (s.2<0)
def ibS (ns:List Nd)(zero:Bool)(k:Nat)(bs:List (Int×Int))(g:Int):Bool:=brS zero (gt (zaK bs g (ns.take (k+1))) (k:Int))
def Ct.off (c:Ct)(s:Int×Int):Int×Int:=if c.s then (c.p,s.2) else (s.1,c.p)
def Ct.back (c:Ct)(s:Int×Int):Int×Int:=if c.s then (s.1,c.p) else (c.p,s.2)
def isS (ns:List Nd)(zero:Bool)(k:Nat)(g:Int)(bs:List (Int×Int))(c:Ct):Bool:=(decide ((gt bs (c.k:Int)).1<c.p)&&decide (c.p<(gt bs (c.k:Int)).2))&&ibS ns zero k (bs.set c.k (c.off (gt bs (c.k:Int)))) g
def ctP (bs:List (Int×Int))(c:Ct):List (Int×Int):=bs.set c.k (c.back (gt bs (c.k:Int)))
def zbi (ns:List Nd)(zero:Bool)(k:Nat)(g:Int)(a:List Ct×List (Int×Int))(c:Ct):List Ct×List (Int×Int):=if isS ns zero k g a.2 c then (a.1++[c],ctP a.2 c) else a
def cand (i:Nat)(s:Int×Int):List Ct:=[⟨i,s.1-1,false⟩,⟨i,s.2+1,true⟩]
def shN (ns:List Nd)(zero:Bool)(k:Nat)(g:Int)(bs:List (Int×Int)):List (Int×Int)→Nat→List Ct×List (Int×Int)
 | _,0=>([],bs)
 | r,i+1=>(cand i (gt r (i:Int))).foldl (zbi ns zero k g) (shN ns zero k g bs r i)
noncomputable def shS (ns:List Nd)(zero:Bool)(k:Nat)(bs:List (Int×Int))(g:Int):List Ct×Option (List (Int×Int)):=
 if ibS ns zero k bs g then ([],none) else match nwS ns zero k bs g with
  | none=>([],some bs)
  | some r=>((shN ns zero k g bs r r.length).1,some (shN ns zero k g bs r r.length).2)
def ctA (bs:List (Int×Int))(cs:List Ct):List (Int×Int):=cs.foldl ctP bs
theorem zow (bs:List (Int×Int))(cs:List Ct)(c:Ct):ctA bs (cs++[c])=ctP (ctA bs cs) c:=by
 unfold ctA
 rw[List.foldl_append]
 rfl
def Ct.ix (c:Ct):Nat:=2*c.k+(if c.s then 1 else 0)
structure zbZ (ns:List Nd)(zero:Bool)(k:Nat)(g:Int)(bs:List (Int×Int))(n:Nat)(q:List Ct×List (Int×Int)):Prop where
 left:q.2=ctA bs q.1
 len:q.2.length=bs.length
 spn:Spn 51 q.2
 is:∀(i:Nat) (c:Ct),q.1[i]?=some c→isS ns zero k g (ctA bs (q.1.take i)) c=true∧c.k<bs.length
 lt:∀c∈q.1,c.ix<n
 ord:∀(i j:Nat) (c d:Ct),i<j→q.1[i]?=some c→q.1[j]?=some d→c.ix<d.ix
 few:q.1.length≤n
theorem zoz {ns:List Nd}{zero:Bool}{k:Nat}{g:Int}{bs:List (Int×Int)}{c:Ct}(h:isS ns zero k g bs c=true):(gt bs (c.k:Int)).1<c.p∧c.p<(gt bs (c.k:Int)).2:=by
 unfold isS at h
 simp only[Bool.and_eq_true,decide_eq_true_eq] at h
 exact h.1
theorem zoj {c:Ct}{s:Int×Int}(h1:s.1<c.p)(h2:c.p<s.2)(z1:Sz 51 s.1)(z2:Sz 51 s.2):((c.back s).1≤(c.back s).2∧Sz 51 (c.back s).1∧Sz 51 (c.back s).2)∧(c.off s).1≤(c.off s).2∧Sz 51 (c.off s).1∧Sz 51 (c.off s).2:=by
 have zp:Sz 51 c.p:=Sz.mid z1 z2 (by omega) (by omega)
 unfold Ct.back Ct.off
 cases c.s with
 | true=>exact⟨⟨by show s.1≤c.p; omega,z1,zp⟩,by show c.p≤s.2; omega,zp,z2⟩
 | false=>exact⟨⟨by show c.p≤s.2; omega,zp,z2⟩,by show s.1≤c.p; omega,z1,zp⟩
theorem zbZ.step {ns:List Nd}{zero:Bool}{k n:Nat}{g:Int}{bs:List (Int×Int)}{q:List Ct×List (Int×Int)}(h:zbZ ns zero k g bs n q){c:Ct}(hc:c.k<bs.length)(hn:c.ix=n):zbZ ns zero k g bs (n+1) (zbi ns zero k g q c):=by
 unfold zbi
 split
 ·rename_i e
  have ik:inR ((q.2.length:Nat):Int) (c.k:Int):=⟨by omega,by have:=h.len; omega⟩
  have a:=h.spn.at ik
  have b:=zoz e
  refine⟨by rw[zow,← h.left],by show (q.2.set _ _).length=_; rw[VaD]; exact h.len,h.spn.set2 (zoj b.1 b.2 a.2.1 a.2.2).1,λi d hd=>?_,λd hd=>?_,λi j x y hij hx hy=>?_,by show (q.1++[c]).length≤_; rw[Vap]; have:=h.few; simp; omega⟩
  ·show isS ns zero k g (ctA bs ((q.1++[c]).take i)) d=true∧_
   by_cases hi:i<q.1.length
   ·have hd2:(q.1++[c])[i]?=some d:=hd
    rw[Vak hi] at hd2
    rw[List.take_append_of_le_length (by omega)]
    exact h.is i d hd2
   ·have hd2:(q.1++[c])[i]?=some d:=hd
    have hl:=(Vab.mp hd2).1
    simp only[Vap,Vaz,VaP] at hl
    have ei:i=q.1.length:=by omega
    subst ei
    simp at hd2
    subst hd2
    rw[List.take_append_of_le_length (Vaa _),VaX,← h.left]
    exact⟨e,hc⟩
  ·have hd2:d∈q.1++[c]:=hd
   rcases VaT.mp hd2 with z | z
   ·have:=h.lt d z
    omega
   ·cases VaJ.mp z
    omega
  ·have hx2:(q.1++[c])[i]?=some x:=hx
   have hy2:(q.1++[c])[j]?=some y:=hy
   have hl:=(Vab.mp hy2).1
   simp only[Vap,Vaz,VaP] at hl
   rw[Vak (by omega)] at hx2
   by_cases hj:j<q.1.length
   ·rw[Vak hj] at hy2
    exact h.ord i j x y hij hx2 hy2
   ·have ej:j=q.1.length:=by omega
    subst ej
    simp at hy2
    subst hy2
    have:=h.lt x (Vau hx2)
    omega
 ·exact⟨h.left,h.len,h.spn,h.is,λd hd=>by have:=h.lt d hd; omega,h.ord,by have:=h.few; omega⟩
theorem zmT {ns:List Nd}{zero:Bool}{k:Nat}{g:Int}{bs r:List (Int×Int)}(sb:Spn 51 bs)(lr:r.length=bs.length):∀i,i≤r.length→zbZ ns zero k g bs (2*i) (shN ns zero k g bs r i)
 | 0,_=>⟨rfl,rfl,sb,λi c hc=>by simp[shN] at hc,λc hc=>by simp[shN] at hc,λi j c d _ hc=>by simp[shN] at hc,Vaa _⟩
 | i+1,hi=>by
  have ih:=zmT (ns:=ns) (zero:=zero) (k:=k) (g:=g) sb lr i (by omega)
  have s1:=ih.step (c:=⟨i,(gt r (i:Int)).1-1,false⟩) (by show i<_; omega) (by show 2*i+0=_; omega)
  exact s1.step (c:=⟨i,(gt r (i:Int)).2+1,true⟩) (by show i<_; omega) (by show 2*i+1=_; omega)
theorem zoR {ns:List Nd}{ws:List Nat}{zero:Bool}{k:Nat}{bs ps:List (Int×Int)}{g:Int}(net:zaD bs.length ns ws)(hg:1≤g)(hk:k<ns.length)(lp:ps.length=bs.length)(pp:Pz 110 ps)(ip:InW g bs ps)(row:if zero then (gt (zaC ps (ns.take (k+1))) (k:Int)).1=0 else 0≤(gt (zaC ps (ns.take (k+1))) (k:Int)).1):ibS ns zero k bs g=false:=by
 have ld:(zaC ps (ns.take (k+1))).length=k+1:=by rw[zdz,Vaj]; omega
 have inw:=zwy net rfl (by rw[lp]) hg ip pp (k+1) (by omega)
 have pz:Pz 1800 (zaC ps (ns.take (k+1))):=Pz.of_w (zlF net (by rw[lp]) pp (k+1) (by omega)) λj hj=>(net.w1 (i:=j) ⟨by omega,by omega⟩).2
 have ik:inR (((zaC ps (ns.take (k+1))).length:Nat):Int) (k:Int):=⟨by omega,by omega⟩
 have u:=(pz.at ik).1
 have z:=inw k ik
 unfold ibS brS
 generalize gt (zaK bs g (ns.take (k+1))) (k:Int)=s at z
 generalize gt (zaC ps (ns.take (k+1))) (k:Int)=d at z u row
 have c2:0≤d.1→¬ s.2<0:=λh c=>by
  have a:=mlr (c:=d.2) (show s.2≤-1 by omega) (by omega)
  have b:=Van h (show 0≤g by omega)
  omega
 cases zero with
 | true=>
  have e:d.1=0:=row
  have c1:¬ 0<s.1:=λc=>by
   have a:=VaS c (show 0<d.2 by omega)
   rw[e] at z
   omega
  simp[c1,c2 (by omega)]
 | false=>
  have e:0≤d.1:=row
  simp[c2 e]
theorem zuO {ns:List Nd}{ws:List Nat}{zero:Bool}{k:Nat}{bs ps:List (Int×Int)}{g:Int}{c:Ct}(net:zaD bs.length ns ws)(hg:1≤g)(hk:k<ns.length)(lp:ps.length=bs.length)(pp:Pz 110 ps)(ip:InW g bs ps)(row:if zero then (gt (zaC ps (ns.take (k+1))) (k:Int)).1=0 else 0≤(gt (zaC ps (ns.take (k+1))) (k:Int)).1)(hc:c.k<bs.length)(h:isS ns zero k g bs c=true):(if c.s then (gt ps (c.k:Int)).1*g<c.p*(gt ps (c.k:Int)).2 else c.p*(gt ps (c.k:Int)).2<(gt ps (c.k:Int)).1*g)∧InW g (ctP bs c) ps:=by
 have ik:inR ((bs.length:Nat):Int) (c.k:Int):=⟨by omega,by omega⟩
 have z:=ip c.k (by rw[lp]; exact ik)
 have e1:(c.k:Int).toNat=c.k:=Vae _
 have key:¬ InF (c.off (gt bs (c.k:Int))) g (gt ps (c.k:Int)).1 (gt ps (c.k:Int)).2:=λq=>by
  have w:InW g (bs.set c.k (c.off (gt bs (c.k:Int)))) ps:=by
   have y:=ip.set (p:=c.off (gt bs (c.k:Int))) (by rw[lp]) ik q
   rw[e1] at y
   exact y
  have ln:(bs.set c.k (c.off (gt bs (c.k:Int)))).length=bs.length:=VaD ..
  have f:=zoR (bs:=bs.set c.k (c.off (gt bs (c.k:Int)))) (by rw[ln]; exact net) hg hk (by rw[ln]; exact lp) pp w row
  unfold isS at h
  rw[f,Bool.and_false] at h
  cases h
 have key2:if c.s then (gt ps (c.k:Int)).1*g<c.p*(gt ps (c.k:Int)).2 else c.p*(gt ps (c.k:Int)).2<(gt ps (c.k:Int)).1*g:=by
  unfold Ct.off at key
  cases hs:c.s with
  | true=>
   rw[hs] at key
   show _<_
   by_cases q:(gt ps (c.k:Int)).1*g<c.p*(gt ps (c.k:Int)).2
   ·exact q
   ·exact absurd ⟨by show c.p*_≤_; omega,z.2⟩ key
  | false=>
   rw[hs] at key
   show _<_
   by_cases q:c.p*(gt ps (c.k:Int)).2<(gt ps (c.k:Int)).1*g
   ·exact q
   ·exact absurd ⟨z.1,by show _≤c.p*_; omega⟩ key
 refine⟨key2,?_⟩
 have q:InF (c.back (gt bs (c.k:Int))) g (gt ps (c.k:Int)).1 (gt ps (c.k:Int)).2:=by
  unfold Ct.back
  cases hs:c.s with
  | true=>
   rw[hs] at key2
   have k3:(gt ps (c.k:Int)).1*g<c.p*(gt ps (c.k:Int)).2:=key2
   exact⟨z.1,by show _≤c.p*_; omega⟩
  | false=>
   rw[hs] at key2
   have k3:c.p*(gt ps (c.k:Int)).2<(gt ps (c.k:Int)).1*g:=key2
   exact⟨by show c.p*_≤_; omega,z.2⟩
 have y:=ip.set (p:=c.back (gt bs (c.k:Int))) (by rw[lp]) ik q
 rw[e1] at y
 exact y
theorem znW (bs:List (Int×Int)):∀cs:List Ct,(ctA bs cs).length=bs.length:=λcs=>by
 unfold ctA
 induction cs generalizing bs with
 | nil=>rfl
 | cons c cs ih=>
  show (cs.foldl ctP (ctP bs c)).length=_
  rw[ih]
  exact VaD ..
theorem zrY {ns:List Nd}{ws:List Nat}{zero:Bool}{k n:Nat}{bs ps:List (Int×Int)}{g:Int}{q:List Ct×List (Int×Int)}(C:zbZ ns zero k g bs n q)(net:zaD bs.length ns ws)(hg:1≤g)(hk:k<ns.length)(lp:ps.length=bs.length)(pp:Pz 110 ps)(ip:InW g bs ps)(row:if zero then (gt (zaC ps (ns.take (k+1))) (k:Int)).1=0 else 0≤(gt (zaC ps (ns.take (k+1))) (k:Int)).1):∀i,i≤q.1.length→InW g (ctA bs (q.1.take i)) ps∧∀(j:Nat) (c:Ct),j<i→q.1[j]?=some c→if c.s then (gt ps (c.k:Int)).1*g<c.p*(gt ps (c.k:Int)).2 else c.p*(gt ps (c.k:Int)).2<(gt ps (c.k:Int)).1*g:=by
 intro i
 induction i with
 | zero=>intro _; exact⟨ip,λj c h=>by omega⟩
 | succ i ih=>
  intro hi
  obtain⟨w,al⟩:=ih (by omega)
  have hc:q.1[i]?=some q.1[i]:=Vaf (by omega)
  generalize q.1[i]=c at hc
  obtain⟨h1,h2⟩:=C.is i c hc
  have ln:=znW bs (q.1.take i)
  have z:=zuO (bs:=ctA bs (q.1.take i)) (by rw[ln]; exact net) hg hk (by rw[ln]; exact lp) pp w row (by rw[ln]; exact h2) h1
  refine⟨by rw[zbP hc,zow]; exact z.2,λj d hj hd=>?_⟩
  by_cases e:j=i
  ·subst e
   rw[hc] at hd
   cases hd
   exact z.1
  ·exact al j d (by omega) hd
theorem zqe {ns:List Nd}{ws:List Nat}{zero:Bool}{k:Nat}{bs:List (Int×Int)}{g:Int}(net:zaD bs.length ns ws)(gp:Spn 51 bs)(hg:1≤g∧g≤1000000)(hk:k<ns.length)(e:ibS ns zero k bs g=false):∃left,(shS ns zero k bs g).2=some left∧zbZ ns zero k g bs (2*bs.length) ((shS ns zero k bs g).1,left):=by
 unfold shS
 rw[e]
 cases hn:nwS ns zero k bs g with
 | none=>exact⟨bs,rfl,⟨rfl,rfl,gp,λi c hc=>by simp at hc,λc hc=>(by simp at hc),λi j c d _ hc=>by simp at hc,VaA _⟩⟩
 | some r=>
  obtain⟨lr,_⟩:=zpj net gp hg hk hn
  have C:=zmT (ns:=ns) (zero:=zero) (k:=k) (g:=g) gp lr r.length (Vaa _)
  rw[lr] at C
  refine⟨_,rfl,?_⟩
  show zbZ ns zero k g bs (2*bs.length) (shN ns zero k g bs r r.length)
  rw[lr]
  exact C
theorem zsr {ns:List Nd}{zero:Bool}{k:Nat}{bs:List (Int×Int)}{g:Int}(e:ibS ns zero k bs g=true):shS ns zero k bs g=([],none):=by
 unfold shS
 rw[e]
 rfl
def zpt (cs:List Ct):Nat→Int→Prop
 | 0,z=>z=-1
 | i+1,z=>∃c,cs[i]?=some c∧z=(c.ix:Int)
theorem zpt.lt {ns:List Nd}{zero:Bool}{k n i:Nat}{g:Int}{bs:List (Int×Int)}{q:List Ct×List (Int×Int)}{c:Ct}{z:Int}(C:zbZ ns zero k g bs n q)(h:zpt q.1 i z)(hc:q.1[i]?=some c):z<(c.ix:Int):=by
 cases i with
 | zero=>
  have e:z=-1:=h
  omega
 | succ i=>
  obtain⟨d,hd,e⟩:=h
  have:=C.ord i (i+1) d c (by omega) hd hc
  omega
theorem zbZ.spn_at {ns:List Nd}{zero:Bool}{k n:Nat}{bs:List (Int×Int)}{g:Int}{q:List Ct×List (Int×Int)}(C:zbZ ns zero k g bs n q)(sb:Spn 51 bs):∀i,i≤q.1.length→Spn 51 (ctA bs (q.1.take i)):=by
 intro i
 induction i with
 | zero=>intro _; exact sb
 | succ i ih=>
  intro hi
  have s:=ih (by omega)
  have hc:q.1[i]?=some q.1[i]:=Vaf (by omega)
  generalize q.1[i]=c at hc
  obtain⟨h1,h2⟩:=C.is i c hc
  have a:=s.at (i:=(c.k:Int)) ⟨by omega,by rw[znW]; omega⟩
  have b:=zoz h1
  rw[zbP hc,zow]
  exact s.set2 (zoj b.1 b.2 a.2.1 a.2.2).1
theorem zbZ.p_sz {ns:List Nd}{zero:Bool}{k n:Nat}{bs:List (Int×Int)}{g:Int}{q:List Ct×List (Int×Int)}(C:zbZ ns zero k g bs n q)(sb:Spn 51 bs){i:Nat}{c:Ct}(hc:q.1[i]?=some c):Sz 51 c.p:=by
 obtain⟨h1,h2⟩:=C.is i c hc
 have s:=C.spn_at sb i (by have:=(Vab.mp hc).1; omega)
 have a:=s.at (i:=(c.k:Int)) ⟨by omega,by rw[znW]; omega⟩
 have b:=zoz h1
 exact Sz.mid a.2.1 a.2.2 (by omega) (by omega)
theorem zue {α:Type}{bs:List (Int×Int)}{k:Nat}{p:Int×Int}(h:k<bs.length):zaS (bs.map frD) none (some (k:Int))++[frD p]++zaS (bs.map frD) (some ((k:Int)+1)) none=(bs.set k p).map frD:=by
 rw[zgq (by omega) (by rw[Vac]; omega),Vae]
 have e:zaS (bs.map frD) (some ((k:Int)+1)) none=(bs.map frD).drop (k+1):=by
  unfold L3.zaS
  have z:=HT.sIx_nat (bs.map frD).length 0 (k+1)
  rw[show (((k+1:Nat):Int))=(k:Int)+1 by omega] at z
  rw[z,HT.sIx_none,List.take_of_length_le (by rw[List.length_drop]; omega),Nat.min_eq_left (by rw[Vac]; omega)]
 rw[e,List.set_eq_take_append_cons_drop,if_pos h,VaE,Vat,List.map_take,List.map_drop,List.append_assoc]
 rfl
section
variable {X:Cx}{Z:Zx}{pos:Pos}
def Alk (S:Sto):Nat→D→D→Prop
 | 0,d,e=>eqF d e=some true
 | n+1,d,e=>Alk S n d e∨(∃xs ys,d=.tup xs∧e=.tup ys∧xs.length=ys.length∧∀(k:Nat) (x y:D),xs[k]?=some x→ys[k]?=some y→Alk S n x y)∨
  ∃a b xs ys,d=.ref a∧e=.ref b∧S[a]?=some (.lst xs)∧S[b]?=some (.lst ys)∧xs.length=ys.length∧∀(k:Nat) (x y:D),xs[k]?=some x→ys[k]?=some y→Alk S n x y
theorem zm6 (n:Nat):(List.range n).all (λ_=>true)=true:=by simp
theorem zvm {n:Nat}{A:Around}{pins:List (Addr×Obj)}{σ:L3.St}{H:Hp}{s:Shared}{r:List Addr}{S:Sto}(I:Inv X pins σ H s)(rel:Rel X.K Z r S H){a b:Nat}{xs ys:List D}{p p':Addr}(hp:r[a]?=some p)(hp':r[b]?=some p')(s1:S[a]?=some (.lst xs))(s2:S[b]?=some (.lst ys))(l:xs.length=ys.length)(hu:A.units<cLine)
  (f:∀ {d e:D} {v1 v2:V} {u1 u2:Value},Alk S n d e→Rp r H d v1→Rp r H e v2→zav v1 u1→zav v2 u2→SeqAt.EqAt A.in1 s u1 u2 true)(al:∀(k:Nat) (x y:D),xs[k]?=some x→ys[k]?=some y→Alk S n x y):SeqAt.RcAt A s (.ref p) (.ref p') true:=by
 obtain⟨z,hz,ob⟩:=rel.at s1
 rw[hp] at hz; cases hz
 obtain⟨z,hz,ob'⟩:=rel.at s2
 rw[hp'] at hz; cases hz
 obtain⟨vs,sq,pr⟩:=ob.list rfl
 obtain⟨ws,sq',pr'⟩:=ob'.list rfl
 obtain⟨is,ri,pl,_⟩:=I.list sq
 obtain⟨js,rj,pl',_⟩:=I.list sq'
 have g1:=zoG (P:=λS=>Alk S n) (S:=S) f pr pr' ri rj al
 have hs:is.toArray.size=js.toArray.size:=by
  have a1:=ri.length
  have a2:=rj.length
  have a3:=pr.1
  have a4:=pr'.1
  simp only[Vai]
  show is.length=js.length
  have a3:xs.length=vs.length:=a3
  have a4:ys.length=ws.length:=a4
  omega
 have q:=SeqAt.RcAt.lists (A:=A) (e:=λ_=>true) pl.isList pl'.isList hs hu g1
 rw[zm6] at q
 exact q
theorem zmt:∀(n:Nat) {A:Around} {pins:List (Addr×Obj)} {σ:L3.St} {H:Hp} {s:Shared} {r:List Addr} {S:Sto} {d e:D} {v1 v2:V} {u1 u2:Value},Inv X pins σ H s→Rel X.K Z r S H→Alk S n d e→Rp r H d v1→Rp r H e v2→zav v1 u1→zav v2 u2→A.units+n<cLine→SeqAt.EqAt A s u1 u2 true
 | 0,A,pins,σ,H,s,r,S,d,e,v1,v2,u1,u2,I,rel,h,pd,pe,ru1,ru2,hu=>zix 0 X pins σ H s r A d e v1 v2 u1 u2 true I hu pd pe ru1 ru2 h
 | n+1,A,pins,σ,H,s,r,S,d,e,v1,v2,u1,u2,I,rel,h,pd,pe,ru1,ru2,hu=>by
  rcases h with h | ⟨xs,ys,rfl,rfl,l,al⟩ | ⟨a,b,xs,ys,rfl,rfl,s1,s2,l,al⟩
  ·exact zmt n I rel h pd pe ru1 ru2 (by omega)
  ·cases pd with
   | @tup _ vs a h1 l1 f1=>
    cases pe with
    | @tup _ ws b h2 l2 f2=>
     cases ru1
     cases ru2
     by_cases hne:a=b
     ·subst hne
      exact SeqAt.EqAt.same _
     ·obtain⟨is,ri,pl,_⟩:=I.tuple (SqT.of h1)
      obtain⟨js,rj,pl',_⟩:=I.tuple (SqT.of h2)
      have g1:=zoG (P:=λS=>Alk S n) (S:=S) (A:=A.in1) (λh p q r1 r2=>zmt n I rel h p q r1 r2 (by show A.units+1+n<_; omega)) ⟨l1,f1⟩ ⟨l2,f2⟩ ri rj al
      have q:=SeqAt.RcAt.tuples (A:=A) (e:=λ_=>true) pl pl' (by omega) g1
      have hs:(is.toArray.size==js.toArray.size)=true:=by
       have a1:=ri.length
       have a2:=rj.length
       simp only[Vai,beq_iff_eq]
       show is.length=js.length
       omega
      rw[zm6,hs] at q
      exact SeqAt.EqAt.of_refs hne q
  ·cases pd with
   | @ref _ p hp=>
    cases pe with
    | @ref _ p' hp'=>
     cases ru1
     cases ru2
     by_cases hne:p=p'
     ·subst hne
      exact SeqAt.EqAt.same _
     ·exact SeqAt.EqAt.of_refs hne (zvm I rel hp hp' s1 s2 l (by omega) (λh p q r1 r2=>zmt n I rel h p q r1 r2 (by show A.units+1+n<_; omega)) al)
def wEqT:W2:=λx y S Q=>match x,y with
 | .tup xs,.tup ys=>(xs.length=ys.length∧∀(k:Nat) (x y:D),xs[k]?=some x→ys[k]?=some y→Alk S 5 x y)∧Q (.bl true) S
 | _,_=>False
theorem znj {j:Nat}(hr:zaN j X.A):OpR X (compareOp .Eq) (upO X.K Z wEqT):=by
 have hu:=hr.un
 intro pins s σ H x y v u Qv I rx ry h
 obtain⟨r,S,dx,dy,Q,rel,px,py,q,ret⟩:=h
 cases px with
 | @tup _ vs a h1 l1 f1=>
  cases py with
  | @tup _ ws b h2 l2 f2=>
   cases rx
   cases ry
   obtain⟨⟨l,al⟩,q⟩:=(show (_∧_)∧_ from q)
   obtain⟨is,ri,pl,_⟩:=I.tuple (SqT.of h1)
   obtain⟨js,rj,pl',_⟩:=I.tuple (SqT.of h2)
   have g1:=zoG (P:=λS=>Alk S 5) (S:=S) (A:=X.A.in1) (λh p q r1 r2=>zmt 5 I rel h p q r1 r2 (by show X.A.units+1+5<_; omega)) ⟨l1,f1⟩ ⟨l2,f2⟩ ri rj al
   have q2:=SeqAt.RcAt.tuples (A:=X.A) (e:=λ_=>true) pl pl' (by omega) g1
   have hs:(is.toArray.size==js.toArray.size)=true:=by
    have a1:=ri.length
    have a2:=rj.length
    simp only[Vai,beq_iff_eq]
    show is.length=js.length
    omega
   rw[zm6,hs] at q2
   exact q2 X.prog X.w X.xe _ ⟨.bl true,H,I,rfl,ret _ _ _ _ _ Ext.refl rel (.bl true) q⟩
  | _=>exact(show False from q).elim
 | _=>exact(show False from q).elim
end
theorem alk0 {S:Sto}{d e:D}(h:eqF d e=some true):∀n,Alk S n d e
 | 0=>h
 | n+1=>.inl (alk0 h n)
theorem zo9 {S:Sto}{n:Nat}{xs:List D}(h:∀x∈xs,eqF x x=some true):Alk S (n+1) (.tup xs) (.tup xs):=.inr (.inl ⟨xs,xs,rfl,rfl,rfl,λk x y hx hy=>by
 rw[hx] at hy
 cases hy
 exact alk0 (h x (Vau hx)) n⟩)
theorem zoT (i:Int):eqF (.int i) (.int i)=some true:=by simp[eqF]
theorem zxL {S:Sto}{n:Nat}(p:Int×Int):Alk S (n+1) (frD p) (frD p):=zo9 λx hx=>by
 simp only[Vam,VaO,or_false] at hx
 rcases hx with rfl | rfl <;> exact zoT _
theorem zt7 {S:Sto}{n:Nat}(c:Ct):Alk S (n+1) c.d c.d:=zo9 λx hx=>by
 simp only[Vam,VaO,or_false] at hx
 rcases hx with rfl | rfl | rfl <;> exact zoT _
theorem zqr {S:Sto}{n a b:Nat}{α:Type}{f:α→D}{xs:List α}(hf:∀x,Alk S n (f x) (f x))(h1:S[a]?=some (.lst (xs.map f)))(h2:S[b]?=some (.lst (xs.map f))):Alk S (n+1) (.ref a) (.ref b):=.inr (.inr ⟨a,b,_,_,rfl,rfl,h1,h2,rfl,λk x y hx hy=>by
 rw[hx] at hy
 cases hy
 rw[Val] at hx
 obtain⟨z,_,rfl⟩:=Vaq.mp hx
 exact hf z⟩)
structure zbt (K:PySem.W.Frag)(mg:Str→Option Value) where
 C:Addr
 m:mg "Number"=some (.ref C)
 cl:Cls K C
 n_bottom:zbl K C "bottom"
 n_top:zbl K C "top"
 makes:PySem.W.makesIn K C=true
 kp:PySem.W.keepIn K (.ref C)=true
structure zbv (K:PySem.W.Frag)(mg:Str→Option Value) where
 C:Addr
 m:mg "Unknown"=some (.ref C)
 cl:Cls K C
 n_place:zbl K C "place"
 makes:PySem.W.makesIn K C=true
 kp:PySem.W.keepIn K (.ref C)=true
structure zbn (K:PySem.W.Frag)(mg:Str→Option Value) where
 C:Addr
 m:mg "Plus"=some (.ref C)
 cl:Cls K C
 n_other:zbl K C "other"
 n_one:zbl K C "one"
 makes:PySem.W.makesIn K C=true
 kp:PySem.W.keepIn K (.ref C)=true
structure zbr (K:PySem.W.Frag)(mg:Str→Option Value) where
 C:Addr
 m:mg "Minus"=some (.ref C)
 cl:Cls K C
 n_other:zbl K C "other"
 n_one:zbl K C "one"
 makes:PySem.W.makesIn K C=true
 kp:PySem.W.keepIn K (.ref C)=true
structure zbm (K:PySem.W.Frag)(mg:Str→Option Value) where
 C:Addr
 m:mg "Times"=some (.ref C)
 cl:Cls K C
 n_other:zbl K C "other"
 n_one:zbl K C "one"
 makes:PySem.W.makesIn K C=true
 kp:PySem.W.keepIn K (.ref C)=true
structure zbu (K:PySem.W.Frag)(mg:Str→Option Value) where
 C:Addr
 m:mg "Power"=some (.ref C)
 cl:Cls K C
 n_many:zbl K C "many"
 n_one:zbl K C "one"
 makes:PySem.W.makesIn K C=true
 kp:PySem.W.keepIn K (.ref C)=true
def zfX:Sd:=λds S Q ex=>match ds with
 | [.int _]=>∀g:Int,1≤g→g≤1000000→Q (.int g) S
 | _=>False
theorem zvF:Ln (zfX) 1:=λds S Q ex h=>by unfold zfX at h; split at h <;> first | rfl | exact h.elim
def zg6:Sd:=λds S Q ex=>match ds with
 | [.int a,.int b]=>(0≤a∧0≤b)∧Q (.int ((Int.gcd a b:Nat):Int)) S
 | _=>False
theorem zwj:Ln (zg6) 2:=λds S Q ex h=>by unfold zg6 at h; split at h <;> first | rfl | exact h.elim
def zdF:Sd:=λds S Q ex=>match ds with
 | [.int T,.int B]=>(0<B∧Sz 4000 B)∧∀t b:Int,1≤b→Int.gcd t b=1→t*B=T*b→t.natAbs≤T.natAbs→b≤B→Q (.tup [.int t,.int b]) S
 | _=>False
theorem zsI:Ln (zdF) 2:=λds S Q ex h=>by unfold zdF at h; split at h <;> first | rfl | exact h.elim
def zhi:Sd:=λds S Q ex=>match ds with
 | [.ref b,.int g,.int _]=>∃bs:List (Int×Int),S[b]?=some (.lst (bs.map frD))∧Spn 51 bs∧(1≤g∧g≤1000000)∧bs.length≤4∧∀(T:Sto) (m:Nat) (ps:List (Int×Int)),Pre S T→S.length≤m→T[m]?=some (.lst (ps.map frD))→ps.length=bs.length→Gd 110 ps→InW g bs ps→Q (.ref m) T
 | _=>False
theorem zrJ:Ln (zhi) 3:=λds S Q ex h=>by unfold zhi at h; split at h <;> first | rfl | exact h.elim
def zfY:Sd:=λds S Q ex=>match ds with
 | [.int _]=>∀t b:Int,(1≤b∧b≤10^9)→Int.gcd t b=1→t.natAbs≤10^9→Q (.tup [.str "number",.int t,.int b]) S
 | _=>False
theorem zv4:Ln (zfY) 1:=λds S Q ex h=>by unfold zfY at h; split at h <;> first | rfl | exact h.elim
def zgm:Sd:=λds S Q ex=>match ds with
 | [.int _,.int m,.int q]=>(0≤m∧m≤1000∧1≤q∧q≤4)∧∀v:Nd,v.ok m q→Q v.d S
 | _=>False
theorem zxh:Ln (zgm) 3:=λds S Q ex h=>by unfold zgm at h; split at h <;> first | rfl | exact h.elim
def zgT:Sd:=λds S Q ex=>match ds with
 | [d,.ref n]=>∃(v:Nd) (ws:List Nat) (q:Int),d=v.d∧S[n]?=some (Ob.lst (ws.map wtD))∧v.ok ws.length q∧(∀i:Int,inR ws.length i→ws.getD i.toNat 0≤16)∧Q (.int (v.wt ws:Nat)) S
 | _=>False
theorem zsz:Ln (zgT) 2:=λds S Q ex h=>by unfold zgT at h; split at h <;> first | rfl | exact h.elim
def zhF:Sd:=λds S Q ex=>match ds with
 | [.ref c,.int q,.bl _,.int h16,.int most]=>∃(cs:List D) (qn hv:Nat),S[c]?=some (.lst cs)∧(∀x∈cs,∃i:Int,x=.int i)∧q=qn∧(1≤qn∧qn≤4)∧h16=(hv:Int)∧(1≤hv∧hv≤16)∧(1≤most∧most≤60)∧∀(ns:List Nd) (ws:List Nat) (T:Sto) (m:Nat),zaD qn ns ws→Hv hv ws→1≤ns.length→ns.length≤60→Pre S T→S.length≤m→T[m]?=some (.lst (ns.map Nd.d))→Q (.ref m) T
 | _=>False
theorem zr6:Ln (zhF) 5:=λds S Q ex h=>by unfold zhF at h; split at h <;> first | rfl | exact h.elim
def zfs:Sd:=λds S Q ex=>match ds with
 | [.ref a,d]=>∃(q:Nat) (v:Nd) (ns:List Nd) (ws:List Nat),d=v.d∧S[a]?=some (.lst (ns.map Nd.d))∧ns.length<900∧zaD q ns ws∧v.ok ns.length q∧v.wt ws≤16∧∀(T:Sto) (j:Nat) (ns':List Nd) (ws':List Nat),Gr q a 1 S ns ws T ns' ws'→j<ns'.length→ns'[j]?=some v→ws'.getD j 0=v.wt ws→(∀P,gt (zaC P ns') (j:Int)=v.due (zaC P ns) P)→Q (.int (j:Int)) T
 | _=>False
theorem zs7:Ln (zfs) 2:=λds S Q ex h=>by unfold zfs at h; split at h <;> first | rfl | exact h.elim
def zgL:Sd:=λds S Q ex=>match ds with
 | [.int x,.int n]=>(0≤n∧n≤6∧Sz 2000 x)∧Q (.int (x^n.toNat)) S
 | _=>False
theorem zrV:Ln (zgL) 2:=λds S Q ex h=>by unfold zgL at h; split at h <;> first | rfl | exact h.elim
def zhQ:Sd:=λds S Q ex=>match ds with
 | [d,.ref w,.ref p]=>∃(v:Nd) (vs ps:List (Int×Int)),d=v.d∧S[w]?=some (.lst (vs.map frD))∧S[p]?=some (.lst (ps.map frD))∧v.ok vs.length ps.length∧Pz 1990 vs∧Pz 1990 ps∧Q (frD (v.due vs ps)) S
 | _=>False
theorem zxJ:Ln (zhQ) 3:=λds S Q ex h=>by unfold zhQ at h; split at h <;> first | rfl | exact h.elim
def zeT:Sd:=λds S Q ex=>match ds with
 | [.ref a,.ref b]=>∃(ns:List Nd) (ws:List Nat) (ps:List (Int×Int)),S[a]?=some (.lst (ns.map Nd.d))∧S[b]?=some (.lst (ps.map frD))∧zaD ps.length ns ws∧Gd 110 ps∧ns.length≤70∧∀(T:Sto) (m:Nat),Pre S T→S.length≤m→T[m]?=some (.lst ((zaC ps ns).map frD))→Q (.ref m) T
 | _=>False
theorem zwl:Ln (zeT) 2:=λds S Q ex h=>by unfold zeT at h; split at h <;> first | rfl | exact h.elim
def zhI:Sd:=λds S Q ex=>match ds with
 | [.ref a,.ref b,.int at',.int _]=>∃(ns:List Nd) (ws:List Nat) (ps:List (Int×Int)),S[a]?=some (.lst (ns.map Nd.d))∧S[b]?=some (.lst (ps.map frD))∧a≠b∧zaD ps.length ns ws∧Hv 14 ws∧Gd 110 ps∧(1≤ps.length∧ps.length≤4)∧inR ns.length at'∧ns.length≤60∧∀(T:Sto) (w:Str) (zero:Bool) (k:Nat) (ns':List Nd) (ws':List Nat),rwW zero w→Gr ps.length a 4 S ns ws T ns' ws'→k<ns'.length→Q (.tup [.str w,.int (k:Int)]) T
 | _=>False
theorem zxT:Ln (zhI) 4:=λds S Q ex h=>by unfold zhI at h; split at h <;> first | rfl | exact h.elim
def zhn:Sd:=λds S Q ex=>match ds with
 | [.ref a,.ref b,.int f,.int _]=>∃(ns:List Nd) (ws:List Nat) (ps:List (Int×Int)),S[a]?=some (.lst (ns.map Nd.d))∧S[b]?=some (.lst (ps.map frD))∧a≠b∧zaD ps.length ns ws∧Hv 14 ws∧Gd 110 ps∧(1≤ps.length∧ps.length≤4)∧1≤ns.length∧ns.length≤60∧∀(T:Sto) (w:Str) (zero:Bool) (k:Nat) (ns':List Nd) (ws':List Nat),rwW zero w→Gr ps.length a 4 S ns ws T ns' ws'→k<ns'.length→Q (.tup [.str w,.int (k:Int)]) T
 | _=>False
theorem zxi:Ln (zhn) 4:=λds S Q ex h=>by unfold zhn at h; split at h <;> first | rfl | exact h.elim
def zgu:Sd:=λds S Q ex=>match ds with
 | [.str w,.tup [.int a,.int b]]=>(w="zero"∧Q (.bl (decide (0<a)||decide (b<0))) S)∨(w="least"∧Q (.bl (decide (b<0))) S)
 | _=>False
theorem zri:Ln (zgu) 2:=λds S Q ex h=>by unfold zgu at h; split at h <;> first | rfl | exact h.elim
def zhv:Sd:=λds S Q ex=>match ds with
 | [.tup [.int a,.int b],.tup [.int c,.int d]]=>(IntMulOk a d∧IntMulOk c b)∧Q (.bl (decide (a*d<c*b))) S
 | _=>False
theorem zxU:Ln (zhv) 2:=λds S Q ex h=>by unfold zhv at h; split at h <;> first | rfl | exact h.elim
def zde:Sd:=λds S Q ex=>match ds with
 | [.int t,.int b]=>CFd 0 b∧Q (.int (-(-t/b))) S
 | _=>False
theorem zq5:Ln (zde) 2:=λds S Q ex h=>by unfold zde at h; split at h <;> first | rfl | exact h.elim
def zhy:Sd:=λds S Q ex=>match ds with
 | [.tup [.int a,.int b],.tup [.int c,.int d],.int g]=>((IntMulOk c b∧IntMulOk a d)∧¬ c*b<a*d∧IntMulOk a g∧IntMulOk c g∧CFd 0 b∧CFd 0 d)∧Q (.tup [.int (a*g/b),.int (-(-(c*g)/d))]) S
 | _=>False
theorem zu4:Ln (zhy) 3:=λds S Q ex h=>by unfold zhy at h; split at h <;> first | rfl | exact h.elim
def zep (cNumber:Addr)(cUnknown:Addr)(cPlus:Addr)(cMinus:Addr)(cTimes:Addr)(cPower:Addr):Sd:=λds S Q ex=>match ds with
 | [.ref n,.ref w,.ref p,.int g]=>∃(x y:Int) (vs bs:List (Int×Int)),S[n]?=some (Nd.ob cNumber cUnknown cPlus cMinus cTimes cPower (Nd.number x y))∧S[w]?=some (.lst (vs.map frD))∧S[p]?=some (.lst (bs.map frD))∧Nd.ok vs.length bs.length (Nd.number x y)∧Spn 1400 vs∧(1≤g∧g≤1000000)∧Q (frD (Nd.fw vs bs g (Nd.number x y))) S
 | _=>False
theorem zq6 (cNumber:Addr)(cUnknown:Addr)(cPlus:Addr)(cMinus:Addr)(cTimes:Addr)(cPower:Addr):Ln (zep cNumber cUnknown cPlus cMinus cTimes cPower) 4:=λds S Q ex h=>by unfold zep at h; split at h <;> first | rfl | exact h.elim
def zev (cNumber:Addr)(cUnknown:Addr)(cPlus:Addr)(cMinus:Addr)(cTimes:Addr)(cPower:Addr):Sd:=λds S Q ex=>match ds with
 | [.ref n,.ref w,.ref p,.int g]=>∃(k:Int) (vs bs:List (Int×Int)),S[n]?=some (Nd.ob cNumber cUnknown cPlus cMinus cTimes cPower (Nd.unknown k))∧S[w]?=some (.lst (vs.map frD))∧S[p]?=some (.lst (bs.map frD))∧Nd.ok vs.length bs.length (Nd.unknown k)∧Spn 1400 vs∧(1≤g∧g≤1000000)∧Q (frD (Nd.fw vs bs g (Nd.unknown k))) S
 | _=>False
theorem zsf (cNumber:Addr)(cUnknown:Addr)(cPlus:Addr)(cMinus:Addr)(cTimes:Addr)(cPower:Addr):Ln (zev cNumber cUnknown cPlus cMinus cTimes cPower) 4:=λds S Q ex h=>by unfold zev at h; split at h <;> first | rfl | exact h.elim
def zeF:Sd:=λds S Q ex=>match ds with
 | [.tup [.int a,.int b],.tup [.int c,.int d]]=>Q (.tup [.int (a+c),.int (b+d)]) S
 | _=>False
theorem zr1:Ln (zeF) 2:=λds S Q ex h=>by unfold zeF at h; split at h <;> first | rfl | exact h.elim
def zeO (cNumber:Addr)(cUnknown:Addr)(cPlus:Addr)(cMinus:Addr)(cTimes:Addr)(cPower:Addr):Sd:=λds S Q ex=>match ds with
 | [.ref n,.ref w,.ref p,.int g]=>∃(i j:Int) (vs bs:List (Int×Int)),S[n]?=some (Nd.ob cNumber cUnknown cPlus cMinus cTimes cPower (Nd.plus i j))∧S[w]?=some (.lst (vs.map frD))∧S[p]?=some (.lst (bs.map frD))∧Nd.ok vs.length bs.length (Nd.plus i j)∧Spn 1400 vs∧(1≤g∧g≤1000000)∧Q (frD (Nd.fw vs bs g (Nd.plus i j))) S
 | _=>False
theorem zsx (cNumber:Addr)(cUnknown:Addr)(cPlus:Addr)(cMinus:Addr)(cTimes:Addr)(cPower:Addr):Ln (zeO cNumber cUnknown cPlus cMinus cTimes cPower) 4:=λds S Q ex h=>by unfold zeO at h; split at h <;> first | rfl | exact h.elim
def zdD:Sd:=λds S Q ex=>match ds with
 | [.tup [.int a,.int b],.tup [.int c,.int d]]=>Q (.tup [.int (a-d),.int (b-c)]) S
 | _=>False
theorem zrH:Ln (zdD) 2:=λds S Q ex h=>by unfold zdD at h; split at h <;> first | rfl | exact h.elim
def zfo (cNumber:Addr)(cUnknown:Addr)(cPlus:Addr)(cMinus:Addr)(cTimes:Addr)(cPower:Addr):Sd:=λds S Q ex=>match ds with
 | [.ref n,.ref w,.ref p,.int g]=>∃(i j:Int) (vs bs:List (Int×Int)),S[n]?=some (Nd.ob cNumber cUnknown cPlus cMinus cTimes cPower (Nd.minus i j))∧S[w]?=some (.lst (vs.map frD))∧S[p]?=some (.lst (bs.map frD))∧Nd.ok vs.length bs.length (Nd.minus i j)∧Spn 1400 vs∧(1≤g∧g≤1000000)∧Q (frD (Nd.fw vs bs g (Nd.minus i j))) S
 | _=>False
theorem zwO (cNumber:Addr)(cUnknown:Addr)(cPlus:Addr)(cMinus:Addr)(cTimes:Addr)(cPower:Addr):Ln (zfo cNumber cUnknown cPlus cMinus cTimes cPower) 4:=λds S Q ex h=>by unfold zfo at h; split at h <;> first | rfl | exact h.elim
def zgz:Sd:=λds S Q ex=>match ds with
 | [.tup [.int a,.int b],.tup [.int c,.int d],.int g]=>((IntMulOk a c∧IntMulOk a d∧IntMulOk b c∧IntMulOk b d)∧CFd 0 g)∧∀mn mx:Int,zeS a b c d mn mx→Q (.tup [.int (mn/g),.int (-(-mx/g))]) S
 | _=>False
theorem zvs:Ln (zgz) 3:=λds S Q ex h=>by unfold zgz at h; split at h <;> first | rfl | exact h.elim
def zei (cNumber:Addr)(cUnknown:Addr)(cPlus:Addr)(cMinus:Addr)(cTimes:Addr)(cPower:Addr):Sd:=λds S Q ex=>match ds with
 | [.ref n,.ref w,.ref p,.int g]=>∃(i j:Int) (vs bs:List (Int×Int)),S[n]?=some (Nd.ob cNumber cUnknown cPlus cMinus cTimes cPower (Nd.times i j))∧S[w]?=some (.lst (vs.map frD))∧S[p]?=some (.lst (bs.map frD))∧Nd.ok vs.length bs.length (Nd.times i j)∧Spn 1400 vs∧(1≤g∧g≤1000000)∧Q (frD (Nd.fw vs bs g (Nd.times i j))) S
 | _=>False
theorem zuw (cNumber:Addr)(cUnknown:Addr)(cPlus:Addr)(cMinus:Addr)(cTimes:Addr)(cPower:Addr):Ln (zei cNumber cUnknown cPlus cMinus cTimes cPower) 4:=λds S Q ex h=>by unfold zei at h; split at h <;> first | rfl | exact h.elim
def zcP:Sd:=λds S Q ex=>match ds with
 | [.int x,.int n]=>(0≤n∧n≤6∧Sz 2000 x)∧Q (.int (x^n.toNat)) S
 | _=>False
theorem zru:Ln (zcP) 2:=λds S Q ex h=>by unfold zcP at h; split at h <;> first | rfl | exact h.elim
def zhh:Sd:=λds S Q ex=>match ds with
 | [.tup [.int a,.int b],.int n,.int g]=>(2≤n∧n≤6∧Sz 1400 a∧Sz 1400 b∧1≤g∧Sz 1400 g)∧∀m M:Int,zcE a b n.toNat m M→Q (.tup [.int (m/g^(n.toNat-1)),.int (-(-M/g^(n.toNat-1)))]) S
 | _=>False
theorem zrA:Ln (zhh) 3:=λds S Q ex h=>by unfold zhh at h; split at h <;> first | rfl | exact h.elim
def zea (cNumber:Addr)(cUnknown:Addr)(cPlus:Addr)(cMinus:Addr)(cTimes:Addr)(cPower:Addr):Sd:=λds S Q ex=>match ds with
 | [.ref n,.ref w,.ref p,.int g]=>∃(i m:Int) (vs bs:List (Int×Int)),S[n]?=some (Nd.ob cNumber cUnknown cPlus cMinus cTimes cPower (Nd.power i m))∧S[w]?=some (.lst (vs.map frD))∧S[p]?=some (.lst (bs.map frD))∧Nd.ok vs.length bs.length (Nd.power i m)∧Spn 1400 vs∧(1≤g∧g≤1000000)∧Q (frD (Nd.fw vs bs g (Nd.power i m))) S
 | _=>False
theorem zrE (cNumber:Addr)(cUnknown:Addr)(cPlus:Addr)(cMinus:Addr)(cTimes:Addr)(cPower:Addr):Ln (zea cNumber cUnknown cPlus cMinus cTimes cPower) 4:=λds S Q ex h=>by unfold zea at h; split at h <;> first | rfl | exact h.elim
def zgP (cPower:Addr):Sd:=λds S Q ex=>match ds with
 | [.ref n,x,y]=>∃T:Sto,S=T++[.ins cPower []]∧n=T.length∧Q .non (T++[.ins cPower [("one",x),("many",y)]])
 | _=>False
theorem zw0 (cPower:Addr):Ln (zgP cPower) 3:=λds S Q ex h=>by unfold zgP at h; split at h <;> first | rfl | exact h.elim
def zgs (cNumber:Addr):Sd:=λds S Q ex=>match ds with
 | [.ref n,x,y]=>∃T:Sto,S=T++[.ins cNumber []]∧n=T.length∧Q .non (T++[.ins cNumber [("top",x),("bottom",y)]])
 | _=>False
theorem zsT (cNumber:Addr):Ln (zgs cNumber) 3:=λds S Q ex h=>by unfold zgs at h; split at h <;> first | rfl | exact h.elim
def zhw (cUnknown:Addr):Sd:=λds S Q ex=>match ds with
 | [.ref n,x]=>∃T:Sto,S=T++[.ins cUnknown []]∧n=T.length∧Q .non (T++[.ins cUnknown [("place",x)]])
 | _=>False
theorem zrx (cUnknown:Addr):Ln (zhw cUnknown) 2:=λds S Q ex h=>by unfold zhw at h; split at h <;> first | rfl | exact h.elim
def zgh (cPlus:Addr):Sd:=λds S Q ex=>match ds with
 | [.ref n,x,y]=>∃T:Sto,S=T++[.ins cPlus []]∧n=T.length∧Q .non (T++[.ins cPlus [("one",x),("other",y)]])
 | _=>False
theorem zsA (cPlus:Addr):Ln (zgh cPlus) 3:=λds S Q ex h=>by unfold zgh at h; split at h <;> first | rfl | exact h.elim
def zgn (cMinus:Addr):Sd:=λds S Q ex=>match ds with
 | [.ref n,x,y]=>∃T:Sto,S=T++[.ins cMinus []]∧n=T.length∧Q .non (T++[.ins cMinus [("one",x),("other",y)]])
 | _=>False
theorem zu5 (cMinus:Addr):Ln (zgn cMinus) 3:=λds S Q ex h=>by unfold zgn at h; split at h <;> first | rfl | exact h.elim
def zf6 (cTimes:Addr):Sd:=λds S Q ex=>match ds with
 | [.ref n,x,y]=>∃T:Sto,S=T++[.ins cTimes []]∧n=T.length∧Q .non (T++[.ins cTimes [("one",x),("other",y)]])
 | _=>False
theorem zvy (cTimes:Addr):Ln (zf6 cTimes) 3:=λds S Q ex h=>by unfold zf6 at h; split at h <;> first | rfl | exact h.elim
def zen (cNumber:Addr)(cUnknown:Addr)(cPlus:Addr)(cMinus:Addr)(cTimes:Addr)(cPower:Addr):Sd:=λds S Q ex=>match ds with
 | [d]=>∃v:Nd,d=v.d∧Q (.ref S.length) (S++[v.ob cNumber cUnknown cPlus cMinus cTimes cPower])
 | _=>False
theorem ztF (cNumber:Addr)(cUnknown:Addr)(cPlus:Addr)(cMinus:Addr)(cTimes:Addr)(cPower:Addr):Ln (zen cNumber cUnknown cPlus cMinus cTimes cPower) 1:=λds S Q ex h=>by unfold zen at h; split at h <;> first | rfl | exact h.elim
def zeY:Sd:=λds S Q ex=>match ds with
 | [.ref a,.ref b,.int g]=>∃(ns:List Nd) (ws:List Nat) (bs:List (Int×Int)),S[a]?=some (.lst (ns.map Nd.d))∧S[b]?=some (.lst (bs.map frD))∧zaD bs.length ns ws∧Spn 51 bs∧(1≤g∧g≤1000000)∧ns.length≤70∧∀(T:Sto) (m:Nat),Pre S T→S.length≤m→T[m]?=some (.lst ((zaK bs g ns).map frD))→Q (.ref m) T
 | _=>False
theorem zxw:Ln (zeY) 3:=λds S Q ex h=>by unfold zeY at h; split at h <;> first | rfl | exact h.elim
def zeD:Sd:=λds S Q ex=>match ds with
 | [.ref a,.tup [.str w,.int k],.ref b,.int g]=>∃(ns:List Nd) (ws:List Nat) (bs:List (Int×Int)) (zero:Bool),S[a]?=some (.lst (ns.map Nd.d))∧S[b]?=some (.lst (bs.map frD))∧rwW zero w∧inR ns.length k∧zaD bs.length ns ws∧Spn 51 bs∧(1≤g∧g≤1000000)∧ns.length≤70∧∀T:Sto,Pre S T→Q (.bl (ibS ns zero k.toNat bs g)) T
 | _=>False
theorem zxx:Ln (zeD) 4:=λds S Q ex h=>by unfold zeD at h; split at h <;> first | rfl | exact h.elim
def zc7:Sd:=λds S Q ex=>match ds with
 | [.tup [.int a,.int b],.tup [.int c,.int d]]=>(zaX (a,b) (c,d)=none→Q .non S)∧∀p,zaX (a,b) (c,d)=some p→Q (frD p) S
 | _=>False
theorem zts:Ln (zc7) 2:=λds S Q ex h=>by unfold zc7 at h; split at h <;> first | rfl | exact h.elim
def zgF:Sd:=λds S Q ex=>match ds with
 | [.str w,.tup [.int a,.int b]]=>∃zero:Bool,rwW zero w∧(zet zero (a,b)=none→Q .non S)∧∀p,zet zero (a,b)=some p→Q (frD p) S
 | _=>False
theorem zwx:Ln (zgF) 2:=λds S Q ex h=>by unfold zgF at h; split at h <;> first | rfl | exact h.elim
def ze6 (cNumber:Addr)(cUnknown:Addr)(cPlus:Addr)(cMinus:Addr)(cTimes:Addr)(cPower:Addr):Sd:=λds S Q ex=>match ds with
 | [.ref n,.ref w,.tup [.int z0,.int z1],.int g]=>∃(x y:Int) (vs:List (Int×Int)) (q:Int),S[n]?=some (Nd.ob cNumber cUnknown cPlus cMinus cTimes cPower (Nd.number x y))∧S[w]?=some (.lst (vs.map frD))∧Nd.ok vs.length q (Nd.number x y)∧Spn 1000 vs∧(z0≤z1∧Sz 1000 z0∧Sz 1000 z1)∧(1≤g∧g≤1000000)∧(Nd.bk vs (z0,z1) g (Nd.number x y)=none→Q .non S)∧∀l,Nd.bk vs (z0,z1) g (Nd.number x y)=some l→Q (.ref S.length) (S++[.lst (l.map ptD)])
 | _=>False
theorem zwf (cNumber:Addr)(cUnknown:Addr)(cPlus:Addr)(cMinus:Addr)(cTimes:Addr)(cPower:Addr):Ln (ze6 cNumber cUnknown cPlus cMinus cTimes cPower) 4:=λds S Q ex h=>by unfold ze6 at h; split at h <;> first | rfl | exact h.elim
def zd5 (cNumber:Addr)(cUnknown:Addr)(cPlus:Addr)(cMinus:Addr)(cTimes:Addr)(cPower:Addr):Sd:=λds S Q ex=>match ds with
 | [.ref n,.ref w,.tup [.int z0,.int z1],.int g]=>∃(k:Int) (vs:List (Int×Int)) (q:Int),S[n]?=some (Nd.ob cNumber cUnknown cPlus cMinus cTimes cPower (Nd.unknown k))∧S[w]?=some (.lst (vs.map frD))∧Nd.ok vs.length q (Nd.unknown k)∧Spn 1000 vs∧(z0≤z1∧Sz 1000 z0∧Sz 1000 z1)∧(1≤g∧g≤1000000)∧(Nd.bk vs (z0,z1) g (Nd.unknown k)=none→Q .non S)∧∀l,Nd.bk vs (z0,z1) g (Nd.unknown k)=some l→Q (.ref S.length) (S++[.lst (l.map ptD)])
 | _=>False
theorem zua (cNumber:Addr)(cUnknown:Addr)(cPlus:Addr)(cMinus:Addr)(cTimes:Addr)(cPower:Addr):Ln (zd5 cNumber cUnknown cPlus cMinus cTimes cPower) 4:=λds S Q ex h=>by unfold zd5 at h; split at h <;> first | rfl | exact h.elim
def zhb:Sd:=λds S Q ex=>match ds with
 | [.ref _,.tup [.int z0,.int z1],.tup [.int x0,.int x1],.tup [.int y0,.int y1],.int _]=>(zaX (x0,x1) (z0-y1,z1-y0)=none→Q .non S)∧∀p,zaX (x0,x1) (z0-y1,z1-y0)=some p→Q (frD p) S
 | _=>False
theorem zwE:Ln (zhb) 5:=λds S Q ex h=>by unfold zhb at h; split at h <;> first | rfl | exact h.elim
def zgY:Sd:=λds S Q ex=>match ds with
 | [.ref _,.tup [.int z0,.int z1],.tup [.int x0,.int x1],.tup [.int y0,.int y1],.int _]=>(zaX (y0,y1) (z0-x1,z1-x0)=none→Q .non S)∧∀p,zaX (y0,y1) (z0-x1,z1-x0)=some p→Q (frD p) S
 | _=>False
theorem zxX:Ln (zgY) 5:=λds S Q ex h=>by unfold zgY at h; split at h <;> first | rfl | exact h.elim
def zd8 (cNumber:Addr)(cUnknown:Addr)(cPlus:Addr)(cMinus:Addr)(cTimes:Addr)(cPower:Addr):Sd:=λds S Q ex=>match ds with
 | [.ref n,.ref w,.tup [.int z0,.int z1],.int g]=>∃(i j:Int) (vs:List (Int×Int)) (q:Int),S[n]?=some (Nd.ob cNumber cUnknown cPlus cMinus cTimes cPower (Nd.plus i j))∧S[w]?=some (.lst (vs.map frD))∧Nd.ok vs.length q (Nd.plus i j)∧Spn 1000 vs∧(z0≤z1∧Sz 1000 z0∧Sz 1000 z1)∧(1≤g∧g≤1000000)∧(Nd.bk vs (z0,z1) g (Nd.plus i j)=none→Q .non S)∧∀l,Nd.bk vs (z0,z1) g (Nd.plus i j)=some l→Q (.ref S.length) (S++[.lst (l.map ptD)])
 | _=>False
theorem zq8 (cNumber:Addr)(cUnknown:Addr)(cPlus:Addr)(cMinus:Addr)(cTimes:Addr)(cPower:Addr):Ln (zd8 cNumber cUnknown cPlus cMinus cTimes cPower) 4:=λds S Q ex h=>by unfold zd8 at h; split at h <;> first | rfl | exact h.elim
def zgg:Sd:=λds S Q ex=>match ds with
 | [.ref _,.tup [.int z0,.int z1],.tup [.int x0,.int x1],.tup [.int y0,.int y1],.int _]=>(zaX (x0,x1) (z0+y0,z1+y1)=none→Q .non S)∧∀p,zaX (x0,x1) (z0+y0,z1+y1)=some p→Q (frD p) S
 | _=>False
theorem zuv:Ln (zgg) 5:=λds S Q ex h=>by unfold zgg at h; split at h <;> first | rfl | exact h.elim
def zhu:Sd:=λds S Q ex=>match ds with
 | [.ref _,.tup [.int z0,.int z1],.tup [.int x0,.int x1],.tup [.int y0,.int y1],.int _]=>(zaX (y0,y1) (x0-z1,x1-z0)=none→Q .non S)∧∀p,zaX (y0,y1) (x0-z1,x1-z0)=some p→Q (frD p) S
 | _=>False
theorem ztj:Ln (zhu) 5:=λds S Q ex h=>by unfold zhu at h; split at h <;> first | rfl | exact h.elim
def zfp (cNumber:Addr)(cUnknown:Addr)(cPlus:Addr)(cMinus:Addr)(cTimes:Addr)(cPower:Addr):Sd:=λds S Q ex=>match ds with
 | [.ref n,.ref w,.tup [.int z0,.int z1],.int g]=>∃(i j:Int) (vs:List (Int×Int)) (q:Int),S[n]?=some (Nd.ob cNumber cUnknown cPlus cMinus cTimes cPower (Nd.minus i j))∧S[w]?=some (.lst (vs.map frD))∧Nd.ok vs.length q (Nd.minus i j)∧Spn 1000 vs∧(z0≤z1∧Sz 1000 z0∧Sz 1000 z1)∧(1≤g∧g≤1000000)∧(Nd.bk vs (z0,z1) g (Nd.minus i j)=none→Q .non S)∧∀l,Nd.bk vs (z0,z1) g (Nd.minus i j)=some l→Q (.ref S.length) (S++[.lst (l.map ptD)])
 | _=>False
theorem ztH (cNumber:Addr)(cUnknown:Addr)(cPlus:Addr)(cMinus:Addr)(cTimes:Addr)(cPower:Addr):Ln (zfp cNumber cUnknown cPlus cMinus cTimes cPower) 4:=λds S Q ex h=>by unfold zfp at h; split at h <;> first | rfl | exact h.elim
def zhf:Sd:=λds S Q ex=>match ds with
 | [.tup [.int a,.int b]]=>Q (.bl (decide (a≤0)&&decide (0≤b))) S
 | _=>False
theorem zq1:Ln (zhf) 1:=λds S Q ex h=>by unfold zhf at h; split at h <;> first | rfl | exact h.elim
def ze2:Sd:=λds S Q ex=>match ds with
 | [.tup [.int x0,.int x1],.tup [.int l0,.int l1],.tup [.int h0,.int h1]]=>(ptB (x0,x1) (l0,l1) (h0,h1)=none→Q .non S)∧∀p,ptB (x0,x1) (l0,l1) (h0,h1)=some p→Q (frD p) S
 | _=>False
theorem ztD:Ln (ze2) 3:=λds S Q ex h=>by unfold ze2 at h; split at h <;> first | rfl | exact h.elim
def zhx:Sd:=λds S Q ex=>match ds with
 | [.int t,.int b]=>CFd 0 b∧Q (.tup [.int (t/b),.int (-(-t/b))]) S
 | _=>False
theorem zsw:Ln (zhx) 2:=λds S Q ex h=>by unfold zhx at h; split at h <;> first | rfl | exact h.elim
def zgb:Sd:=λds S Q ex=>match ds with
 | [.tup [.int lo,.int hi],.tup [.int x0,.int x1],.tup [.int c,.int d]]=>(0≤c∧0<d∧Sz 1400 c∧Sz 1400 d)∧(sdS lo hi (x0,x1) c d=none→Q .non S)∧∀p,sdS lo hi (x0,x1) c d=some p→Q (frD p) S
 | _=>False
theorem zv2:Ln (zgb) 3:=λds S Q ex h=>by unfold zgb at h; split at h <;> first | rfl | exact h.elim
def zhm:Sd:=λds S Q ex=>match ds with
 | [.tup [.int a,.int b],.tup [.int c,.int d]]=>Q (.tup [.int (if c<a then c else a),.int (if d > b then d else b)]) S
 | _=>False
theorem zxS:Ln (zhm) 2:=λds S Q ex h=>by unfold zhm at h; split at h <;> first | rfl | exact h.elim
def zel:Sd:=λds S Q ex=>match ds with
 | [.non,y]=>Q y S
 | [.tup [.int a,.int b],.non]=>Q (.tup [.int a,.int b]) S
 | [.tup [.int a,.int b],.tup [.int c,.int d]]=>Q (.tup [.int (if c<a then c else a),.int (if d > b then d else b)]) S
 | _=>False
theorem zwF:Ln (zel) 2:=λds S Q ex h=>by unfold zel at h; split at h <;> first | rfl | exact h.elim
def zdg:Sd:=λds S Q ex=>match ds with
 | [.tup [.int a,.int b]]=>Q (.tup [.int (-b),.int (-a)]) S
 | _=>False
theorem zvw:Ln (zdg) 1:=λds S Q ex h=>by unfold zdg at h; split at h <;> first | rfl | exact h.elim
def zfh:Sd:=λds S Q ex=>match ds with
 | [.tup [.int z0,.int z1],.tup [.int x0,.int x1],.tup [.int y0,.int y1],.int g]=>(y0≤y1∧Sz 1100 z0∧Sz 1100 z1∧Sz 1100 y0∧Sz 1100 y1∧Sz 30 g)∧(btS (z0,z1) (x0,x1) (y0,y1) g=none→Q .non S)∧∀p,btS (z0,z1) (x0,x1) (y0,y1) g=some p→Q (frD p) S
 | _=>False
theorem zvz:Ln (zfh) 4:=λds S Q ex h=>by unfold zfh at h; split at h <;> first | rfl | exact h.elim
def zfr:Sd:=λds S Q ex=>match ds with
 | [.ref _,.tup [.int z0,.int z1],.tup [.int x0,.int x1],.tup [.int y0,.int y1],.int g]=>(y0≤y1∧Sz 1100 z0∧Sz 1100 z1∧Sz 1100 y0∧Sz 1100 y1∧Sz 30 g)∧(btS (z0,z1) (x0,x1) (y0,y1) g=none→Q .non S)∧∀p,btS (z0,z1) (x0,x1) (y0,y1) g=some p→Q (frD p) S
 | _=>False
theorem zxH:Ln (zfr) 5:=λds S Q ex h=>by unfold zfr at h; split at h <;> first | rfl | exact h.elim
def zgO:Sd:=λds S Q ex=>match ds with
 | [.ref _,.tup [.int z0,.int z1],.tup [.int x0,.int x1],.tup [.int y0,.int y1],.int g]=>(x0≤x1∧Sz 1100 z0∧Sz 1100 z1∧Sz 1100 x0∧Sz 1100 x1∧Sz 30 g)∧(btS (z0,z1) (y0,y1) (x0,x1) g=none→Q .non S)∧∀p,btS (z0,z1) (y0,y1) (x0,x1) g=some p→Q (frD p) S
 | _=>False
theorem zve:Ln (zgO) 5:=λds S Q ex h=>by unfold zgO at h; split at h <;> first | rfl | exact h.elim
def zer (cNumber:Addr)(cUnknown:Addr)(cPlus:Addr)(cMinus:Addr)(cTimes:Addr)(cPower:Addr):Sd:=λds S Q ex=>match ds with
 | [.ref n,.ref w,.tup [.int z0,.int z1],.int g]=>∃(i j:Int) (vs:List (Int×Int)) (q:Int),S[n]?=some (Nd.ob cNumber cUnknown cPlus cMinus cTimes cPower (Nd.times i j))∧S[w]?=some (.lst (vs.map frD))∧Nd.ok vs.length q (Nd.times i j)∧Spn 1000 vs∧(z0≤z1∧Sz 1000 z0∧Sz 1000 z1)∧(1≤g∧g≤1000000)∧(Nd.bk vs (z0,z1) g (Nd.times i j)=none→Q .non S)∧∀l,Nd.bk vs (z0,z1) g (Nd.times i j)=some l→Q (.ref S.length) (S++[.lst (l.map ptD)])
 | _=>False
theorem zs4 (cNumber:Addr)(cUnknown:Addr)(cPlus:Addr)(cMinus:Addr)(cTimes:Addr)(cPower:Addr):Ln (zer cNumber cUnknown cPlus cMinus cTimes cPower) 4:=λds S Q ex h=>by unfold zer at h; split at h <;> first | rfl | exact h.elim
def zf4:Sd:=λds S Q ex=>match ds with
 | [.int g,.int N,.int n]=>(2≤n∧n≤6∧0<g∧Sz 800 g)∧Q (.int (((n-1)*g+N/g^(n-1).toNat)/n)) S
 | _=>False
theorem zxe:Ln (zf4) 3:=λds S Q ex h=>by unfold zf4 at h; split at h <;> first | rfl | exact h.elim
def zew:Sd:=λds S Q ex=>match ds with
 | [.int N,.int n]=>(2≤n∧n≤6∧0≤N∧Sz 1300 N)∧∀r:Int,0≤r→Sz 800 r→r^n.toNat≤N→N<(r+1)^n.toNat→Q (.int r) S
 | _=>False
theorem zst:Ln (zew) 2:=λds S Q ex h=>by unfold zew at h; split at h <;> first | rfl | exact h.elim
def zhJ:Sd:=λds S Q ex=>match ds with
 | [.int N,.int n]=>(2≤n∧n≤6∧0≤N∧Sz 1300 N)∧Q (frD (rt0 N n.toNat)) S
 | _=>False
theorem zsk:Ln (zhJ) 2:=λds S Q ex h=>by unfold zhJ at h; split at h <;> first | rfl | exact h.elim
def zhs:Sd:=λds S Q ex=>match ds with
 | [.int N,.int n]=>(2≤n∧n≤6∧(n%2=1∨0≤N)∧Sz 1300 N)∧Q (frD (rtS N n.toNat)) S
 | _=>False
theorem zq2:Ln (zhs) 2:=λds S Q ex h=>by unfold zhs at h; split at h <;> first | rfl | exact h.elim
def zfI:Sd:=λds S Q ex=>match ds with
 | [.tup [.int z0,.int z1],.tup [.int x0,.int x1],.int n,.int g]=>(2≤n∧n≤6∧1≤g∧Sz 30 g∧Sz 1100 z0∧Sz 1100 z1)∧(bpS (z0,z1) (x0,x1) n g=none→Q .non S)∧∀p,bpS (z0,z1) (x0,x1) n g=some p→Q (frD p) S
 | _=>False
theorem zui:Ln (zfI) 4:=λds S Q ex h=>by unfold zfI at h; split at h <;> first | rfl | exact h.elim
def ze5 (cNumber:Addr)(cUnknown:Addr)(cPlus:Addr)(cMinus:Addr)(cTimes:Addr)(cPower:Addr):Sd:=λds S Q ex=>match ds with
 | [.ref n,.ref w,.tup [.int z0,.int z1],.int g]=>∃(i m:Int) (vs:List (Int×Int)) (q:Int),S[n]?=some (Nd.ob cNumber cUnknown cPlus cMinus cTimes cPower (Nd.power i m))∧S[w]?=some (.lst (vs.map frD))∧Nd.ok vs.length q (Nd.power i m)∧Spn 1000 vs∧(z0≤z1∧Sz 1000 z0∧Sz 1000 z1)∧(1≤g∧g≤1000000)∧(Nd.bk vs (z0,z1) g (Nd.power i m)=none→Q .non S)∧∀l,Nd.bk vs (z0,z1) g (Nd.power i m)=some l→Q (.ref S.length) (S++[.lst (l.map ptD)])
 | _=>False
theorem ztY (cNumber:Addr)(cUnknown:Addr)(cPlus:Addr)(cMinus:Addr)(cTimes:Addr)(cPower:Addr):Ln (ze5 cNumber cUnknown cPlus cMinus cTimes cPower) 4:=λds S Q ex h=>by unfold ze5 at h; split at h <;> first | rfl | exact h.elim
def zhU:Sd:=λds S Q ex=>match ds with
 | [.ref a,.tup [.str w,.int k],.ref b,.int g]=>∃(ns:List Nd) (ws:List Nat) (bs:List (Int×Int)) (zero:Bool),S[a]?=some (.lst (ns.map Nd.d))∧S[b]?=some (.lst (bs.map frD))∧rwW zero w∧inR ns.length k∧zaD bs.length ns ws∧Spn 51 bs∧(1≤g∧g≤1000000)∧ns.length≤70∧(sbS ns zero k.toNat bs g=none→∀T:Sto,Pre S T→Q .non T)∧∀(us:List (Int×Int)) (T:Sto) (m:Nat),sbS ns zero k.toNat bs g=some us→Pre S T→S.length≤m→T[m]?=some (.lst (us.map frD))→Q (.ref m) T
 | _=>False
theorem zwD:Ln (zhU) 4:=λds S Q ex h=>by unfold zhU at h; split at h <;> first | rfl | exact h.elim
def zg0:Sd:=λds S Q ex=>match ds with
 | [.ref a,.tup [.str w,.int k],.ref b,.int g]=>∃(ns:List Nd) (ws:List Nat) (bs:List (Int×Int)) (zero:Bool),S[a]?=some (.lst (ns.map Nd.d))∧S[b]?=some (.lst (bs.map frD))∧rwW zero w∧inR ns.length k∧zaD bs.length ns ws∧Spn 51 bs∧(1≤g∧g≤1000000)∧ns.length≤70∧(nwS ns zero k.toNat bs g=none→∀T:Sto,Pre S T→Q .non T)∧∀(us:List (Int×Int)) (T:Sto) (m:Nat),nwS ns zero k.toNat bs g=some us→Pre S T→S.length≤m→T[m]?=some (.lst (us.map frD))→Q (.ref m) T
 | _=>False
theorem ztn:Ln (zg0) 4:=λds S Q ex h=>by unfold zg0 at h; split at h <;> first | rfl | exact h.elim
def zfD:Sd:=λds S Q ex=>match ds with
 | [.ref b,.int k,d]=>∃(bs:List (Int×Int)) (p:Int×Int),S[b]?=some (.lst (bs.map frD))∧inR bs.length k∧bs.length≤4∧d=frD p∧∀(T:Sto) (m:Nat),Pre S T→S.length≤m→T[m]?=some (.lst ((bs.set k.toNat p).map frD))→Q (.ref m) T
 | _=>False
theorem zwS:Ln (zfD) 3:=λds S Q ex h=>by unfold zfD at h; split at h <;> first | rfl | exact h.elim
def zgv:Sd:=λds S Q ex=>match ds with
 | [.tup [.int a,.int b],d]=>∃c:Ct,d=c.d∧Q (frD (c.off (a,b))) S
 | _=>False
theorem zwG:Ln (zgv) 2:=λds S Q ex h=>by unfold zgv at h; split at h <;> first | rfl | exact h.elim
def zfx:Sd:=λds S Q ex=>match ds with
 | [.ref a,.tup [.str w,.int k],.ref b,.int g,d]=>∃(ns:List Nd) (ws:List Nat) (bs:List (Int×Int)) (zero:Bool) (c:Ct),S[a]?=some (.lst (ns.map Nd.d))∧S[b]?=some (.lst (bs.map frD))∧rwW zero w∧inR ns.length k∧zaD bs.length ns ws∧Spn 51 bs∧(1≤g∧g≤1000000)∧ns.length≤70∧d=c.d∧c.k<bs.length∧bs.length≤4∧∀T:Sto,Pre S T→Q (.bl (isS ns zero k.toNat g bs c)) T
 | _=>False
theorem zrs:Ln (zfx) 5:=λds S Q ex h=>by unfold zfx at h; split at h <;> first | rfl | exact h.elim
def zgW:Sd:=λds S Q ex=>match ds with
 | [.tup [.int a,.int b],d]=>∃c:Ct,d=c.d∧Q (frD (c.back (a,b))) S
 | _=>False
theorem zsZ:Ln (zgW) 2:=λds S Q ex h=>by unfold zgW at h; split at h <;> first | rfl | exact h.elim
def zhC:Sd:=λds S Q ex=>match ds with
 | [.ref a,.tup [.str w,.int k],.ref b,.int g]=>∃(ns:List Nd) (ws:List Nat) (bs:List (Int×Int)) (zero:Bool),S[a]?=some (.lst (ns.map Nd.d))∧S[b]?=some (.lst (bs.map frD))∧rwW zero w∧inR ns.length k∧zaD bs.length ns ws∧Spn 51 bs∧(1≤g∧g≤1000000)∧ns.length≤70∧bs.length≤4∧∀(T:Sto) (mc:Nat) (fd:D),Pre S T→S.length≤mc→T[mc]?=some (.lst ((shS ns zero k.toNat bs g).1.map Ct.d))→FdAt (shS ns zero k.toNat bs g).2 S.length T fd→Q (.tup [.ref mc,fd]) T
 | _=>False
theorem zvj:Ln (zhC) 4:=λds S Q ex h=>by unfold zhC at h; split at h <;> first | rfl | exact h.elim
def zhP:Sd:=λds S Q ex=>match ds with
 | [.ref n,.int k]=>∃ns:List Int,S[n]?=some (.frz (ns.map D.int))∧0≤k∧Q (.int (ns.getD k.toNat 0)) S
 | _=>False
theorem zrQ:Ln (zhP) 2:=λds S Q ex h=>by unfold zhP at h; split at h <;> first | rfl | exact h.elim
def zhr:Sd:=λds S Q ex=>match ds with
 | [.int _]=>∀lo hi:Int,lo≤hi→lo.natAbs≤10^15→hi.natAbs≤10^15→Q (.tup [.int lo,.int hi]) S
 | _=>False
theorem zwZ:Ln (zhr) 1:=λds S Q ex h=>by unfold zhr at h; split at h <;> first | rfl | exact h.elim
def ze3:Sd:=λds S Q ex=>match ds with
 | [.int _]=>Q (.bl true) S
 | _=>False
theorem zt3:Ln (ze3) 1:=λds S Q ex h=>by unfold ze3 at h; split at h <;> first | rfl | exact h.elim
def zgX:Sd:=λds S Q ex=>match ds with
 | [.tup [.int a,.int b]]=>a≤b∧Q (.bl true) S
 | _=>False
theorem zuY:Ln (zgX) 1:=λds S Q ex h=>by unfold zgX at h; split at h <;> first | rfl | exact h.elim
def zhg:Sd:=λds S Q ex=>match ds with
 | [.ref a,.int m]=>∃vs:List (Int×Int),S[a]?=some (.lst (vs.map frD))∧m=vs.length∧(∀p∈vs,p.1≤p.2)∧Q (.bl true) S
 | _=>False
theorem zuF:Ln (zhg) 2:=λds S Q ex h=>by unfold zhg at h; split at h <;> first | rfl | exact h.elim
def zf8:Sd:=λds S Q ex=>match ds with
 | [.tup [.ref c,fd],.int m]=>∃cs:List Ct,S[c]?=some (.lst (cs.map Ct.d))∧(∀x∈cs,(x.k:Int)<m)∧(fd=.non∨∃(vs:List (Int×Int)) (mf:Nat),fd=.ref mf∧S[mf]?=some (.lst (vs.map frD))∧m=vs.length∧∀p∈vs,p.1≤p.2)∧Q (.bl true) S
 | _=>False
theorem ztT:Ln (zf8) 2:=λds S Q ex h=>by unfold zf8 at h; split at h <;> first | rfl | exact h.elim
def zgr:Sd:=λds S Q ex=>match ds with
 | [.ref a,.tup [.str w,.int k],.ref b]=>∃(ns:List Nd) (ws:List Nat) (ps:List (Int×Int)) (zero:Bool),S[a]?=some (.lst (ns.map Nd.d))∧S[b]?=some (.lst (ps.map frD))∧rwW zero w∧inR ns.length k∧zaD ps.length ns ws∧Gd 110 ps∧ns.length≤70∧∀(T:Sto) (r:Bool),Pre S T→(r=true→if zero then (gt (zaC ps (ns.take (k.toNat+1))) k).1=0 else 0≤(gt (zaC ps (ns.take (k.toNat+1))) k).1)→Q (.bl r) T
 | _=>False
theorem zuR:Ln (zgr) 3:=λds S Q ex h=>by unfold zgr at h; split at h <;> first | rfl | exact h.elim
def zfL:Sd:=λds S Q ex=>match ds with
 | [.ref p,.ref c,.int g]=>∃(ps:List (Int×Int)) (cs:List Ct),S[p]?=some (.lst (ps.map frD))∧S[c]?=some (.lst (cs.map Ct.d))∧Gd 110 ps∧(1≤g∧g≤1000000)∧(∀x∈cs,x.k<ps.length∧Sz 51 x.p∧if x.s then (gt ps (x.k:Int)).1*g<x.p*(gt ps (x.k:Int)).2 else x.p*(gt ps (x.k:Int)).2<(gt ps (x.k:Int)).1*g)∧Q (.bl true) S
 | _=>False
theorem ztV:Ln (zfL) 3:=λds S Q ex h=>by unfold zfL at h; split at h <;> first | rfl | exact h.elim
def zgR:Sd:=λds S Q ex=>match ds with
 | [.tup [.int t,.int u],.tup [.int x,.int y],.int g]=>(Sz 1800 t∧Sz 1800 u∧Sz 1800 x∧Sz 1800 y∧Sz 20 g)∧x*u≤t*g∧t*g≤y*u∧Q (.bl true) S
 | _=>False
theorem zwt:Ln (zgR) 3:=λds S Q ex h=>by unfold zgR at h; split at h <;> first | rfl | exact h.elim
def zge:Sd:=λds S Q ex=>match ds with
 | [.ref p,.ref b,.int g]=>∃(ps bs:List (Int×Int)),S[p]?=some (.lst (ps.map frD))∧S[b]?=some (.lst (bs.map frD))∧bs.length=ps.length∧bs.length≤4∧Gd 110 ps∧Spn 1000 bs∧(1≤g∧g≤1000000)∧InW g bs ps∧Q (.bl true) S
 | _=>False
theorem zrn:Ln (zge) 3:=λds S Q ex h=>by unfold zge at h; split at h <;> first | rfl | exact h.elim
section
variable {P:Program}{w:World}{K:PySem.W.Frag}{mg:Str→Option Value}{base:Heap}
def zs1  (zk0:Df K mg "_law_grid" zlU zhM):Fk P w K mg base 1 "_law_grid" zhM zfX:=
 zk0.mk' (zio (zau (k:=0) zk0.F zqy (zjG (zvF)) λcdv A outer s H E hr=>⟨_,(zae (zap (i:=1) zqy.nd rfl (Or.inl rfl) (zag za7 (dv 0) (zag zb6 zab zab))) (zaf (zak (zag za2 zab (zag za7 (zag za7 (zag zaH (zag zcb (dv 1) zab) zab) zab) (zaO (zbg (zaa zab (zaa zab (zaa zab (zaa zab zac))))) (zag za8 (dv 1) zab) (λ_ _=>rfl))))))),λds S Q ex h=>by
  obtain⟨Q0,ex0,rfl,rfl,h⟩:=h
  unfold zfX at h
  split at h
  ·rename_i c
   have r0:=za6 (a:=c) (b:=10^Int.toNat 20) (by decide)
   have e20:(10:Int)^Int.toNat 20=100000000000000000000:=rfl
   have s0:Sz 70 (c%10^Int.toNat 20):=Sz.of (10^20) (by omega)
   have mo:=zaG (m:=70) (n:=17) (s0.div (j:=4) (by decide)) (j:=48271) (by unfold Sz; decide)
   refine⟨show (0:Int)<10^Int.toNat 20 by decide,mo,show (0:Int)<2147483647 by decide,?_⟩
   have four:∀i:Int,inR 4 i→∃x:Int,(1≤x∧x≤1000000)∧atI [D.int 1,D.int 12,D.int 1000,D.int 1000000] i=some (.int x):=λi hi=>by
    obtain⟨h0,h3⟩:=hi
    have z:i=0∨i=1∨i=2∨i=3:=by omega
    rcases z with rfl | rfl | rfl | rfl
    ·exact⟨_,by decide,rfl⟩
    ·exact⟨_,by decide,rfl⟩
    ·exact⟨_,by decide,rfl⟩
    ·exact⟨_,by decide,rfl⟩
   obtain⟨x,hx,ex'⟩:=four (c%10^Int.toNat 20%4) (za6 (by decide))
   refine zaF (o:=.lst [.int 1,.int 12,.int 1000,.int 1000000]) (zaE _ _) ex' ?_
   have px:0<x:=by omega
   have rx:=za6 (a:=c%10^Int.toNat 20/4*48271%2147483647) px
   exact⟨px,Pre.refl.push,.int _,h _ (by omega) (by omega)⟩
  ·exact h.elim⟩))
def zry  (zl9:Df K mg "_law_divisor" zh4 zfW):Fk P w K mg base 1 "_law_divisor" zfW zg6:=
 zl9.mk' (zau (k:=0) zl9.F zlO (zwj) λcdv A outer s H E hr=>⟨_,(zae (zqu PassesOwn.never (zas zdV (dv 1) zab (zar _)) (zae (zap (i:=2) zlO.nd rfl (Or.inl rfl) (zag za7 (dv 0) (dv 1))) (zae (zap (i:=0) zlO.nd rfl (Or.inl rfl) (dv 1)) (zaf (zap (i:=1) zlO.nd rfl (Or.inl rfl) (dv 2)))))) (zaf (zak (dv 0)))),λds S Q ex h=>by
  unfold zg6 at h
  split at h
  ·rename_i a b
   obtain⟨⟨ha,hb⟩,h⟩:=h
   refine⟨λm dl' S'=>S'=S∧∃(x y:Int) (o:Option D),dl'=[some (.int x),some (.int y),o]∧0≤x∧0≤y∧Int.gcd x y=Int.gcd a b∧m=y.toNat,⟨b.toNat,rfl,a,b,none,rfl,ha,hb,rfl,rfl⟩,?_⟩
   rintro m dl' S' ⟨rfl,x,y,o,rfl,hx,hy,hg,rfl⟩
   refine ifD (λc'=>?_) (λc=>?_)
   ·exact⟨c',⟨(x%y).toNat,by have:=za6 (a:=x) c'; omega,rfl,y,x%y,_,rfl,hy,(za6 (a:=x) c').1,(zum x y).trans hg,rfl⟩⟩
   ·have c:y=0:=by omega
    subst c
    have e:((Int.gcd a b:Nat):Int)=x:=by rw[← hg,Int.gcd_zero_right]; omega
    rw[e] at h
    exact h
  ·exact h.elim⟩)
def ztr  (zlB:Df K mg "_law_fraction" zmD zd2)(znl:Fk P w K mg base 1 "_law_divisor" zfW zg6)(zb5:mg "abs"=none):Fk P w K mg base 2 "_law_fraction" zd2 zdF:=
 zlB.mk' (zau (k:=1) zlB.F zp4 (zsI) λcdv A outer s H E hr=>⟨_,(zae (zap (i:=2) zp4.nd rfl (Or.inl rfl) (zao znl hr (zaa (za0 znY rfl zb5 Boot.«abs» (zaa (dv 0) zac)) (zaa (dv 1) zac)))) (zaf (zak (zaA (zaa (zag zcp (dv 0) (dv 2)) (zaa (zag zcp (dv 1) (dv 2)) zac)))))),λds S Q ex h=>by
  unfold zdF at h
  split at h
  ·rename_i T B
   obtain⟨⟨hB,sB⟩,h⟩:=h
   refine⟨⟨zvn T,by omega⟩,?_⟩
   have eg:Int.gcd (if T<0 then -T else T) B=Int.gcd T B:=by
    have z:=zww T B
    rw[show zdp B=B by unfold zdp; split <;> omega] at z
    exact z
   rw[eg]
   have f:=zwq (T:=T) (B:=B) (d:=((Int.gcd T B:Nat):Int)) (by omega) (by rw[if_neg (by omega)])
   obtain⟨f1,f2,f3,f4,f5,f6⟩:=f
   have gp:(0:Int)<((Int.gcd T B:Nat):Int):=by omega
   have gle:((Int.gcd T B:Nat):Int)≤B:=Int.le_of_dvd hB (Int.gcd_dvd_right T B)
   have sg:Sz 4000 ((Int.gcd T B:Nat):Int):=by
    unfold Sz at sB ⊢
    omega
   refine⟨sg.fd gp,sg.fd gp,?_⟩
   have e1:T/((Int.gcd T B:Nat):Int)=T.fdiv ((Int.gcd T B:Nat):Int):=(Int.fdiv_eq_ediv_of_nonneg _ (by omega)).symm
   have e2:B/((Int.gcd T B:Nat):Int)=B.fdiv ((Int.gcd T B:Nat):Int):=(Int.fdiv_eq_ediv_of_nonneg _ (by omega)).symm
   have q:=h _ _ f4 f5 f6 (zp3 f1 f2) (by have:=zp3 f1 f3; omega)
   rw[← e1,← e2] at q
   exact q
  ·exact h.elim⟩)
def ztz  (zk1:Df K mg "_law_point" ziM zfv)(zcw:Fk P w K mg base 2 "_law_fraction" zd2 zdF):Fk P w K mg base 3 "_law_point" zfv zhi:=
 zk1.mk' (zau (k:=2) zk1.F zdA (zrJ) λcdv A outer s H E hr=>⟨_,(zae (zap (i:=3) zdA.nd rfl (Or.inl rfl) (zbg zac)) (zae (zap (i:=4) zdA.nd rfl (Or.inl rfl) (zag za7 (dv 2) (zag zb6 zab zab))) (zae (zcL (i:=5) PassesOwn.never rfl zdA.nd rfl (Or.inl rfl) (dv 0) (zae (zap (i:=6) zdA.nd rfl (Or.inl rfl) (zag za2 zab (zag za8 (dv 4) zab))) (zae (zaw (zas (zaI hr) (zag za8 (dv 4) zab) zab (zar _)) (zaf (zap (i:=6) zdA.nd rfl (Or.inl rfl) (zag za2 zab (zag za8 (dv 4) zab)))) zax) (zae (zap (i:=7) zdA.nd rfl (Or.inl rfl) (zag za7 (zag zcb (dv 4) zab) (zag za2 (dv 6) zab))) (zae (zcZ (zc6 (dv 3) (zao zcw hr (zaa (zag za2 (zag zaH (zad (dv 5) zab (λ_ _=>rfl)) (dv 6)) (zag zaH (zag zbH (zad (dv 5) zab (λ_ _=>rfl)) (zad (dv 5) zab (λ_ _=>rfl))) (dv 7))) (zaa (zag zaH (dv 1) (dv 6)) zac))))) (zaf (zap (i:=4) zdA.nd rfl (Or.inl rfl) (zag za2 (zag zcb (dv 4) zab) (zag za7 (zag zaH (dv 4) zab) zab))))))))) (zaf (zak (dv 3)))))),λds S Q ex h=>by
  unfold zhi at h
  split at h
  ·rename_i b g c
   obtain⟨bs,hb,sb,hg,l4,h⟩:=h
   have sg:Sz 20 g:=Sz.of 1000000 (by omega)
   have k1:Sz 17 48271:=by unfold Sz; decide
   have e60:(10:Int)^Int.toNat 60=1000000000000000000000000000000000000000000000000000000000000:=rfl
   have r0:=za6 (a:=c) (b:=10^Int.toNat 60) (by decide)
   refine⟨show (0:Int)<10^Int.toNat 60 by decide,?_⟩
   refine zcY (n:=b) (o:=.lst (bs.map frD)) (λk dl' S'=>k≤bs.length∧Pre S S'∧(∃ps:List (Int×Int),S'[S.length]?=some (.lst (ps.map frD))∧ps.length=k∧Gd 110 ps∧∀i:Int,inR k i→(gt bs i).1*(gt ps i).2≤(gt ps i).1*g∧(gt ps i).1*g≤(gt bs i).2*(gt ps i).2)∧∃(c1:Int) (u v w:Option D),(0≤c1∧c1≤1000000000000000000000000000000000000000000000000000000000000)∧dl'=[some (.ref b),some (.int g),some (.int c),some (.ref S.length),some (.int c1),u,v,w])
    ⟨VaA _,Pre.refl.push,⟨[],zaE _ _,rfl,λp hp=>(by cases hp),λi hi=>absurd hi.2 (by have:=hi.1; omega)⟩,c%10^Int.toNat 60,_,_,_,⟨r0.1,by omega⟩,rfl⟩ (λk dl' S' w=>w.2.1 _ _ hb) ?_ ?_
   ·rintro k x dl' S' nx ct ex' ⟨hk,pr,⟨ps,hf,lp,gp,ip⟩,c,u,v,w,hc,rfl⟩ hn
    have ex2:(bs.map frD)[k]?=some x:=ex'
    rw[Val] at ex2
    obtain⟨q0,hq0,rfl⟩:=Vaq.mp ex2
    have hk':=(Vab.mp hq0).1
    have eq0:gt bs (k:Int)=q0:=by simp[gt,Vax,hq0]
    have q:=sb q0 (Vau hq0)
    have sc:Sz 201 c:=Sz.of (10^60) (by omega)
    refine ifD (c:=c%7=1) (λ_=>?_) (λ_=>?_)
    ·refine⟨show (0:Int)<(1+c%999999999)+1 by omega,?_⟩
     have rp:=za6 (a:=c/7) (b:=(1+c%999999999)+1) (by omega)
     obtain⟨m1,m2,sT⟩:=zqf q.1 q.2.1 q.2.2 (w:=(1+c%999999999)) (p:=c/7%((1+c%999999999)+1)) (by omega) rp.1 (by omega)
     have sW:Sz 30 (1+c%999999999):=Sz.of 1000000000 (by omega)
     have gw:0<g*(1+c%999999999):=VaS (by omega) (by omega)
     refine zoP (n:=S.length) (S1:=S') (xs:=ps.map frD) (λK hK=>by exact hK) hf ?_
     refine⟨m1,m2,zaG sg sW,⟨⟨gw,(sg.mul sW).mono (by decide)⟩,λt b' h1 h2 h3 h4 h5=>?_⟩⟩
     refine zpK hf (by rw[Vac]; omega) ?_
     refine⟨zaG sc k1,show (0:Int)<2147483647 by decide,?_⟩
     refine hn _ _ ⟨by omega,zbN pr (Vaa _),⟨ps++[(t,b')],?_,by simp[lp],λz hz=>?_,λi hi=>?_⟩,c/31+c*48271%2147483647,_,_,_,⟨by omega,by omega⟩,rfl⟩
     ·rw[VaE]
      exact zbA hf
     ·rcases VaT.mp hz with hz | hz
      ·exact gp z hz
      ·have ez:z=(t,b'):=by simpa using hz
       subst ez
       refine⟨h1,h2,?_,?_⟩
       ·exact Va1 h4 (sT.mono (show 84≤110 by decide))
       ·have sb':Sz 51 (g*(1+c%999999999)):=(sg.mul sW).mono (by decide)
        have:b'.natAbs≤(g*(1+c%999999999)).natAbs:=by omega
        exact Va1 this (sb'.mono (show 51≤110 by decide))
     ·by_cases ci:i<k
      ·rw[zjH (by rw[lp]; exact⟨hi.1,ci⟩)]
       exact ip i ⟨hi.1,by omega⟩
      ·have ei:i=k:=by have:=hi.2; simp[lp] at this; omega
       subst ei
       rw[zf0 lp,eq0]
       exact zqn q.1 (by omega) hg.1 rp.1 (by omega) h1 h3
    ·refine⟨show (0:Int)<(1+c%6)+1 by omega,?_⟩
     have rp:=za6 (a:=c/7) (b:=(1+c%6)+1) (by omega)
     obtain⟨m1,m2,sT⟩:=zqf q.1 q.2.1 q.2.2 (w:=(1+c%6)) (p:=c/7%((1+c%6)+1)) (by omega) rp.1 (by omega)
     have sW:Sz 30 (1+c%6):=Sz.of 1000000000 (by omega)
     have gw:0<g*(1+c%6):=VaS (by omega) (by omega)
     refine zoP (n:=S.length) (S1:=S') (xs:=ps.map frD) (λK hK=>by exact hK) hf ?_
     refine⟨m1,m2,zaG sg sW,⟨⟨gw,(sg.mul sW).mono (by decide)⟩,λt b' h1 h2 h3 h4 h5=>?_⟩⟩
     refine zpK hf (by rw[Vac]; omega) ?_
     refine⟨zaG sc k1,show (0:Int)<2147483647 by decide,?_⟩
     refine hn _ _ ⟨by omega,zbN pr (Vaa _),⟨ps++[(t,b')],?_,by simp[lp],λz hz=>?_,λi hi=>?_⟩,c/31+c*48271%2147483647,_,_,_,⟨by omega,by omega⟩,rfl⟩
     ·rw[VaE]
      exact zbA hf
     ·rcases VaT.mp hz with hz | hz
      ·exact gp z hz
      ·have ez:z=(t,b'):=by simpa using hz
       subst ez
       refine⟨h1,h2,?_,?_⟩
       ·exact Va1 h4 (sT.mono (show 84≤110 by decide))
       ·have sb':Sz 51 (g*(1+c%6)):=(sg.mul sW).mono (by decide)
        have:b'.natAbs≤(g*(1+c%6)).natAbs:=by omega
        exact Va1 this (sb'.mono (show 51≤110 by decide))
     ·by_cases ci:i<k
      ·rw[zjH (by rw[lp]; exact⟨hi.1,ci⟩)]
       exact ip i ⟨hi.1,by omega⟩
      ·have ei:i=k:=by have:=hi.2; simp[lp] at this; omega
       subst ei
       rw[zf0 lp,eq0]
       exact zqn q.1 (by omega) hg.1 rp.1 (by omega) h1 h3
   ·rintro dl' S' ⟨hk,pr,⟨ps,hf,lp,gp,ip⟩,c1,u,v,w,hc,rfl⟩
    have e:(zaz (.lst (bs.map frD))).length=bs.length:=by
     show (bs.map frD).length=_
     rw[Vac]
    rw[e] at lp ip
    exact h _ _ ps pr (Vaa _) hf lp gp (λi hi=>ip i (by rw[lp] at hi; exact hi))
  ·exact h.elim⟩)
def zwh  (zlZ:Df K mg "_law_number" zmw zg1)(zcw:Fk P w K mg base 2 "_law_fraction" zd2 zdF):Fk P w K mg base 3 "_law_number" zg1 zfY:=
 zlZ.mk' (zau (k:=2) zlZ.F zlt (zv4) λcdv A outer s H E hr=>⟨_,(zae (zap (i:=1) zlt.nd rfl (Or.inl rfl) (zag za7 (dv 0) (zag zb6 zab zab))) (zae (zaw (zas (zaI hr) (zag za8 (dv 1) zab) zab (zar _)) (zaf (zap (i:=2) zlt.nd rfl (Or.inl rfl) (zao zcw hr (zaa (zag zbH (zag za7 (zag zcb (dv 1) zab) zab) zab) (zaa (zag za2 zab (zag za8 (zag zaH (dv 1) zab) zab)) zac))))) (zaf (zap (i:=2) zlt.nd rfl (Or.inl rfl) (zao zcw hr (zaa (zag zbH (zag za8 (zag zcb (dv 1) zab) zab) zab) (zaa (zag za2 zab (zag za8 (zag za7 (zag zaH (dv 1) zab) zab) zab)) zac)))))) (zaf (zak (zaA (zaa zaL (zaa (zad (dv 2) zab (λ_ _=>rfl)) (zaa (zad (dv 2) zab (λ_ _=>rfl)) zac)))))))),λds S Q ex h=>by
  unfold zfY at h
  split at h
  ·rename_i c
   have r0:=za6 (a:=c) (b:=10^Int.toNat 40) (by decide)
   have s0:Sz 140 (c%10^Int.toNat 40):=Sz.of (10^40) (by have e:(10:Int)^Int.toNat 40=10000000000000000000000000000000000000000:=rfl; omega)
   have k1:Sz 17 48271:=by unfold Sz; decide
   have mo:=zaG (m:=140) (n:=17) s0 k1
   refine⟨show (0:Int)<10^Int.toNat 40 by decide,?_⟩
   refine ifD (λe=>?_) (λe=>?_)
   ·have r1:=za6 (a:=c%10^Int.toNat 40/4) (b:=1999999999) (by decide)
    have r2:=za6 (a:=c%10^Int.toNat 40*48271) (b:=999999999) (by decide)
    refine⟨show (0:Int)<1999999999 by decide,mo,?_⟩
    refine⟨⟨show 0<1+c%10^Int.toNat 40*48271%999999999 by omega,Sz.of (10^10) (by show (1+c%10^Int.toNat 40*48271%999999999).natAbs≤_; omega)⟩,λt b h1 h2 h3 h4 h5=>?_⟩
    exact h t b ⟨h1,by omega⟩ h2 (by omega)
   ·have r2:=za6 (a:=c%10^Int.toNat 40*48271%2147483647) (b:=6) (by decide)
    refine⟨mo,show (0:Int)<2147483647 by decide,?_⟩
    refine⟨⟨show 0<1+c%10^Int.toNat 40*48271%2147483647%6 by omega,Sz.of (10^10) (by show (1+c%10^Int.toNat 40*48271%2147483647%6).natAbs≤_; omega)⟩,λt b h1 h2 h3 h4 h5=>?_⟩
    exact h t b ⟨h1,by omega⟩ h2 (by omega)
  ·exact h.elim⟩)
def zwJ  (ziG:Df K mg "_law_node" zmK zfC)(zm4:Fk P w K mg base 3 "_law_number" zg1 zfY):Fk P w K mg base 4 "_law_node" zfC zgm:=
 ziG.mk' (zio (zau (k:=3) ziG.F zd6 (zjG (zxh)) λcdv A outer s H E hr=>⟨_,(zae (zap (i:=3) zd6.nd rfl (Or.inl rfl) (zag za7 (dv 0) (zag zb6 zab zab))) (zae (zap (i:=4) zd6.nd rfl (Or.inl rfl) (zag za8 (dv 3) zab)) (zae (zap (i:=3) zd6.nd rfl (Or.inl rfl) (zag zcb (dv 3) zab)) (zae (zaw (zas (zaI hr) (dv 4) zab (zar _)) (zaf (zak (zao zm4 hr (zaa (dv 3) zac)))) zax) (zae (zaw (PDW.pt (zbQ (zas (zaI hr) (dv 4) zab (zar _)) (zcI (zas (zaI hr) (dv 1) zab (zar _))))) (zaf (zak (zaA (zaa zaL (zaa (zag za7 (dv 3) (dv 2)) zac))))) zax) (zae (zap (i:=5) zd6.nd rfl (Or.inl rfl) (zag za7 (dv 3) (dv 1))) (zae (zaw (zas (zaI hr) (zag za8 (dv 3) zab) zab (zar _)) (zaf (zap (i:=5) zd6.nd rfl (Or.inl rfl) (zag zbH (dv 1) zab))) zax) (zae (zaw (zas (zaI hr) (dv 4) zab (zar _)) (zaf (zak (zaA (zaa zaL (zaa (dv 5) (zaa (zag za2 zab (zag za8 (zag za7 (zag zaH (dv 3) zab) zab) zab)) zac)))))) zax) (zaf (zak (zaA (zaa (zaO (zbg (zaa zaL (zaa zaL (zaa zaL zac)))) (zag za8 (dv 4) zab) (λ_ _=>rfl)) (zaa (dv 5) (zaa (zag za7 (zag za7 (zag zaH (dv 3) zab) zab) (dv 1)) zac)))))))))))))),λds S Q ex h=>by
  obtain⟨Q0,ex0,rfl,rfl,h⟩:=h
  unfold zgm at h
  split at h
  ·rename_i c m q
   obtain⟨⟨m0,m1,q0,q1⟩,h⟩:=h
   have h':∀v:Nd,v.ok m q→Gc S Q0 v.d S:=λv z=>⟨Pre.refl,ziH v,h v z⟩
   have r0:=za6 (a:=c) (b:=10^Int.toNat 40) (by decide)
   have s0:Sz 140 (c%10^Int.toNat 40):=Sz.of (10^40) (by have e:(10:Int)^Int.toNat 40=10000000000000000000000000000000000000000:=rfl; omega)
   have s1:=s0.div (j:=8) (by decide)
   refine⟨show (0:Int)<10^Int.toNat 40 by decide,?_⟩
   refine ifD (λe=>?_) (λe=>?_)
   ·exact λt b h1 h2 h3=>h' (.number t b) ⟨h1,h2,h3⟩
   have pq:0<q:=by omega
   have rq:=za6 (a:=c%10^Int.toNat 40/8) pq
   have un:=h' (.unknown (c%10^Int.toNat 40/8%q)) rq
   refine ifD (λe=>⟨pq,un⟩) (λe=>?_)
   refine ifD (λe=>⟨pq,un⟩) (λe=>?_)
   have pm:0<m:=by omega
   have rm:=za6 (a:=c%10^Int.toNat 40/8) pm
   have r5:=za6 (a:=c%10^Int.toNat 40/8*69621%2147483629) (b:=5) (by decide)
   have rj:=za6 (a:=c%10^Int.toNat 40/8*48271%2147483647) pm
   have k1:Sz 17 48271:=by unfold Sz; decide
   have k2:Sz 17 69621:=by unfold Sz; decide
   refine⟨pm,?_⟩
   have last:∀(i:Int),inR m i→∀(x:Str),(x="plus"∨x="minus"∨x="times")→Gc S Q0 (.tup [.str x,.int i,.int (c%10^Int.toNat 40/8*48271%2147483647%m)]) (S++[.lst [.str "plus",.str "minus",.str "times"]]):=λi hi x hx=>by
    rcases hx with rfl | rfl | rfl
    ·exact⟨Pre.refl.push,ziH (.plus i _),h (.plus i _) ⟨hi,rj⟩⟩
    ·exact⟨Pre.refl.push,ziH (.minus i _),h (.minus i _) ⟨hi,rj⟩⟩
    ·exact⟨Pre.refl.push,ziH (.times i _),h (.times i _) ⟨hi,rj⟩⟩
   have three:∀i:Int,inR 3 i→∃x:Str,(x="plus"∨x="minus"∨x="times")∧atI [D.str "plus",D.str "minus",D.str "times"] i=some (.str x):=λi hi=>by
    obtain⟨h0,h3⟩:=hi
    have z:i=0∨i=1∨i=2:=by omega
    rcases z with rfl | rfl | rfl
    ·exact⟨_,.inl rfl,rfl⟩
    ·exact⟨_,.inr (.inl rfl),rfl⟩
    ·exact⟨_,.inr (.inr rfl),rfl⟩
   obtain⟨x,hx,ex'⟩:=three (c%10^Int.toNat 40%8%3) (za6 (by decide))
   refine ifD (λe=>?_) (λe=>?_)
   ·refine ifD (λe=>?_) (λe=>?_)
    ·exact⟨zaG (m:=140) (n:=17) s1 k2,show (0:Int)<2147483629 by decide,h' (.power (m-1) _) ⟨⟨by omega,by omega⟩,by omega,by omega⟩⟩
    ·refine zaF (o:=.lst [.str "plus",.str "minus",.str "times"]) (zaE _ _) ex' ?_
     exact⟨zaG (m:=140) (n:=17) s1 k1,show (0:Int)<2147483647 by decide,pm,last _ ⟨by omega,by omega⟩ x hx⟩
   ·refine ifD (λe=>?_) (λe=>?_)
    ·exact⟨zaG (m:=140) (n:=17) s1 k2,show (0:Int)<2147483629 by decide,h' (.power (c%10^Int.toNat 40/8%m) _) ⟨rm,by omega,by omega⟩⟩
    ·refine zaF (o:=.lst [.str "plus",.str "minus",.str "times"]) (zaE _ _) ex' ?_
     exact⟨zaG (m:=140) (n:=17) s1 k1,show (0:Int)<2147483647 by decide,pm,last _ rm x hx⟩
  ·exact h.elim⟩))
def zxz  (zkd:Df K mg "_law_weight" zkb zg7):Fk P w K mg base 1 "_law_weight" zg7 zgT:=
 zkd.mk' (zau (k:=0) zkd.F zvZ (zsz) λcdv A outer s H E hr=>⟨_,(zae (zaw (PDW.pt (zbQ (zas (zaI hr) (zad (dv 0) zab (λ_ _=>rfl)) zaL (zar _)) (zcI (zas (zaI hr) (zad (dv 0) zab (λ_ _=>rfl)) zaL (zar _))))) (zaf (zak zab)) zax) (zae (zaw (zas (zaI hr) (zad (dv 0) zab (λ_ _=>rfl)) zaL (zar _)) (zaf (zak (zag zaH (zad (dv 0) zab (λ_ _=>rfl)) (zaO (dv 1) (zad (dv 0) zab (λ_ _=>rfl)) (λ_ _=>rfl))))) zax) (zaf (zak (zag za2 (zaO (dv 1) (zad (dv 0) zab (λ_ _=>rfl)) (λ_ _=>rfl)) (zaO (dv 1) (zad (dv 0) zab (λ_ _=>rfl)) (λ_ _=>rfl))))))),λds S Q ex h=>by
  unfold zgT at h
  split at h
  ·rename_i d r
   obtain⟨v,ws,q,rfl,hl,ok,sm,h⟩:=h
   cases v with
   | number t b=>exact h
   | unknown k=>exact h
   | power i n=>
    obtain⟨hi,n2,n6⟩:=ok
    have b:=sm i hi
    refine zaF (o:=.lst (ws.map wtD)) hl (zdO hi) ?_
    refine⟨zaG (m:=400) (n:=400) (Sz.of (10^20) (by omega)) (Sz.of (10^20) (by omega)),?_⟩
    have e:n*((ws.getD i.toNat 0:Nat):Int)=((Nd.wt ws (.power i n):Nat):Int):=by
     simp only[Nd.wt]
     rw[Int.natCast_mul]
     rw[Int.toNat_of_nonneg (by omega)]
    show Q (.int (n*((ws.getD i.toNat 0:Nat):Int))) S
    rw[e]
    exact h
   | plus i j=>
    refine zaF (o:=.lst (ws.map wtD)) hl (zdO ok.1) ?_
    exact zaF (o:=.lst (ws.map wtD)) hl (zdO ok.2) h
   | minus i j=>
    refine zaF (o:=.lst (ws.map wtD)) hl (zdO ok.1) ?_
    exact zaF (o:=.lst (ws.map wtD)) hl (zdO ok.2) h
   | times i j=>
    refine zaF (o:=.lst (ws.map wtD)) hl (zdO ok.1) ?_
    exact zaF (o:=.lst (ws.map wtD)) hl (zdO ok.2) h
  ·exact h.elim⟩)
def zup  (ziY:Df K mg "_law_net" zeq zfG)(zmV:Fk P w K mg base 1 "_law_weight" zg7 zgT)(zoD:Fk P w K mg base 4 "_law_node" zfC zgm)(zaW:mg "len"=none)(zbb:mg "range"=none):Fk P w K mg base 5 "_law_net" zfG zhF:=
 ziY.mk' (zau (k:=4) ziY.F zd0 (zr6) λcdv A outer s H E hr=>⟨_,(zae (zap (i:=5) zd0.nd rfl (Or.inl rfl) (zbg zac)) (zae (zaw (zbh (dv 2)) (zaf (zva (x:="_law_k") (N:=[]) (caps:=[]) (ar:=zaq zeq) rfl rfl csc rfl (by decide) (i:=5) zd0.nd rfl rfl rfl zbb (zaa (dv 1) zac) (λ_ _ _ _ _ _=>zgk) (λ_ _ _ _ _ _=>(zaA (zaa zaL (zaa (dv 0) zac)))))) zax) (zae (znh (x:="_law_node_here") (N:=[]) (caps:=[]) (ar:=zaq zeq) rfl rfl csc rfl (by decide) (i:=6) zd0.nd rfl rfl (dv 5) (λ_ _ _ _ _ _=>zgk) (λ_ _ _ _ _ _=>zab)) (zae (zcL (i:=7) PassesOwn.never rfl zd0.nd rfl (Or.inl rfl) (dv 0) (zae (zap (i:=8) zd0.nd rfl (Or.inl rfl) (zao zoD hr (zaa (dv 7) (zaa (za0 (zbo zck) rfl zaW Boot.«len» (zaa (dv 5) zac)) (zaa (dv 1) zac))))) (zae (zap (i:=9) zd0.nd rfl (Or.inl rfl) (zao zmV hr (zaa (dv 8) (zaa (dv 6) zac)))) (zaf (zaw (PDW.pt (zdk (zas zdM (dv 9) (dv 3) (zar _)) (zdk (zas zbf (za0 (zbo zck) rfl zaW Boot.«len» (zaa (dv 5) zac)) (dv 4) (zar _)) (zeR (zas (zo6 hr) (dv 8) (dv 5) rfl))))) (zae (zcZ (zc6 (dv 5) (dv 8))) (zaf (zcZ (zc6 (dv 6) (dv 9))))) zax))))) (zae (zaw (zas (zaI hr) (za0 (zbo zck) rfl zaW Boot.«len» (zaa (dv 5) zac)) zab (zar _)) (zaf (zcZ (zc6 (dv 5) (zaA (zaa zaL (zaa zab zac)))))) zax) (zaf (zak (dv 5)))))))),λds S Q ex h=>by
  unfold zhF at h
  split at h
  ·rename_i c q b h16 most
   obtain⟨cs,qn,hv,hc,hint,rfl,hq,rfl,⟨hv1,hv2⟩,hm,h⟩:=h
   refine zwz (λdl2 S2=>∃(ns:List Nd) (m:Nat),zaD qn ns (ns.map λ_=>1)∧ns.length≤4∧Pre S S2∧S.length≤m∧S2[m]?=some (.lst (ns.map Nd.d))∧dl2=[some (.ref c),some (.int (qn:Nat)),some (.bl b),some (.int (hv:Int)),some (.int most),some (.ref m),none,none,none,none]) (λnx hn=>?_) ?_
   ·cases b with
    | false=>exact hn _ _ ⟨[],S.length,zaD.nil _,by decide,Pre.refl.push,Vaa _,zaE _ _,rfl⟩
    | true=>
     refine ztu (j:=(qn:Nat)) (S1:=S++[.lst []]) (λk=>.tup [.str "unknown",.int (k:Int)]) (λK hK=>by exact hK) ⟨by omega,by omega⟩ (λk hk S2 K pr hK=>by exact hK) ?_
     have z:=zuT qn
     have e:((List.range ((qn:Nat):Int).toNat).map λ(k:Nat)=>D.tup [.str "unknown",.int (k:Int)])=((List.range qn).map λ(k:Nat)=>Nd.unknown (k:Int)).map Nd.d:=by
      rw[List.map_map,Vae]
      rfl
     rw[e]
     refine hn _ _ ⟨(List.range qn).map λ(k:Nat)=>Nd.unknown (k:Int),(S++[Ob.lst []]).length,?_,by simp; omega,Pre.refl.push.push,by simp,zaE _ _,rfl⟩
     rw[List.map_map]
     exact z
   rintro dl2 S2 ⟨ns,m,net,l4,pr,hm2,hS,rfl⟩
   refine zh3 (n:=m) (o:=.lst (ns.map Nd.d)) (λ_=>.int 1) (λK hK=>by exact hK) hS (by show (ns.map Nd.d).length≤1000; rw[Vac]; omega) (λx hx S3 K _ hK=>by exact hK) ?_
   have ew:(zaz (.lst (ns.map Nd.d))).map (λ_=>D.int 1)=(ns.map λ_=>(1:Nat)).map wtD:=by
    show (ns.map Nd.d).map (λ_=>D.int 1)=_
    rw[List.map_map]
    rw[List.map_map]
    rfl
   rw[ew]
   dsimp only
   refine zh9 (λdl2 S3=>∃(ns:List Nd) (ws:List Nat),zaD qn ns ws∧Hv hv ws∧ns.length≤60∧Pre S S3∧S3[m]?=some (.lst (ns.map Nd.d))∧∃u6 u7 u8 u9:Option D,dl2=[some (.ref c),some (.int (qn:Nat)),some (.bl b),some (.int (hv:Int)),some (.int most),some (.ref m),u6,u7,u8,u9]) (λnx hn=>?_) ?_
   ·have lm:=zbR hS
    refine zcY (n:=c) (o:=.lst cs) (λk dl' S'=>∃(ns:List Nd) (ws:List Nat),zaD qn ns ws∧Hv hv ws∧ns.length≤60∧Pre S S'∧S'[m]?=some (.lst (ns.map Nd.d))∧S'[S2.length]?=some (.lst (ws.map wtD))∧∃u7 u8 u9:Option D,dl'=[some (.ref c),some (.int (qn:Nat)),some (.bl b),some (.int (hv:Int)),some (.int most),some (.ref m),some (.ref S2.length),u7,u8,u9]) ⟨ns,_,net,zvp hv1 ns,by omega,pr.push,zaB hS,zaE _ _,_,_,_,rfl⟩ (λk dl' S' ⟨_,_,_,_,_,p,_⟩=>p _ _ hc) ?_ (λdl' S' ⟨ns,ws,a1,a0,a2,a3,a4,_,u7,u8,u9,e⟩=>hn _ _ ⟨ns,ws,a1,a0,a2,a3,a4,_,_,_,_,e⟩)
    rintro k x dl' S' nx ct ex' ⟨ns,ws,net,hvw,l60,pr',hS',hW',u7,u8,u9,rfl⟩ hn
    obtain⟨i,rfl⟩:=hint _ (Vau ex')
    refine zdE hS' ?_
    rw[Vac]
    refine⟨⟨by omega,by omega,by omega,by omega⟩,λv ok=>?_⟩
    have okw:v.ok ws.length (qn:Nat):=by rw[net.len]; exact ok
    refine⟨v,ws,_,rfl,hW',okw,λi hi=>(net.w1 (by rw[← net.len]; exact hi)).2,?_⟩
    have on:=hn _ _ ⟨ns,ws,net,hvw,l60,pr',hS',hW',some (.int i),some v.d,some (.int (v.wt ws:Nat)),rfl⟩
    refine ifD (λe1=>?_) (λe1=>on)
    refine zdE hS' ?_
    rw[Vac]
    refine ifD (λe2=>?_) (λe2=>on)
    refine zut hS' λb=>?_
    cases b with
    | false=>exact on
    | true=>
     refine zdj (n:=m) (S1:=S') (xs:=ns.map Nd.d) (y:=v.d) (λK hK=>by exact hK) hS' (λK hK=>by exact hK) (by rw[Vac]; omega) ?_
     have nmm:m≠S2.length:=by omega
     refine zdj (n:=S2.length) (S1:=S'.set m (.lst (ns.map Nd.d++[v.d]))) (xs:=ws.map wtD) (y:=wtD (v.wt ws)) (λK hK=>by exact hK) (zbj hW' nmm) (λK hK=>by exact hK) (by rw[Vac,net.len]; omega) ?_
     have l2:S.length≤S2.length:=by omega
     refine hn _ _ ⟨ns++[v],ws++[v.wt ws],net.snoc ok (by omega),zqq hvw (by omega),by simp; omega,zbN (zbN pr' hm2) l2,?_,?_,_,_,_,rfl⟩
     ·rw[VaE]
      exact zbj (zbA hS') (Ne.symm nmm)
     ·rw[VaE]
      exact zbA (zbj hW' nmm)
   rintro dl2 S3 ⟨ns,ws,net,hvw,l60,pr',hS',u6,u7,u8,u9,rfl⟩
   refine zdE hS' ?_
   rw[Vac]
   refine ifD (λe=>?_) (λe=>?_)
   ·refine zdj (n:=m) (S1:=S3) (xs:=ns.map Nd.d) (y:=Nd.d (.unknown 0)) (λK hK=>by exact hK) hS' (λK hK=>by exact hK) (by rw[Vac]; omega) ?_
    have e0:ns=[]:=List.eq_nil_of_length_eq_zero (by omega)
    subst e0
    have w0:ws=[]:=List.eq_nil_of_length_eq_zero net.len
    subst w0
    exact h [.unknown 0] [1] _ _ (zaD.snoc (zaD.nil _) (v:=.unknown 0) ⟨by decide,by omega⟩ (show 1≤16 by decide)) (zqq (zrq hv) hv1) (by decide) (by decide) (zbN pr' hm2) hm2 (zbA hS')
   ·exact h ns ws _ _ net hvw (by omega) l60 pr' hm2 hS'
  ·exact h.elim⟩)
def zvX  (zmb:Df K mg "_law_put" zli zhD):Fk P w K mg base 1 "_law_put" zhD zfs:=
 zmb.mk' (zau (k:=0) zmb.F zwp (zs7) λcdv A outer s H E hr=>⟨_,(zae (zaw (zas (zo6 hr) (dv 1) (dv 0) rfl) (zaf (zcZ (zc6 (dv 0) (dv 1)))) zax) (zaf (zak (zvf (k:=1) hr (by decide) (dv 0) (zaa (dv 1) zac))))),λds S Q ex h=>by
  unfold zfs at h
  split at h
  ·rename_i a d
   obtain⟨q,v,ns,ws,rfl,ha,l9,net,ok,h16,h⟩:=h
   have fin:∀(T:Sto) (j:Nat) (ns':List Nd) (ws':List Nat),Gr q a 1 S ns ws T ns' ws'→ns'[j]?=some v→Q (.int (j:Int)) T:=λT j ns' ws' gr hj=>by
    refine h T j ns' ws' gr (Vab.mp hj).1 hj ?_ (zvk gr ok hj)
    rw[(gr.net.ok j v hj).2.1]
    exact zwn gr net ok
   obtain⟨o,e1,e2,e3⟩:=zot v ns
   refine zs6 (o:=o) ha e2 ?_
   cases o with
   | some j=>
    refine zbE ?_
    refine zpS (n:=a) (v:=v) (ns:=ns) (λK hK=>by exact hK) (λK hK=>by exact hK) ha e1 ?_
    exact fin S j ns ws ((Gr.refl net ha).mono (by decide)) (e3 j rfl)
   | none=>
    refine zcd ?_
    refine zdj (n:=a) (S1:=S) (xs:=ns.map Nd.d) (y:=v.d) (λK hK=>by exact hK) ha (λK hK=>by exact hK) (by rw[Vac]; omega) ?_
    have hm:(S.set a (.lst (ns.map Nd.d++[v.d])))[a]?=some (.lst ((ns++[v]).map Nd.d)):=by
     rw[VaE]
     exact zbA ha
    obtain⟨o2,f1,f2,f3⟩:=zot v (ns++[v])
    cases o2 with
    | none=>
     obtain⟨k,hk⟩:∃k,(ns++[v])[k]?=some v:=⟨ns.length,by simp⟩
     exact absurd f2 (any_some hk)
    | some j=>
     refine zpS (n:=a) (v:=v) (ns:=ns++[v]) (λK hK=>by exact hK) (λK hK=>by exact hK) hm f1 ?_
     exact fin _ j (ns++[v]) (ws++[v.wt ws]) ⟨net.snoc ok h16,⟨[v],rfl,by simp⟩,⟨_,rfl⟩,hm,by simp,λx o hx e=>zbj e (Ne.symm hx)⟩ (f3 j rfl)
  ·exact h.elim⟩)
def zsv  (zmx:Df K mg "_law_power" ziR zfP)(zbb:mg "range"=none):Fk P w K mg base 1 "_law_power" zfP zgL:=
 zmx.mk' (zau (k:=0) zmx.F zkJ (zrV) λcdv A outer s H E hr=>⟨_,(zae (zap (i:=2) zkJ.nd rfl (Or.inl rfl) zab) (zae (zn6 (i:=3) PassesOwn.never rfl zkJ.nd rfl (Or.inl rfl) rfl zbb (zaa (dv 1) zac) (zaf (zap (i:=2) zkJ.nd rfl (Or.inl rfl) (zag zaH (dv 2) (dv 0))))) (zaf (zak (dv 2))))),λds S Q ex h=>by
  unfold zgL at h
  split at h
  ·rename_i x n
   obtain⟨⟨h0,h6,sx⟩,h⟩:=h
   refine⟨⟨by omega,by omega⟩,λk dl' S'=>S'=S∧k≤n.toNat∧∃(z:Int) (o:Option D),z=x^k∧dl'=[some (.int x),some (.int n),some (.int z),o],⟨rfl,VaA _,1,none,(VaQ x).symm,rfl⟩,?_⟩
   rintro k dl' S' ⟨rfl,hk,z,o,rfl,rfl⟩
   refine zfN (λc=>?_) (λc=>?_)
   ·exact⟨zaG (m:=12001) (n:=2000) ((sx.pow k).mono (by omega)) sx,rfl,by omega,_,_,(Vad x k).symm,rfl⟩
   ·have e:k=n.toNat:=by omega
    subst e
    exact h
  ·exact h.elim⟩)
def zsJ  (zkA:Df K mg "_law_exact" zjv zg5)(zkm:Fk P w K mg base 1 "_law_power" zfP zgL):Fk P w K mg base 2 "_law_exact" zg5 zhQ:=
 zkA.mk' (zau (k:=1) zkA.F znv (zxJ) λcdv A outer s H E hr=>⟨_,(zae (zaw (zas (zaI hr) (zad (dv 0) zab (λ_ _=>rfl)) zaL (zar _)) (zaf (zak (zaA (zaa (zad (dv 0) zab (λ_ _=>rfl)) (zaa (zad (dv 0) zab (λ_ _=>rfl)) zac))))) zax) (zae (zaw (zas (zaI hr) (zad (dv 0) zab (λ_ _=>rfl)) zaL (zar _)) (zaf (zak (zaO (dv 2) (zad (dv 0) zab (λ_ _=>rfl)) (λ_ _=>rfl)))) zax) (zae (zap (i:=3) znv.nd rfl (Or.inl rfl) (zaO (dv 1) (zad (dv 0) zab (λ_ _=>rfl)) (λ_ _=>rfl))) (zae (zaw (zas (zaI hr) (zad (dv 0) zab (λ_ _=>rfl)) zaL (zar _)) (zaf (zak (zaA (zaa (zao zkm hr (zaa (zad (dv 3) zab (λ_ _=>rfl)) (zaa (zad (dv 0) zab (λ_ _=>rfl)) zac))) (zaa (zao zkm hr (zaa (zad (dv 3) zab (λ_ _=>rfl)) (zaa (zad (dv 0) zab (λ_ _=>rfl)) zac))) zac))))) zax) (zae (zap (i:=4) znv.nd rfl (Or.inl rfl) (zaO (dv 1) (zad (dv 0) zab (λ_ _=>rfl)) (λ_ _=>rfl))) (zae (zaw (zas (zaI hr) (zad (dv 0) zab (λ_ _=>rfl)) zaL (zar _)) (zaf (zak (zaA (zaa (zag zaH (zad (dv 3) zab (λ_ _=>rfl)) (zad (dv 4) zab (λ_ _=>rfl))) (zaa (zag zaH (zad (dv 3) zab (λ_ _=>rfl)) (zad (dv 4) zab (λ_ _=>rfl))) zac))))) zax) (zae (zaw (zas (zaI hr) (zad (dv 0) zab (λ_ _=>rfl)) zaL (zar _)) (zaf (zak (zaA (zaa (zag za2 (zag zaH (zad (dv 3) zab (λ_ _=>rfl)) (zad (dv 4) zab (λ_ _=>rfl))) (zag zaH (zad (dv 4) zab (λ_ _=>rfl)) (zad (dv 3) zab (λ_ _=>rfl)))) (zaa (zag zaH (zad (dv 3) zab (λ_ _=>rfl)) (zad (dv 4) zab (λ_ _=>rfl))) zac))))) zax) (zaf (zak (zaA (zaa (zag zbH (zag zaH (zad (dv 3) zab (λ_ _=>rfl)) (zad (dv 4) zab (λ_ _=>rfl))) (zag zaH (zad (dv 4) zab (λ_ _=>rfl)) (zad (dv 3) zab (λ_ _=>rfl)))) (zaa (zag zaH (zad (dv 3) zab (λ_ _=>rfl)) (zad (dv 4) zab (λ_ _=>rfl))) zac)))))))))))),λds S Q ex h=>by
  unfold zhQ at h
  split at h
  ·rename_i d w p
   obtain⟨v,vs,ps,rfl,hw,hp,ok,g1,g2,h⟩:=h
   cases v with
   | number t b=>exact h
   | unknown k=>exact zaF (o:=.lst (ps.map frD)) hp (zaP ok) h
   | power i n=>
    have g:=g1.at ok.1
    refine zaF (o:=.lst (vs.map frD)) hw (zaP ok.1) ?_
    exact⟨⟨by have:=ok.2.1; omega,ok.2.2,g.2.1.mono (by decide)⟩,⟨by have:=ok.2.1; omega,ok.2.2,g.2.2.mono (by decide)⟩,h⟩
   | times i j=>
    have g:=g1.at ok.1
    have g':=g1.at ok.2
    refine zaF (o:=.lst (vs.map frD)) hw (zaP ok.1) ?_
    refine zaF (o:=.lst (vs.map frD)) hw (zaP ok.2) ?_
    exact⟨zaG g.2.1 g'.2.1,zaG g.2.2 g'.2.2,h⟩
   | plus i j=>
    have g:=g1.at ok.1
    have g':=g1.at ok.2
    refine zaF (o:=.lst (vs.map frD)) hw (zaP ok.1) ?_
    refine zaF (o:=.lst (vs.map frD)) hw (zaP ok.2) ?_
    exact⟨zaG g.2.1 g'.2.2,zaG g'.2.1 g.2.2,zaG g.2.2 g'.2.2,h⟩
   | minus i j=>
    have g:=g1.at ok.1
    have g':=g1.at ok.2
    refine zaF (o:=.lst (vs.map frD)) hw (zaP ok.1) ?_
    refine zaF (o:=.lst (vs.map frD)) hw (zaP ok.2) ?_
    exact⟨zaG g.2.1 g'.2.2,zaG g'.2.1 g.2.2,zaG g.2.2 g'.2.2,h⟩
  ·exact h.elim⟩)
def zss  (ziI:Df K mg "_law_exacts" zku zeJ)(znx:Fk P w K mg base 2 "_law_exact" zg5 zhQ):Fk P w K mg base 3 "_law_exacts" zeJ zeT:=
 ziI.mk' (zau (k:=2) ziI.F zny (zwl) λcdv A outer s H E hr=>⟨_,(zae (zap (i:=2) zny.nd rfl (Or.inl rfl) (zbg zac)) (zae (zcL (i:=3) PassesOwn.never rfl zny.nd rfl (Or.inl rfl) (dv 0) (zaf (zcZ (zc6 (dv 2) (zao znx hr (zaa (dv 3) (zaa (dv 2) (zaa (dv 1) zac)))))))) (zaf (zak (dv 2))))),λds S Q ex h=>by
  unfold zeT at h
  split at h
  ·rename_i a b
   obtain⟨ns,ws,ps,ha,hb,net,gp,hl,h⟩:=h
   have pp:Pz 110 ps:=λp hp=>⟨(gp p hp).1,(gp p hp).2.2.1,(gp p hp).2.2.2⟩
   refine zcY (n:=a) (o:=.lst (ns.map Nd.d)) (λk dl' S'=>k≤ns.length∧Pre S S'∧S'[S.length]?=some (.lst ((zaC ps (ns.take k)).map frD))∧∃u:Option D,dl'=[some (.ref a),some (.ref b),some (.ref S.length),u]) ⟨VaA _,Pre.refl.push,zaE _ _,_,rfl⟩ (λk dl' S' w=>w.2.1 _ _ ha) ?_ ?_
   ·rintro k x dl' S' nx ct ex' ⟨hk,pr,hf,u,rfl⟩ hn
    have ex2:(ns.map Nd.d)[k]?=some x:=ex'
    rw[Val] at ex2
    obtain⟨v,hv,rfl⟩:=Vaq.mp ex2
    have hk':=(Vab.mp hv).1
    have ln:(zaC ps (ns.take k)).length=k:=by rw[zdz,Vaj]; omega
    have okv:v.ok (zaC ps (ns.take k)).length ps.length:=by rw[ln]; exact(net.ok k v hv).1
    have pz:Pz 1990 (zaC ps (ns.take k)):=λp hp=>by
     have z:=Pz.of_w (zlF net rfl pp k hk) (λj hj=>(net.w1 (i:=j) ⟨by omega,by omega⟩).2) p hp
     exact⟨z.1,z.2.1.mono (by decide),z.2.2.mono (by decide)⟩
    refine zdj (n:=S.length) (S1:=S') (xs:=(zaC ps (ns.take k)).map frD) (y:=frD (v.due (zaC ps (ns.take k)) ps)) (λK hK=>by exact hK) hf (λK hK=>?_) (by rw[Vac,ln]; omega) ?_
    ·exact⟨v,_,ps,rfl,hf,pr _ _ hb,okv,pz,λp hp=>⟨(pp p hp).1,(pp p hp).2.1.mono (by decide),(pp p hp).2.2.mono (by decide)⟩,hK⟩
    ·refine hn _ _ ⟨by omega,zbN pr (Vaa _),?_,_,rfl⟩
     rw[zbP hv,zdX,VaE]
     exact zbA hf
   ·rintro dl' S' ⟨hk,pr,hf,u,rfl⟩
    refine h _ _ pr (Vaa _) ?_
    have e:ns.take (zaz (.lst (ns.map Nd.d))).length=ns:=by
     show ns.take (ns.map Nd.d).length=ns
     rw[Vac,VaX]
    rw[e] at hf
    exact hf
  ·exact h.elim⟩)
def zr4  (ziE:Df K mg "_law_met_row" zkc zhN)(zcH:Fk P w K mg base 1 "_law_put" zhD zfs)(zcw:Fk P w K mg base 2 "_law_fraction" zd2 zdF)(zfm:Fk P w K mg base 3 "_law_exacts" zeJ zeT)(zb5:mg "abs"=none)(zaW:mg "len"=none):Fk P w K mg base 4 "_law_met_row" zhN zhI:=
 ziE.mk' (zau (k:=3) ziE.F zc4 (zxT) λcdv A outer s H E hr=>⟨_,(zae (zap (i:=4) zc4.nd rfl (Or.inl rfl) (zag za7 (dv 3) (zag zb6 zab zab))) (zae (zap (i:=5) zc4.nd rfl (Or.inl rfl) (zag za7 (zag zcb (dv 4) zab) (za0 (zbo zck) rfl zaW Boot.«len» (zaa (dv 1) zac)))) (zae (zap (i:=6) zc4.nd rfl (Or.inl rfl) (zaO (dv 1) (dv 5) (λ_ _=>rfl))) (zae (zaw (PDW.pt (zdk (zas (zaI hr) (zag za8 (dv 4) zab) zab (zar _)) (zdk (zas zbf (za0 znY rfl zb5 Boot.«abs» (zaa (zad (dv 6) zab (λ_ _=>rfl)) zac)) (zag zb6 zab zab) (zar _)) (zeR (zas zbf (zad (dv 6) zab (λ_ _=>rfl)) (zag zb6 zab zab) (zar _)))))) (zae (zap (i:=7) zc4.nd rfl (Or.inl rfl) (zao zcH hr (zaa (dv 0) (zaa (zaA (zaa zaL (zaa (dv 5) zac))) zac)))) (zae (zap (i:=8) zc4.nd rfl (Or.inl rfl) (zao zcH hr (zaa (dv 0) (zaa (zaA (zaa zaL (zaa (dv 7) (zaa (zao zcH hr (zaa (dv 0) (zaa (zaA (zaa zaL (zaa (zad (dv 6) zab (λ_ _=>rfl)) (zaa (zad (dv 6) zab (λ_ _=>rfl)) zac)))) zac))) zac)))) zac)))) (zaf (zak (zaA (zaa zaL (zaa (zao zcH hr (zaa (dv 0) (zaa (zaA (zaa zaL (zaa (dv 2) (zaa (dv 8) zac)))) zac))) zac))))))) zax) (zae (zap (i:=6) zc4.nd rfl (Or.inl rfl) (zaO (zao zfm hr (zaa (zdh (dv 0) zeE (zcy (zag za2 (dv 2) zab))) (zaa (dv 1) zac))) (dv 2) (λ_ _=>rfl))) (zae (zap (i:=6) zc4.nd rfl (Or.inl rfl) (zao zcw hr (zaa (zad (dv 6) zab (λ_ _=>rfl)) (zaa (zad (dv 6) zab (λ_ _=>rfl)) zac)))) (zae (zaw (PDW.pt (zdk (zas zbf (za0 znY rfl zb5 Boot.«abs» (zaa (zad (dv 6) zab (λ_ _=>rfl)) zac)) (zag zb6 zab zab) (zar _)) (zeR (zas zbf (zad (dv 6) zab (λ_ _=>rfl)) (zag zb6 zab zab) (zar _))))) (zae (zap (i:=9) zc4.nd rfl (Or.inl rfl) (zao zcH hr (zaa (dv 0) (zaa (zaA (zaa zaL (zaa (zad (dv 6) zab (λ_ _=>rfl)) (zaa (zad (dv 6) zab (λ_ _=>rfl)) zac)))) zac)))) (zaf (zak (zaA (zaa (zaO (zbg (zaa zaL (zaa zaL (zaa zaL (zaa zaL zac))))) (zag za8 (dv 4) zab) (λ_ _=>rfl)) (zaa (zao zcH hr (zaa (dv 0) (zaa (zaA (zaa zaL (zaa (dv 2) (zaa (dv 9) zac)))) zac))) zac)))))) zax) (zae (zaw (zas zkv (zad (dv 6) zab (λ_ _=>rfl)) zab (zar _)) (zaf (zak (zaA (zaa zaL (zaa (dv 2) zac))))) zax) (zaf (zak (zaA (zaa zaL (zaa (zao zcH hr (zaa (dv 0) (zaa (zaA (zaa zaL (zaa (zao zcH hr (zaa (dv 0) (zaa (zaA (zaa zaL (zaa zab (zaa zab zac)))) zac))) (zaa (dv 2) zac)))) zac))) zac))))))))))))),λds S Q ex h=>by
  unfold zhI at h
  split at h
  ·rename_i a b at' c
   obtain⟨ns,ws,ps,ha,hb,ab,net,hv,gp,lp,⟨t0,t1⟩,l60,h⟩:=h
   obtain⟨tn,rfl⟩:∃tn:Nat,at'=(tn:Int):=⟨at'.toNat,by omega⟩
   refine⟨show (0:Int)<10^Int.toNat 20 by decide,?_⟩
   refine zdE hb ?_
   rw[Vac]
   have pl:(0:Int)<((ps.length:Nat):Int):=by omega
   refine⟨pl,?_⟩
   have rk:inR ((ps.length:Nat):Int) (c%10^Int.toNat 20/4%((ps.length:Nat):Int)):=za6 pl
   have gk:=gp.at rk
   refine zaF (o:=.lst (ps.map frD)) hb (zaP rk) ?_
   dsimp only
   refine zh9 (λdl2 S2=>S=S2∧dl2=[some (.ref a),some (.ref b),some (.int (tn:Int)),some (.int c),some (.int (c%10^Int.toNat 20)),some (.int (c%10^Int.toNat 20/4%((ps.length:Nat):Int))),some (frD (gt ps (c%10^Int.toNat 20/4%((ps.length:Nat):Int)))),none,none,none]) (λnx hn=>?_) ?_
   ·have on:=hn _ _ ⟨rfl,rfl⟩
    refine ifD (λe1=>?_) (λe1=>on)
    refine ifD (λe2=>?_) (λe2=>on)
    refine ifD (λe3=>?_) (λe3=>on)
    have e9:(10:Int)^Int.toNat 9=1000000000:=rfl
    have e2':=nine e2
    have e3':=zoW e3
    refine⟨ps.length,.unknown _,ns,ws,rfl,ha,by omega,net,rk,show 1≤16 by decide,λT1 j1 ns1 ws1 g1 lj1 hj1 wj1 dj1=>?_⟩
    have n1:=g1.ln
    refine⟨ps.length,.number _ _,ns1,ws1,rfl,g1.nd,by omega,g1.net,⟨⟨gk.1,e3'⟩,gk.2.1,e2'⟩,show 1≤16 by decide,λT2 j2 ns2 ws2 g2 lj2 hj2 wj2 dj2=>?_⟩
    have n2:=g2.ln
    have w1:=g2.wt g1.net lj1
    have e11:ws1.getD j1 0=1:=wj1
    have e22:ws2.getD j2 0=1:=wj2
    refine⟨ps.length,.minus (j1:Int) (j2:Int),ns2,ws2,rfl,g2.nd,by omega,g2.net,⟨⟨by omega,by omega⟩,⟨by omega,by omega⟩⟩,?_,λT3 j3 ns3 ws3 g3 lj3 hj3 wj3 dj3=>?_⟩
    ·show ws2.getD ((j1:Nat):Int).toNat 0+ws2.getD ((j2:Nat):Int).toNat 0≤16
     rw[Vae,Vae]
     omega
    have n3:=g3.ln
    have e33:ws3.getD j3 0=ws2.getD ((j1:Nat):Int).toNat 0+ws2.getD ((j2:Nat):Int).toNat 0:=wj3
    rw[Vae,Vae] at e33
    have wt:=((g1.trans g2).trans g3).wt net (show tn<ns.length by omega)
    have ht:=hv tn
    refine⟨ps.length,.times (tn:Int) (j3:Int),ns3,ws3,rfl,g3.nd,by omega,g3.net,⟨⟨by omega,by omega⟩,⟨by omega,by omega⟩⟩,?_,λT4 j4 ns4 ws4 g4 lj4 hj4 wj4 dj4=>?_⟩
    ·show ws3.getD ((tn:Nat):Int).toNat 0+ws3.getD ((j3:Nat):Int).toNat 0≤16
     rw[Vae,Vae]
     omega
    exact h T4 "zero" true j4 ns4 ws4 (.inl ⟨rfl,rfl⟩) ((((g1.trans g2).trans g3).trans g4).mono (by decide)) lj4
   rintro dl2 S2 ⟨rfl,rfl⟩
   refine zc9 (n:=a) (o:=.lst (ns.map Nd.d)) (lo:=none) (hi:=some ((tn:Int)+1)) (S3:=S) (λK hK=>by exact hK) (λK hK=>by exact hK) (λK hK=>by exact hK) ha ?_
   have ec:zaS (ns.map Nd.d) none (some ((tn:Int)+1))=(ns.take (tn+1)).map Nd.d:=by
    rw[zgq (by omega) (by rw[Vac]; omega),List.map_take]
    rfl
   rw[show zaz (Ob.lst (ns.map Nd.d))=ns.map Nd.d from rfl,ec]
   refine⟨ns.take (tn+1),ws.take (tn+1),ps,zaE _ _,zaB hb,net.take _,gp,by rw[Vaj]; omega,λT m pr lm hf=>?_⟩
   have prS:Pre S T:=λn o e=>pr n o (zaB e)
   have lT:S.length≤T.length:=by
    have z:(S++[Ob.lst ((ns.take (tn+1)).map Nd.d)]).length≤m:=lm
    rw[Vap] at z
    have:=zbR hf
    omega
   have g0:=Gr.pre net ha prS lT
   have pp:Pz 110 ps:=λp hp=>⟨(gp p hp).1,(gp p hp).2.2.1,(gp p hp).2.2.2⟩
   have ld:(zaC ps (ns.take (tn+1))).length=tn+1:=by rw[zdz,Vaj]; omega
   have ik:inR (((zaC ps (ns.take (tn+1))).length:Nat):Int) (tn:Int):=⟨by omega,by omega⟩
   have pz:Pz 1800 (zaC ps (ns.take (tn+1))):=Pz.of_w (zlF net rfl pp (tn+1) (by omega)) λj hj=>(net.w1 (i:=j) ⟨by omega,by omega⟩).2
   have pk:=pz.at ik
   refine zaF (o:=.lst ((zaC ps (ns.take (tn+1))).map frD)) hf (zaP ik) ?_
   refine⟨⟨by omega,pk.2.2.mono (by decide)⟩,λt u h1 h2 h3 h4 h5=>?_⟩
   have ht:=hv tn
   have e9:(10:Int)^Int.toNat 9=1000000000:=rfl
   dsimp only
   refine zh9 (λdl2 S2=>T=S2∧∃u7 u8 u9:Option D,dl2=[some (.ref a),some (.ref b),some (.int (tn:Int)),some (.int c),some (.int (c%10^Int.toNat 20)),some (.int (c%10^Int.toNat 20/4%((ps.length:Nat):Int))),some (.tup [.int t,.int u]),u7,u8,u9]) (λnx hn=>?_) ?_
   ·have on:=hn _ _ ⟨rfl,none,none,none,rfl⟩
    refine ifD (λe2=>?_) (λe2=>on)
    refine ifD (λe3=>?_) (λe3=>on)
    have e2':=nine e2
    have e3':=zoW e3
    refine⟨ps.length,.number t u,ns,ws,rfl,g0.nd,by omega,net,⟨⟨h1,e3'⟩,h2,e2'⟩,show 1≤16 by decide,λT1 j1 ns1 ws1 g1 lj1 hj1 wj1 dj1=>?_⟩
    have n1:=g1.ln
    have e11:ws1.getD j1 0=1:=wj1
    have four:∀i:Int,inR 4 i→∃(x:Str) (zero:Bool),rwW zero x∧atI [D.str "zero",D.str "zero",D.str "zero",D.str "least"] i=some (.str x):=λi hi=>by
     obtain⟨h0,h3⟩:=hi
     have z:i=0∨i=1∨i=2∨i=3:=by omega
     rcases z with rfl | rfl | rfl | rfl
     ·exact⟨_,true,.inl ⟨rfl,rfl⟩,rfl⟩
     ·exact⟨_,true,.inl ⟨rfl,rfl⟩,rfl⟩
     ·exact⟨_,true,.inl ⟨rfl,rfl⟩,rfl⟩
     ·exact⟨_,false,.inr ⟨rfl,rfl⟩,rfl⟩
    obtain⟨x,zero,hx,ex'⟩:=four (c%10^Int.toNat 20%4) (za6 (by decide))
    refine zaF (o:=.lst [.str "zero",.str "zero",.str "zero",.str "least"]) (zaE _ _) ex' ?_
    have g2:=Gr.push g1.net g1.nd [.lst [.str "zero",.str "zero",.str "zero",.str "least"]]
    have wt:=g1.wt net (show tn<ns.length by omega)
    refine⟨ps.length,.minus (tn:Int) (j1:Int),ns1,ws1,rfl,g2.nd,by omega,g1.net,⟨⟨by omega,by omega⟩,⟨by omega,by omega⟩⟩,?_,λT3 j3 ns3 ws3 g3 lj3 hj3 wj3 dj3=>?_⟩
    ·show ws1.getD ((tn:Nat):Int).toNat 0+ws1.getD ((j1:Nat):Int).toNat 0≤16
     rw[Vae,Vae]
     omega
    exact h T3 x zero j3 ns3 ws3 hx ((((g0.trans g1).trans g2).trans g3).mono (by decide)) lj3
   rintro dl2 S2 ⟨rfl,u7,u8,u9,rfl⟩
   refine ifD (λe2=>?_) (λe2=>?_)
   ·exact h _ "least" false tn ns ws (.inr ⟨rfl,rfl⟩) (g0.mono (by decide)) (by omega)
   ·refine⟨ps.length,.number 0 1,ns,ws,rfl,g0.nd,by omega,net,⟨⟨by decide,by decide⟩,by decide,by decide⟩,show 1≤16 by decide,λT1 j1 ns1 ws1 g1 lj1 hj1 wj1 dj1=>?_⟩
    have n1:=g1.ln
    have e11:ws1.getD j1 0=1:=wj1
    have wt:=g1.wt net (show tn<ns.length by omega)
    refine⟨ps.length,.minus (j1:Int) (tn:Int),ns1,ws1,rfl,g1.nd,by omega,g1.net,⟨⟨by omega,by omega⟩,⟨by omega,by omega⟩⟩,?_,λT3 j3 ns3 ws3 g3 lj3 hj3 wj3 dj3=>?_⟩
    ·show ws1.getD ((j1:Nat):Int).toNat 0+ws1.getD ((tn:Nat):Int).toNat 0≤16
     rw[Vae,Vae]
     omega
    exact h T3 "least" false j3 ns3 ws3 (.inr ⟨rfl,rfl⟩) (((g0.trans g1).trans g3).mono (by decide)) lj3
  ·exact h.elim⟩)
def ztg  (zmq:Df K mg "_law_row_by" zkB zhz)(zmY:Fk P w K mg base 4 "_law_met_row" zhN zhI)(zaT:mg "max"=none)(zaW:mg "len"=none):Fk P w K mg base 5 "_law_row_by" zhz zhn:=
 zmq.mk' (zau (k:=4) zmq.F zpJ (zxi) λcdv A outer s H E hr=>⟨_,(zae (zap (i:=4) zpJ.nd rfl (Or.inl rfl) (za0 (zcx rfl) rfl zaT Boot.«max» (zaa zab (zaa (zag zbH (zag zbH (za0 (zbo zck) rfl zaW Boot.«len» (zaa (dv 0) zac)) zab) (zag za8 (dv 2) zab)) zac)))) (zae (zaw (zas (zaI hr) (zag za8 (zag zcb (dv 2) zab) zab) zab (zar _)) (zaf (zak (zaA (zaa (zaO (zbg (zaa zaL (zaa zaL zac))) (zag za8 (zag zcb (dv 2) zab) zab) (λ_ _=>rfl)) (zaa (dv 4) zac))))) zax) (zaf (zak (zao zmY hr (zaa (dv 0) (zaa (dv 1) (zaa (dv 4) (zaa (dv 3) zac))))))))),λds S Q ex h=>by
  unfold zhn at h
  split at h
  ·rename_i a b f c
   obtain⟨ns,ws,ps,ha,hb,ab,net,hv,gp,lp,l1,l60,h⟩:=h
   refine zdE ha ?_
   rw[Vac]
   have two:∀i:Int,inR 2 i→∃(x:Str) (zero:Bool),rwW zero x∧atI [D.str "zero",D.str "least"] i=some (.str x):=λi hi=>by
    obtain⟨h0,h3⟩:=hi
    have z:i=0∨i=1:=by omega
    rcases z with rfl | rfl
    ·exact⟨_,true,.inl ⟨rfl,rfl⟩,rfl⟩
    ·exact⟨_,false,.inr ⟨rfl,rfl⟩,rfl⟩
   obtain⟨x,zero,hx,ex'⟩:=two (f/12%2) (za6 (by decide))
   have fin:∀k:Int,inR ((ns.length:Nat):Int) k→Q (.tup [.str x,.int k]) (S++[.lst [.str "zero",.str "least"]]):=λk hk=>by
    obtain⟨kn,rfl⟩:∃kn:Nat,k=(kn:Int):=⟨k.toNat,by have:=hk.1; omega⟩
    exact h _ x zero kn ns ws hx ((Gr.push net ha _).mono (by decide)) (by have:=hk.2; omega)
   have atR:inR ((ns.length:Nat):Int) (if ((ns.length:Nat):Int)-1-f%3 > 0 then ((ns.length:Nat):Int)-1-f%3 else 0):=by
    have:=za6 (a:=f) (b:=3) (by decide)
    unfold inR
    split <;> omega
   refine ifD (λe=>?_) (λe=>?_)
   ·refine zaF (o:=.lst [.str "zero",.str "least"]) (zaE _ _) ex' ?_
    exact fin _ atR
   ·exact⟨ns,ws,ps,ha,hb,ab,net,hv,gp,lp,atR,l60,h⟩
  ·exact h.elim⟩)
def zwg  (zjq:Df K mg "bars" zin zgG):Fk P w K mg base 1 "bars" zgG zgu:=
 zjq.mk' (zau (k:=0) zjq.F zra (zri) λcdv A outer s H E hr=>⟨_,(zae (zaw (zas (zaI hr) (dv 0) zaL (zar _)) (zaf (zak (zp5 (zcu zdV (zad (dv 1) zab (λ_ _=>rfl)) zab (zar _)) (zky (zcu zbf (zad (dv 1) zab (λ_ _=>rfl)) zab (zar _)))))) zax) (zaf (zak (zcu zbf (zad (dv 1) zab (λ_ _=>rfl)) zab (zar _))))),λds S Q ex h=>by
  unfold zgu at h
  split at h
  ·rcases h with ⟨rfl,h⟩ | ⟨rfl,h⟩
   ·refine ifD (λc=>?_) (λc=>?_)
    ·rw[decide_eq_true c,Bool.true_or] at h
     exact h
    ·rw[decide_eq_false c,Bool.false_or] at h
     exact h
   ·exact h
  ·exact h.elim⟩)
def zxW  (ziP:Df K mg "less" zmi zhR):Fk P w K mg base 1 "less" zhR zhv:=
 ziP.mk' (zau (k:=0) ziP.F zuB (zxU) λcdv A outer s H E hr=>⟨_,(zaf (zak (zcu zbf (zag zaH (zad (dv 0) zab (λ_ _=>rfl)) (zad (dv 1) zab (λ_ _=>rfl))) (zag zaH (zad (dv 1) zab (λ_ _=>rfl)) (zad (dv 0) zab (λ_ _=>rfl))) (zar _)))),λds S Q ex h=>by
  unfold zhv at h
  split at h
  ·obtain⟨⟨h1,h2⟩,h⟩:=h
   exact⟨h1,h2,h⟩
  ·exact h.elim⟩)
def zxm  (zhW:Df K mg "rounded_up" zic zds):Fk P w K mg base 1 "rounded_up" zds zde:=
 zhW.mk' (zau (k:=0) zhW.F zte (zq5) λcdv A outer s H E hr=>⟨_,(zaf (zak (zcF zcJ (zag zcp (zcF zcJ (dv 0)) (dv 1))))),λds S Q ex h=>by
  unfold zde at h
  split at h
  ·exact h
  ·exact h.elim⟩)
def zxb  (zkC:Df K mg "span_of" zkr zfK)(zcf:Fk P w K mg base 1 "rounded_up" zds zde)(zov:Fk P w K mg base 1 "less" zhR zhv):Fk P w K mg base 2 "span_of" zfK zhy:=
 zkC.mk' (zau (k:=1) zkC.F zuQ (zu4) λcdv A outer s H E hr=>⟨_,(zae (zaw (zbh (zao zov hr (zaa (dv 1) (zaa (dv 0) zac)))) (zaf zxo) zax) (zaf (zak (zaA (zaa (zag zcp (zag zaH (zad (dv 0) zab (λ_ _=>rfl)) (dv 2)) (zad (dv 0) zab (λ_ _=>rfl))) (zaa (zao zcf hr (zaa (zag zaH (zad (dv 1) zab (λ_ _=>rfl)) (dv 2)) (zaa (zad (dv 1) zab (λ_ _=>rfl)) zac))) zac)))))),λds S Q ex h=>by
  unfold zhy at h
  split at h
  ·obtain⟨⟨⟨m1,m2⟩,nl,m3,m4,f1,f2⟩,h⟩:=h
   refine⟨⟨m1,m2⟩,ifF (decide_eq_false nl) ?_⟩
   exact⟨m3,f1,m4,f2,h⟩
  ·exact h.elim⟩)
def ztk  (zam:zbt K mg)(zan:zbv K mg)(zaj:zbn K mg)(zah:zbr K mg)(zai:zbm K mg)(zal:zbu K mg)(zmC:Dm K zam.C "forth" "Number.forth" zik zfR)(zoH:Fk P w K mg base 2 "span_of" zfK zhy):Fm P w K mg base 3 zam.C "forth" zfR (zep zam.C zan.C zaj.C zah.C zai.C zal.C):=
 zmC.mk' (zau (k:=2) zmC.F zpn (zq6 zam.C zan.C zaj.C zah.C zai.C zal.C) λcdv A outer s H E hr=>⟨_,(zae (zap (i:=4) zpn.nd rfl (Or.inl rfl) (zaA (zaa (zaQ zam.cl zam.n_top (dv 0)) (zaa (zaQ zam.cl zam.n_bottom (dv 0)) zac)))) (zaf (zak (zao zoH hr (zaa (dv 4) (zaa (dv 4) (zaa (dv 3) zac))))))),λds S Q ex h=>by
  unfold zep at h
  split at h
  ·rename_i n w p g
   obtain⟨x,y,vs,bs,hn,hw,hp,ok,s1,hg,h⟩:=h
   have sg:Sz 21 g:=Sz.of 1000000 (by omega)
   have sx:Sz 31 x:=Sz.of (10^9) ok.2.2
   have sy:Sz 31 y:=Sz.of (10^9) (by have:=ok.1; omega)
   refine zaM (n:=n) (λK hK=>by exact hK) hn rfl ?_
   refine zaM (n:=n) (λK hK=>by exact hK) hn rfl ?_
   exact⟨⟨⟨zaG sx sy,zaG sx sy⟩,by omega,zaG sx sg,zaG sx sg,sy.fd (by have:=ok.1; omega),sy.fd (by have:=ok.1; omega)⟩,h⟩
  ·exact h.elim⟩)
def zvL  (zan:zbv K mg)(zam:zbt K mg)(zaj:zbn K mg)(zah:zbr K mg)(zai:zbm K mg)(zal:zbu K mg)(zlJ:Dm K zan.C "forth" "Unknown.forth" ziN zgl):Fm P w K mg base 1 zan.C "forth" zgl (zev zam.C zan.C zaj.C zah.C zai.C zal.C):=
 zlJ.mk' (zau (k:=0) zlJ.F zxd (zsf zam.C zan.C zaj.C zah.C zai.C zal.C) λcdv A outer s H E hr=>⟨_,(zaf (zak (zaO (dv 2) (zaQ zan.cl zan.n_place (dv 0)) (λ_ _=>rfl)))),λds S Q ex h=>by
  unfold zev at h
  split at h
  ·rename_i n w p g
   obtain⟨k,vs,bs,hn,hw,hp,ok,s1,hg,h⟩:=h
   refine zaM (n:=n) (λK hK=>by exact hK) hn rfl ?_
   exact zaF (o:=.lst (bs.map frD)) hp (zaP ok) h
  ·exact h.elim⟩)
def zt4  (zjf:Df K mg "add_spans" zit zeI):Fk P w K mg base 1 "add_spans" zeI zeF:=
 zjf.mk' (zau (k:=0) zjf.F zr0 (zr1) λcdv A outer s H E hr=>⟨_,(zaf (zak (zaA (zaa (zag za2 (zad (dv 0) zab (λ_ _=>rfl)) (zad (dv 1) zab (λ_ _=>rfl))) (zaa (zag za2 (zad (dv 0) zab (λ_ _=>rfl)) (zad (dv 1) zab (λ_ _=>rfl))) zac))))),λds S Q ex h=>by
  unfold zeF at h
  split at h
  ·exact h
  ·exact h.elim⟩)
def zvb  (zaj:zbn K mg)(zam:zbt K mg)(zan:zbv K mg)(zah:zbr K mg)(zai:zbm K mg)(zal:zbu K mg)(zi4:Dm K zaj.C "forth" "Plus.forth" zij zgU)(ze0:Fk P w K mg base 1 "add_spans" zeI zeF):Fm P w K mg base 2 zaj.C "forth" zgU (zeO zam.C zan.C zaj.C zah.C zai.C zal.C):=
 zi4.mk' (zau (k:=1) zi4.F zsi (zsx zam.C zan.C zaj.C zah.C zai.C zal.C) λcdv A outer s H E hr=>⟨_,(zaf (zak (zao ze0 hr (zaa (zaO (dv 1) (zaQ zaj.cl zaj.n_one (dv 0)) (λ_ _=>rfl)) (zaa (zaO (dv 1) (zaQ zaj.cl zaj.n_other (dv 0)) (λ_ _=>rfl)) zac))))),λds S Q ex h=>by
  unfold zeO at h
  split at h
  ·rename_i n w p g
   obtain⟨i,j,vs,bs,hn,hw,hp,ok,s1,hg,h⟩:=h
   refine zaM (n:=n) (λK hK=>by exact hK) hn rfl ?_
   refine zaF (o:=.lst (vs.map frD)) hw (zaP ok.1) ?_
   refine zaM (n:=n) (λK hK=>by exact hK) hn rfl ?_
   refine zaF (o:=.lst (vs.map frD)) hw (zaP ok.2) ?_
   exact h
  ·exact h.elim⟩)
def zsg  (zlg:Df K mg "take_spans" zkE zdy):Fk P w K mg base 1 "take_spans" zdy zdD:=
 zlg.mk' (zau (k:=0) zlg.F zsp (zrH) λcdv A outer s H E hr=>⟨_,(zaf (zak (zaA (zaa (zag zbH (zad (dv 0) zab (λ_ _=>rfl)) (zad (dv 1) zab (λ_ _=>rfl))) (zaa (zag zbH (zad (dv 0) zab (λ_ _=>rfl)) (zad (dv 1) zab (λ_ _=>rfl))) zac))))),λds S Q ex h=>by
  unfold zdD at h
  split at h
  ·exact h
  ·exact h.elim⟩)
def zv7  (zah:zbr K mg)(zam:zbt K mg)(zan:zbv K mg)(zaj:zbn K mg)(zai:zbm K mg)(zal:zbu K mg)(zmM:Dm K zah.C "forth" "Minus.forth" zmu zf2)(zch:Fk P w K mg base 1 "take_spans" zdy zdD):Fm P w K mg base 2 zah.C "forth" zf2 (zfo zam.C zan.C zaj.C zah.C zai.C zal.C):=
 zmM.mk' (zau (k:=1) zmM.F zux (zwO zam.C zan.C zaj.C zah.C zai.C zal.C) λcdv A outer s H E hr=>⟨_,(zaf (zak (zao zch hr (zaa (zaO (dv 1) (zaQ zah.cl zah.n_one (dv 0)) (λ_ _=>rfl)) (zaa (zaO (dv 1) (zaQ zah.cl zah.n_other (dv 0)) (λ_ _=>rfl)) zac))))),λds S Q ex h=>by
  unfold zfo at h
  split at h
  ·rename_i n w p g
   obtain⟨i,j,vs,bs,hn,hw,hp,ok,s1,hg,h⟩:=h
   refine zaM (n:=n) (λK hK=>by exact hK) hn rfl ?_
   refine zaF (o:=.lst (vs.map frD)) hw (zaP ok.1) ?_
   refine zaM (n:=n) (λK hK=>by exact hK) hn rfl ?_
   refine zaF (o:=.lst (vs.map frD)) hw (zaP ok.2) ?_
   exact h
  ·exact h.elim⟩)
def zul  (zlp:Df K mg "mul_spans" zlH zfT)(zcf:Fk P w K mg base 1 "rounded_up" zds zde)(zaT:mg "max"=none)(zbe:mg "min"=none):Fk P w K mg base 2 "mul_spans" zfT zgz:=
 zlp.mk' (zio (zau (k:=1) zlp.F zpX (zjG (zvs)) λcdv A outer s H E hr=>⟨_,(zae (zap (i:=3) zpX.nd rfl (Or.inl rfl) (zbg (zaa (zag zaH (zad (dv 0) zab (λ_ _=>rfl)) (zad (dv 1) zab (λ_ _=>rfl))) (zaa (zag zaH (zad (dv 0) zab (λ_ _=>rfl)) (zad (dv 1) zab (λ_ _=>rfl))) (zaa (zag zaH (zad (dv 0) zab (λ_ _=>rfl)) (zad (dv 1) zab (λ_ _=>rfl))) (zaa (zag zaH (zad (dv 0) zab (λ_ _=>rfl)) (zad (dv 1) zab (λ_ _=>rfl))) zac)))))) (zaf (zak (zaA (zaa (zag zcp (za0 (zbo (zeo rfl)) rfl zbe Boot.«min» (zaa (dv 3) zac)) (dv 2)) (zaa (zao zcf hr (zaa (za0 (zbo (zcx rfl)) rfl zaT Boot.«max» (zaa (dv 3) zac)) (zaa (dv 2) zac))) zac)))))),λds S Q ex h=>by
  obtain⟨Q0,ex0,rfl,rfl,h⟩:=h
  unfold zgz at h
  split at h
  ·rename_i a b c d g
   obtain⟨⟨⟨m1,m2,m3,m4⟩,hg⟩,h⟩:=h
   refine⟨m1,m2,m3,m4,?_⟩
   apply zdw
   ·exact zaE _ _
   ·rfl
   ·simp
   intro mn n1 n2
   refine⟨hg,?_⟩
   apply zdw
   ·exact zaE _ _
   ·rfl
   ·simp
   intro mx x1 x2
   refine⟨hg,?_⟩
   exact⟨Pre.refl.push,zmA,h mn mx (zeS.of n1 n2 x1 x2)⟩
  ·exact h.elim⟩))
def zsl  (zai:zbm K mg)(zam:zbt K mg)(zan:zbv K mg)(zaj:zbn K mg)(zah:zbr K mg)(zal:zbu K mg)(zj9:Dm K zai.C "forth" "Times.forth" zmI zfO)(zof:Fk P w K mg base 2 "mul_spans" zfT zgz):Fm P w K mg base 3 zai.C "forth" zfO (zei zam.C zan.C zaj.C zah.C zai.C zal.C):=
 zj9.mk' (zau (k:=2) zj9.F ztI (zuw zam.C zan.C zaj.C zah.C zai.C zal.C) λcdv A outer s H E hr=>⟨_,(zaf (zak (zao zof hr (zaa (zaO (dv 1) (zaQ zai.cl zai.n_one (dv 0)) (λ_ _=>rfl)) (zaa (zaO (dv 1) (zaQ zai.cl zai.n_other (dv 0)) (λ_ _=>rfl)) (zaa (dv 3) zac)))))),λds S Q ex h=>by
  unfold zei at h
  split at h
  ·rename_i n w p g
   obtain⟨i,j,vs,bs,hn,hw,hp,ok,s1,hg,h⟩:=h
   refine zaM (n:=n) (λK hK=>by exact hK) hn rfl ?_
   refine zaF (o:=.lst (vs.map frD)) hw (zaP ok.1) ?_
   refine zaM (n:=n) (λK hK=>by exact hK) hn rfl ?_
   refine zaF (o:=.lst (vs.map frD)) hw (zaP ok.2) ?_
   have a:=s1.at ok.1
   have b:=s1.at ok.2
   have sg:Sz 21 g:=Sz.of 1000000 (by omega)
   refine⟨⟨⟨zaG a.2.1 b.2.1,zaG a.2.1 b.2.2,zaG a.2.2 b.2.1,zaG a.2.2 b.2.2⟩,sg.fd (by omega)⟩,λmn mx hc=>?_⟩
   obtain⟨rfl,rfl⟩:=hc.eq
   exact h
  ·exact h.elim⟩)
def zwc  (zlK:Df K mg "raised" zlk zcM)(zbb:mg "range"=none):Fk P w K mg base 1 "raised" zcM zcP:=
 zlK.mk' (zau (k:=0) zlK.F zj0 (zru) λcdv A outer s H E hr=>⟨_,(zae (zap (i:=2) zj0.nd rfl (Or.inl rfl) zab) (zae (zn6 (i:=3) PassesOwn.never rfl zj0.nd rfl (Or.inl rfl) rfl zbb (zaa (dv 1) zac) (zaf (zap (i:=2) zj0.nd rfl (Or.inl rfl) (zag zaH (dv 2) (dv 0))))) (zaf (zak (dv 2))))),λds S Q ex h=>by
  unfold zcP at h
  split at h
  ·rename_i x n
   obtain⟨⟨h0,h6,sx⟩,h⟩:=h
   refine⟨⟨by omega,by omega⟩,λk dl' S'=>S'=S∧k≤n.toNat∧∃(z:Int) (o:Option D),z=x^k∧dl'=[some (.int x),some (.int n),some (.int z),o],⟨rfl,VaA _,1,none,(VaQ x).symm,rfl⟩,?_⟩
   rintro k dl' S' ⟨rfl,hk,z,o,rfl,rfl⟩
   refine zfN (λc=>?_) (λc=>?_)
   ·exact⟨zaG (m:=12001) (n:=2000) ((sx.pow k).mono (by omega)) sx,rfl,by omega,_,_,(Vad x k).symm,rfl⟩
   ·have e:k=n.toNat:=by omega
    subst e
    exact h
  ·exact h.elim⟩)
def zxr  (zj5:Df K mg "raise_span" zht zhq)(zcf:Fk P w K mg base 1 "rounded_up" zds zde)(zbx:Fk P w K mg base 1 "raised" zcM zcP)(zaT:mg "max"=none)(zbe:mg "min"=none):Fk P w K mg base 2 "raise_span" zhq zhh:=
 zj5.mk' (zio (zau (k:=1) zj5.F zj8 (zjG (zrA)) λcdv A outer s H E hr=>⟨_,(zae (zap (i:=3) zj8.nd rfl (Or.inl rfl) (zbg (zaa (zad (dv 0) zab (λ_ _=>rfl)) (zaa (zad (dv 0) zab (λ_ _=>rfl)) zac)))) (zae (zaw (zpZ zbf zbf (zad (dv 0) zab (λ_ _=>rfl)) zab (zad (dv 0) zab (λ_ _=>rfl))) (zaf (zcZ (zc6 (dv 3) zab))) zax) (zae (znh (x:="place") (N:=["grid","many"]) (caps:=[2,1]) (ar:=zaq zht) rfl rfl csc rfl (by decide) (i:=4) zj8.nd rfl rfl (dv 3) (λ_ _ _ _ _ _=>zgk) (λ_ _ _ _ _ _=>(zag zaH (zao zbx hr (zaa (dv 0) (zaa (dv 2) zac))) (dv 1)))) (zae (zap (i:=5) zj8.nd rfl (Or.inl rfl) (zao zbx hr (zaa (dv 2) (zaa (dv 1) zac)))) (zaf (zak (zaA (zaa (zag zcp (za0 (zbo (zeo rfl)) rfl zbe Boot.«min» (zaa (dv 4) zac)) (dv 5)) (zaa (zao zcf hr (zaa (za0 (zbo (zcx rfl)) rfl zaT Boot.«max» (zaa (dv 4) zac)) (zaa (dv 5) zac))) zac))))))))),λds S Q ex h=>by
  obtain⟨Q0,ex0,rfl,rfl,h⟩:=h
  unfold zhh at h
  split at h
  ·rename_i a b n g
   obtain⟨⟨n2,n6,za,zb,hg,zg⟩,h⟩:=h
   refine ifD (λc1=>?_) (λc1=>?_)
   ·refine ifD (λc2=>?_) (λc2=>?_)
    ·refine zdj (n:=S.length) (λK hK=>hK) (zaE _ _) (λK hK=>hK) (by simp) ?_
     refine zh3 (n:=S.length) (o:=.lst [.int a,.int b,.int 0]) (λd=>match d with | .int v=>.int (v^n.toNat*g) | _=>.non) (λK hK=>hK) (by simp) (by simp[zaz]) (λx hx S2 K _ hK=>?_) ?_
     ·have hx':x=.int a∨x=.int b∨x=.int 0:=by simpa [zaz] using hx
      rcases hx' with rfl | rfl | rfl
      all_goals exact⟨⟨by omega,n6,by first | exact za.mono (by decide) | exact zb.mono (by decide) | exact Sz.of (n:=2000) 0 (by decide)⟩,zaG (m:=12001) (n:=1400) (((Sz.mono (n:=2000) (by first | exact za | exact zb | exact Sz.of (n:=1400) 0 (by decide)) (by decide)).pow _).mono (by omega)) zg,hK⟩
     refine⟨⟨by omega,n6,zg.mono (by decide)⟩,?_⟩
     have gp:(0:Int)<g^n.toNat:=Vaw (by omega)
     have zgp:Sz 8401 (g^n.toNat):=(zg.pow _).mono (by omega)
     apply zdw
     ·exact zaE _ _
     ·rfl
     ·simp
     intro mn q1 q2
     refine⟨zgp.fd gp,?_⟩
     apply zdw
     ·exact zaE _ _
     ·rfl
     ·simp
     intro mx x1 x2
     refine⟨zgp.fd gp,?_⟩
     obtain⟨m,M,hP,rfl,rfl⟩:=zcE.of (n:=n.toNat) hg (.inr ⟨rfl,c1,c2⟩) (by omega) q1 q2 x1 x2
     have r:=h m M hP
     rw[← zfd hg (by omega),← zfd hg (by omega),Vah] at r
     exact⟨(λi o e=>zqU (by rw[List.set_append_right _ _ (Vaa _),Vak (Vab.mp e).1]; exact e)),zmA,r⟩
    ·skip
     refine zh3 (n:=S.length) (o:=.lst [.int a,.int b]) (λd=>match d with | .int v=>.int (v^n.toNat*g) | _=>.non) (λK hK=>hK) (zaE _ _) (by simp[zaz]) (λx hx S2 K _ hK=>?_) ?_
     ·have hx':x=.int a∨x=.int b:=by simpa [zaz] using hx
      rcases hx' with rfl | rfl
      all_goals exact⟨⟨by omega,n6,by first | exact za.mono (by decide) | exact zb.mono (by decide) | exact Sz.of (n:=2000) 0 (by decide)⟩,zaG (m:=12001) (n:=1400) (((Sz.mono (n:=2000) (by first | exact za | exact zb | exact Sz.of (n:=1400) 0 (by decide)) (by decide)).pow _).mono (by omega)) zg,hK⟩
     refine⟨⟨by omega,n6,zg.mono (by decide)⟩,?_⟩
     have gp:(0:Int)<g^n.toNat:=Vaw (by omega)
     have zgp:Sz 8401 (g^n.toNat):=(zg.pow _).mono (by omega)
     apply zdw
     ·exact zaE _ _
     ·rfl
     ·simp
     intro mn q1 q2
     refine⟨zgp.fd gp,?_⟩
     apply zdw
     ·exact zaE _ _
     ·rfl
     ·simp
     intro mx x1 x2
     refine⟨zgp.fd gp,?_⟩
     obtain⟨m,M,hP,rfl,rfl⟩:=zcE.of (n:=n.toNat) hg (.inl ⟨rfl,λc=>c2 c.2⟩) (by omega) q1 q2 x1 x2
     have r:=h m M hP
     rw[← zfd hg (by omega),← zfd hg (by omega),Vah] at r
     exact⟨Pre.refl.push.push,zmA,r⟩
   ·skip
    refine zh3 (n:=S.length) (o:=.lst [.int a,.int b]) (λd=>match d with | .int v=>.int (v^n.toNat*g) | _=>.non) (λK hK=>hK) (zaE _ _) (by simp[zaz]) (λx hx S2 K _ hK=>?_) ?_
    ·have hx':x=.int a∨x=.int b:=by simpa [zaz] using hx
     rcases hx' with rfl | rfl
     all_goals exact⟨⟨by omega,n6,by first | exact za.mono (by decide) | exact zb.mono (by decide) | exact Sz.of (n:=2000) 0 (by decide)⟩,zaG (m:=12001) (n:=1400) (((Sz.mono (n:=2000) (by first | exact za | exact zb | exact Sz.of (n:=1400) 0 (by decide)) (by decide)).pow _).mono (by omega)) zg,hK⟩
    refine⟨⟨by omega,n6,zg.mono (by decide)⟩,?_⟩
    have gp:(0:Int)<g^n.toNat:=Vaw (by omega)
    have zgp:Sz 8401 (g^n.toNat):=(zg.pow _).mono (by omega)
    apply zdw
    ·exact zaE _ _
    ·rfl
    ·simp
    intro mn q1 q2
    refine⟨zgp.fd gp,?_⟩
    apply zdw
    ·exact zaE _ _
    ·rfl
    ·simp
    intro mx x1 x2
    refine⟨zgp.fd gp,?_⟩
    obtain⟨m,M,hP,rfl,rfl⟩:=zcE.of (n:=n.toNat) hg (.inl ⟨rfl,λc=>c1 c.1⟩) (by omega) q1 q2 x1 x2
    have r:=h m M hP
    rw[← zfd hg (by omega),← zfd hg (by omega),Vah] at r
    exact⟨Pre.refl.push.push,zmA,r⟩
  ·exact h.elim⟩))
def zxn  (zal:zbu K mg)(zam:zbt K mg)(zan:zbv K mg)(zaj:zbn K mg)(zah:zbr K mg)(zai:zbm K mg)(zkg:Dm K zal.C "forth" "Power.forth" zjt zfZ)(zoa:Fk P w K mg base 2 "raise_span" zhq zhh):Fm P w K mg base 3 zal.C "forth" zfZ (zea zam.C zan.C zaj.C zah.C zai.C zal.C):=
 zkg.mk' (zau (k:=2) zkg.F zq9 (zrE zam.C zan.C zaj.C zah.C zai.C zal.C) λcdv A outer s H E hr=>⟨_,(zaf (zak (zao zoa hr (zaa (zaO (dv 1) (zaQ zal.cl zal.n_one (dv 0)) (λ_ _=>rfl)) (zaa (zaQ zal.cl zal.n_many (dv 0)) (zaa (dv 3) zac)))))),λds S Q ex h=>by
  unfold zea at h
  split at h
  ·rename_i n w p g
   obtain⟨i,m,vs,bs,hn,hw,hp,ok,s1,hg,h⟩:=h
   refine zaM (n:=n) (λK hK=>by exact hK) hn rfl ?_
   refine zaF (o:=.lst (vs.map frD)) hw (zaP ok.1) ?_
   refine zaM (n:=n) (λK hK=>by exact hK) hn rfl ?_
   have a:=s1.at ok.1
   have sg:Sz 21 g:=Sz.of 1000000 (by omega)
   refine⟨⟨ok.2.1,ok.2.2,a.2.1,a.2.2,hg.1,sg.mono (by decide)⟩,λm' M' hP=>?_⟩
   obtain⟨rfl,rfl⟩:=hP.eq (by have:=ok.2.1; omega)
   exact h
  ·exact h.elim⟩)
def zv9  (zal:zbu K mg)(zjZ:Dm K zal.C "__init__" "Power.__init__" ziX zf3):Fm P w K mg base 1 zal.C "__init__" zf3 (zgP zal.C):=
 zjZ.mk' (zau (k:=0) zjZ.F zsh (zw0 zal.C) λcdv A outer s H E hr=>⟨_,(zae (zcm zal.cl zal.n_one (dv 0) (dv 1)) (zaf (zcm zal.cl zal.n_many (dv 0) (dv 2)))),λds S Q ex h=>by
  unfold zgP at h
  split at h
  ·rename_i n x y
   obtain⟨T,rfl,rfl,h⟩:=h
   refine zcq (v:=x) (S1:=T++[Ob.ins zal.C []]) (S2:=T++[Ob.ins zal.C []]) (n:=T.length) (fs:=[]) (λK hK=>by exact hK) (λK hK=>by exact hK) (zco ..) (by simp) ?_
   rw[zcj]
   refine zcq (v:=y) (S1:=T++[Ob.ins zal.C [("one",x)]]) (S2:=T++[Ob.ins zal.C [("one",x)]]) (n:=T.length) (fs:=[("one",x)]) (λK hK=>by exact hK) (λK hK=>by exact hK) (zco ..) (by simp) ?_
   rw[zcj]
   exact h
  ·exact h.elim⟩)
def zsm  (zam:zbt K mg)(zlu:Dm K zam.C "__init__" "Number.__init__" zkF zgM):Fm P w K mg base 1 zam.C "__init__" zgM (zgs zam.C):=
 zlu.mk' (zau (k:=0) zlu.F zwK (zsT zam.C) λcdv A outer s H E hr=>⟨_,(zae (zcm zam.cl zam.n_top (dv 0) (dv 1)) (zaf (zcm zam.cl zam.n_bottom (dv 0) (dv 2)))),λds S Q ex h=>by
  unfold zgs at h
  split at h
  ·rename_i n x y
   obtain⟨T,rfl,rfl,h⟩:=h
   refine zcq (v:=x) (S1:=T++[Ob.ins zam.C []]) (S2:=T++[Ob.ins zam.C []]) (n:=T.length) (fs:=[]) (λK hK=>by exact hK) (λK hK=>by exact hK) (zco ..) (by simp) ?_
   rw[zcj]
   refine zcq (v:=y) (S1:=T++[Ob.ins zam.C [("top",x)]]) (S2:=T++[Ob.ins zam.C [("top",x)]]) (n:=T.length) (fs:=[("top",x)]) (λK hK=>by exact hK) (λK hK=>by exact hK) (zco ..) (by simp) ?_
   rw[zcj]
   exact h
  ·exact h.elim⟩)
def zvT  (zan:zbv K mg)(zkj:Dm K zan.C "__init__" "Unknown.__init__" zjl zfU):Fm P w K mg base 1 zan.C "__init__" zfU (zhw zan.C):=
 zkj.mk' (zau (k:=0) zkj.F zsD (zrx zan.C) λcdv A outer s H E hr=>⟨_,(zaf (zcm zan.cl zan.n_place (dv 0) (dv 1))),λds S Q ex h=>by
  unfold zhw at h
  split at h
  ·rename_i n x
   obtain⟨T,rfl,rfl,h⟩:=h
   refine zcq (v:=x) (S1:=T++[Ob.ins zan.C []]) (S2:=T++[Ob.ins zan.C []]) (n:=T.length) (fs:=[]) (λK hK=>by exact hK) (λK hK=>by exact hK) (zco ..) (by simp) ?_
   rw[zcj]
   exact h
  ·exact h.elim⟩)
def zrd  (zaj:zbn K mg)(zh2:Dm K zaj.C "__init__" "Pair.__init__" zkH zfF):Fm P w K mg base 1 zaj.C "__init__" zfF (zgh zaj.C):=
 zh2.mk' (zau (k:=0) zh2.F zxu (zsA zaj.C) λcdv A outer s H E hr=>⟨_,(zae (zcm zaj.cl zaj.n_one (dv 0) (dv 1)) (zaf (zcm zaj.cl zaj.n_other (dv 0) (dv 2)))),λds S Q ex h=>by
  unfold zgh at h
  split at h
  ·rename_i n x y
   obtain⟨T,rfl,rfl,h⟩:=h
   refine zcq (v:=x) (S1:=T++[Ob.ins zaj.C []]) (S2:=T++[Ob.ins zaj.C []]) (n:=T.length) (fs:=[]) (λK hK=>by exact hK) (λK hK=>by exact hK) (zco ..) (by simp) ?_
   rw[zcj]
   refine zcq (v:=y) (S1:=T++[Ob.ins zaj.C [("one",x)]]) (S2:=T++[Ob.ins zaj.C [("one",x)]]) (n:=T.length) (fs:=[("one",x)]) (λK hK=>by exact hK) (λK hK=>by exact hK) (zco ..) (by simp) ?_
   rw[zcj]
   exact h
  ·exact h.elim⟩)
def zug  (zah:zbr K mg)(zlE:Dm K zah.C "__init__" "Pair.__init__" zk4 zhk):Fm P w K mg base 1 zah.C "__init__" zhk (zgn zah.C):=
 zlE.mk' (zau (k:=0) zlE.F zvO (zu5 zah.C) λcdv A outer s H E hr=>⟨_,(zae (zcm zah.cl zah.n_one (dv 0) (dv 1)) (zaf (zcm zah.cl zah.n_other (dv 0) (dv 2)))),λds S Q ex h=>by
  unfold zgn at h
  split at h
  ·rename_i n x y
   obtain⟨T,rfl,rfl,h⟩:=h
   refine zcq (v:=x) (S1:=T++[Ob.ins zah.C []]) (S2:=T++[Ob.ins zah.C []]) (n:=T.length) (fs:=[]) (λK hK=>by exact hK) (λK hK=>by exact hK) (zco ..) (by simp) ?_
   rw[zcj]
   refine zcq (v:=y) (S1:=T++[Ob.ins zah.C [("one",x)]]) (S2:=T++[Ob.ins zah.C [("one",x)]]) (n:=T.length) (fs:=[("one",x)]) (λK hK=>by exact hK) (λK hK=>by exact hK) (zco ..) (by simp) ?_
   rw[zcj]
   exact h
  ·exact h.elim⟩)
def ztp  (zai:zbm K mg)(zjV:Dm K zai.C "__init__" "Pair.__init__" zh8 zgw):Fm P w K mg base 1 zai.C "__init__" zgw (zf6 zai.C):=
 zjV.mk' (zau (k:=0) zjV.F zw3 (zvy zai.C) λcdv A outer s H E hr=>⟨_,(zae (zcm zai.cl zai.n_one (dv 0) (dv 1)) (zaf (zcm zai.cl zai.n_other (dv 0) (dv 2)))),λds S Q ex h=>by
  unfold zf6 at h
  split at h
  ·rename_i n x y
   obtain⟨T,rfl,rfl,h⟩:=h
   refine zcq (v:=x) (S1:=T++[Ob.ins zai.C []]) (S2:=T++[Ob.ins zai.C []]) (n:=T.length) (fs:=[]) (λK hK=>by exact hK) (λK hK=>by exact hK) (zco ..) (by simp) ?_
   rw[zcj]
   refine zcq (v:=y) (S1:=T++[Ob.ins zai.C [("one",x)]]) (S2:=T++[Ob.ins zai.C [("one",x)]]) (n:=T.length) (fs:=[("one",x)]) (λK hK=>by exact hK) (λK hK=>by exact hK) (zco ..) (by simp) ?_
   rw[zcj]
   exact h
  ·exact h.elim⟩)
def zsb  (zal:zbu K mg)(zai:zbm K mg)(zah:zbr K mg)(zaj:zbn K mg)(zan:zbv K mg)(zam:zbt K mg)(zmf:Df K mg "kind_of" zlj zeN)(zeC:Fm P w K mg base 1 zal.C "__init__" zf3 (zgP zal.C))(zd9:Fm P w K mg base 1 zai.C "__init__" zgw (zf6 zai.C))(zek:Fm P w K mg base 1 zah.C "__init__" zhk (zgn zah.C))(zfn:Fm P w K mg base 1 zaj.C "__init__" zfF (zgh zaj.C))(zfg:Fm P w K mg base 1 zan.C "__init__" zfU (zhw zan.C))(zeK:Fm P w K mg base 1 zam.C "__init__" zgM (zgs zam.C)):Fk P w K mg base 3 "kind_of" zeN (zen zam.C zan.C zaj.C zah.C zai.C zal.C):=
 zmf.mk' (zau (k:=2) zmf.F zrw (ztF zam.C zan.C zaj.C zah.C zai.C zal.C) λcdv A outer s H E hr=>⟨_,(zae (zaw (zas (zaI hr) (zad (dv 0) zab (λ_ _=>rfl)) zaL (zar _)) (zaf (zak (zec ⟨zam.makes,zeK.m.at_,zeK.m.fn,zam.kp⟩ zeK.ok (hr.mono (by decide)) rfl zam.m zeK.b zeP (zaa (zad (dv 0) zab (λ_ _=>rfl)) (zaa (zad (dv 0) zab (λ_ _=>rfl)) zac))))) zax) (zae (zaw (zas (zaI hr) (zad (dv 0) zab (λ_ _=>rfl)) zaL (zar _)) (zaf (zak (zec ⟨zan.makes,zfg.m.at_,zfg.m.fn,zan.kp⟩ zfg.ok (hr.mono (by decide)) rfl zan.m zfg.b zeP (zaa (zad (dv 0) zab (λ_ _=>rfl)) zac)))) zax) (zae (zaw (zas (zaI hr) (zad (dv 0) zab (λ_ _=>rfl)) zaL (zar _)) (zaf (zak (zec ⟨zaj.makes,zfn.m.at_,zfn.m.fn,zaj.kp⟩ zfn.ok (hr.mono (by decide)) rfl zaj.m zfn.b zeP (zaa (zad (dv 0) zab (λ_ _=>rfl)) (zaa (zad (dv 0) zab (λ_ _=>rfl)) zac))))) zax) (zae (zaw (zas (zaI hr) (zad (dv 0) zab (λ_ _=>rfl)) zaL (zar _)) (zaf (zak (zec ⟨zah.makes,zek.m.at_,zek.m.fn,zah.kp⟩ zek.ok (hr.mono (by decide)) rfl zah.m zek.b zeP (zaa (zad (dv 0) zab (λ_ _=>rfl)) (zaa (zad (dv 0) zab (λ_ _=>rfl)) zac))))) zax) (zae (zaw (zas (zaI hr) (zad (dv 0) zab (λ_ _=>rfl)) zaL (zar _)) (zaf (zak (zec ⟨zai.makes,zd9.m.at_,zd9.m.fn,zai.kp⟩ zd9.ok (hr.mono (by decide)) rfl zai.m zd9.b zeP (zaa (zad (dv 0) zab (λ_ _=>rfl)) (zaa (zad (dv 0) zab (λ_ _=>rfl)) zac))))) zax) (zaf (zak (zec ⟨zal.makes,zeC.m.at_,zeC.m.fn,zal.kp⟩ zeC.ok (hr.mono (by decide)) rfl zal.m zeC.b zeP (zaa (zad (dv 0) zab (λ_ _=>rfl)) (zaa (zad (dv 0) zab (λ_ _=>rfl)) zac)))))))))),λds S Q ex h=>by
  unfold zen at h
  split at h
  ·obtain⟨v,rfl,h⟩:=h
   cases v <;> exact⟨S,rfl,rfl,rfl,h⟩
  ·exact h.elim⟩)
def zrZ  (zal:zbu K mg)(zai:zbm K mg)(zah:zbr K mg)(zaj:zbn K mg)(zan:zbv K mg)(zam:zbt K mg)(zis:Df K mg "worths" ziO zeW)(znR:Fm P w K mg base 3 zal.C "forth" zfZ (zea zam.C zan.C zaj.C zah.C zai.C zal.C))(zm1:Fm P w K mg base 3 zai.C "forth" zfO (zei zam.C zan.C zaj.C zah.C zai.C zal.C))(zm9:Fm P w K mg base 2 zah.C "forth" zf2 (zfo zam.C zan.C zaj.C zah.C zai.C zal.C))(znN:Fm P w K mg base 2 zaj.C "forth" zgU (zeO zam.C zan.C zaj.C zah.C zai.C zal.C))(zob:Fm P w K mg base 1 zan.C "forth" zgl (zev zam.C zan.C zaj.C zah.C zai.C zal.C))(zou:Fm P w K mg base 3 zam.C "forth" zfR (zep zam.C zan.C zaj.C zah.C zai.C zal.C))(zeg:Fk P w K mg base 3 "kind_of" zeN (zen zam.C zan.C zaj.C zah.C zai.C zal.C)):Fk P w K mg base 4 "worths" zeW zeY:=
 zis.mk' (zau (k:=3) zis.F znK (zxw) λcdv A outer s H E hr=>⟨_,(zae (zap (i:=3) znK.nd rfl (Or.inl rfl) (zbg zac)) (zae (zcL (i:=4) PassesOwn.never rfl znK.nd rfl (Or.inl rfl) (dv 0) (zaf (zcZ (zc6 (dv 3) (zqL (zao zeg hr (zaa (dv 4) zac)) (zb8 zam.cl zou (hr.mono (by decide)) (zb8 zan.cl zob (hr.mono (by decide)) (zb8 zaj.cl znN (hr.mono (by decide)) (zb8 zah.cl zm9 (hr.mono (by decide)) (zb8 zai.cl zm1 (hr.mono (by decide)) (zb8 zal.cl znR (hr.mono (by decide)) zqF)))))) zcs (zaa (dv 3) (zaa (dv 1) (zaa (dv 2) zac)))))))) (zaf (zak (dv 3))))),λds S Q ex h=>by
  unfold zeY at h
  split at h
  ·rename_i a b g
   obtain⟨ns,ws,bs,ha,hb,net,sb,hg,hl,h⟩:=h
   have disp:∀v:Nd,∃C fs sd,v.ob zam.C zan.C zaj.C zah.C zai.C zal.C=.ins C fs∧(C,sd)∈[(zam.C,zep zam.C zan.C zaj.C zah.C zai.C zal.C),(zan.C,zev zam.C zan.C zaj.C zah.C zai.C zal.C),(zaj.C,zeO zam.C zan.C zaj.C zah.C zai.C zal.C),(zah.C,zfo zam.C zan.C zaj.C zah.C zai.C zal.C),(zai.C,zei zam.C zan.C zaj.C zah.C zai.C zal.C),(zal.C,zea zam.C zan.C zaj.C zah.C zai.C zal.C)]∧fs.lookup ("forth":Str)=none∧∀(n w p:Nat) (g:Int) (S:Sto) (Q:DK) (ex:Addr→Sto→Prop) (vs bs:List (Int×Int)),S[n]?=some (v.ob zam.C zan.C zaj.C zah.C zai.C zal.C)→S[w]?=some (.lst (vs.map frD))→S[p]?=some (.lst (bs.map frD))→v.ok vs.length bs.length→Spn 1400 vs→(1≤g∧g≤1000000)→Q (frD (v.fw vs bs g)) S→sd [.ref n,.ref w,.ref p,.int g] S Q ex:=by
    intro v
    cases v with
    | number x y=>exact⟨_,_,_,rfl,(.head _),rfl,λn w p g S Q ex vs bs a1 a2 a3 a4 a5 a6 q=>⟨x,y,vs,bs,a1,a2,a3,a4,a5,a6,q⟩⟩
    | unknown k=>exact⟨_,_,_,rfl,(.tail _ (.head _)),rfl,λn w p g S Q ex vs bs a1 a2 a3 a4 a5 a6 q=>⟨k,vs,bs,a1,a2,a3,a4,a5,a6,q⟩⟩
    | plus i j=>exact⟨_,_,_,rfl,(.tail _ (.tail _ (.head _))),rfl,λn w p g S Q ex vs bs a1 a2 a3 a4 a5 a6 q=>⟨i,j,vs,bs,a1,a2,a3,a4,a5,a6,q⟩⟩
    | minus i j=>exact⟨_,_,_,rfl,(.tail _ (.tail _ (.tail _ (.head _)))),rfl,λn w p g S Q ex vs bs a1 a2 a3 a4 a5 a6 q=>⟨i,j,vs,bs,a1,a2,a3,a4,a5,a6,q⟩⟩
    | times i j=>exact⟨_,_,_,rfl,(.tail _ (.tail _ (.tail _ (.tail _ (.head _))))),rfl,λn w p g S Q ex vs bs a1 a2 a3 a4 a5 a6 q=>⟨i,j,vs,bs,a1,a2,a3,a4,a5,a6,q⟩⟩
    | power i m=>exact⟨_,_,_,rfl,(.tail _ (.tail _ (.tail _ (.tail _ (.tail _ (.head _)))))),rfl,λn w p g S Q ex vs bs a1 a2 a3 a4 a5 a6 q=>⟨i,m,vs,bs,a1,a2,a3,a4,a5,a6,q⟩⟩
   have la:=zbR ha
   have lb:=zbR hb
   refine zcY (n:=a) (o:=.lst (ns.map Nd.d)) (λk dl' S'=>k≤ns.length∧Pre S S'∧S'[S.length]?=some (.lst ((zaK bs g (ns.take k)).map frD))∧∃u:Option D,dl'=[some (.ref a),some (.ref b),some (.int g),some (.ref S.length),u]) ⟨VaA _,Pre.refl.push,zaE _ _,_,rfl⟩ (λk dl' S' w=>w.2.1 _ _ ha) ?_ ?_
   ·rintro k x dl' S' nx ct ex' ⟨hk,pr,hf,u,rfl⟩ hn
    have ex2:(ns.map Nd.d)[k]?=some x:=ex'
    rw[Val] at ex2
    obtain⟨v,hv,rfl⟩:=Vaq.mp ex2
    have hk':=(Vab.mp hv).1
    have ln:(zaK bs g (ns.take k)).length=k:=by rw[zdo,Vaj]; omega
    have okv:v.ok (zaK bs g (ns.take k)).length bs.length:=by rw[ln]; exact(net.ok k v hv).1
    obtain⟨C,fs,sd,eo,hm,hf2,go⟩:=disp v
    have N1:=zaE S' (v.ob zam.C zan.C zaj.C zah.C zai.C zal.C)
    refine zuZ (n:=S.length) (S1:=S') (S2:=S'++[v.ob zam.C zan.C zaj.C zah.C zai.C zal.C]) (xs:=(zaK bs g (ns.take k)).map frD) (y:=frD (v.fw (zaK bs g (ns.take k)) bs g)) (λK hK=>by exact hK) hf (λK hK=>?_) (zaB hf) (by rw[Vac,ln]; omega) ?_
    ·refine zpQ (n:=S'.length) (C:=C) (sd:=sd) (fs:=fs) (S1:=S'++[v.ob zam.C zan.C zaj.C zah.C zai.C zal.C]) (λK hK=>⟨v,rfl,by exact hK⟩) (by rw[← eo]; exact N1) hm hf2 ?_
     exact go _ _ _ _ _ _ _ (zaK bs g (ns.take k)) bs N1 (zaB hf) (zaB (pr _ _ hb)) okv ((zjR net rfl sb hg k hk).mono (by decide)) hg hK
    ·refine hn _ _ ⟨by omega,zbN (zdU pr _) (Vaa _),?_,_,rfl⟩
     rw[zbP hv,ziv,VaE]
     exact zbA (zaB hf)
   ·rintro dl' S' ⟨hk,pr,hf,u,rfl⟩
    refine h _ _ pr (Vaa _) ?_
    have e:ns.take (zaz (.lst (ns.map Nd.d))).length=ns:=by
     show ns.take (ns.map Nd.d).length=ns
     rw[Vac,VaX]
    rw[e] at hf
    exact hf
  ·exact h.elim⟩)
def ztS  (zkT:Df K mg "is_barred" zjM zfl)(znu:Fk P w K mg base 1 "bars" zgG zgu)(zff:Fk P w K mg base 4 "worths" zeW zeY):Fk P w K mg base 5 "is_barred" zfl zeD:=
 zkT.mk' (zau (k:=4) zkT.F zpH (zxx) λcdv A outer s H E hr=>⟨_,(zae (zap (i:=4) zpH.nd rfl (Or.inl rfl) (zad (dv 1) zab (λ_ _=>rfl))) (zaf (zak (zao znu hr (zaa (zad (dv 1) zab (λ_ _=>rfl)) (zaa (zaO (zao zff hr (zaa (zdh (dv 0) zeE (zcy (zag za2 (dv 4) zab))) (zaa (dv 2) (zaa (dv 3) zac)))) (dv 4) (λ_ _=>rfl)) zac)))))),λds S Q ex h=>by
  unfold zeD at h
  split at h
  ·rename_i a w k b g
   obtain⟨ns,ws,bs,zero,ha,hb,hw,⟨k0,k1⟩,net,sb,hg,hl,h⟩:=h
   obtain⟨kn,rfl⟩:∃kn:Nat,k=(kn:Int):=⟨k.toNat,by omega⟩
   rw[Vae] at h
   refine zc9 (n:=a) (o:=.lst (ns.map Nd.d)) (lo:=none) (hi:=some ((kn:Int)+1)) (S3:=S) (λK hK=>by exact hK) (λK hK=>by exact hK) (λK hK=>by exact hK) ha ?_
   have ec:zaS (ns.map Nd.d) none (some ((kn:Int)+1))=(ns.take (kn+1)).map Nd.d:=by
    rw[zgq (by omega) (by rw[Vac]; omega),List.map_take]
    rfl
   rw[show zaz (Ob.lst (ns.map Nd.d))=ns.map Nd.d from rfl,ec]
   refine⟨ns.take (kn+1),ws.take (kn+1),bs,zaE _ _,zaB hb,net.take _,sb,hg,by rw[Vaj]; omega,λT m pr lm hf=>?_⟩
   have prS:Pre S T:=λn o e=>pr n o (zaB e)
   have l1:(zaK bs g (ns.take (kn+1))).length=kn+1:=by rw[zdo,Vaj]; omega
   have ik:inR (((zaK bs g (ns.take (kn+1))).length:Nat):Int) (kn:Int):=⟨by omega,by omega⟩
   refine zaF (o:=.lst ((zaK bs g (ns.take (kn+1))).map frD)) hf (zaP ik) ?_
   rcases hw with ⟨rfl,rfl⟩ | ⟨rfl,rfl⟩
   ·exact .inl ⟨rfl,h T prS⟩
   ·exact .inr ⟨rfl,h T prS⟩
  ·exact h.elim⟩)
def zuG  (zjb:Df K mg "common" zid zcS)(zbe:mg "min"=none)(zaT:mg "max"=none):Fk P w K mg base 1 "common" zcS zc7:=
 zjb.mk' (zau (k:=0) zjb.F zno (zts) λcdv A outer s H E hr=>⟨_,(zae (zap (i:=2) zno.nd rfl (Or.inl rfl) (za0 (zcx rfl) rfl zaT Boot.«max» (zaa (zad (dv 0) zab (λ_ _=>rfl)) (zaa (zad (dv 1) zab (λ_ _=>rfl)) zac)))) (zae (zap (i:=3) zno.nd rfl (Or.inl rfl) (za0 (zeo rfl) rfl zbe Boot.«min» (zaa (zad (dv 0) zab (λ_ _=>rfl)) (zaa (zad (dv 1) zab (λ_ _=>rfl)) zac)))) (zae (zaw (zas zdV (dv 2) (dv 3) (zar _)) (zaf (zak zaZ)) zax) (zaf (zak (zaA (zaa (dv 2) (zaa (dv 3) zac)))))))),λds S Q ex h=>by
  unfold zc7 at h
  split at h
  ·rename_i a b c d
   obtain⟨h1,h2⟩:=h
   unfold zaX at h1 h2
   refine ifD (λe=>?_) (λe=>?_)
   ·exact h1 (if_pos e)
   ·exact h2 _ (if_neg e)
  ·exact h.elim⟩)
def zuJ  (zlW:Df K mg "asked_of" zmE zhE)(zby:Fk P w K mg base 1 "common" zcS zc7)(zaT:mg "max"=none):Fk P w K mg base 2 "asked_of" zhE zgF:=
 zlW.mk' (zau (k:=1) zlW.F zvo (zwx) λcdv A outer s H E hr=>⟨_,(zae (zaw (zas (zaI hr) (dv 0) zaL (zar _)) (zaf (zak (zao zby hr (zaa (dv 1) (zaa (zaA (zaa zab (zaa zab zac))) zac))))) zax) (zaf (zak (zao zby hr (zaa (dv 1) (zaa (zaA (zaa zab (zaa (za0 (zcx rfl) rfl zaT Boot.«max» (zaa (zad (dv 1) zab (λ_ _=>rfl)) (zaa zab zac))) zac))) zac)))))),λds S Q ex h=>by
  unfold zgF at h
  split at h
  ·rename_i w a b
   obtain⟨zero,hw,h⟩:=h
   rcases hw with ⟨rfl,rfl⟩ | ⟨rfl,rfl⟩
   ·exact h
   ·exact h
  ·exact h.elim⟩)
def zsL  (zam:zbt K mg)(zan:zbv K mg)(zaj:zbn K mg)(zah:zbr K mg)(zai:zbm K mg)(zal:zbu K mg)(zih:Dm K zam.C "back" "Number.back" zmk zgC):Fm P w K mg base 1 zam.C "back" zgC (ze6 zam.C zan.C zaj.C zah.C zai.C zal.C):=
 zih.mk' (zau (k:=0) zih.F zt9 (zwf zam.C zan.C zaj.C zah.C zai.C zal.C) λcdv A outer s H E hr=>⟨_,(zaf (zak (zbg zac))),λds S Q ex h=>by
  unfold ze6 at h
  split at h
  ·rename_i n w z0 z1 g
   obtain⟨x,y,vs,q,hn,hw,ok,hs,⟨hz,sz0,sz1⟩,hg,h1,h2⟩:=h
   exact h2 [] rfl
  ·exact h.elim⟩)
def zuS  (zam:zbt K mg)(zan:zbv K mg)(zaj:zbn K mg)(zah:zbr K mg)(zai:zbm K mg)(zal:zbu K mg)(zlM:Dm K zan.C "back" "Unknown.back" zlQ zhG):Fm P w K mg base 1 zan.C "back" zhG (zd5 zam.C zan.C zaj.C zah.C zai.C zal.C):=
 zlM.mk' (zau (k:=0) zlM.F zu9 (zua zam.C zan.C zaj.C zah.C zai.C zal.C) λcdv A outer s H E hr=>⟨_,(zaf (zak (zbg zac))),λds S Q ex h=>by
  unfold zd5 at h
  split at h
  ·rename_i n w z0 z1 g
   obtain⟨k,vs,q,hn,hw,ok,hs,⟨hz,sz0,sz1⟩,hg,h1,h2⟩:=h
   exact h2 [] rfl
  ·exact h.elim⟩)
def zuj  (zaj:zbn K mg)(zjL:Dm K zaj.C "first_left" "Plus.first_left" zkL zf1)(zby:Fk P w K mg base 1 "common" zcS zc7)(zch:Fk P w K mg base 1 "take_spans" zdy zdD):Fm P w K mg base 2 zaj.C "first_left" zf1 zhb:=
 zjL.mk' (zau (k:=1) zjL.F zxf (zwE) λcdv A outer s H E hr=>⟨_,(zaf (zak (zao zby hr (zaa (dv 2) (zaa (zao zch hr (zaa (dv 1) (zaa (dv 3) zac))) zac))))),λds S Q ex h=>by
  unfold zhb at h
  split at h
  ·exact h
  ·exact h.elim⟩)
def zsN  (zaj:zbn K mg)(zlx:Dm K zaj.C "second_left" "Plus.second_left" zma zho)(zby:Fk P w K mg base 1 "common" zcS zc7)(zch:Fk P w K mg base 1 "take_spans" zdy zdD):Fm P w K mg base 2 zaj.C "second_left" zho zgY:=
 zlx.mk' (zau (k:=1) zlx.F zxq (zxX) λcdv A outer s H E hr=>⟨_,(zaf (zak (zao zby hr (zaa (dv 3) (zaa (zao zch hr (zaa (dv 1) (zaa (dv 2) zac))) zac))))),λds S Q ex h=>by
  unfold zgY at h
  split at h
  ·exact h
  ·exact h.elim⟩)
def zxI  (zaj:zbn K mg)(zam:zbt K mg)(zan:zbv K mg)(zah:zbr K mg)(zai:zbm K mg)(zal:zbu K mg)(ziL:Dm K zaj.C "back" "Pair.back" zlD zgt)(zhT:Fm P w K mg base 2 zaj.C "second_left" zho zgY)(zhp:Fm P w K mg base 2 zaj.C "first_left" zf1 zhb):Fm P w K mg base 3 zaj.C "back" zgt (zd8 zam.C zan.C zaj.C zah.C zai.C zal.C):=
 ziL.mk' (zau (k:=2) ziL.F zk2 (zq8 zam.C zan.C zaj.C zah.C zai.C zal.C) λcdv A outer s H E hr=>⟨_,(zae (zap (i:=4) zk2.nd rfl (Or.inl rfl) (zeZ (C:=zaj.C) (dv 0) zaj.cl zhp.m zhp.ok (hr.mono (by decide)) zhp.b zcs (zaa (dv 2) (zaa (zaO (dv 1) (zaQ zaj.cl zaj.n_one (dv 0)) (λ_ _=>rfl)) (zaa (zaO (dv 1) (zaQ zaj.cl zaj.n_other (dv 0)) (λ_ _=>rfl)) (zaa (dv 3) zac)))))) (zae (zaw (zas zbI (dv 4) zaZ (zar _)) (zaf (zak zaZ)) zax) (zae (zap (i:=5) zk2.nd rfl (Or.inl rfl) (zcO (zas (zaI hr) (zaQ zaj.cl zaj.n_one (dv 0)) (zaQ zaj.cl zaj.n_other (dv 0)) (zar _)) (dv 4) (zaO (dv 1) (zaQ zaj.cl zaj.n_other (dv 0)) (λ_ _=>rfl)))) (zae (zap (i:=5) zk2.nd rfl (Or.inl rfl) (zeZ (C:=zaj.C) (dv 0) zaj.cl zhT.m zhT.ok (hr.mono (by decide)) zhT.b zcs (zaa (dv 2) (zaa (dv 4) (zaa (dv 5) (zaa (dv 3) zac)))))) (zae (zaw (zas zbI (dv 5) zaZ (zar _)) (zaf (zak zaZ)) zax) (zaf (zak (zbg (zaa (zaA (zaa (zaQ zaj.cl zaj.n_one (dv 0)) (zaa (dv 4) zac))) (zaa (zaA (zaa (zaQ zaj.cl zaj.n_other (dv 0)) (zaa (dv 5) zac))) zac)))))))))),λds S Q ex h=>by
  unfold zd8 at h
  split at h
  ·rename_i n w z0 z1 g
   obtain⟨i,j,vs,q,hn,hw,ok,hs,⟨hz,sz0,sz1⟩,hg,h1,h2⟩:=h
   refine zc1 (n:=n) (fs:=[("one",.int i),("other",.int j)]) (λK hK=>by exact hK) hn rfl ?_
   refine zaM (n:=n) (λK hK=>by exact hK) hn rfl ?_
   refine zaF (o:=.lst (vs.map frD)) hw (zaP ok.1) ?_
   refine zaM (n:=n) (λK hK=>by exact hK) hn rfl ?_
   refine zaF (o:=.lst (vs.map frD)) hw (zaP ok.2) ?_
   refine⟨λe=>?_,λx' e=>?_⟩
   ·have e':zaX (gt vs i) (z0-(gt vs j).2,z1-(gt vs j).1)=none:=e
    refine h1 ?_
    unfold Nd.bk bk2
    dsimp only
    rw[e']
   ·have e':zaX (gt vs i) (z0-(gt vs j).2,z1-(gt vs j).1)=some x':=e
    refine zaM (n:=n) (λK hK=>by exact hK) hn rfl ?_
    refine zaM (n:=n) (λK hK=>by exact hK) hn rfl ?_
    refine ifD (λc=>?_) (λc=>?_)
    ·skip
     refine zc1 (n:=n) (fs:=[("one",.int i),("other",.int j)]) (λK hK=>by exact hK) hn rfl ?_
     refine⟨λe2=>?_,λy' e2=>?_⟩
     ·refine h1 ?_
      unfold Nd.bk bk2
      dsimp only
      rw[e']
      dsimp only
      rw[if_pos c,show zaX x' (z0-x'.2,z1-x'.1)=none from e2]
     ·refine zaM (n:=n) (λK hK=>by exact hK) hn rfl ?_
      refine zaM (n:=n) (λK hK=>by exact hK) hn rfl ?_
      refine h2 [(i,x'),(j,y')] ?_
      unfold Nd.bk bk2
      dsimp only
      rw[e']
      dsimp only
      rw[if_pos c,show zaX x' (z0-x'.2,z1-x'.1)=some y' from e2]
    ·refine zaM (n:=n) (λK hK=>by exact hK) hn rfl ?_
     refine zaF (o:=.lst (vs.map frD)) hw (zaP ok.2) ?_
     refine zc1 (n:=n) (fs:=[("one",.int i),("other",.int j)]) (λK hK=>by exact hK) hn rfl ?_
     refine⟨λe2=>?_,λy' e2=>?_⟩
     ·refine h1 ?_
      unfold Nd.bk bk2
      dsimp only
      rw[e']
      dsimp only
      rw[if_neg c,show zaX (gt vs j) (z0-x'.2,z1-x'.1)=none from e2]
     ·refine zaM (n:=n) (λK hK=>by exact hK) hn rfl ?_
      refine zaM (n:=n) (λK hK=>by exact hK) hn rfl ?_
      refine h2 [(i,x'),(j,y')] ?_
      unfold Nd.bk bk2
      dsimp only
      rw[e']
      dsimp only
      rw[if_neg c,show zaX (gt vs j) (z0-x'.2,z1-x'.1)=some y' from e2]
  ·exact h.elim⟩)
def zwY  (zah:zbr K mg)(ziy:Dm K zah.C "first_left" "Minus.first_left" zk3 zgx)(zby:Fk P w K mg base 1 "common" zcS zc7)(ze0:Fk P w K mg base 1 "add_spans" zeI zeF):Fm P w K mg base 2 zah.C "first_left" zgx zgg:=
 ziy.mk' (zau (k:=1) ziy.F zxV (zuv) λcdv A outer s H E hr=>⟨_,(zaf (zak (zao zby hr (zaa (dv 2) (zaa (zao ze0 hr (zaa (dv 1) (zaa (dv 3) zac))) zac))))),λds S Q ex h=>by
  unfold zgg at h
  split at h
  ·exact h
  ·exact h.elim⟩)
def zvD  (zah:zbr K mg)(zjK:Dm K zah.C "second_left" "Minus.second_left" ziJ zf9)(zby:Fk P w K mg base 1 "common" zcS zc7)(zch:Fk P w K mg base 1 "take_spans" zdy zdD):Fm P w K mg base 2 zah.C "second_left" zf9 zhu:=
 zjK.mk' (zau (k:=1) zjK.F zw2 (ztj) λcdv A outer s H E hr=>⟨_,(zaf (zak (zao zby hr (zaa (dv 3) (zaa (zao zch hr (zaa (dv 2) (zaa (dv 1) zac))) zac))))),λds S Q ex h=>by
  unfold zhu at h
  split at h
  ·exact h
  ·exact h.elim⟩)
def zrc  (zah:zbr K mg)(zam:zbt K mg)(zan:zbv K mg)(zaj:zbn K mg)(zai:zbm K mg)(zal:zbu K mg)(zk7:Dm K zah.C "back" "Pair.back" zkn zgc)(zfJ:Fm P w K mg base 2 zah.C "second_left" zf9 zhu)(zfS:Fm P w K mg base 2 zah.C "first_left" zgx zgg):Fm P w K mg base 3 zah.C "back" zgc (zfp zam.C zan.C zaj.C zah.C zai.C zal.C):=
 zk7.mk' (zau (k:=2) zk7.F zmN (ztH zam.C zan.C zaj.C zah.C zai.C zal.C) λcdv A outer s H E hr=>⟨_,(zae (zap (i:=4) zmN.nd rfl (Or.inl rfl) (zeZ (C:=zah.C) (dv 0) zah.cl zfS.m zfS.ok (hr.mono (by decide)) zfS.b zcs (zaa (dv 2) (zaa (zaO (dv 1) (zaQ zah.cl zah.n_one (dv 0)) (λ_ _=>rfl)) (zaa (zaO (dv 1) (zaQ zah.cl zah.n_other (dv 0)) (λ_ _=>rfl)) (zaa (dv 3) zac)))))) (zae (zaw (zas zbI (dv 4) zaZ (zar _)) (zaf (zak zaZ)) zax) (zae (zap (i:=5) zmN.nd rfl (Or.inl rfl) (zcO (zas (zaI hr) (zaQ zah.cl zah.n_one (dv 0)) (zaQ zah.cl zah.n_other (dv 0)) (zar _)) (dv 4) (zaO (dv 1) (zaQ zah.cl zah.n_other (dv 0)) (λ_ _=>rfl)))) (zae (zap (i:=5) zmN.nd rfl (Or.inl rfl) (zeZ (C:=zah.C) (dv 0) zah.cl zfJ.m zfJ.ok (hr.mono (by decide)) zfJ.b zcs (zaa (dv 2) (zaa (dv 4) (zaa (dv 5) (zaa (dv 3) zac)))))) (zae (zaw (zas zbI (dv 5) zaZ (zar _)) (zaf (zak zaZ)) zax) (zaf (zak (zbg (zaa (zaA (zaa (zaQ zah.cl zah.n_one (dv 0)) (zaa (dv 4) zac))) (zaa (zaA (zaa (zaQ zah.cl zah.n_other (dv 0)) (zaa (dv 5) zac))) zac)))))))))),λds S Q ex h=>by
  unfold zfp at h
  split at h
  ·rename_i n w z0 z1 g
   obtain⟨i,j,vs,q,hn,hw,ok,hs,⟨hz,sz0,sz1⟩,hg,h1,h2⟩:=h
   refine zc1 (n:=n) (fs:=[("one",.int i),("other",.int j)]) (λK hK=>by exact hK) hn rfl ?_
   refine zaM (n:=n) (λK hK=>by exact hK) hn rfl ?_
   refine zaF (o:=.lst (vs.map frD)) hw (zaP ok.1) ?_
   refine zaM (n:=n) (λK hK=>by exact hK) hn rfl ?_
   refine zaF (o:=.lst (vs.map frD)) hw (zaP ok.2) ?_
   refine⟨λe=>?_,λx' e=>?_⟩
   ·have e':zaX (gt vs i) (z0+(gt vs j).1,z1+(gt vs j).2)=none:=e
    refine h1 ?_
    unfold Nd.bk bk2
    dsimp only
    rw[e']
   ·have e':zaX (gt vs i) (z0+(gt vs j).1,z1+(gt vs j).2)=some x':=e
    refine zaM (n:=n) (λK hK=>by exact hK) hn rfl ?_
    refine zaM (n:=n) (λK hK=>by exact hK) hn rfl ?_
    refine ifD (λc=>?_) (λc=>?_)
    ·skip
     refine zc1 (n:=n) (fs:=[("one",.int i),("other",.int j)]) (λK hK=>by exact hK) hn rfl ?_
     refine⟨λe2=>?_,λy' e2=>?_⟩
     ·refine h1 ?_
      unfold Nd.bk bk2
      dsimp only
      rw[e']
      dsimp only
      rw[if_pos c,show zaX x' (x'.1-z1,x'.2-z0)=none from e2]
     ·refine zaM (n:=n) (λK hK=>by exact hK) hn rfl ?_
      refine zaM (n:=n) (λK hK=>by exact hK) hn rfl ?_
      refine h2 [(i,x'),(j,y')] ?_
      unfold Nd.bk bk2
      dsimp only
      rw[e']
      dsimp only
      rw[if_pos c,show zaX x' (x'.1-z1,x'.2-z0)=some y' from e2]
    ·refine zaM (n:=n) (λK hK=>by exact hK) hn rfl ?_
     refine zaF (o:=.lst (vs.map frD)) hw (zaP ok.2) ?_
     refine zc1 (n:=n) (fs:=[("one",.int i),("other",.int j)]) (λK hK=>by exact hK) hn rfl ?_
     refine⟨λe2=>?_,λy' e2=>?_⟩
     ·refine h1 ?_
      unfold Nd.bk bk2
      dsimp only
      rw[e']
      dsimp only
      rw[if_neg c,show zaX (gt vs j) (x'.1-z1,x'.2-z0)=none from e2]
     ·refine zaM (n:=n) (λK hK=>by exact hK) hn rfl ?_
      refine zaM (n:=n) (λK hK=>by exact hK) hn rfl ?_
      refine h2 [(i,x'),(j,y')] ?_
      unfold Nd.bk bk2
      dsimp only
      rw[e']
      dsimp only
      rw[if_neg c,show zaX (gt vs j) (x'.1-z1,x'.2-z0)=some y' from e2]
  ·exact h.elim⟩)
def zsX  (zjj:Df K mg "holds_nought" zmv zgy):Fk P w K mg base 1 "holds_nought" zgy zhf:=
 zjj.mk' (zau (k:=0) zjj.F zvi (zq1) λcdv A outer s H E hr=>⟨_,(zaf (zak (zqT zdM zdM (zad (dv 0) zab (λ_ _=>rfl)) zab (zad (dv 0) zab (λ_ _=>rfl))))),λds S Q ex h=>by
  unfold zhf at h
  split at h
  ·exact and2 h
  ·exact h.elim⟩)
def zwi  (zlR:Df K mg "part_between" zj1 zfj)(zbe:mg "min"=none)(zaT:mg "max"=none):Fk P w K mg base 1 "part_between" zfj ze2:=
 zlR.mk' (zau (k:=0) zlR.F zw1 (ztD) λcdv A outer s H E hr=>⟨_,(zae (zaw (PDW.pt (zbQ (zas zdV (zad (dv 1) zab (λ_ _=>rfl)) (zad (dv 0) zab (λ_ _=>rfl)) (zar _)) (zcI (zas zbf (zad (dv 2) zab (λ_ _=>rfl)) (zad (dv 0) zab (λ_ _=>rfl)) (zar _))))) (zaf (zak zaZ)) zax) (zaf (zak (zaA (zaa (za0 (zcx rfl) rfl zaT Boot.«max» (zaa (zad (dv 1) zab (λ_ _=>rfl)) (zaa (zad (dv 0) zab (λ_ _=>rfl)) zac))) (zaa (za0 (zeo rfl) rfl zbe Boot.«min» (zaa (zad (dv 2) zab (λ_ _=>rfl)) (zaa (zad (dv 0) zab (λ_ _=>rfl)) zac))) zac)))))),λds S Q ex h=>by
  unfold ze2 at h
  split at h
  ·rename_i x0 x1 l0 l1 k0 k1
   obtain⟨h1,h2⟩:=h
   unfold ptB at h1 h2
   refine ifD (λc=>h1 (if_pos c)) (λc1=>ifD (λc=>h1 (by rw[if_neg c1,if_pos c])) (λc2=>?_))
   have z:=h2 (if x0 > l0 then x0 else l0,if x1<k1 then x1 else k1) (by rw[if_neg c1,if_neg c2])
   exact z
  ·exact h.elim⟩)
def zrr  (zjk:Df K mg "quotient" zlY zhA)(zcf:Fk P w K mg base 1 "rounded_up" zds zde):Fk P w K mg base 2 "quotient" zhA zhx:=
 zjk.mk' (zau (k:=1) zjk.F zvV (zsw) λcdv A outer s H E hr=>⟨_,(zaf (zak (zaA (zaa (zag zcp (dv 0) (dv 1)) (zaa (zao zcf hr (zaa (dv 0) (zaa (dv 1) zac))) zac))))),λds S Q ex h=>by
  unfold zhx at h
  split at h
  ·obtain⟨hb,h⟩:=h
   exact⟨hb,hb,h⟩
  ·exact h.elim⟩)
def zvI  (ziK:Df K mg "back_by_side" zmF zg9)(zdf:Fk P w K mg base 1 "part_between" zfj ze2)(zlA:Fk P w K mg base 2 "quotient" zhA zhx):Fk P w K mg base 3 "back_by_side" zg9 zgb:=
 ziK.mk' (zau (k:=2) ziK.F zgH (zv2) λcdv A outer s H E hr=>⟨_,(zae (zap (i:=3) zgH.nd rfl (Or.inl rfl) (zcO (zas zdV (zad (dv 0) zab (λ_ _=>rfl)) zab (zar _)) (zad (dv 2) zab (λ_ _=>rfl)) (zad (dv 2) zab (λ_ _=>rfl)))) (zae (zap (i:=4) zgH.nd rfl (Or.inl rfl) (zcO (zas zbf (zad (dv 0) zab (λ_ _=>rfl)) zab (zar _)) (zad (dv 2) zab (λ_ _=>rfl)) (zad (dv 2) zab (λ_ _=>rfl)))) (zae (zap (i:=5) zgH.nd rfl (Or.inl rfl) (zcO (zas (zaI hr) (dv 3) zab (zar _)) (zaA (zaa (zad (dv 1) zab (λ_ _=>rfl)) (zaa (zad (dv 1) zab (λ_ _=>rfl)) zac))) (zao zlA hr (zaa (zad (dv 0) zab (λ_ _=>rfl)) (zaa (dv 3) zac))))) (zae (zap (i:=6) zgH.nd rfl (Or.inl rfl) (zcO (zas (zaI hr) (dv 4) zab (zar _)) (zaA (zaa (zad (dv 1) zab (λ_ _=>rfl)) (zaa (zad (dv 1) zab (λ_ _=>rfl)) zac))) (zao zlA hr (zaa (zad (dv 0) zab (λ_ _=>rfl)) (zaa (dv 4) zac))))) (zaf (zak (zao zdf hr (zaa (dv 1) (zaa (dv 5) (zaa (dv 6) zac)))))))))),λds S Q ex h=>by
  unfold zgb at h
  split at h
  ·rename_i lo hi x0 x1 c d
   obtain⟨⟨h0,hd,zc,zd⟩,h⟩:=h
   unfold sdS loE hiE zaV zaR at h
   refine ifD (λe1=>?_) (λe1=>?_)
   all_goals first | rw[if_pos e1] at h | rw[if_neg e1] at h
   all_goals refine ifD (λe2=>?_) (λe2=>?_)
   all_goals first | rw[if_pos e2] at h | rw[if_neg e2] at h
   all_goals refine ifD (λe3=>?_) (λe3=>?_)
   all_goals try refine⟨⟨by omega,by first | exact zd.log (by omega) | exact zc.log (by omega)⟩,?_⟩
   all_goals refine ifD (λe4=>?_) (λe4=>?_)
   all_goals try refine⟨⟨by omega,by first | exact zd.log (by omega) | exact zc.log (by omega)⟩,?_⟩
   all_goals
    first | rw[if_pos e3] at h | rw[if_neg e3] at h
    try first | rw[if_pos e4] at h | rw[if_neg e4] at h
    exact h
  ·exact h.elim⟩)
def zuN  (zl8:Df K mg "hull" zi3 zhB)(zaT:mg "max"=none)(zbe:mg "min"=none):Fk P w K mg base 1 "hull" zhB zhm:=
 zl8.mk' (zau (k:=0) zl8.F zsC (zxS) λcdv A outer s H E hr=>⟨_,(zaf (zak (zaA (zaa (za0 (zeo rfl) rfl zbe Boot.«min» (zaa (zad (dv 0) zab (λ_ _=>rfl)) (zaa (zad (dv 1) zab (λ_ _=>rfl)) zac))) (zaa (za0 (zcx rfl) rfl zaT Boot.«max» (zaa (zad (dv 0) zab (λ_ _=>rfl)) (zaa (zad (dv 1) zab (λ_ _=>rfl)) zac))) zac))))),λds S Q ex h=>by
  unfold zhm at h
  split at h
  ·exact h
  ·exact h.elim⟩)
def zrK  (zms:Df K mg "joined" zlb zd4)(zoc:Fk P w K mg base 1 "hull" zhB zhm):Fk P w K mg base 2 "joined" zd4 zel:=
 zms.mk' (zau (k:=1) zms.F ztw (zwF) λcdv A outer s H E hr=>⟨_,(zae (zaw (zas zbI (dv 0) zaZ (zar _)) (zaf (zak (dv 1))) zax) (zae (zaw (zas zbI (dv 1) zaZ (zar _)) (zaf (zak (dv 0))) zax) (zaf (zak (zao zoc hr (zaa (dv 0) (zaa (dv 1) zac))))))),λds S Q ex h=>by
  unfold zel at h
  split at h
  ·exact h
  ·exact h
  ·exact h
  ·exact h.elim⟩)
def zw8  (zlc:Df K mg "opposite" zkK zdr):Fk P w K mg base 1 "opposite" zdr zdg:=
 zlc.mk' (zau (k:=0) zlc.F zvG (zvw) λcdv A outer s H E hr=>⟨_,(zaf (zak (zaA (zaa (zcF zcJ (zad (dv 0) zab (λ_ _=>rfl))) (zaa (zcF zcJ (zad (dv 0) zab (λ_ _=>rfl))) zac))))),λds S Q ex h=>by
  unfold zdg at h
  split at h
  ·exact h
  ·exact h.elim⟩)
def zuH  (zl3:Df K mg "back_times" zir zeA)(zd3:Fk P w K mg base 2 "joined" zd4 zel)(zim:Fk P w K mg base 3 "back_by_side" zg9 zgb)(zbY:Fk P w K mg base 1 "opposite" zdr zdg)(zmr:Fk P w K mg base 1 "holds_nought" zgy zhf)(zaT:mg "max"=none):Fk P w K mg base 4 "back_times" zeA zfh:=
 zl3.mk' (zau (k:=3) zl3.F zeG (zvz) λcdv A outer s H E hr=>⟨_,(zae (zaw (PDW.pt (zdk (zbh (zao zmr hr (zaa (dv 2) zac))) (zeR (zbh (zao zmr hr (zaa (dv 0) zac)))))) (zaf (zak (dv 1))) zax) (zae (zap (i:=4) zeG.nd rfl (Or.inl rfl) (zaA (zaa (zag zaH (zad (dv 0) zab (λ_ _=>rfl)) (dv 3)) (zaa (zag zaH (zad (dv 0) zab (λ_ _=>rfl)) (dv 3)) zac)))) (zae (zap (i:=5) zeG.nd rfl (Or.inl rfl) zaZ) (zae (zaw (zas zdV (zad (dv 2) zab (λ_ _=>rfl)) zab (zar _)) (zaf (zap (i:=5) zeG.nd rfl (Or.inl rfl) (zao zim hr (zaa (dv 4) (zaa (dv 1) (zaa (zaA (zaa (za0 (zcx rfl) rfl zaT Boot.«max» (zaa (zad (dv 2) zab (λ_ _=>rfl)) (zaa zab zac))) (zaa (zad (dv 2) zab (λ_ _=>rfl)) zac))) zac)))))) zax) (zae (zaw (zas zbf (zad (dv 2) zab (λ_ _=>rfl)) zab (zar _)) (zae (zap (i:=6) zeG.nd rfl (Or.inl rfl) (zao zim hr (zaa (zao zbY hr (zaa (dv 4) zac)) (zaa (dv 1) (zaa (zaA (zaa (za0 (zcx rfl) rfl zaT Boot.«max» (zaa (zcF zcJ (zad (dv 2) zab (λ_ _=>rfl))) (zaa zab zac))) (zaa (zcF zcJ (zad (dv 2) zab (λ_ _=>rfl))) zac))) zac))))) (zaf (zap (i:=5) zeG.nd rfl (Or.inl rfl) (zao zd3 hr (zaa (dv 5) (zaa (dv 6) zac)))))) zax) (zaf (zak (dv 5)))))))),λds S Q ex h=>by
  unfold zfh at h
  split at h
  ·rename_i z0 z1 x0 x1 y0 y1 g
   obtain⟨⟨hy,sz0,sz1,sy0,sy1,sg⟩,hn,ht⟩:=h
   have eq:¬ ((y0≤0∧0≤y1)∧z0≤0∧0≤z1)→btS (z0,z1) (x0,x1) (y0,y1) g=joS (if y1 > 0 then sdS (z0*g) (z1*g) (x0,x1) (mx0 y0) y1 else none) (if y0<0 then sdS (-(z1*g)) (-(z0*g)) (x0,x1) (mx0 (-y1)) (-y0) else none):=λn=>if_neg n
   refine if2 (λa1 a2=>?_) (λn=>?_)
   ·refine if2 (λb1 b2=>?_) (λn=>?_)
    ·exact ht (x0,x1) (if_pos ⟨⟨a1,a2⟩,b1,b2⟩)
    ·have eb:=eq λz=>n z.2
     refine⟨zaG sz0 sg,zaG sz1 sg,?_⟩
     refine ifD (λc1=>?_) (λc1=>?_)
     ·refine⟨⟨zb2 _,c1,zc8 (sy0.mono (by decide)),sy1.mono (by decide)⟩,λn1=>?_,λL t1=>?_⟩
      ·refine ifD (λc2=>?_) (λc2=>?_)
       ·refine⟨⟨zb2 _,by omega,zc8 (sy1.neg.mono (by decide)),sy0.neg.mono (by decide)⟩,λn2=>?_,λL' t2=>?_⟩
        ·exact hn (by rw[eb,if_pos c1,if_pos c2,n1,n2]; rfl)
        ·exact ht _ (by rw[eb,if_pos c1,if_pos c2,n1,t2]; rfl)
       ·exact hn (by rw[eb,if_pos c1,if_neg c2,n1]; rfl)
      ·refine ifD (λc2=>?_) (λc2=>?_)
       ·refine⟨⟨zb2 _,by omega,zc8 (sy1.neg.mono (by decide)),sy0.neg.mono (by decide)⟩,λn2=>?_,λL' t2=>?_⟩
        ·exact ht _ (by rw[eb,if_pos c1,if_pos c2,t1,n2]; rfl)
        ·have z:=ht (if L'.1<L.1 then L'.1 else L.1,if L'.2 > L.2 then L'.2 else L.2) (by rw[eb,if_pos c1,if_pos c2,t1,t2]; rfl)
         exact z
       ·exact ht _ (by rw[eb,if_pos c1,if_neg c2,t1]; rfl)
     ·refine ifD (λc2=>?_) (λc2=>?_)
      ·refine⟨⟨zb2 _,by omega,zc8 (sy1.neg.mono (by decide)),sy0.neg.mono (by decide)⟩,λn2=>?_,λL' t2=>?_⟩
       ·exact hn (by rw[eb,if_neg c1,if_pos c2,n2]; rfl)
       ·exact ht _ (by rw[eb,if_neg c1,if_pos c2,t2]; rfl)
      ·exact hn (by rw[eb,if_neg c1,if_neg c2]; rfl)
   ·have eb:=eq λz=>n z.1
    refine⟨zaG sz0 sg,zaG sz1 sg,?_⟩
    refine ifD (λc1=>?_) (λc1=>?_)
    ·refine⟨⟨zb2 _,c1,zc8 (sy0.mono (by decide)),sy1.mono (by decide)⟩,λn1=>?_,λL t1=>?_⟩
     ·refine ifD (λc2=>?_) (λc2=>?_)
      ·refine⟨⟨zb2 _,by omega,zc8 (sy1.neg.mono (by decide)),sy0.neg.mono (by decide)⟩,λn2=>?_,λL' t2=>?_⟩
       ·exact hn (by rw[eb,if_pos c1,if_pos c2,n1,n2]; rfl)
       ·exact ht _ (by rw[eb,if_pos c1,if_pos c2,n1,t2]; rfl)
      ·exact hn (by rw[eb,if_pos c1,if_neg c2,n1]; rfl)
     ·refine ifD (λc2=>?_) (λc2=>?_)
      ·refine⟨⟨zb2 _,by omega,zc8 (sy1.neg.mono (by decide)),sy0.neg.mono (by decide)⟩,λn2=>?_,λL' t2=>?_⟩
       ·exact ht _ (by rw[eb,if_pos c1,if_pos c2,t1,n2]; rfl)
       ·have z:=ht (if L'.1<L.1 then L'.1 else L.1,if L'.2 > L.2 then L'.2 else L.2) (by rw[eb,if_pos c1,if_pos c2,t1,t2]; rfl)
        exact z
      ·exact ht _ (by rw[eb,if_pos c1,if_neg c2,t1]; rfl)
    ·refine ifD (λc2=>?_) (λc2=>?_)
     ·refine⟨⟨zb2 _,by omega,zc8 (sy1.neg.mono (by decide)),sy0.neg.mono (by decide)⟩,λn2=>?_,λL' t2=>?_⟩
      ·exact hn (by rw[eb,if_neg c1,if_pos c2,n2]; rfl)
      ·exact ht _ (by rw[eb,if_neg c1,if_pos c2,t2]; rfl)
     ·exact hn (by rw[eb,if_neg c1,if_neg c2]; rfl)
  ·exact h.elim⟩)
def zvu  (zai:zbm K mg)(zif:Dm K zai.C "first_left" "Times.first_left" zl2 zfz)(zeh:Fk P w K mg base 4 "back_times" zeA zfh):Fm P w K mg base 5 zai.C "first_left" zfz zfr:=
 zif.mk' (zau (k:=4) zif.F zxC (zxH) λcdv A outer s H E hr=>⟨_,(zaf (zak (zao zeh hr (zaa (dv 1) (zaa (dv 2) (zaa (dv 3) (zaa (dv 4) zac))))))),λds S Q ex h=>by
  unfold zfr at h
  split at h
  ·exact h
  ·exact h.elim⟩)
def ztx  (zai:zbm K mg)(zjA:Dm K zai.C "second_left" "Times.second_left" zko zgi)(zeh:Fk P w K mg base 4 "back_times" zeA zfh):Fm P w K mg base 5 zai.C "second_left" zgi zgO:=
 zjA.mk' (zau (k:=4) zjA.F zuL (zve) λcdv A outer s H E hr=>⟨_,(zaf (zak (zao zeh hr (zaa (dv 1) (zaa (dv 3) (zaa (dv 2) (zaa (dv 4) zac))))))),λds S Q ex h=>by
  unfold zgO at h
  split at h
  ·exact h
  ·exact h.elim⟩)
def zu7  (zai:zbm K mg)(zam:zbt K mg)(zan:zbv K mg)(zaj:zbn K mg)(zah:zbr K mg)(zal:zbu K mg)(zkp:Dm K zai.C "back" "Pair.back" zmo zf5)(zfw:Fm P w K mg base 5 zai.C "second_left" zgi zgO)(zfy:Fm P w K mg base 5 zai.C "first_left" zfz zfr):Fm P w K mg base 6 zai.C "back" zf5 (zer zam.C zan.C zaj.C zah.C zai.C zal.C):=
 zkp.mk' (zau (k:=5) zkp.F zl1 (zs4 zam.C zan.C zaj.C zah.C zai.C zal.C) λcdv A outer s H E hr=>⟨_,(zae (zap (i:=4) zl1.nd rfl (Or.inl rfl) (zeZ (C:=zai.C) (dv 0) zai.cl zfy.m zfy.ok (hr.mono (by decide)) zfy.b zcs (zaa (dv 2) (zaa (zaO (dv 1) (zaQ zai.cl zai.n_one (dv 0)) (λ_ _=>rfl)) (zaa (zaO (dv 1) (zaQ zai.cl zai.n_other (dv 0)) (λ_ _=>rfl)) (zaa (dv 3) zac)))))) (zae (zaw (zas zbI (dv 4) zaZ (zar _)) (zaf (zak zaZ)) zax) (zae (zap (i:=5) zl1.nd rfl (Or.inl rfl) (zcO (zas (zaI hr) (zaQ zai.cl zai.n_one (dv 0)) (zaQ zai.cl zai.n_other (dv 0)) (zar _)) (dv 4) (zaO (dv 1) (zaQ zai.cl zai.n_other (dv 0)) (λ_ _=>rfl)))) (zae (zap (i:=5) zl1.nd rfl (Or.inl rfl) (zeZ (C:=zai.C) (dv 0) zai.cl zfw.m zfw.ok (hr.mono (by decide)) zfw.b zcs (zaa (dv 2) (zaa (dv 4) (zaa (dv 5) (zaa (dv 3) zac)))))) (zae (zaw (zas zbI (dv 5) zaZ (zar _)) (zaf (zak zaZ)) zax) (zaf (zak (zbg (zaa (zaA (zaa (zaQ zai.cl zai.n_one (dv 0)) (zaa (dv 4) zac))) (zaa (zaA (zaa (zaQ zai.cl zai.n_other (dv 0)) (zaa (dv 5) zac))) zac)))))))))),λds S Q ex h=>by
  unfold zer at h
  split at h
  ·rename_i n w z0 z1 g
   obtain⟨i,j,vs,q,hn,hw,ok,hs,⟨hz,sz0,sz1⟩,hg,h1,h2⟩:=h
   have a:=hs.at ok.1
   have b:=hs.at ok.2
   have sg:Sz 30 g:=Sz.of 1000000 (by omega)
   refine zc1 (n:=n) (fs:=[("one",.int i),("other",.int j)]) (λK hK=>by exact hK) hn rfl ?_
   refine zaM (n:=n) (λK hK=>by exact hK) hn rfl ?_
   refine zaF (o:=.lst (vs.map frD)) hw (zaP ok.1) ?_
   refine zaM (n:=n) (λK hK=>by exact hK) hn rfl ?_
   refine zaF (o:=.lst (vs.map frD)) hw (zaP ok.2) ?_
   refine⟨⟨b.1,sz0.mono (by decide),sz1.mono (by decide),b.2.1.mono (by decide),b.2.2.mono (by decide),sg⟩,λe=>?_,λx' e=>?_⟩
   ·have e':btS (z0,z1) (gt vs i) (gt vs j) g=none:=e
    refine h1 ?_
    unfold Nd.bk bk2
    dsimp only
    rw[e']
   ·have e':btS (z0,z1) (gt vs i) (gt vs j) g=some x':=e
    have zx:=Sz.in2 a.2.1 a.2.2 (zoy (z:=(z0,z1)) hz a.1 b.1 hg.1 x' e')
    refine zaM (n:=n) (λK hK=>by exact hK) hn rfl ?_
    refine zaM (n:=n) (λK hK=>by exact hK) hn rfl ?_
    refine ifD (λc=>?_) (λc=>?_)
    ·skip
     refine zc1 (n:=n) (fs:=[("one",.int i),("other",.int j)]) (λK hK=>by exact hK) hn rfl ?_
     refine⟨⟨zx.1,sz0.mono (by decide),sz1.mono (by decide),zx.2.1.mono (by decide),zx.2.2.mono (by decide),sg⟩,λe2=>?_,λy' e2=>?_⟩
     ·refine h1 ?_
      unfold Nd.bk bk2
      dsimp only
      rw[e']
      dsimp only
      rw[if_pos c,show btS (z0,z1) x' x' g=none from e2]
     ·refine zaM (n:=n) (λK hK=>by exact hK) hn rfl ?_
      refine zaM (n:=n) (λK hK=>by exact hK) hn rfl ?_
      refine h2 [(i,x'),(j,y')] ?_
      unfold Nd.bk bk2
      dsimp only
      rw[e']
      dsimp only
      rw[if_pos c,show btS (z0,z1) x' x' g=some y' from e2]
    ·refine zaM (n:=n) (λK hK=>by exact hK) hn rfl ?_
     refine zaF (o:=.lst (vs.map frD)) hw (zaP ok.2) ?_
     refine zc1 (n:=n) (fs:=[("one",.int i),("other",.int j)]) (λK hK=>by exact hK) hn rfl ?_
     refine⟨⟨zx.1,sz0.mono (by decide),sz1.mono (by decide),zx.2.1.mono (by decide),zx.2.2.mono (by decide),sg⟩,λe2=>?_,λy' e2=>?_⟩
     ·refine h1 ?_
      unfold Nd.bk bk2
      dsimp only
      rw[e']
      dsimp only
      rw[if_neg c,show btS (z0,z1) (gt vs j) x' g=none from e2]
     ·refine zaM (n:=n) (λK hK=>by exact hK) hn rfl ?_
      refine zaM (n:=n) (λK hK=>by exact hK) hn rfl ?_
      refine h2 [(i,x'),(j,y')] ?_
      unfold Nd.bk bk2
      dsimp only
      rw[e']
      dsimp only
      rw[if_neg c,show btS (z0,z1) (gt vs j) x' g=some y' from e2]
  ·exact h.elim⟩)
def zxj  (zib:Df K mg "next_guess" zmj zgJ)(zbx:Fk P w K mg base 1 "raised" zcM zcP):Fk P w K mg base 2 "next_guess" zgJ zf4:=
 zib.mk' (zau (k:=1) zib.F ztM (zxe) λcdv A outer s H E hr=>⟨_,(zaf (zak (zag zcp (zag za2 (zag zaH (zag zbH (dv 2) zab) (dv 0)) (zag zcp (dv 1) (zao zbx hr (zaa (dv 0) (zaa (zag zbH (dv 2) zab) zac))))) (dv 2)))),λds S Q ex h=>by
  unfold zf4 at h
  split at h
  ·rename_i g N n
   obtain⟨⟨n2,n6,hg,sg⟩,h⟩:=h
   have zn:Sz 800 (n-1):=Sz.of 6 (by omega)
   have gp:(0:Int)<g^(n-1).toNat:=Vaw hg
   exact⟨zaG zn sg,⟨by omega,by omega,sg.mono (by decide)⟩,((sg.pow (n-1).toNat).mono (show _≤4001 by omega)).fd gp,(Sz.of (n:=800) 6 (by omega):Sz 800 n).fd (by omega),h⟩
  ·exact h.elim⟩)
def zsu  (zh5:Df K mg "root_below" zjp zfq)(zjh:Fk P w K mg base 2 "next_guess" zgJ zf4):Fk P w K mg base 3 "root_below" zfq zew:=
 zh5.mk' (zau (k:=2) zh5.F zhK (zst) λcdv A outer s H E hr=>⟨_,(zae (zaw (zas (zaI hr) (dv 0) zab (zar _)) (zaf (zak zab)) zax) (zae (zap (i:=2) zhK.nd rfl (Or.inl rfl) (zag zsU zab (zag za2 (zag zcp (ztm (dv 0)) (dv 1)) zab))) (zae (zap (i:=3) zhK.nd rfl (Or.inl rfl) (zao zjh hr (zaa (dv 2) (zaa (dv 0) (zaa (dv 1) zac))))) (zae (zqu PassesOwn.never (zas zbf (dv 3) (dv 2) (zar _)) (zae (zap (i:=2) zhK.nd rfl (Or.inl rfl) (dv 3)) (zaf (zap (i:=3) zhK.nd rfl (Or.inl rfl) (zao zjh hr (zaa (dv 2) (zaa (dv 0) (zaa (dv 1) zac)))))))) (zaf (zak (dv 2))))))),λds S Q ex h=>by
  unfold zew at h
  split at h
  ·rename_i N n
   obtain⟨⟨n2,n6,h0,sN⟩,h⟩:=h
   have hn:1≤n.toNat:=by omega
   refine ifD (λc=>?_) (λc=>?_)
   ·subst c
    exact h 0 (by omega) (Sz.of 0 (by decide)) (by rw[znp hn]; omega) (by
     have:(0:Int)<(0+1)^n.toNat:=Vaw (by omega)
     exact this)
   ·obtain⟨r,r0,r1,r2⟩:=zpw hn h0
    have rp:1≤r:=by
     by_cases z:r=0
     ·subst z
      have e:((0:Int)+1)^n.toNat=1:=by rw[Int.zero_add]; exact Int.one_pow
      omega
     ·omega
    refine⟨(Sz.of (n:=800) 6 (by omega):Sz 800 n).fd (by omega),?_⟩
    have d3:=Int.ediv_nonneg (show (0:Int)≤(Builtin.Int.intBits N:Int) by omega) (show 0≤n by omega)
    have d4:(Builtin.Int.intBits N:Int)/n≤(Builtin.Int.intBits N:Int):=Int.ediv_le_self _ (by omega)
    have d5:=sN.bits
    refine⟨⟨by omega,by omega,by decide⟩,?_⟩
    have s0:=(zsc n2 sN).mono (show 652≤800 by decide)
    have g0:(0:Int)<1*2^((Builtin.Int.intBits N:Int)/n+1).toNat:=by rw[Int.one_mul]; exact Vaw (by decide)
    have rg:r≤1*2^((Builtin.Int.intBits N:Int)/n+1).toNat:=by
     have:=plt (n:=n.toNat) (Vay g0) (Int.lt_of_le_of_lt r1 (zsa h0 (by omega)))
     omega
    refine⟨⟨n2,n6,g0,s0⟩,?_⟩
    refine⟨λm dl' S'=>S'=S∧∃x:Int,dl'=[some (.int N),some (.int n),some (.int x),some (.int (((n-1)*x+N/x^(n-1).toNat)/n))]∧0<x∧r≤x∧Sz 800 x∧m=x.toNat,⟨_,rfl,_,rfl,g0,rg,s0,rfl⟩,?_⟩
    rintro m dl' S' ⟨rfl,x,rfl,x0,rx,sx,rfl⟩
    have e:=zrB (n:=n) (g:=x) (N:=N) (by omega)
    have ge:=zuW hn r0 x0 r1
    rw[← e] at ge
    refine ifD (λc=>?_) (λc=>?_)
    ·have s1:Sz 800 (((n-1)*x+N/x^(n-1).toNat)/n):=Sz.mid (a:=0) (Sz.of 0 (by decide)) sx (by omega) (by omega)
     exact⟨⟨n2,n6,by omega,s1⟩,_,by omega,rfl,_,rfl,by omega,by omega,s1,rfl⟩
    ·have xr:x=r:=by
      by_cases z:N<x^n.toNat
      ·have lt:=ztX hn x0 z
       rw[← e] at lt
       omega
      ·have:=plt (n:=n.toNat) (show 0≤r+1 by omega) (show x^n.toNat<(r+1)^n.toNat by omega)
       omega
     subst xr
     exact h x r0 sx r1 r2
  ·exact h.elim⟩)
def zwI (zcR:Df K mg "root" zfQ zcT)(zbx:Fk P w K mg base 1 "raised" zcM zcP)(zey:Fk P w K mg base 3 "root_below" zfq zew)(zbY:Fk P w K mg base 1 "opposite" zdr zdg)(zon:Fk P w K mg base 0 "root" zcT zo8):Fk P w K mg base 4 "root" zcT zhJ:=
 zcR.mk' (zau (k:=3) zcR.F zj2 zsk λcdv A outer s H E hr=>⟨_,(zae (zaw (zas zbf (dv 0) zab (zar _)) (zaf (zak (zao zbY hr (zaa (zos zon (hr.mono (by decide)) zcs rfl (zaa (zcF zcJ (dv 0)) (zaa (dv 1) zac))) zac)))) zax) (zae (zap (i:=2) zj2.nd rfl (Or.inl rfl) (zao zey hr (zaa (dv 0) (zaa (dv 1) zac)))) (zae (zaw (zas (zaI hr) (zao zbx hr (zaa (dv 2) (zaa (dv 1) zac))) (dv 0) (zar _)) (zaf (zak (zaA (zaa (dv 2) (zaa (dv 2) zac))))) zax) (zaf (zak (zaA (zaa (dv 2) (zaa (zag za2 (dv 2) zab) zac)))))))),λds S Q ex h=>by
  unfold zhJ at h
  split at h
  ·rename_i N n
   obtain⟨⟨n2,n6,h0,sN⟩,h⟩:=h
   refine ifD (λc=>absurd c (by omega)) (λc=>?_)
   refine⟨⟨n2,n6,h0,sN⟩,λr r0 sr r1 r2=>?_⟩
   have e:=znB r0 r1 r2
   unfold rt0 at h
   rw[← e] at h
   refine⟨⟨by omega,n6,sr.mono (by decide)⟩,?_⟩
   refine ifD (λe2=>?_) (λe2=>?_)
   ·rw[if_pos e2] at h
    exact h
   ·rw[if_neg e2] at h
    exact h
  ·exact h.elim⟩)
def zun (zcR:Df K mg "root" zfQ zcT)(zbx:Fk P w K mg base 1 "raised" zcM zcP)(zey:Fk P w K mg base 3 "root_below" zfq zew)(zbY:Fk P w K mg base 1 "opposite" zdr zdg)(zon:Fk P w K mg base 4 "root" zcT zhJ):Fk P w K mg base 5 "root" zcT zhs:=
 zcR.mk' (zau (k:=4) zcR.F zj2 zq2 λcdv A outer s H E hr=>⟨_,(zae (zaw (zas zbf (dv 0) zab (zar _)) (zaf (zak (zao zbY hr (zaa (zos zon (hr.mono (by decide)) zcs rfl (zaa (zcF zcJ (dv 0)) (zaa (dv 1) zac))) zac)))) zax) (zae (zap (i:=2) zj2.nd rfl (Or.inl rfl) (zao zey hr (zaa (dv 0) (zaa (dv 1) zac)))) (zae (zaw (zas (zaI hr) (zao zbx hr (zaa (dv 2) (zaa (dv 1) zac))) (dv 0) (zar _)) (zaf (zak (zaA (zaa (dv 2) (zaa (dv 2) zac))))) zax) (zaf (zak (zaA (zaa (dv 2) (zaa (zag za2 (dv 2) zab) zac)))))))),λds S Q ex h=>by
  unfold zhs at h
  split at h
  ·rename_i N n
   obtain⟨⟨n2,n6,ok,sN⟩,h⟩:=h
   unfold rtS at h
   refine ifD (λc=>?_) (λc=>?_)
   ·rw[if_pos c] at h
    exact⟨⟨n2,n6,by omega,sN.neg⟩,h⟩
   ·have h0:0≤N:=by omega
    rw[if_neg c] at h
    refine⟨⟨n2,n6,h0,sN⟩,λr r0 sr r1 r2=>?_⟩
    have e:=znB r0 r1 r2
    unfold rt0 at h
    rw[← e] at h
    refine⟨⟨by omega,n6,sr.mono (by decide)⟩,?_⟩
    refine ifD (λe2=>?_) (λe2=>?_)
    ·rw[if_pos e2] at h
     exact h
    ·rw[if_neg e2] at h
     exact h
  ·exact h.elim⟩)
def zt8  (zmz:Df K mg "back_power" zlS zfA)(zd3:Fk P w K mg base 2 "joined" zd4 zel)(zdf:Fk P w K mg base 1 "part_between" zfj ze2)(zbY:Fk P w K mg base 1 "opposite" zdr zdg)(zfb:Fk P w K mg base 5 "root" zcT zhs)(zbx:Fk P w K mg base 1 "raised" zcM zcP)(zaT:mg "max"=none):Fk P w K mg base 6 "back_power" zfA zfI:=
 zmz.mk' (zau (k:=5) zmz.F zhL (zui) λcdv A outer s H E hr=>⟨_,(zae (zap (i:=4) zhL.nd rfl (Or.inl rfl) (zao zbx hr (zaa (dv 3) (zaa (zag zbH (dv 2) zab) zac)))) (zae (zap (i:=5) zhL.nd rfl (Or.inl rfl) (zaA (zaa (zag zaH (zad (dv 0) zab (λ_ _=>rfl)) (dv 4)) (zaa (zag zaH (zad (dv 0) zab (λ_ _=>rfl)) (dv 4)) zac)))) (zae (zaw (zas (zaI hr) (zag za8 (dv 2) zab) zab (zar _)) (zaf (zak (zao zdf hr (zaa (dv 1) (zaa (zao zfb hr (zaa (zad (dv 5) zab (λ_ _=>rfl)) (zaa (dv 2) zac))) (zaa (zao zfb hr (zaa (zad (dv 5) zab (λ_ _=>rfl)) (zaa (dv 2) zac))) zac)))))) zax) (zae (zaw (zas zbf (zad (dv 5) zab (λ_ _=>rfl)) zab (zar _)) (zaf (zak zaZ)) zax) (zae (zap (i:=6) zhL.nd rfl (Or.inl rfl) (zao zfb hr (zaa (za0 (zcx rfl) rfl zaT Boot.«max» (zaa (zad (dv 5) zab (λ_ _=>rfl)) (zaa zab zac))) (zaa (dv 2) zac)))) (zae (zap (i:=7) zhL.nd rfl (Or.inl rfl) (zao zfb hr (zaa (zad (dv 5) zab (λ_ _=>rfl)) (zaa (dv 2) zac)))) (zaf (zak (zao zd3 hr (zaa (zao zdf hr (zaa (dv 1) (zaa (dv 6) (zaa (dv 7) zac)))) (zaa (zao zdf hr (zaa (dv 1) (zaa (zao zbY hr (zaa (dv 7) zac)) (zaa (zao zbY hr (zaa (dv 6) zac)) zac)))) zac))))))))))),λds S Q ex h=>by
  unfold zfI at h
  split at h
  ·rename_i z0 z1 x0 x1 n g
   obtain⟨⟨n2,n6,g1,sg,sz0,sz1⟩,hn,ht⟩:=h
   refine⟨⟨by omega,by omega,sg.mono (by decide)⟩,?_⟩
   have sgp:Sz 181 (g^(n-1).toNat):=(sg.pow _).mono (by omega)
   refine⟨zaG sz0 sgp,zaG sz1 sgp,?_⟩
   have slo:Sz 1300 (z0*g^(n-1).toNat):=(sz0.mul sgp).mono (by decide)
   have shi:Sz 1300 (z1*g^(n-1).toNat):=(sz1.mul sgp).mono (by decide)
   unfold bpS at hn ht
   dsimp only at hn ht
   generalize g^(n-1).toNat=G at *
   refine ifD (λe=>?_) (λe=>?_)
   ·rw[if_pos e] at hn ht
    exact⟨⟨n2,n6,.inl e,slo⟩,⟨n2,n6,.inl e,shi⟩,hn,ht⟩
   ·rw[if_neg e] at hn ht
    refine ifD (λe2=>?_) (λe2=>?_)
    ·exact hn (if_pos e2)
    ·rw[if_neg e2] at hn ht
     refine⟨⟨n2,n6,.inr (zb2 _),(by show Sz 1300 (mx0 (z0*G)); unfold mx0; split; exact Sz.of 0 (by decide) (Nat.pow_pos (by decide)); exact slo)⟩,?_⟩
     refine⟨⟨n2,n6,.inr (by omega),shi⟩,?_⟩
     refine⟨λq1=>?_,λp1 q1=>?_⟩
     ·refine⟨λq2=>hn ?_,λp2 q2=>ht _ ?_⟩
      ·rw[q1,q2]; rfl
      ·rw[q1,q2]; rfl
     ·refine⟨λq2=>ht _ ?_,λp2 q2=>?_⟩
      ·rw[q1,q2]; rfl
      ·have z:=ht (if p2.1<p1.1 then p2.1 else p1.1,if p2.2 > p1.2 then p2.2 else p1.2) (by rw[q1,q2]; rfl)
       exact z
  ·exact h.elim⟩)
def zq4  (zal:zbu K mg)(zam:zbt K mg)(zan:zbv K mg)(zaj:zbn K mg)(zah:zbr K mg)(zai:zbm K mg)(zjo:Dm K zal.C "back" "Power.back" zh1 zgS)(zmX:Fk P w K mg base 6 "back_power" zfA zfI):Fm P w K mg base 7 zal.C "back" zgS (ze5 zam.C zan.C zaj.C zah.C zai.C zal.C):=
 zjo.mk' (zau (k:=6) zjo.F zpz (ztY zam.C zan.C zaj.C zah.C zai.C zal.C) λcdv A outer s H E hr=>⟨_,(zae (zap (i:=4) zpz.nd rfl (Or.inl rfl) (zao zmX hr (zaa (dv 2) (zaa (zaO (dv 1) (zaQ zal.cl zal.n_one (dv 0)) (λ_ _=>rfl)) (zaa (zaQ zal.cl zal.n_many (dv 0)) (zaa (dv 3) zac)))))) (zae (zaw (zas zbI (dv 4) zaZ (zar _)) (zaf (zak zaZ)) zax) (zaf (zak (zbg (zaa (zaA (zaa (zaQ zal.cl zal.n_one (dv 0)) (zaa (dv 4) zac))) zac)))))),λds S Q ex h=>by
  unfold ze5 at h
  split at h
  ·rename_i n w z0 z1 g
   obtain⟨i,m,vs,q,hn,hw,ok,hs,⟨hz,sz0,sz1⟩,hg,h1,h2⟩:=h
   refine zaM (n:=n) (λK hK=>by exact hK) hn rfl ?_
   refine zaF (o:=.lst (vs.map frD)) hw (zaP ok.1) ?_
   refine zaM (n:=n) (λK hK=>by exact hK) hn rfl ?_
   have sg:Sz 30 g:=Sz.of 1000000 (by omega)
   refine⟨⟨ok.2.1,ok.2.2,hg.1,sg,sz0.mono (by decide),sz1.mono (by decide)⟩,λe=>?_,λx' e=>?_⟩
   ·refine h1 ?_
    show (match bpS (z0,z1) (gt vs i) m g with | none=>none | some x=>some [(i,x)])=none
    rw[show bpS (z0,z1) (gt vs i) m g=none from e]
   ·refine zaM (n:=n) (λK hK=>by exact hK) hn rfl ?_
    refine h2 [(i,x')] ?_
    show (match bpS (z0,z1) (gt vs i) m g with | none=>none | some x=>some [(i,x)])=_
    rw[show bpS (z0,z1) (gt vs i) m g=some x' from e]
  ·exact h.elim⟩)
def ztE  (zal:zbu K mg)(zai:zbm K mg)(zah:zbr K mg)(zaj:zbn K mg)(zan:zbv K mg)(zam:zbt K mg)(zi1:Df K mg "spans_back" zjd zgE)(zmR:Fm P w K mg base 7 zal.C "back" zgS (ze5 zam.C zan.C zaj.C zah.C zai.C zal.C))(znH:Fm P w K mg base 6 zai.C "back" zf5 (zer zam.C zan.C zaj.C zah.C zai.C zal.C))(zor:Fm P w K mg base 3 zah.C "back" zgc (zfp zam.C zan.C zaj.C zah.C zai.C zal.C))(zn2:Fm P w K mg base 3 zaj.C "back" zgt (zd8 zam.C zan.C zaj.C zah.C zai.C zal.C))(znf:Fm P w K mg base 1 zan.C "back" zhG (zd5 zam.C zan.C zaj.C zah.C zai.C zal.C))(znz:Fm P w K mg base 1 zam.C "back" zgC (ze6 zam.C zan.C zaj.C zah.C zai.C zal.C))(zeg:Fk P w K mg base 3 "kind_of" zeN (zen zam.C zan.C zaj.C zah.C zai.C zal.C))(zn5:Fk P w K mg base 2 "asked_of" zhE zgF)(zff:Fk P w K mg base 4 "worths" zeW zeY)(zbb:mg "range"=none):Fk P w K mg base 8 "spans_back" zgE zhU:=
 zi1.mk' (zau (k:=7) zi1.F zdP (zwD) λcdv A outer s H E hr=>⟨_,(zae (zap (i:=4) zdP.nd rfl (Or.inl rfl) (zad (dv 1) zab (λ_ _=>rfl))) (zae (zap (i:=5) zdP.nd rfl (Or.inl rfl) (zao zff hr (zaa (zdh (dv 0) zeE (zcy (zag za2 (dv 4) zab))) (zaa (dv 2) (zaa (dv 3) zac))))) (zae (zap (i:=6) zdP.nd rfl (Or.inl rfl) (zao zn5 hr (zaa (zad (dv 1) zab (λ_ _=>rfl)) (zaa (zaO (dv 5) (dv 4) (λ_ _=>rfl)) zac)))) (zae (zaw (zas zbI (dv 6) zaZ (zar _)) (zaf (zak zaZ)) zax) (zae (zkO (dv 5) (dv 4) (dv 6)) (zae (zvd (i:=7) PassesOwn.never rfl zdP.nd rfl (Or.inl rfl) rfl zbb (zaa (dv 4) (zaa (zcF zcJ zab) (zaa (zcF zcJ zab) zac))) (zae (zap (i:=8) zdP.nd rfl (Or.inl rfl) (zqL (zao zeg hr (zaa (zaO (dv 0) (dv 7) (λ_ _=>rfl)) zac)) (zb8 zam.cl znz (hr.mono (by decide)) (zb8 zan.cl znf (hr.mono (by decide)) (zb8 zaj.cl zn2 (hr.mono (by decide)) (zb8 zah.cl zor (hr.mono (by decide)) (zb8 zai.cl znH (hr.mono (by decide)) (zb8 zal.cl zmR (hr.mono (by decide)) zqF)))))) zcs (zaa (dv 5) (zaa (zaO (dv 5) (dv 7) (λ_ _=>rfl)) (zaa (dv 3) zac))))) (zae (zaw (zas zbI (dv 8) zaZ (zar _)) (zaf (zak zaZ)) zax) (zaf (zcL (i:=9) PassesOwn.never rfl zdP.nd rfl (Or.inl rfl) (dv 8) (zaf (zkO (dv 5) (zad (dv 9) zab (λ_ _=>rfl)) (zad (dv 9) zab (λ_ _=>rfl))))))))) (zaf (zak (dv 5))))))))),λds S Q ex h=>by
  unfold zhU at h
  split at h
  ·rename_i a w k b g
   obtain⟨ns,ws,bs,zero,ha,hb,hw,⟨k0,k1⟩,net,sb,hg,hl,h1,h2⟩:=h
   have disp:∀v:Nd,∃C fs sd,v.ob zam.C zan.C zaj.C zah.C zai.C zal.C=.ins C fs∧(C,sd)∈[(zam.C,ze6 zam.C zan.C zaj.C zah.C zai.C zal.C),(zan.C,zd5 zam.C zan.C zaj.C zah.C zai.C zal.C),(zaj.C,zd8 zam.C zan.C zaj.C zah.C zai.C zal.C),(zah.C,zfp zam.C zan.C zaj.C zah.C zai.C zal.C),(zai.C,zer zam.C zan.C zaj.C zah.C zai.C zal.C),(zal.C,ze5 zam.C zan.C zaj.C zah.C zai.C zal.C)]∧fs.lookup ("back":Str)=none∧∀(n w:Nat) (z:Int×Int) (g q:Int) (S:Sto) (Q:DK) (ex:Addr→Sto→Prop) (vs:List (Int×Int)),S[n]?=some (v.ob zam.C zan.C zaj.C zah.C zai.C zal.C)→S[w]?=some (.lst (vs.map frD))→v.ok vs.length q→Spn 1000 vs→(z.1≤z.2∧Sz 1000 z.1∧Sz 1000 z.2)→(1≤g∧g≤1000000)→(v.bk vs z g=none→Q .non S)→(∀l,v.bk vs z g=some l→Q (.ref S.length) (S++[.lst (l.map ptD)]))→sd [.ref n,.ref w,frD z,.int g] S Q ex:=by
    intro v
    cases v with
    | number x y=>exact⟨_,_,_,rfl,(.head _),rfl,λn w z g q S Q ex vs a1 a2 a3 a4 a5 a6 q1 q2=>⟨x,y,vs,q,a1,a2,a3,a4,a5,a6,q1,q2⟩⟩
    | unknown k=>exact⟨_,_,_,rfl,(.tail _ (.head _)),rfl,λn w z g q S Q ex vs a1 a2 a3 a4 a5 a6 q1 q2=>⟨k,vs,q,a1,a2,a3,a4,a5,a6,q1,q2⟩⟩
    | plus i j=>exact⟨_,_,_,rfl,(.tail _ (.tail _ (.head _))),rfl,λn w z g q S Q ex vs a1 a2 a3 a4 a5 a6 q1 q2=>⟨i,j,vs,q,a1,a2,a3,a4,a5,a6,q1,q2⟩⟩
    | minus i j=>exact⟨_,_,_,rfl,(.tail _ (.tail _ (.tail _ (.head _)))),rfl,λn w z g q S Q ex vs a1 a2 a3 a4 a5 a6 q1 q2=>⟨i,j,vs,q,a1,a2,a3,a4,a5,a6,q1,q2⟩⟩
    | times i j=>exact⟨_,_,_,rfl,(.tail _ (.tail _ (.tail _ (.tail _ (.head _))))),rfl,λn w z g q S Q ex vs a1 a2 a3 a4 a5 a6 q1 q2=>⟨i,j,vs,q,a1,a2,a3,a4,a5,a6,q1,q2⟩⟩
    | power i m=>exact⟨_,_,_,rfl,(.tail _ (.tail _ (.tail _ (.tail _ (.tail _ (.head _)))))),rfl,λn w z g q S Q ex vs a1 a2 a3 a4 a5 a6 q1 q2=>⟨i,m,vs,q,a1,a2,a3,a4,a5,a6,q1,q2⟩⟩
   obtain⟨kn,rfl⟩:∃kn:Nat,k=(kn:Int):=⟨k.toNat,by omega⟩
   rw[Vae] at h1 h2
   have hk:kn<ns.length:=by omega
   refine zc9 (n:=a) (o:=.lst (ns.map Nd.d)) (lo:=none) (hi:=some ((kn:Int)+1)) (S3:=S) (λK hK=>by exact hK) (λK hK=>by exact hK) (λK hK=>by exact hK) ha ?_
   have ec:zaS (ns.map Nd.d) none (some ((kn:Int)+1))=(ns.take (kn+1)).map Nd.d:=by
    rw[zgq (by omega) (by rw[Vac]; omega),List.map_take]
    rfl
   rw[show zaz (Ob.lst (ns.map Nd.d))=ns.map Nd.d from rfl,ec]
   refine⟨ns.take (kn+1),ws.take (kn+1),bs,zaE _ _,zaB hb,net.take _,sb,hg,by rw[Vaj]; omega,λT m pr lm hf=>?_⟩
   have prS:Pre S T:=λn o e=>pr n o (zaB e)
   have lm':S.length≤m:=by
    have z:(S++[Ob.lst ((ns.take (kn+1)).map Nd.d)]).length≤m:=lm
    rw[Vap] at z
    omega
   have s1:Spn 1000 (zaK bs g (ns.take (kn+1))):=zjR net rfl sb hg (kn+1) (by omega)
   have l1:(zaK bs g (ns.take (kn+1))).length=kn+1:=by rw[zdo,Vaj]; omega
   have ik:inR (((zaK bs g (ns.take (kn+1))).length:Nat):Int) (kn:Int):=⟨by omega,by omega⟩
   have a1:=s1.at ik
   refine zaF (o:=.lst ((zaK bs g (ns.take (kn+1))).map frD)) hf (zaP ik) ?_
   refine⟨zero,hw,λe=>?_,λwd e=>?_⟩
   ·refine h1 ?_ T prS
    unfold sbS
    rw[show zet zero (gt (zaK bs g (ns.take (kn+1))) (kn:Int))=none from e]
   have es:sbS ns zero kn bs g=zcl g ns (kn+1) ((zaK bs g (ns.take (kn+1))).set kn wd):=by
    unfold sbS
    rw[show zet zero (gt (zaK bs g (ns.take (kn+1))) (kn:Int))=some wd from e]
   have zw:=Sz.in2 a1.2.1 a1.2.2 (znc wd e)
   refine zfH (n:=m) (k:=(kn:Int)) (j:=kn) (xs:=(zaK bs g (ns.take (kn+1))).map frD) (v:=frD wd) (λK hK=>by exact hK) (λK hK=>by exact hK) (λK hK=>by exact hK) hf (by rw[Vac,zga ik]; rfl) ?_
   rw[zg8]
   refine⟨rfl,⟨by omega,by omega,by omega,by omega⟩,λt dl' S'=>t≤kn+1∧Pre S S'∧∃us:List (Int×Int),S'[m]?=some (.lst (us.map frD))∧us.length=kn+1∧Spn 1000 us∧zcl g ns (kn+1-t) us=sbS ns zero kn bs g∧∃u7 u8 u9:Option D,dl'=[some (.ref a),some (.tup [.str w,.int (kn:Int)]),some (.ref b),some (.int g),some (.int (kn:Int)),some (.ref m),some (frD wd),u7,u8,u9],⟨by omega,zbN prS lm',_,zbA hf,by rw[VaD]; exact l1,s1.set2 zw,es.symm,_,_,_,rfl⟩,?_⟩
   rintro t dl' S' ⟨ht,prt,us,hu,lu,su,eb,u7,u8,u9,rfl⟩
   refine zfN (λtc=>?_) (λtc=>?_)
   ·have tc':t<kn+1:=by
     have z:t<((kn:Int) - -1).toNat:=tc
     omega
    obtain⟨j,ej⟩:∃j:Nat,kn=j+t:=⟨kn-t,by omega⟩
    have en:(kn:Int)-(t:Int)=(j:Int):=by omega
    have ek:kn+1-t=j+1:=by omega
    have hv:ns[j]?=some ns[j]:=Vaf (by omega)
    generalize ns[j]=v at hv
    have ok:v.ok us.length bs.length:=zpG (by omega) (net.ok j v hv).1
    have ij:inR ((us.length:Nat):Int) (j:Int):=⟨by omega,by omega⟩
    obtain⟨C,fs,sd,eo,hm,hf2,go⟩:=disp v
    have N1:=zaE S' (v.ob zam.C zan.C zaj.C zah.C zai.C zal.C)
    rw[en]
    rw[ek] at eb
    refine zpQ (n:=S'.length) (C:=C) (sd:=sd) (fs:=fs) (S1:=S'++[v.ob zam.C zan.C zaj.C zah.C zai.C zal.C]) (λK hK=>?_) (by rw[← eo]; exact N1) hm hf2 ?_
    ·refine zaF (o:=.lst (ns.map Nd.d)) (prt _ _ ha) (zpx hv) ?_
     exact⟨v,rfl,by exact hK⟩
    refine zaF (o:=.lst (us.map frD)) (zaB hu) (zaP ij) ?_
    refine go _ _ (gt us (j:Int)) _ bs.length _ _ _ us N1 (zaB hu) ok su (su.at ij) hg (λe=>?_) (λl e=>?_)
    ·refine h1 ?_ _ (zdU prt _)
     rw[← eb,zpI hv e]
    have P:=v.bk_pts su (su.at ij).1 hg.1 l ok e
    rw[zpD hv e] at eb
    have lS:m<S'.length:=zbR hu
    refine zcY (n:=(S'++[v.ob zam.C zan.C zaj.C zah.C zai.C zal.C]).length) (o:=.lst (l.map ptD)) (λi dl2 S2=>i≤l.length∧Pre S S2∧S2[m]?=some (.lst ((zcc us (l.take i)).map frD))∧S2[(S'++[v.ob zam.C zan.C zaj.C zah.C zai.C zal.C]).length]?=some (.lst (l.map ptD))∧∃u9:Option D,dl2=[some (.ref a),some (.tup [.str w,.int (kn:Int)]),some (.ref b),some (.int g),some (.int (kn:Int)),some (.ref m),some (frD wd),some (.int (j:Int)),some (.ref (S'++[v.ob zam.C zan.C zaj.C zah.C zai.C zal.C]).length),u9]) ⟨VaA _,zdU (zdU prt _) _,zaB (zaB hu),zaE _ _,_,rfl⟩ (λi dl2 S2 z=>z.2.2.2.1) ?_ ?_
    ·rintro i x dl2 S2 nx ct ex' ⟨hi,pr2,hu2,hl2,u9,rfl⟩ hn
     have ex2:(l.map ptD)[i]?=some x:=ex'
     rw[Val] at ex2
     obtain⟨p,hp,rfl⟩:=Vaq.mp ex2
     have hi':=(Vab.mp hp).1
     have Pp:=P.2 p (Vau hp)
     have ipp:inR (((zcc us (l.take i)).length:Nat):Int) p.1:=by rw[zhd]; exact Pp.1
     refine zfH (n:=m) (k:=p.1) (j:=p.1.toNat) (xs:=(zcc us (l.take i)).map frD) (v:=frD p.2) (λK hK=>by exact hK) (λK hK=>by exact hK) (λK hK=>by exact hK) hu2 (by rw[Vac]; exact zga ipp) ?_
     rw[zg8,← zr7,← zbP hp]
     refine hn _ _ ⟨by omega,zbN pr2 lm',zbA hu2,zbj hl2 (by rw[Vap]; omega),_,rfl⟩
    ·rintro dl2 S2 ⟨hi,pr2,hu2,hl2,u9,rfl⟩
     have e9:l.take (zaz (Ob.lst (l.map ptD))).length=l:=by
      show l.take (l.map ptD).length=l
      rw[Vac,VaX]
     rw[e9] at hu2
     refine⟨by omega,pr2,_,hu2,by rw[zhd]; exact lu,znT l us su λp hp=>(P.2 p hp).2,?_,_,_,_,rfl⟩
     rw[show kn+1-(t+1)=j by omega]
     exact eb
   ·have tc':¬ t<kn+1:=λz=>tc (show t<((kn:Int) - -1).toNat by omega)
    rw[show kn+1-t=0 by omega] at eb
    exact h2 us S' m eb.symm prt lm' hu
  ·exact h.elim⟩)
def zxy  (zkG:Df K mg "narrowed" zi2 zgj)(znJ:Fk P w K mg base 8 "spans_back" zgE zhU)(zcn:mg "enumerate"=none)(zba:mg "list"=none):Fk P w K mg base 9 "narrowed" zgj zg0:=
 zkG.mk' (zau (k:=8) zkG.F zhj (ztn) λcdv A outer s H E hr=>⟨_,(zae (zap (i:=4) zhj.nd rfl (Or.inl rfl) (zao znJ hr (zaa (dv 0) (zaa (dv 1) (zaa (dv 2) (zaa (dv 3) zac)))))) (zae (zaw (zas zbI (dv 4) zaZ (zar _)) (zaf (zak zaZ)) zax) (zae (zap (i:=5) zhj.nd rfl (Or.inl rfl) (ze7 (zbo zeM) rfl zba Boot.«list» (zaa (dv 2) zac))) (zae (zpM (is:=[6,7]) PassesOwn.never rfl zhj.nd (Nms.cons (i:=6) rfl (Or.inl rfl) (by first | exact .inl rfl | exact .inr rfl) (Nms.cons (i:=7) rfl (Or.inl rfl) (by first | exact .inl rfl | exact .inr rfl) Nms.nil)) rfl rfl zcn Boot.«enumerate» (zaa (dv 4) zac) (zae (zap (i:=8) zhj.nd rfl (Or.inl rfl) (zaO (dv 0) (dv 6) (λ_ _=>rfl))) (zaf (zaw (zas (zaI hr) (zad (dv 8) zab (λ_ _=>rfl)) zaL (zar _)) (zaf (zkO (dv 5) (zad (dv 8) zab (λ_ _=>rfl)) (dv 7))) zax)))) (zaf (zak (dv 5))))))),λds S Q ex h=>by
  unfold zg0 at h
  split at h
  ·rename_i a w k b g
   obtain⟨ns,ws,bs,zero,ha,hb,hw,⟨k0,k1⟩,net,sb,hg,hl,h1,h2⟩:=h
   obtain⟨kn,rfl⟩:∃kn:Nat,k=(kn:Int):=⟨k.toNat,by omega⟩
   rw[Vae] at h1 h2
   refine⟨ns,ws,bs,zero,ha,hb,hw,⟨k0,k1⟩,net,sb,hg,hl,?_,?_⟩
   ·rw[Vae]
    intro e T pr
    exact h1 (by unfold nwS; rw[e]; rfl) T pr
   ·rw[Vae]
    intro us T m e pr lm hu
    have lu:=zrf net sb hg (show kn<ns.length by omega) e
    have lz:(ns.zip us).length=kn+1:=by rw[List.length_zip]; omega
    have en:nwS ns zero kn bs g=some (zbT bs (ns.zip us)):=by unfold nwS; rw[e]; rfl
    have lS:m<T.length:=zbR hu
    refine zd7 (zbd (pr _ _ hb) rfl) ?_
    refine zqA (n:=m) (xs:=us.map frD) (S1:=T++[.lst (bs.map frD)]) (λi dl' S'=>i≤us.length∧Pre S S'∧S'[m]?=some (.lst (us.map frD))∧S'[T.length]?=some (.lst ((zbT bs ((ns.zip us).take i)).map frD))∧∃u6 u7 u8:Option D,dl'=[some (.ref a),some (.tup [.str w,.int (kn:Int)]),some (.ref b),some (.int g),some (.ref m),some (.ref T.length),u6,u7,u8]) (λK hK=>by exact hK) (λi dl' S' z=>z.2.2.1) ⟨VaA _,zdU pr _,zaB hu,zaE _ _,_,_,_,rfl⟩ ?_ ?_
    ·rintro i x dl' S' nx ct ex' ⟨hi,pr',hu',hl',u6,u7,u8,rfl⟩ hn
     rw[Val] at ex'
     obtain⟨p,hp,rfl⟩:=Vaq.mp ex'
     have hi':=(Vab.mp hp).1
     have hv:ns[i]?=some ns[i]:=Vaf (by omega)
     generalize ns[i]=v at hv
     have hz:=zvv hv hp
     have lp:=(zo3 net rfl (us:=us) (bs:=bs) (λ_ _=>True) (λ_ _=>trivial) (λ_ _ _ _=>trivial) i (by omega)).1
     have es:zbT bs ((ns.zip us).take (i+1))=match v with
      | .unknown u=>(zbT bs ((ns.zip us).take i)).set u.toNat p
      | _=>zbT bs ((ns.zip us).take i):=by
      rw[zbP hz,zql]
      cases v <;> rfl
     have okv:=(net.ok i v hv).1
     refine zaF (o:=.lst (ns.map Nd.d)) (pr' _ _ ha) (zpx hv) ?_
     cases v with
     | unknown u=>
      have oku:inR (((zbT bs ((ns.zip us).take i)).length:Nat):Int) u:=by rw[lp]; exact okv
      refine zfH (n:=T.length) (k:=u) (j:=u.toNat) (xs:=(zbT bs ((ns.zip us).take i)).map frD) (v:=frD p) (λK hK=>by exact hK) (λK hK=>by exact hK) (λK hK=>by exact hK) hl' (by rw[Vac]; exact zga oku) ?_
      rw[zg8]
      refine hn _ _ ⟨by omega,zbN pr' (by omega),zbj hu' (by omega),?_,_,_,_,rfl⟩
      rw[es]
      exact zbA hl'
     | number _ _=>exact hn _ _ ⟨by omega,pr',hu',by rw[es]; exact hl',_,_,_,rfl⟩
     | plus _ _=>exact hn _ _ ⟨by omega,pr',hu',by rw[es]; exact hl',_,_,_,rfl⟩
     | minus _ _=>exact hn _ _ ⟨by omega,pr',hu',by rw[es]; exact hl',_,_,_,rfl⟩
     | times _ _=>exact hn _ _ ⟨by omega,pr',hu',by rw[es]; exact hl',_,_,_,rfl⟩
     | power _ _=>exact hn _ _ ⟨by omega,pr',hu',by rw[es]; exact hl',_,_,_,rfl⟩
    ·rintro dl' S' ⟨hi,pr',hu',hl',u6,u7,u8,rfl⟩
     rw[Vac,List.take_of_length_le (by omega)] at hl'
     exact h2 _ S' T.length en pr' (by omega) hl'
  ·exact h.elim⟩)
def zu8  (zke:Df K mg "with_span" zjc zhe):Fk P w K mg base 1 "with_span" zhe zfD:=
 zke.mk' (zau (k:=0) zke.F zsM (zwS) λcdv A outer s H E hr=>⟨_,(zaf (zak (zag zom (zag zom (zdh (dv 0) zeE (zcy (dv 1))) (zbg (zaa (dv 2) zac))) (zdh (dv 0) (zcy (zag za2 (dv 1) zab)) zeE)))),λds S Q ex h=>by
  unfold zfD at h
  split at h
  ·rename_i b k d
   obtain⟨bs,p,hb,⟨k0,k1⟩,l4,rfl,h⟩:=h
   obtain⟨kn,rfl⟩:∃kn:Nat,k=(kn:Int):=⟨k.toNat,by omega⟩
   rw[Vae] at h
   have c1:=zn7 (α:=Nat) (xs:=bs.map frD) (lo:=none) (hi:=some (kn:Int))
   have c2:=zn7 (α:=Nat) (xs:=bs.map frD) (lo:=some ((kn:Int)+1)) (hi:=none)
   rw[Vac] at c1 c2
   refine zc9 (n:=b) (o:=.lst (bs.map frD)) (lo:=none) (hi:=some (kn:Int)) (S3:=S) (λK hK=>by exact hK) (λK hK=>by exact hK) (λK hK=>by exact hK) hb ?_
   rw[show zaz (Ob.lst (bs.map frD))=bs.map frD from rfl]
   refine zox (n:=S.length) (m:=(S++[Ob.lst (zaS (bs.map frD) none (some (kn:Int)))]).length) (xs:=zaS (bs.map frD) none (some (kn:Int))) (ys:=[frD p]) (zaB (zaE _ _)) (zaE _ _) (by show (zaS (bs.map frD) none (some (kn:Int))).length+1≤1000; omega) ?_
   refine zc9 (n:=b) (o:=.lst (bs.map frD)) (lo:=some ((kn:Int)+1)) (hi:=none) (S3:=S++[Ob.lst (zaS (bs.map frD) none (some (kn:Int)))]++[Ob.lst [frD p]]++[Ob.lst (zaS (bs.map frD) none (some (kn:Int))++[frD p])]) (λK hK=>by exact hK) (λK hK=>by exact hK) (λK hK=>by exact hK) (zaB (zaB (zaB hb))) ?_
   rw[show zaz (Ob.lst (bs.map frD))=bs.map frD from rfl]
   refine zox (xs:=zaS (bs.map frD) none (some (kn:Int))++[frD p]) (ys:=zaS (bs.map frD) (some ((kn:Int)+1)) none) (zaB (zaE _ _)) (zaE _ _) (by rw[Vap]; show (zaS (bs.map frD) none (some (kn:Int))).length+1+_≤1000; omega) ?_
   rw[zue (α:=Nat) (by omega)]
   refine h _ _ ?_ ?_ (zaE _ _)
   ·exact λn o e=>zaB (zaB (zaB (zaB (zaB e))))
   ·simp only[Vap]
    omega
  ·exact h.elim⟩)
def zt1  (zlI:Df K mg "cut_off" zii zgK):Fk P w K mg base 1 "cut_off" zgK zgv:=
 zlI.mk' (zau (k:=0) zlI.F ztt (zwG) λcdv A outer s H E hr=>⟨_,(zaf (zak (zcO (zas (zaI hr) (zad (dv 1) zab (λ_ _=>rfl)) zab (zar _)) (zaA (zaa (zad (dv 0) zab (λ_ _=>rfl)) (zaa (zad (dv 1) zab (λ_ _=>rfl)) zac))) (zaA (zaa (zad (dv 1) zab (λ_ _=>rfl)) (zaa (zad (dv 0) zab (λ_ _=>rfl)) zac)))))),λds S Q ex h=>by
  unfold zgv at h
  split at h
  ·rename_i a b d
   obtain⟨⟨k,p,s⟩,rfl,h⟩:=h
   cases s <;> exact h
  ·exact h.elim⟩)
def zxv  (zly:Df K mg "is_shave" zh7 zhl)(zfi:Fk P w K mg base 5 "is_barred" zfl zeD)(znd:Fk P w K mg base 1 "with_span" zhe zfD)(zog:Fk P w K mg base 1 "cut_off" zgK zgv):Fk P w K mg base 6 "is_shave" zhl zfx:=
 zly.mk' (zau (k:=5) zly.F zm2 (zrs) λcdv A outer s H E hr=>⟨_,(zae (zap (i:=5) zm2.nd rfl (Or.inl rfl) (zad (dv 4) zab (λ_ _=>rfl))) (zae (zap (i:=6) zm2.nd rfl (Or.inl rfl) (zaO (dv 2) (dv 5) (λ_ _=>rfl))) (zae (zaw (zbU (zpZ zbf zbf (zad (dv 6) zab (λ_ _=>rfl)) (zad (dv 4) zab (λ_ _=>rfl)) (zad (dv 6) zab (λ_ _=>rfl)))) (zaf (zak zbw)) zax) (zaf (zak (zao zfi hr (zaa (dv 0) (zaa (dv 1) (zaa (zao znd hr (zaa (dv 2) (zaa (dv 5) (zaa (zao zog hr (zaa (dv 6) (zaa (dv 4) zac))) zac)))) (zaa (dv 3) zac)))))))))),λds S Q ex h=>by
  unfold zfx at h
  split at h
  ·rename_i a w k b g d
   obtain⟨ns,ws,bs,zero,c,ha,hb,hw,hk,net,sb,hg,hl,rfl,hc,l4,h⟩:=h
   have ik:inR ((bs.length:Nat):Int) (c.k:Int):=⟨by omega,by omega⟩
   have sz:=sb.at ik
   refine zaF (o:=.lst (bs.map frD)) hb (zaP ik) ?_
   have no:¬ ((gt bs (c.k:Int)).1<c.p∧c.p<(gt bs (c.k:Int)).2)→Q (.bl false) S:=λn=>by
    have z:=h S Pre.refl
    have e:isS ns zero k.toNat g bs c=false:=by
     unfold isS
     rw[show (decide ((gt bs (c.k:Int)).1<c.p)&&decide (c.p<(gt bs (c.k:Int)).2))=false by
      rw[← Bool.not_eq_true,Bool.and_eq_true,decide_eq_true_eq,decide_eq_true_eq]
      exact n]
     rfl
    rw[e] at z
    exact z
   refine ifD (λc1=>?_) (λc1=>no λz=>c1 z.1)
   refine ifN (λc2=>no λz=>c2 z.2) (λc2=>?_)
   have q:=zoj (c:=c) c1 c2 sz.2.1 sz.2.2
   refine⟨c,rfl,?_⟩
   refine⟨bs,c.off (gt bs (c.k:Int)),hb,ik,l4,rfl,λT m pr lm hT=>?_⟩
   rw[Vae] at hT
   have ln:(bs.set c.k (c.off (gt bs (c.k:Int)))).length=bs.length:=VaD ..
   refine⟨ns,ws,_,zero,pr _ _ ha,hT,hw,hk,by rw[ln]; exact net,sb.set2 q.2,hg,hl,λT2 pr2=>?_⟩
   have z:=h T2 (pr.trans pr2)
   have e:isS ns zero k.toNat g bs c=ibS ns zero k.toNat (bs.set c.k (c.off (gt bs (c.k:Int)))) g:=by
    unfold isS
    rw[decide_eq_true c1,decide_eq_true c2]
    rfl
   rw[e] at z
   exact z
  ·exact h.elim⟩)
def zsP  (zkM:Df K mg "cut_back" zlL zgD):Fk P w K mg base 1 "cut_back" zgD zgW:=
 zkM.mk' (zau (k:=0) zkM.F zso (zsZ) λcdv A outer s H E hr=>⟨_,(zaf (zak (zcO (zas (zaI hr) (zad (dv 1) zab (λ_ _=>rfl)) zab (zar _)) (zaA (zaa (zad (dv 1) zab (λ_ _=>rfl)) (zaa (zad (dv 0) zab (λ_ _=>rfl)) zac))) (zaA (zaa (zad (dv 0) zab (λ_ _=>rfl)) (zaa (zad (dv 1) zab (λ_ _=>rfl)) zac)))))),λds S Q ex h=>by
  unfold zgW at h
  split at h
  ·rename_i a b d
   obtain⟨⟨k,p,s⟩,rfl,h⟩:=h
   cases s <;> exact h
  ·exact h.elim⟩)
def zwH  (zi6:Df K mg "shaves" zhV zhO)(zop:Fk P w K mg base 6 "is_shave" zhl zfx)(znL:Fk P w K mg base 1 "cut_back" zgD zgW)(zoF:Fk P w K mg base 9 "narrowed" zgj zg0)(zfi:Fk P w K mg base 5 "is_barred" zfl zeD)(zcn:mg "enumerate"=none)(zba:mg "list"=none):Fk P w K mg base 10 "shaves" zhO zhC:=
 zi6.mk' (zau (k:=9) zi6.F zes (zvj) λcdv A outer s H E hr=>⟨_,(zae (zaw (zbh (zao zfi hr (zaa (dv 0) (zaa (dv 1) (zaa (dv 2) (zaa (dv 3) zac)))))) (zaf (zak (zaA (zaa (zbg zac) (zaa zaZ zac))))) zax) (zae (zap (i:=4) zes.nd rfl (Or.inl rfl) (ze7 (zbo zeM) rfl zba Boot.«list» (zaa (dv 2) zac))) (zae (zap (i:=5) zes.nd rfl (Or.inl rfl) (zao zoF hr (zaa (dv 0) (zaa (dv 1) (zaa (dv 2) (zaa (dv 3) zac)))))) (zae (zaw (zas zbI (dv 5) zaZ (zar _)) (zaf (zak (zaA (zaa (zbg zac) (zaa (dv 4) zac))))) zax) (zae (zap (i:=6) zes.nd rfl (Or.inl rfl) (zbg zac)) (zae (zpM (is:=[7,8]) PassesOwn.never rfl zes.nd (Nms.cons (i:=7) rfl (Or.inl rfl) (by first | exact .inl rfl | exact .inr rfl) (Nms.cons (i:=8) rfl (Or.inl rfl) (by first | exact .inl rfl | exact .inr rfl) Nms.nil)) rfl rfl zcn Boot.«enumerate» (zaa (dv 5) zac) (zaf (zv1 (i:=9) PassesOwn.never rfl zes.nd rfl (Or.inl rfl) (zaA (zaa (zaA (zaa (dv 7) (zaa (zag zbH (zad (dv 8) zab (λ_ _=>rfl)) zab) (zaa zab zac)))) (zaa (zaA (zaa (dv 7) (zaa (zag za2 (zad (dv 8) zab (λ_ _=>rfl)) zab) (zaa zab zac)))) zac))) (zaf (zaw (zbh (zao zop hr (zaa (dv 0) (zaa (dv 1) (zaa (dv 4) (zaa (dv 3) (zaa (dv 9) zac))))))) (zae (zcZ (zc6 (dv 6) (dv 9))) (zaf (zkO (dv 4) (dv 7) (zao znL hr (zaa (zaO (dv 4) (dv 7) (λ_ _=>rfl)) (zaa (dv 9) zac)))))) zax))))) (zaf (zak (zaA (zaa (dv 6) (zaa (dv 4) zac))))))))))),λds S Q ex h=>by
  unfold zhC at h
  split at h
  ·rename_i a w k b g
   obtain⟨ns,ws,bs,zero,ha,hb,hw,hk,net,sb,hg,hl,l4,h⟩:=h
   obtain⟨kn,rfl⟩:∃kn:Nat,k=(kn:Int):=⟨k.toNat,by have:=hk.1; omega⟩
   have hkn:kn<ns.length:=by have:=hk.2; omega
   rw[Vae] at h
   refine⟨ns,ws,bs,zero,ha,hb,hw,hk,net,sb,hg,hl,λT pr=>?_⟩
   rw[Vae]
   unfold shS at h
   cases hi:ibS ns zero kn bs g with
   | true=>
    rw[hi] at h
    exact h _ T.length .non (zdU pr _) (by have:=zpf pr; omega) (zaE _ _) (.inl ⟨rfl,rfl⟩)
   | false=>
    rw[hi] at h
    have lST:=zpf pr
    refine zd7 (zbd (pr _ _ hb) rfl) ?_
    refine⟨ns,ws,bs,zero,zaB (pr _ _ ha),zaB (pr _ _ hb),hw,hk,net,sb,hg,hl,?_,?_⟩
    ·rw[Vae]
     intro e T2 pr2
     rw[e] at h
     have lT2:T.length<T2.length:=zbR (pr2 _ _ (zaE T (.lst (bs.map frD))))
     exact h _ T2.length (.ref T.length) (λn o e=>zaB (pr2 _ _ (zaB (pr _ _ e)))) (by omega) (zaE _ _) (.inr ⟨bs,T.length,rfl,rfl,zaB (pr2 _ _ (zaE _ _)),lST⟩)
    ·rw[Vae]
     intro r T2 m2 e pr2 lm2 hr2
     rw[e] at h
     obtain⟨lr,sr⟩:=zpj net sb hg hkn e
     have lT2:T.length<T2.length:=zbR (pr2 _ _ (zaE T (.lst (bs.map frD))))
     have lm2':T.length<m2:=by
      have z:(T++[Ob.lst (bs.map frD)]).length≤m2:=lm2
      rw[Vap] at z
      have e1:([Ob.lst (bs.map frD)]:Sto).length=1:=rfl
      omega
     have l22:m2<T2.length:=zbR hr2
     have hml:T2[T.length]?=some (.lst (bs.map frD)):=pr2 _ _ (zaE _ _)
     have prS2:Pre S T2:=λn o e=>pr2 _ _ (zaB (pr _ _ e))
     have nlc:T.length≠T2.length:=by omega
     have nuc:m2≠T2.length:=by omega
     have nul:m2≠T.length:=by omega
     have lmc:S.length≤T2.length:=by omega
     have lml:S.length≤T.length:=by omega
     refine zqA (n:=m2) (xs:=r.map frD) (S1:=T2++[.lst []]) (λi dl' S'=>i≤r.length∧Pre S S'∧S'[m2]?=some (.lst (r.map frD))∧S'[T2.length]?=some (.lst ((shN ns zero kn g bs r i).1.map Ct.d))∧S'[T.length]?=some (.lst ((shN ns zero kn g bs r i).2.map frD))∧∃u7 u8 u9:Option D,dl'=[some (.ref a),some (.tup [.str w,.int (kn:Int)]),some (.ref b),some (.int g),some (.ref T.length),some (.ref m2),some (.ref T2.length),u7,u8,u9]) (λK hK=>by exact hK) (λi dl' S' z=>z.2.2.1) ⟨VaA _,zdU prS2 _,zaB hr2,zaE _ _,zaB hml,_,_,_,rfl⟩ ?_ ?_
     ·rintro i x dl' S' nx ct ex' ⟨hi',pr',hu',hc',hl',u7,u8,u9,rfl⟩ hn
      rw[Val] at ex'
      obtain⟨p,hp,rfl⟩:=Vaq.mp ex'
      have hii:=(Vab.mp hp).1
      have ep:p=gt r (i:Int):=(gt_at hp).symm
      subst ep
      let qj:Nat→Nat→List Ct×List (Int×Int):=λi j=>((cand i (gt r (i:Int))).take j).foldl (zbi ns zero kn g) (shN ns zero kn g bs r i)
      have C0:=zmT (ns:=ns) (zero:=zero) (k:=kn) (g:=g) sb lr i (by omega)
      have C1:zbZ ns zero kn g bs (2*i+1) (qj i 1):=C0.step (c:=⟨i,(gt r (i:Int)).1-1,false⟩) (by show i<_; omega) (by show 2*i+0=_; omega)
      refine⟨λj dl2 S2=>j≤2∧Pre S S2∧S2[m2]?=some (.lst (r.map frD))∧S2[T2.length]?=some (.lst ((qj i j).1.map Ct.d))∧S2[T.length]?=some (.lst ((qj i j).2.map frD))∧∃u9:Option D,dl2=[some (.ref a),some (.tup [.str w,.int (kn:Int)]),some (.ref b),some (.int g),some (.ref T.length),some (.ref m2),some (.ref T2.length),some (.int (i:Int)),some (frD (gt r (i:Int))),u9],⟨by decide,pr',hu',hc',hl',_,rfl⟩,?_⟩
      rintro j dl2 S2 ⟨hj,pr4,hu4,hc4,hl4,u9,rfl⟩
      rcases j with _ | _ | j
      ·skip
       refine⟨ns,ws,(shN ns zero kn g bs r i).2,zero,(⟨i,(gt r (i:Int)).1-1,false⟩:Ct),pr4 _ _ ha,hl4,hw,hk,by rw[C0.len]; exact net,C0.spn,hg,hl,rfl,by rw[C0.len]; show i<_; omega,by rw[C0.len]; exact l4,λT5 pr5=>?_⟩
       rw[Vae]
       have iI:inR (((shN ns zero kn g bs r i).2.length:Nat):Int) (i:Int):=⟨by omega,by rw[C0.len]; omega⟩
       have pr6:Pre S T5:=λn o e=>pr5 _ _ (pr4 _ _ e)
       cases hs:isS ns zero kn g (shN ns zero kn g bs r i).2 (⟨i,(gt r (i:Int)).1-1,false⟩:Ct) with
       | false=>
        refine⟨by omega,pr6,pr5 _ _ hu4,?_,?_,_,rfl⟩
        ·rw[show qj i 1=zbi ns zero kn g (shN ns zero kn g bs r i) ⟨i,(gt r (i:Int)).1-1,false⟩ from rfl,zbi,if_neg (by rw[hs]; decide)]
         exact pr5 _ _ hc4
        ·rw[show qj i 1=zbi ns zero kn g (shN ns zero kn g bs r i) ⟨i,(gt r (i:Int)).1-1,false⟩ from rfl,zbi,if_neg (by rw[hs]; decide)]
         exact pr5 _ _ hl4
       | true=>
        refine zdj (n:=T2.length) (S1:=T5) (xs:=(shN ns zero kn g bs r i).1.map Ct.d) (y:=Ct.d (⟨i,(gt r (i:Int)).1-1,false⟩:Ct)) (λK hK=>by exact hK) (pr5 _ _ hc4) (λK hK=>by exact hK) (by rw[Vac]; have:=C0.few; omega) ?_
        refine zfH (n:=T.length) (k:=(i:Int)) (j:=i) (xs:=(shN ns zero kn g bs r i).2.map frD) (v:=frD (Ct.back (⟨i,(gt r (i:Int)).1-1,false⟩:Ct) (gt (shN ns zero kn g bs r i).2 (i:Int)))) (λK hK=>?_) (λK hK=>by exact hK) (λK hK=>by exact hK) (zbj (pr5 _ _ hl4) (Ne.symm nlc)) (by rw[Vac,zga iI]; rfl) ?_
        ·refine zaF (o:=.lst ((shN ns zero kn g bs r i).2.map frD)) (zbj (pr5 _ _ hl4) (Ne.symm nlc)) (zaP iI) ?_
         exact⟨(⟨i,(gt r (i:Int)).1-1,false⟩:Ct),rfl,hK⟩
        rw[zg8]
        refine⟨by omega,zbN (zbN pr6 lmc) lml,zbj (zbj (pr5 _ _ hu4) (Ne.symm nuc)) (Ne.symm nul),?_,?_,_,rfl⟩
        ·rw[show qj i 1=zbi ns zero kn g (shN ns zero kn g bs r i) ⟨i,(gt r (i:Int)).1-1,false⟩ from rfl,zbi,if_pos hs,VaE]
         exact zbj (zbA (pr5 _ _ hc4)) nlc
        ·rw[show qj i 1=zbi ns zero kn g (shN ns zero kn g bs r i) ⟨i,(gt r (i:Int)).1-1,false⟩ from rfl,zbi,if_pos hs]
         exact zbA (zbj (pr5 _ _ hl4) (Ne.symm nlc))
      ·skip
       refine⟨ns,ws,(qj i 1).2,zero,(⟨i,(gt r (i:Int)).2+1,true⟩:Ct),pr4 _ _ ha,hl4,hw,hk,by rw[C1.len]; exact net,C1.spn,hg,hl,rfl,by rw[C1.len]; show i<_; omega,by rw[C1.len]; exact l4,λT5 pr5=>?_⟩
       rw[Vae]
       have iI:inR (((qj i 1).2.length:Nat):Int) (i:Int):=⟨by omega,by rw[C1.len]; omega⟩
       have pr6:Pre S T5:=λn o e=>pr5 _ _ (pr4 _ _ e)
       cases hs:isS ns zero kn g (qj i 1).2 (⟨i,(gt r (i:Int)).2+1,true⟩:Ct) with
       | false=>
        refine⟨by omega,pr6,pr5 _ _ hu4,?_,?_,_,rfl⟩
        ·rw[show qj i 2=zbi ns zero kn g (qj i 1) ⟨i,(gt r (i:Int)).2+1,true⟩ from rfl,zbi,if_neg (by rw[hs]; decide)]
         exact pr5 _ _ hc4
        ·rw[show qj i 2=zbi ns zero kn g (qj i 1) ⟨i,(gt r (i:Int)).2+1,true⟩ from rfl,zbi,if_neg (by rw[hs]; decide)]
         exact pr5 _ _ hl4
       | true=>
        refine zdj (n:=T2.length) (S1:=T5) (xs:=(qj i 1).1.map Ct.d) (y:=Ct.d (⟨i,(gt r (i:Int)).2+1,true⟩:Ct)) (λK hK=>by exact hK) (pr5 _ _ hc4) (λK hK=>by exact hK) (by rw[Vac]; have:=C1.few; omega) ?_
        refine zfH (n:=T.length) (k:=(i:Int)) (j:=i) (xs:=(qj i 1).2.map frD) (v:=frD (Ct.back (⟨i,(gt r (i:Int)).2+1,true⟩:Ct) (gt (qj i 1).2 (i:Int)))) (λK hK=>?_) (λK hK=>by exact hK) (λK hK=>by exact hK) (zbj (pr5 _ _ hl4) (Ne.symm nlc)) (by rw[Vac,zga iI]; rfl) ?_
        ·refine zaF (o:=.lst ((qj i 1).2.map frD)) (zbj (pr5 _ _ hl4) (Ne.symm nlc)) (zaP iI) ?_
         exact⟨(⟨i,(gt r (i:Int)).2+1,true⟩:Ct),rfl,hK⟩
        rw[zg8]
        refine⟨by omega,zbN (zbN pr6 lmc) lml,zbj (zbj (pr5 _ _ hu4) (Ne.symm nuc)) (Ne.symm nul),?_,?_,_,rfl⟩
        ·rw[show qj i 2=zbi ns zero kn g (qj i 1) ⟨i,(gt r (i:Int)).2+1,true⟩ from rfl,zbi,if_pos hs,VaE]
         exact zbj (zbA (pr5 _ _ hc4)) nlc
        ·rw[show qj i 2=zbi ns zero kn g (qj i 1) ⟨i,(gt r (i:Int)).2+1,true⟩ from rfl,zbi,if_pos hs]
         exact zbA (zbj (pr5 _ _ hl4) (Ne.symm nlc))
      ·have ej:j=0:=by omega
       subst ej
       exact hn _ _ ⟨by omega,pr4,hu4,hc4,hl4,_,_,_,rfl⟩
     ·rintro dl' S' ⟨hi',pr',hu',hc',hl',u7,u8,u9,rfl⟩
      rw[Vac] at hc' hl'
      exact h S' T2.length (.ref T.length) pr' lmc hc' (.inr ⟨_,T.length,rfl,rfl,hl',lml⟩)
  ·exact h.elim⟩)
def ztO  (ziD:Df K mg "_law_cell" zie zg4)(zaW:mg "len"=none):Fk P w K mg base 1 "_law_cell" zg4 zhP:=
 ziD.mk' (zau (k:=0) ziD.F zvJ (zrQ) λcdv A outer s H E hr=>⟨_,(zae (zaw (zas zbf (dv 1) (za0 zck rfl zaW Boot.«len» (zaa (dv 0) zac)) (zar _)) (zaf (zak (zad (dv 0) (dv 1) (λ_ _=>rfl)))) zax) (zaf (zak zab))),λds S Q ex h=>by
  unfold zhP at h
  split at h
  ·rename_i n k
   obtain⟨ns,h1,h2,h3⟩:=h
   simp only[znU,zb9,zpV,dRet,dRetN,dIf,zkQ,zia,dC,dOp,dUn,wI,wI0,wIf,zll,dNot,dAnd,dOr,zqv,dOrV,zp6,dIfE,zmy,dNil,zpR,dTup,dLst,wIx,zl4,zkl,zqM,wAbs,zdS,zem,wEq,wNe,wIsN,wNotN,wNeg,ze4,Vat,List.map_nil,Vaz,VaP,List.cons_append,List.nil_append,Nat.reduceAdd,Nat.reduceSub,List.replicate,List.getElem?_cons_zero,List.getElem?_cons_succ,List.set_cons_zero,List.set_cons_succ,ite_true,ite_false,if_true,if_false,Nat.reduceLeDiff,eq_self,p40,p41,p20,zgZ,powB,Int.reduceLT,Int.reduceLE,Int.reduceNeg,decide_true,Bool.and_self,Bool.and_true,Bool.true_and,L3.eq1,L3.eq2,L3.eqT,L3.eqF,L3.eqL]
   have hA:lAt S n=some (.frz (ns.map D.int)):=zbd h1 rfl
   simp only[hA,zaz,Vac]
   refine zfN (λc=>?_) (λc=>?_)
   ·have c':k<(ns.length:Int):=of_decide_eq_true c
    have hk:k.toNat<ns.length:=(by omega)
    have e:atI (ns.map D.int) k=some (.int ns[k.toNat]):=by
     have z:=zjO (xs:=ns.map D.int) (j:=k.toNat) (v:=.int ns[k.toNat]) (by simp[hk])
     rw[show ((k.toNat:Nat):Int)=k by omega] at z
     exact z
    simp only[e]
    rw[Vax,Vaf hk] at h3
    exact h3
   ·have c':¬ k<(ns.length:Int):=λz=>c (decide_eq_true z)
    rw[Vax,List.getElem?_eq_none (by omega)] at h3
    exact h3
  ·exact h.elim⟩)
def zq3  (zjD:Df K mg "_law_span" zlz zf7)(zbe:mg "min"=none):Fk P w K mg base 1 "_law_span" zf7 zhr:=
 zjD.mk' (zau (k:=0) zjD.F zdc (zwZ) λcdv A outer s H E hr=>⟨_,(zae (zap (i:=1) zdc.nd rfl (Or.inl rfl) (zag za7 (dv 0) (zag zb6 zab zab))) (zae (zap (i:=2) zdc.nd rfl (Or.inl rfl) (zag za8 (dv 1) zab)) (zae (zap (i:=1) zdc.nd rfl (Or.inl rfl) (zag zcb (dv 1) zab)) (zae (zaw (zas (zaI hr) (dv 2) zab (zar _)) (zae (zap (i:=3) zdc.nd rfl (Or.inl rfl) (zag zbH (zag za7 (dv 1) zab) zab)) (zaf (zak (zaA (zaa (dv 3) (zaa (za0 (zeo rfl) rfl zbe Boot.«min» (zaa zab (zaa (zag za2 (dv 3) (zag za7 (zag zaH (dv 1) zab) (zag zb6 zab zab))) zac))) zac)))))) zax) (zae (zap (i:=3) zdc.nd rfl (Or.inl rfl) (zag zbH (zag za8 (dv 1) zab) zab)) (zae (zap (i:=4) zdc.nd rfl (Or.inl rfl) (zag za8 (zag za7 (zag zaH (dv 1) zab) zab) zab)) (zae (zaw (zas (zaI hr) (dv 2) zab (zar _)) (zaf (zap (i:=4) zdc.nd rfl (Or.inl rfl) (zag za8 (dv 4) zab))) zax) (zae (zaw (zas (zaI hr) (dv 2) zab (zar _)) (zaf (zak (zaA (zaa (zag zaH (dv 3) zab) (zaa (zag za2 (zag zaH (dv 3) zab) (zag zaH (dv 4) zab)) zac))))) zax) (zaf (zak (zaA (zaa (dv 3) (zaa (zag za2 (dv 3) (dv 4)) zac))))))))))))),λds S Q ex h=>by
  unfold zhr at h
  split at h
  ·rename_i c
   have r0:=za6 (a:=c) (b:=10^Int.toNat 40) (by decide)
   have e16:(10:Int)^Int.toNat 16=10000000000000000:=rfl
   have s0:Sz 140 (c%10^Int.toNat 40):=Sz.of (10^40) (by have e:(10:Int)^Int.toNat 40=10000000000000000000000000000000000000000:=rfl; omega)
   have mo:=zaG (m:=140) (n:=17) (s0.div (j:=5) (by decide)) (j:=48271) (by unfold Sz; decide)
   have r1:=za6 (a:=c%10^Int.toNat 40/5*48271%2147483647) (b:=120) (by decide)
   refine⟨show (0:Int)<10^Int.toNat 40 by decide,?_⟩
   refine ifD (λe=>?_) (λe=>?_)
   ·have r2:=za6 (a:=c%10^Int.toNat 40/5*48271) (b:=10^Int.toNat 16) (by decide)
    refine⟨show (0:Int)<1999999999999999 by decide,mo,show (0:Int)<10^Int.toNat 16 by decide,?_⟩
    refine h _ _ ?_ (by omega) ?_
    ·dsimp only
     split <;> omega
    ·dsimp only
     split <;> omega
   ·refine⟨mo,show (0:Int)<2147483647 by decide,?_⟩
    refine ifD (λe=>?_) (λe=>?_)
    ·refine ifD (λe2=>absurd (e.symm.trans e2) (by decide)) (λe2=>?_)
     exact h _ _ (by omega) (by omega) (by omega)
    ·refine ifD (λe2=>?_) (λe2=>?_)
     ·have k1:=zaG (m:=20) (n:=20) (i:=c%10^Int.toNat 40/5%201-100) (j:=37) (Sz.of 100000 (by omega)) (by unfold Sz; decide)
      have k2:=zaG (m:=20) (n:=20) (i:=c%10^Int.toNat 40/5*48271%2147483647%120) (j:=41) (Sz.of 100000 (by omega)) (by unfold Sz; decide)
      exact⟨k1,k1,k2,h _ _ (by omega) (by omega) (by omega)⟩
     ·exact h _ _ (by omega) (by omega) (by omega)
  ·exact h.elim⟩)
def zwo  (ziW:Df K mg "_law_whole" zhY zej)(zbk:mg "isinstance"=none)(zdv:mg "bool"=none)(zdB:mg "int"=none)(ze1:Kit K "bool")(zeQ:Kit K "int"):Fk P w K mg base 1 "_law_whole" zej ze3:=
 ziW.mk' (zau (k:=0) ziW.F zsO (zt3) λcdv A outer s H E hr=>⟨_,(zaf (zak (zoh (zhc zeQ rfl zbk rfl zdB Boot.«int» (dv 0)) (zky (zty (zhc ze1 rfl zbk rfl zdv Boot.«bool» (dv 0))))))),λds S Q ex h=>by
  unfold ze3 at h
  split at h
  ·exact h
  ·exact h.elim⟩)
def zxk  (zkU:Df K mg "_law_span_is" zmp zgA)(zcX:Fk P w K mg base 1 "_law_whole" zej ze3)(zaW:mg "len"=none)(zbk:mg "isinstance"=none)(zca:mg "tuple"=none)(zcv:Kit K "tuple"):Fk P w K mg base 2 "_law_span_is" zgA zgX:=
 zkU.mk' (zau (k:=1) zkU.F zrT (zuY) λcdv A outer s H E hr=>⟨_,(zae (zaw (PDW.pt (zbQ (zbU (zbh (zhc zcv rfl zbk rfl zca Boot.«tuple» (dv 0)))) (zcI (zas (ziw hr) (za0 zck rfl zaW Boot.«len» (zaa (dv 0) zac)) zab (zar _))))) (zaf (zak zbw)) zax) (zaf (zak (zoh (zao zcX hr (zaa (zad (dv 0) zab (λ_ _=>rfl)) zac)) (zoh (zao zcX hr (zaa (zad (dv 0) zab (λ_ _=>rfl)) zac)) (zky (zcu zdM (zad (dv 0) zab (λ_ _=>rfl)) (zad (dv 0) zab (λ_ _=>rfl)) (zar _)))))))),λds S Q ex h=>by
  unfold zgX at h
  split at h
  ·obtain⟨hab,h⟩:=h
   exact qt (Q:=Q) (decide_eq_true hab) h
  ·exact h.elim⟩)
def zvY  (zjW:Df K mg "_law_spans_are" zig zgB)(znX:Fk P w K mg base 2 "_law_span_is" zgA zgX)(zaW:mg "len"=none)(zbk:mg "isinstance"=none)(zba:mg "list"=none):Fk P w K mg base 3 "_law_spans_are" zgB zhg:=
 zjW.mk' (zau (k:=2) zjW.F zoJ (zuF) λcdv A outer s H E hr=>⟨_,(zae (zaw (PDW.pt (zbQ (zbU (zbh (zoI (zpO _) rfl zbk rfl zba Boot.«list» (dv 0)))) (zcI (zas (ziw hr) (za0 (zbo zck) rfl zaW Boot.«len» (zaa (dv 0) zac)) (dv 1) (zar _))))) (zaf (zak zbw)) zax) (zae (zcL (i:=2) PassesOwn.never rfl zoJ.nd rfl (Or.inl rfl) (dv 0) (zaf (zaw (zbU (zbh (zao znX hr (zaa (dv 2) zac)))) (zaf (zak zbw)) zax))) (zaf (zak zbw)))),λds S Q ex h=>by
  unfold zhg at h
  split at h
  ·rename_i a m
   obtain⟨vs,h1,rfl,hp,h⟩:=h
   refine zqj (n:=a) (λK hK=>by exact hK) h1 ?_
   refine zbE ?_
   refine zdE h1 ?_
   rw[Vac]
   refine ifN (λc=>absurd rfl c) (λ_=>?_)
   refine zcY (n:=a) (o:=.lst (vs.map frD)) (λk dl' S'=>S'=S∧∃u:Option D,dl'=[some (.ref a),some (.int (vs.length:Nat)),u]) ⟨rfl,_,rfl⟩ (λk dl' S' w=>by rw[w.1]; exact h1) ?_ (λdl' S' w=>by rw[w.1]; exact h)
   rintro k x dl' S' nx ct ex' ⟨rfl,u,rfl⟩ hn
   obtain⟨p,hpm,rfl⟩:=List.mem_map.mp (Vau ex')
   refine⟨hp p hpm,?_⟩
   exact hn _ _ ⟨rfl,_,rfl⟩
  ·exact h.elim⟩)
def zv6  (zlh:Df K mg "_law_cuts_are" zl7 zfV)(znw:Fk P w K mg base 3 "_law_spans_are" zgB zhg)(zcX:Fk P w K mg base 1 "_law_whole" zej ze3)(zaW:mg "len"=none)(zbk:mg "isinstance"=none)(zca:mg "tuple"=none)(zba:mg "list"=none)(zcv:Kit K "tuple"):Fk P w K mg base 4 "_law_cuts_are" zfV zf8:=
 zlh.mk' (zau (k:=3) zlh.F zpv (ztT) λcdv A outer s H E hr=>⟨_,(zae (zaw (PDW.pt (zbQ (zbU (zbh (zhc zcv rfl zbk rfl zca Boot.«tuple» (dv 0)))) (zbQ (zas (ziw hr) (za0 (zbo zck) rfl zaW Boot.«len» (zaa (dv 0) zac)) zab (zar _)) (zcI (zbU (zbh (zoI (zpO _) rfl zbk rfl zba Boot.«list» (zad (dv 0) zab (λ_ _=>rfl))))))))) (zaf (zak zbw)) zax) (zae (zcL (i:=2) PassesOwn.never rfl zpv.nd rfl (Or.inl rfl) (zad (dv 0) zab (λ_ _=>rfl)) (zae (zaw (PDW.pt (zbQ (zbU (zbh (zhc zcv rfl zbk rfl zca Boot.«tuple» (dv 2)))) (zcI (zas (ziw hr) (za0 (zbo zck) rfl zaW Boot.«len» (zaa (dv 2) zac)) zab (zar _))))) (zaf (zak zbw)) zax) (zae (zaw (PDW.pt (zbQ (zbU (zbh (zao zcX hr (zaa (zad (dv 2) zab (λ_ _=>rfl)) zac)))) (zbQ (zbU (zbh (zao zcX hr (zaa (zad (dv 2) zab (λ_ _=>rfl)) zac)))) (zcI (zbU (zbh (zao zcX hr (zaa (zad (dv 2) zab (λ_ _=>rfl)) zac)))))))) (zaf (zak zbw)) zax) (zaf (zaw (PDW.pt (zbQ (zas zbf (zad (dv 2) zab (λ_ _=>rfl)) zab (zar _)) (zbQ (zas zkv (zad (dv 2) zab (λ_ _=>rfl)) (dv 1) (zar _)) (zbQ (zas zbf (zad (dv 2) zab (λ_ _=>rfl)) zab (zar _)) (zcI (zas zdV (zad (dv 2) zab (λ_ _=>rfl)) zab (zar _))))))) (zaf (zak zbw)) zax))))) (zaf (zak (zp5 (zcu zbI (zad (dv 0) zab (λ_ _=>rfl)) zaZ (zar _)) (zky (zao znw hr (zaa (zad (dv 0) zab (λ_ _=>rfl)) (zaa (dv 1) zac))))))))),λds S Q ex h=>by
  unfold zf8 at h
  split at h
  ·rename_i c fd m
   obtain⟨cs,hc,hm,hf,h⟩:=h
   refine zqa (xs:=[.ref c,fd]) ?_
   refine zqj (n:=c) (λK hK=>by exact hK) hc ?_
   refine zcY (n:=c) (o:=.lst (cs.map Ct.d)) (λi dl' S'=>S=S'∧∃u:Option D,dl'=[some (.tup [.ref c,fd]),some (.int m),u]) ⟨rfl,_,rfl⟩ (λi dl' S' z=>z.1 ▸ hc) ?_ ?_
   ·rintro i x dl' S' nx ct ex' ⟨rfl,u,rfl⟩ hn
    have ex2:(cs.map Ct.d)[i]?=some x:=ex'
    rw[Val] at ex2
    obtain⟨cc,hp,rfl⟩:=Vaq.mp ex2
    have lk:(cc.k:Int)<m:=hm _ (Vau hp)
    refine zqa (xs:=[.int (cc.k:Int),.int cc.p,.int (if cc.s then 1 else 0)]) ?_
    refine ifD (λe=>absurd e (by omega)) (λ_=>?_)
    refine ifD (λe=>absurd e (by omega)) (λ_=>?_)
    have s0:¬ (if cc.s then (1:Int) else 0)<0:=by cases cc.s <;> decide
    have s1:¬ (if cc.s then (1:Int) else 0) > 1:=by cases cc.s <;> decide
    refine ifD (λe=>absurd e s1) (λ_=>?_)
    exact hn _ _ ⟨rfl,_,rfl⟩
   ·rintro dl' S' ⟨rfl,u,rfl⟩
    rcases hf with rfl | ⟨vs,mf,rfl,h1,h2,h3⟩
    ·exact h
    ·exact⟨vs,h1,h2,h3,h⟩
  ·exact h.elim⟩)
def zwT  (ziT:Df K mg "_law_meets" zjs zg3)(zfm:Fk P w K mg base 3 "_law_exacts" zeJ zeT):Fk P w K mg base 4 "_law_meets" zg3 zgr:=
 ziT.mk' (zau (k:=3) ziT.F zpu (zuR) λcdv A outer s H E hr=>⟨_,(zae (zap (i:=3) zpu.nd rfl (Or.inl rfl) (zaO (zao zfm hr (zaa (zdh (dv 0) zeE (zcy (zag za2 (zad (dv 1) zab (λ_ _=>rfl)) zab))) (zaa (dv 2) zac))) (zad (dv 1) zab (λ_ _=>rfl)) (λ_ _=>rfl))) (zae (zaw (zas (zaI hr) (zad (dv 1) zab (λ_ _=>rfl)) zaL (zar _)) (zaf (zak (zcu (zaI hr) (zad (dv 3) zab (λ_ _=>rfl)) zab (zar _)))) zax) (zaf (zak (zcu zkv (zad (dv 3) zab (λ_ _=>rfl)) zab (zar _)))))),λds S Q ex h=>by
  unfold zgr at h
  split at h
  ·rename_i a w k b
   obtain⟨ns,ws,ps,zero,ha,hb,hw,⟨k0,k1⟩,net,gp,hl,h⟩:=h
   obtain⟨kn,rfl⟩:∃kn:Nat,k=(kn:Int):=⟨k.toNat,by omega⟩
   rw[Vae] at h
   refine zc9 (n:=a) (o:=.lst (ns.map Nd.d)) (lo:=none) (hi:=some ((kn:Int)+1)) (S3:=S) (λK hK=>by exact hK) (λK hK=>by exact hK) (λK hK=>by exact hK) ha ?_
   have ec:zaS (ns.map Nd.d) none (some ((kn:Int)+1))=(ns.take (kn+1)).map Nd.d:=by
    rw[zgq (by omega) (by rw[Vac]; omega),List.map_take]
    rfl
   rw[show zaz (Ob.lst (ns.map Nd.d))=ns.map Nd.d from rfl,ec]
   refine⟨ns.take (kn+1),ws.take (kn+1),ps,zaE _ _,zaB hb,net.take _,gp,by rw[Vaj]; omega,λT m pr lm hf=>?_⟩
   have prS:Pre S T:=λn o e=>pr n o (zaB e)
   have ld:(zaC ps (ns.take (kn+1))).length=kn+1:=by rw[zdz,Vaj]; omega
   have ik:inR (((zaC ps (ns.take (kn+1))).length:Nat):Int) (kn:Int):=⟨by omega,by omega⟩
   refine zaF (o:=.lst ((zaC ps (ns.take (kn+1))).map frD)) hf (zaP ik) ?_
   rcases hw with ⟨rfl,rfl⟩ | ⟨rfl,rfl⟩
   ·exact h T (decide ((gt (zaC ps (ns.take (kn+1))) (kn:Int)).1=0)) prS (λe=>of_decide_eq_true e)
   ·exact h T (decide ((gt (zaC ps (ns.take (kn+1))) (kn:Int)).1≥0)) prS (λe=>of_decide_eq_true e)
  ·exact h.elim⟩)
def zrU  (zk6:Df K mg "_law_beyond" zla zfM):Fk P w K mg base 1 "_law_beyond" zfM zfL:=
 zk6.mk' (zau (k:=0) zk6.F zmS (ztV) λcdv A outer s H E hr=>⟨_,(zae (zcL (i:=3) PassesOwn.never rfl zmS.nd rfl (Or.inl rfl) (dv 1) (zae (zap (i:=4) zmS.nd rfl (Or.inl rfl) (zaO (dv 0) (zad (dv 3) zab (λ_ _=>rfl)) (λ_ _=>rfl))) (zae (zaw (PDW.pt (zdk (zas (zaI hr) (zad (dv 3) zab (λ_ _=>rfl)) zab (zar _)) (zeR (zas zdM (zag zaH (zad (dv 4) zab (λ_ _=>rfl)) (dv 2)) (zag zaH (zad (dv 3) zab (λ_ _=>rfl)) (zad (dv 4) zab (λ_ _=>rfl))) (zar _))))) (zaf (zak zbw)) zax) (zaf (zaw (PDW.pt (zdk (zas (zaI hr) (zad (dv 3) zab (λ_ _=>rfl)) zab (zar _)) (zeR (zas zkv (zag zaH (zad (dv 4) zab (λ_ _=>rfl)) (dv 2)) (zag zaH (zad (dv 3) zab (λ_ _=>rfl)) (zad (dv 4) zab (λ_ _=>rfl))) (zar _))))) (zaf (zak zbw)) zax))))) (zaf (zak zbw))),λds S Q ex h=>by
  unfold zfL at h
  split at h
  ·rename_i p c g
   obtain⟨ps,cs,hp,hc,gp,hg,hx,h⟩:=h
   have sg:Sz 20 g:=Sz.of 1000000 (by omega)
   refine zcY (n:=c) (o:=.lst (cs.map Ct.d)) (λi dl' S'=>S=S'∧∃u v:Option D,dl'=[some (.ref p),some (.ref c),some (.int g),u,v]) ⟨rfl,_,_,rfl⟩ (λi dl' S' z=>z.1 ▸ hc) ?_ ?_
   ·rintro i x dl' S' nx ct ex' ⟨rfl,u,v,rfl⟩ hn
    have ex2:(cs.map Ct.d)[i]?=some x:=ex'
    rw[Val] at ex2
    obtain⟨cc,hcc,rfl⟩:=Vaq.mp ex2
    obtain⟨lk,sp,bey⟩:=hx _ (Vau hcc)
    have ik:inR ((ps.length:Nat):Int) (cc.k:Int):=⟨by omega,by omega⟩
    have a:=gp.at ik
    refine zaF (o:=.lst (ps.map frD)) hp (zaP ik) ?_
    have fin:=hn _ _ ⟨rfl,some cc.d,some (frD (gt ps (cc.k:Int))),rfl⟩
    have m1:=zaG a.2.2.1 sg
    have m2:=zaG sp a.2.2.2
    have s0:cc.s=false↔(if cc.s then (1:Int) else 0)=0:=by cases cc.s <;> decide
    have s1:cc.s=true↔(if cc.s then (1:Int) else 0)=1:=by cases cc.s <;> decide
    refine ifD (λe=>?_) (λe=>?_)
    ·have q:=s0.mpr e
     rw[q] at bey
     have b:cc.p*(gt ps (cc.k:Int)).2<(gt ps (cc.k:Int)).1*g:=bey
     refine⟨m1,m2,?_⟩
     refine ifD (λe2=>absurd e2 (by omega)) (λ_=>?_)
     refine ifD (λe3=>absurd (s1.mpr e3) (by rw[q]; decide)) (λ_=>?_)
     exact fin
    ·refine ifD (λe3=>?_) (λe3=>?_)
     ·have q:=s1.mpr e3
      rw[q] at bey
      have b:(gt ps (cc.k:Int)).1*g<cc.p*(gt ps (cc.k:Int)).2:=bey
      refine⟨m1,m2,?_⟩
      refine ifD (λe2=>absurd e2 (by omega)) (λ_=>?_)
      exact fin
     ·exact fin
   ·rintro dl' S' ⟨rfl,u,v,rfl⟩
    exact h
  ·exact h.elim⟩)
def ztv  (zln:Df K mg "_law_in" zjP zft):Fk P w K mg base 1 "_law_in" zft zgR:=
 zln.mk' (zau (k:=0) zln.F zxc (zwt) λcdv A outer s H E hr=>⟨_,(zaf (zak (zqT zdM zdM (zag zaH (zad (dv 1) zab (λ_ _=>rfl)) (zad (dv 0) zab (λ_ _=>rfl))) (zag zaH (zad (dv 0) zab (λ_ _=>rfl)) (dv 2)) (zag zaH (zad (dv 1) zab (λ_ _=>rfl)) (zad (dv 0) zab (λ_ _=>rfl)))))),λds S Q ex h=>by
  unfold zgR at h
  split at h
  ·rename_i t u x y g
   obtain⟨⟨s1,s2,s3,s4,s5⟩,h1,h2,h⟩:=h
   refine⟨zaG s3 s2,zaG s1 s5,?_⟩
   refine ifT (decide_eq_true h1) ?_
   refine⟨zaG s4 s2,?_⟩
   exact qt (Q:=Q) (decide_eq_true h2) h
  ·exact h.elim⟩)
def zto  (zml:Df K mg "_law_within" zj4 zfB)(zoB:Fk P w K mg base 1 "_law_in" zft zgR)(zbb:mg "range"=none)(zaW:mg "len"=none):Fk P w K mg base 2 "_law_within" zfB zge:=
 zml.mk' (zau (k:=1) zml.F zps (zrn) λcdv A outer s H E hr=>⟨_,(zae (zn6 (i:=3) PassesOwn.never rfl zps.nd rfl (Or.inl rfl) rfl zbb (zaa (za0 (zbo zck) rfl zaW Boot.«len» (zaa (dv 1) zac)) zac) (zaf (zaw (zbU (zbh (zao zoB hr (zaa (zaO (dv 0) (dv 3) (λ_ _=>rfl)) (zaa (zaO (dv 1) (dv 3) (λ_ _=>rfl)) (zaa (dv 2) zac)))))) (zaf (zak zbw)) zax))) (zaf (zak zbw))),λds S Q ex h=>by
  unfold zge at h
  split at h
  ·rename_i p b g
   obtain⟨ps,bs,hp,hb,ln,l4,gp,sb,hg,iw,h⟩:=h
   have sg:Sz 20 g:=Sz.of 1000000 (by omega)
   refine zdE hb ?_
   rw[Vac]
   refine⟨⟨by omega,by omega⟩,λk dl' S'=>S'=S∧∃u:Option D,dl'=[some (.ref p),some (.ref b),some (.int g),u],⟨rfl,_,rfl⟩,?_⟩
   rintro k dl' S' ⟨rfl,u,rfl⟩
   refine zfN (λkc=>?_) (λ_=>h)
   have kc':k<bs.length:=by
    have z:k<((bs.length:Nat):Int).toNat:=kc
    omega
   have i1:inR ((ps.length:Nat):Int) (k:Int):=⟨by omega,by omega⟩
   have i2:inR ((bs.length:Nat):Int) (k:Int):=⟨by omega,by omega⟩
   have a:=gp.at i1
   have c:=sb.at i2
   have z:=iw k i1
   refine zaF (o:=.lst (ps.map frD)) hp (zaP i1) ?_
   refine zaF (o:=.lst (bs.map frD)) hb (zaP i2) ?_
   refine⟨⟨a.2.2.1.mono (by decide),a.2.2.2.mono (by decide),c.2.1.mono (by decide),c.2.2.mono (by decide),sg⟩,z.1,z.2,?_⟩
   exact⟨rfl,_,rfl⟩
  ·exact h.elim⟩)
def zrm  (zkx:Df K mg "law" zc0 zl6)(zmB:Fk P w K mg base 10 "shaves" zhO zhC)(znP:Fk P w K mg base 4 "_law_meets" zg3 zgr)(znI:Fk P w K mg base 1 "_law_beyond" zfM zfL)(znt:Fk P w K mg base 2 "_law_within" zfB zge)(zng:Fk P w K mg base 4 "_law_cuts_are" zfV zf8)(zm3:Fk P w K mg base 5 "_law_row_by" zhz zhn)(zdY:Fk P w K mg base 1 "_law_cell" zg4 zhP)(znE:Fk P w K mg base 5 "_law_net" zfG zhF)(zjx:Fk P w K mg base 3 "_law_point" zfv zhi)(znb:Fk P w K mg base 1 "_law_span" zf7 zhr)(zn1:Fk P w K mg base 1 "_law_grid" zhM zfX)(zba:mg "list"=none)(zbb:mg "range"=none):Fk P w K mg base 11 "law" zl6 zeL:=
 zkx.mk' (zau (k:=10) zkx.F zct zr5 λcdv A outer s H E hr=>⟨_,(zae (zap (i:=1) zct.nd rfl (Or.inr rfl) (zao zn1 hr (zaa (zao zdY hr (zaa (dv 0) (zaa zab zac))) zac))) (zae (zap (i:=2) zct.nd rfl (Or.inl rfl) (zag za7 (zao zdY hr (zaa (dv 0) (zaa zab zac))) (zag zb6 zab zab))) (zae (zap (i:=3) zct.nd rfl (Or.inl rfl) (zag za2 zab (zag za8 (dv 2) zab))) (zae (zap (i:=4) zct.nd rfl (Or.inr rfl) (zvE (x:="_law_k") (N:=["_law_script"]) (caps:=[0]) (ar:=zaq zc0) rfl rfl csc rfl (by decide) rfl zbb (zaa (dv 3) zac) (λ_ _ _ _ _ _=>zgk) (λ_ _ _ _ _ _=>(zao znb hr (zaa (zao zdY hr (zaa (dv 1) (zaa (zag za2 zab (dv 0)) zac))) zac))))) (zae (znh (x:="_law_cell_here") (N:=["_law_box","_law_grid_here"]) (caps:=[4,1]) (ar:=zaq zc0) rfl rfl csc rfl (by decide) (i:=5) zct.nd rfl rfl (zdh (dv 0) (zcy zab) (zcy zab)) (λ_ _ _ _ _ _=>zgk) (λ_ _ _ _ _ _=>(zao zjx hr (zaa (dv 1) (zaa (dv 2) (zaa (dv 0) zac)))))) (zae (zap (i:=6) zct.nd rfl (Or.inl rfl) (zao zjx hr (zaa (dv 4) (zaa (dv 1) (zaa (zao zdY hr (zaa (dv 0) (zaa zab zac))) zac))))) (zae (zap (i:=7) zct.nd rfl (Or.inl rfl) (zao znE hr (zaa (zdh (dv 0) (zcy zab) (zcy zab)) (zaa (dv 3) (zaa (zcu (zaI hr) (zag za8 (zag zcb (dv 2) zab) zab) zab (zar _)) (zaa zab (zaa zab zac))))))) (zae (zap (i:=8) zct.nd rfl (Or.inl rfl) (zao zm3 hr (zaa (dv 7) (zaa (dv 6) (zaa (zag zcb (dv 2) zab) (zaa (zao zdY hr (zaa (dv 0) (zaa zab zac))) zac)))))) (zae (zap (i:=9) zct.nd rfl (Or.inl rfl) (zao zmB hr (zaa (ze7 (zbo zeM) rfl zba Boot.«list» (zaa (dv 7) zac)) (zaa (dv 8) (zaa (ze7 (zbo zeM) rfl zba Boot.«list» (zaa (dv 4) zac)) (zaa (dv 1) zac)))))) (zae (zaw (zbU (zbh (zao zng hr (zaa (dv 9) (zaa (dv 3) zac))))) (zaf (zak zbw)) zax) (zae (zcL (i:=10) PassesOwn.never rfl zct.nd rfl (Or.inl rfl) (zag zom (zbg (zaa (dv 6) zac)) (dv 5)) (zaf (zaw (zbh (zao znP hr (zaa (dv 7) (zaa (dv 8) (zaa (dv 10) zac))))) (zae (zaw (PDW.pt (zbQ (zas zbI (zad (dv 9) zab (λ_ _=>rfl)) zaZ (zar _)) (zcI (zbU (zbh (zao znt hr (zaa (dv 10) (zaa (zad (dv 9) zab (λ_ _=>rfl)) (zaa (dv 1) zac))))))))) (zaf (zak zbw)) zax) (zaf (zaw (zbU (zbh (zao znI hr (zaa (dv 10) (zaa (zad (dv 9) zab (λ_ _=>rfl)) (zaa (dv 1) zac)))))) (zaf (zak zbw)) zax))) zax))) (zaf (zak (zcu (znj hr) (zao zmB hr (zaa (ze7 (zbo zeM) rfl zba Boot.«list» (zaa (dv 7) zac)) (zaa (dv 8) (zaa (ze7 (zbo zeM) rfl zba Boot.«list» (zaa (dv 4) zac)) (zaa (dv 1) zac))))) (dv 9) (zar _))))))))))))))),λds S Q ex h=>by
  obtain⟨ns,rfl,rfl,hl,h⟩:=h
  refine⟨ns,rfl,by decide,?_⟩
  intro g hg g2
  refine⟨ns,rfl,by decide,?_⟩
  refine⟨show (0:Int)<10^Int.toNat 6 by decide,?_⟩
  have dr:∀a b:Int,a≤b→a.natAbs≤10^15→b.natAbs≤10^15→∃p:Int×Int,(D.tup [.int a,.int b])=frD p∧(p.1≤p.2∧Sz 51 p.1∧Sz 51 p.2):=λa b h1 h2 h3=>⟨(a,b),rfl,h1,(Sz.of (n:=51) (10^15) h2),(Sz.of (n:=51) (10^15) h3)⟩
  refine zwm (j:=(1+ns.getD (1:Int).toNat 0%10^Int.toNat 6%4)) (S1:=[.frz (ns.map D.int)]) (λ_ d=>∃p,d=frD p∧(p.1≤p.2∧Sz 51 p.1∧Sz 51 p.2)) (λK hK=>by exact hK) ⟨by omega,by omega⟩ (λk hk S2 K pr hK=>?_) (λxs lx hx=>?_)
  ·refine⟨ns,zwa pr rfl,show (0:Int)≤2+(k:Int) by omega,?_⟩
   exact λt b h1 h2 h3=>hK _ (dr t b h1 h2 h3)
  obtain⟨ps,rfl,gp⟩:=zo1 xs hx
  rw[Vac] at lx
  have epl:(1+ns.getD (1:Int).toNat 0%10^Int.toNat 6%4)=((ps.length:Nat):Int):=by omega
  have lc:(zaS (ns.map D.int) (some 6) (some 27)).length≤63:=by
   have z:=zn7 (α:=Nat) (xs:=ns.map D.int) (lo:=some 6) (hi:=some 27)
   rw[Vac] at z
   omega
  refine zsB (n:=2) (o:=.lst (zaS (ns.map D.int) (some 6) (some 27))) (S1:=[.frz (ns.map D.int),.lst (ps.map frD),.lst (zaS (ns.map D.int) (some 6) (some 27))]) (λk ys S2=>Pre [.frz (ns.map D.int),.lst (ps.map frD),.lst (zaS (ns.map D.int) (some 6) (some 27))] S2∧S2[3]?=some (.lst ys)∧ys.length=k∧zdl g ps 3 S2 ys) (λK hK=>?_) rfl (λk ys S2 w=>⟨w.1 2 _ rfl,w.2.1,w.2.2.1⟩) (VaB lc (by decide)) ⟨Pre.refl.push,rfl,rfl,λy hy=>nomatch hy⟩ (λk x ys S2 K hx w hK=>?_) (λys S2 w=>?_)
  ·exact zc9 (n:=0) (o:=.frz (ns.map D.int)) (lo:=some 6) (hi:=some 27) (S3:=[.frz (ns.map D.int),.lst (ps.map frD)]) (λK hK=>by exact hK) (λK hK=>by exact hK) (λK hK=>by exact hK) rfl hK
  ·obtain⟨c,rfl⟩:=zqO hx
   obtain⟨w1,w2,w3,w4⟩:=w
   refine⟨ps,w1 1 _ rfl,gp,⟨hg,g2⟩,by omega,λT m qs pr lm hT l1 l2 l3=>?_⟩
   have l3':=zbR w2
   refine hK _ _ (pr _ _ w2) ⟨zbN (λn o e=>pr _ _ (w1 _ _ e)) (Vaa _),zbA (pr _ _ w2),by simp[w3],(w4.up pr).snoc (by omega) hT ⟨l1,l2,l3⟩⟩
  obtain⟨w1,w2,w3,w4⟩:=w
  refine⟨ns,w1 0 _ rfl,by decide,?_⟩
  refine⟨ps,w1 1 _ rfl,gp,⟨hg,g2⟩,by omega,λT1 m1 qs p1 lm1 hq lq gq iq=>?_⟩
  have l3:=zbR w2
  refine zc9 (n:=0) (o:=.frz (ns.map D.int)) (lo:=some 8) (hi:=some 63) (S3:=T1) (λK hK=>by exact hK) (λK hK=>by exact hK) (λK hK=>by exact hK) (p1 _ _ (w1 0 _ rfl)) ?_
  refine⟨zaS (ns.map D.int) (some 8) (some 63),ps.length,14,zaE _ _,λx hx=>?_,epl,⟨by omega,by omega⟩,rfl,⟨by decide,by decide⟩,⟨by decide,by decide⟩,λvs ws T m net hv l1 l60 pr lm hT=>?_⟩
  ·obtain⟨k,hk⟩:=List.mem_iff_getElem?.mp hx
   exact zqO hk
  have prT:Pre S2 T:=λn o e=>pr _ _ (zaB (p1 _ _ e))
  have J:T[m1]?=some (.lst (qs.map frD)):=pr _ _ (zaB hq)
  have lm':T1.length<m:=by
   have z:(T1++[Ob.lst (zaS (ns.map D.int) (some 8) (some 63))]).length≤m:=lm
   rw[Vap] at z
   have e:([Ob.lst (zaS (ns.map D.int) (some 8) (some 63))]:Sto).length=1:=rfl
   omega
  have lj:=zbR hq
  refine⟨ns,prT _ _ (w1 0 _ rfl),by decide,?_⟩
  have net1:zaD ((qs.length:Nat):Int) vs ws:=by rw[lq]; exact net
  refine⟨vs,ws,qs,hT,J,by omega,net1,hv,gq,⟨by omega,by omega⟩,l1,l60,λT2 w zero k ns' ws' hw gr lk=>?_⟩
  have net2:zaD ((ps.length:Nat):Int) ns' ws':=by rw[← lq]; exact gr.net
  have gl:=gr.ln
  have kp:∀ {n:Nat} {o:Ob},n<T1.length→T[n]?=some o→T2[n]?=some o:=λ{n o} l e=>gr.kp n o (by omega) e
  have B2:T2[1]?=some (.lst (ps.map frD)):=kp (by omega) (prT _ _ (w1 1 _ rfl))
  have J2:T2[m1]?=some (.lst (qs.map frD)):=kp lj J
  have Y2:T2[3]?=some (.lst ys):=kp (Var l3 (by have:=zbR (p1 _ _ w2); omega)) (prT _ _ w2)
  refine zd7 (zbd gr.nd rfl) ?_
  refine zd7 (zbd (zaB B2) rfl) ?_
  have H1:=zaB (T:=[.lst (ps.map frD)]) (zaE T2 (.lst (ns'.map Nd.d)))
  have O1:=zaE (T2++[.lst (ns'.map Nd.d)]) (.lst (ps.map frD))
  have lf:∀ {n:Nat} {o:Ob},T2[n]?=some o→(T2++[Ob.lst (ns'.map Nd.d)]++[Ob.lst (ps.map frD)])[n]?=some o:=λe=>zaB (zaB e)
  have N1:=lf gr.nd
  have B1:=lf B2
  have J1:=lf J2
  have Y1:=lf Y2
  have l70:ns'.length≤70:=by omega
  have hkk:inR ((ns'.length:Nat):Int) (k:Int):=⟨by omega,by omega⟩
  refine⟨ns',ws',ps,zero,H1,O1,hw,hkk,net2,gp,⟨hg,g2⟩,l70,by omega,λT3 mc fd pr3 lmc hc hf=>?_⟩
  rw[Vae] at hc hf
  have cok:(∀x∈(shS ns' zero k ps g).1,x.k<ps.length)∧(∀left,(shS ns' zero k ps g).2=some left→left.length=ps.length∧∀p∈left,p.1≤p.2):=by
   cases hb:ibS ns' zero k ps g with
   | true=>
    rw[zsr hb]
    exact⟨λx hx=>(nomatch hx),λleft e=>(by cases e)⟩
   | false=>
    obtain⟨left,el,C⟩:=zqe net2 gp ⟨hg,g2⟩ lk hb
    refine⟨λx hx=>?_,λl2 e2=>?_⟩
    ·obtain⟨i,hi⟩:=List.mem_iff_getElem?.mp hx
     exact(C.is i x hi).2
    ·rw[el] at e2
     cases e2
     exact⟨C.len,λp hp=>(C.spn p hp).1⟩
  refine⟨_,hc,λx hx=>?_,?_,?_⟩
  ·have:=cok.1 x hx
   omega
  ·rcases hf with ⟨rfl,_⟩ | ⟨r,mf,rfl,e,hr,_⟩
   ·exact .inl rfl
   ·have z:=cok.2 r e
    exact .inr ⟨r,mf,rfl,hr,by rw[z.1]; exact epl,z.2⟩
  have P4:zdl g ps 3 (T3++[Ob.lst [.ref m1]]++[Ob.lst ([.ref m1]++ys)]) ([.ref m1]++ys):=λy hy=>by
   rcases VaT.mp hy with z | z
   ·exact⟨m1,qs,VaJ.mp z,by omega,zaB (zaB (pr3 _ _ J1)),lq,gq,iq⟩
   ·obtain⟨mp,qp,e,n3,hm,p⟩:=w4 y z
    have lmp:=zbR (p1 _ _ hm)
    exact⟨mp,qp,e,n3,zaB (zaB (pr3 _ _ (lf (kp lmp (prT _ _ hm))))),p⟩
  have pr4:Pre T3 (T3++[Ob.lst [.ref m1]]++[Ob.lst ([.ref m1]++ys)]):=λn o e=>zaB (zaB e)
  refine zbE ?_
  dsimp only[L3.znU]
  refine zh9 (λdl2 S5=>Pre T3 S5∧∃u:Option D,dl2=[some (.ref 0),some (.int g),some (.int (ns.getD (1:Int).toNat 0%10^Int.toNat 6)),some (.int (1+ns.getD (1:Int).toNat 0%10^Int.toNat 6%4)),some (.ref 1),some (.ref 3),some (.ref m1),some (.ref m),some (.tup [.str w,.int (k:Int)]),some (.tup [.ref mc,fd]),u]) (λnx hn=>?_) ?_
  ·refine zox (n:=T3.length) (m:=3) (xs:=[.ref m1]) (ys:=ys) (zaE _ _) (zaB (pr3 _ _ Y1)) (by rw[w3]; show 1+(zaS (ns.map D.int) (some 6) (some 27)).length≤1000; omega) ?_
   refine zcY (n:=(T3++[Ob.lst [.ref m1]]).length) (o:=.lst ([.ref m1]++ys)) (λi dl' S'=>Pre (T3++[Ob.lst [.ref m1]]++[Ob.lst ([.ref m1]++ys)]) S'∧∃u:Option D,dl'=[some (.ref 0),some (.int g),some (.int (ns.getD (1:Int).toNat 0%10^Int.toNat 6)),some (.int (1+ns.getD (1:Int).toNat 0%10^Int.toNat 6%4)),some (.ref 1),some (.ref 3),some (.ref m1),some (.ref m),some (.tup [.str w,.int (k:Int)]),some (.tup [.ref mc,fd]),u]) ⟨Pre.refl,_,rfl⟩ (λi dl' S' z=>z.1 _ _ (zaE _ _)) ?_ (λdl' S' z=>hn _ _ ⟨pr4.trans z.1,z.2⟩)
   rintro i x dl' S' nx ct ex' ⟨pr',u,rfl⟩ hn
   obtain⟨mp,qp,rfl,_,hmp,lqp,gqp,iqp⟩:=P4 x (Vau ex')
   refine⟨ns',ws',qp,zero,pr' _ _ (pr4 _ _ (pr3 _ _ N1)),pr' _ _ hmp,hw,hkk,by rw[lqp]; exact net2,gqp,l70,λT5 b pr5 hb=>?_⟩
   cases b with
   | false=>exact hn _ _ ⟨pr'.trans pr5,_,rfl⟩
   | true=>
    have row:=hb rfl
    rw[Vae] at row
    have pz:Pz 110 qp:=λp hp=>⟨(gqp p hp).1,(gqp p hp).2.2.1,(gqp p hp).2.2.2⟩
    have nb:=zoR net2 hg lk lqp pz iqp row
    obtain⟨left,el,C⟩:=zqe net2 gp ⟨hg,g2⟩ lk nb
    obtain⟨inl,bey⟩:=zrY C net2 hg lk lqp pz iqp row (shS ns' zero k ps g).1.length (Vaa _)
    have inl2:InW g left qp:=by
     have e:left=ctA ps (shS ns' zero k ps g).1:=C.left
     have z:InW g (ctA ps ((shS ns' zero k ps g).1.take (shS ns' zero k ps g).1.length)) qp:=inl
     rw[VaX] at z
     rw[e]
     exact z
    rcases hf with ⟨rfl,en⟩ | ⟨r',mf,rfl,en,hmf,lmf⟩
    ·rw[el] at en
     cases en
    ·rw[el] at en
     cases en
     have cl:left.length=ps.length:=C.len
     refine⟨qp,left,pr5 _ _ (pr' _ _ hmp),pr5 _ _ (pr' _ _ (pr4 _ _ hmf)),by omega,by omega,gqp,(show Spn 51 left from C.spn).mono (by decide),⟨hg,g2⟩,inl2,?_⟩
     refine⟨qp,_,pr5 _ _ (pr' _ _ hmp),pr5 _ _ (pr' _ _ (pr4 _ _ hc)),gqp,⟨hg,g2⟩,λx hx=>?_,?_⟩
     ·obtain⟨j,hj⟩:=List.mem_iff_getElem?.mp hx
      exact⟨by have:=cok.1 x hx; omega,C.p_sz gp hj,bey j x (Vab.mp hj).1 hj⟩
     ·exact hn _ _ ⟨pr'.trans pr5,_,rfl⟩
  rintro dl2 S5 ⟨pr5,u,rfl⟩
  have p5:∀ {n:Nat} {o:Ob},(T2++[Ob.lst (ns'.map Nd.d)]++[Ob.lst (ps.map frD)])[n]?=some o→S5[n]?=some o:=λe=>pr5 _ _ (pr3 _ _ e)
  refine zd7 (zbd (p5 N1) rfl) ?_
  refine zd7 (zbd (zaB (p5 B1)) rfl) ?_
  refine⟨ns',ws',ps,zero,zaB (zaE _ _),zaE _ _,hw,hkk,net2,gp,⟨hg,g2⟩,l70,by omega,λT7 mc7 fd7 pr7 lm7 hc7 hf7=>?_⟩
  rw[Vae] at hc7 hf7
  have c7:T7[mc]?=some (.lst ((shS ns' zero k ps g).1.map Ct.d)):=pr7 _ _ (zaB (zaB (pr5 _ _ hc)))
  refine⟨⟨rfl,λi x y hx hy=>?_⟩,h _⟩
  rcases i with _ | _ | i
  ·cases hx
   cases hy
   exact zqr (zt7 (n:=3)) hc7 c7
  ·cases hx
   cases hy
   rcases hf7 with ⟨rfl,e7⟩ | ⟨r7,m7,rfl,e7,h7,_⟩
   ·rcases hf with ⟨rfl,_⟩ | ⟨r,mf,rfl,e,hr,_⟩
    ·exact alk0 rfl 5
    ·rw[e7] at e
     cases e
   ·rcases hf with ⟨rfl,e⟩ | ⟨r,mf,rfl,e,hr,_⟩
    ·rw[e7] at e
     cases e
    ·rw[e7] at e
     cases e
     exact zqr (zxL (n:=3)) h7 (pr7 _ _ (zaB (zaB (pr5 _ _ hr))))
  ·simp at hx⟩)
end
theorem zsW {l:PySem.W.OpenLaw}{w:World}{K:PySem.W.Frag}{h:Heap}{mg:Str→Option Value}{fa:Addr}(X:K.In h)(G:h.Ns mainGlobals mg)(hfa:mg "law"=some (.ref fa))
  {zb4:Addr}(zle:PySem.W.nsIn K mainGlobals "Number"=some (some (.ref zb4)))(zkR:PySem.W.plainGet K zb4 Str.empty=true)(zj3:PySem.W.hasDictIn K zb4=true)(ziz:PySem.W.plainOver K zb4=true)(zlf:PySem.W.findIn K (.ref zb4) "__setattr__"=some (some (.builtin "object.__setattr__")))(ziZ:PySem.W.makesIn K zb4=true)(zk9:PySem.W.keepIn K (.ref zb4)=true)
  (zi7:PySem.W.findIn K (.ref zb4) "bottom"=some none)
  (zjQ:PySem.W.findIn K (.ref zb4) "top"=some none)
  {zb7:Addr}(ziu:PySem.W.nsIn K mainGlobals "Unknown"=some (some (.ref zb7)))(zlT:PySem.W.plainGet K zb7 Str.empty=true)(zjX:PySem.W.hasDictIn K zb7=true)(zjJ:PySem.W.plainOver K zb7=true)(zi0:PySem.W.findIn K (.ref zb7) "__setattr__"=some (some (.builtin "object.__setattr__")))(zjg:PySem.W.makesIn K zb7=true)(zlv:PySem.W.keepIn K (.ref zb7)=true)
  (zkP:PySem.W.findIn K (.ref zb7) "place"=some none)
  {zbJ:Addr}(zmg:PySem.W.nsIn K mainGlobals "Plus"=some (some (.ref zbJ)))(zlm:PySem.W.plainGet K zbJ Str.empty=true)(zkI:PySem.W.hasDictIn K zbJ=true)(zl0:PySem.W.plainOver K zbJ=true)(zld:PySem.W.findIn K (.ref zbJ) "__setattr__"=some (some (.builtin "object.__setattr__")))(zjy:PySem.W.makesIn K zbJ=true)(zmG:PySem.W.keepIn K (.ref zbJ)=true)
  (zjN:PySem.W.findIn K (.ref zbJ) "other"=some none)
  (zkZ:PySem.W.findIn K (.ref zbJ) "one"=some none)
  {zbK:Addr}(zi9:PySem.W.nsIn K mainGlobals "Minus"=some (some (.ref zbK)))(zil:PySem.W.plainGet K zbK Str.empty=true)(zlr:PySem.W.hasDictIn K zbK=true)(zj7:PySem.W.plainOver K zbK=true)(zmH:PySem.W.findIn K (.ref zbK) "__setattr__"=some (some (.builtin "object.__setattr__")))(ziB:PySem.W.makesIn K zbK=true)(ziQ:PySem.W.keepIn K (.ref zbK)=true)
  (zja:PySem.W.findIn K (.ref zbK) "other"=some none)
  (zh0:PySem.W.findIn K (.ref zbK) "one"=some none)
  {zbL:Addr}(ziS:PySem.W.nsIn K mainGlobals "Times"=some (some (.ref zbL)))(zkY:PySem.W.plainGet K zbL Str.empty=true)(ziq:PySem.W.hasDictIn K zbL=true)(zkN:PySem.W.plainOver K zbL=true)(zmL:PySem.W.findIn K (.ref zbL) "__setattr__"=some (some (.builtin "object.__setattr__")))(zkt:PySem.W.makesIn K zbL=true)(ziF:PySem.W.keepIn K (.ref zbL)=true)
  (zkD:PySem.W.findIn K (.ref zbL) "other"=some none)
  (zjC:PySem.W.findIn K (.ref zbL) "one"=some none)
  {zbV:Addr}(zkz:PySem.W.nsIn K mainGlobals "Power"=some (some (.ref zbV)))(zkf:PySem.W.plainGet K zbV Str.empty=true)(zlG:PySem.W.hasDictIn K zbV=true)(zj6:PySem.W.plainOver K zbV=true)(zkW:PySem.W.findIn K (.ref zbV) "__setattr__"=some (some (.builtin "object.__setattr__")))(zmm:PySem.W.makesIn K zbV=true)(zlV:PySem.W.keepIn K (.ref zbV)=true)
  (zkk:PySem.W.findIn K (.ref zbV) "many"=some none)
  (zjz:PySem.W.findIn K (.ref zbV) "one"=some none)
  {f0 h0:Addr}{m0:Value}(a0:nsA K "_law_grid" f0)(l0:lkA K f0 "_law_grid" "_law_grid" zlU m0 h0)(c0:cdA K h0 "_law_grid")
  {f1 h1:Addr}{m1:Value}(a1:nsA K "_law_divisor" f1)(l1:lkA K f1 "_law_divisor" "_law_divisor" zh4 m1 h1)(c1:cdA K h1 "_law_divisor")
  {f2 h2:Addr}{m2:Value}(a2:nsA K "_law_fraction" f2)(l2:lkA K f2 "_law_fraction" "_law_fraction" zmD m2 h2)(c2:cdA K h2 "_law_fraction")
  {f3 h3:Addr}{m3:Value}(a3:nsA K "_law_point" f3)(l3:lkA K f3 "_law_point" "_law_point" ziM m3 h3)(c3:cdA K h3 "_law_point")
  {f4 h4:Addr}{m4:Value}(a4:nsA K "_law_number" f4)(l4:lkA K f4 "_law_number" "_law_number" zmw m4 h4)(c4:cdA K h4 "_law_number")
  {f5 h5:Addr}{m5:Value}(a5:nsA K "_law_node" f5)(l5:lkA K f5 "_law_node" "_law_node" zmK m5 h5)(c5:cdA K h5 "_law_node")
  {f6 h6:Addr}{m6:Value}(a6:nsA K "_law_weight" f6)(l6:lkA K f6 "_law_weight" "_law_weight" zkb m6 h6)(c6:cdA K h6 "_law_weight")
  {f7 h7:Addr}{m7:Value}(a7:nsA K "_law_net" f7)(l7:lkA K f7 "_law_net" "_law_net" zeq m7 h7)(c7:cdA K h7 "_law_net")
  {f8 h8:Addr}{m8:Value}(a8:nsA K "_law_put" f8)(l8:lkA K f8 "_law_put" "_law_put" zli m8 h8)(c8:cdA K h8 "_law_put")
  {f9 h9:Addr}{m9:Value}(a9:nsA K "_law_power" f9)(l9:lkA K f9 "_law_power" "_law_power" ziR m9 h9)(c9:cdA K h9 "_law_power")
  {f10 h10:Addr}{m10:Value}(a10:nsA K "_law_exact" f10)(l10:lkA K f10 "_law_exact" "_law_exact" zjv m10 h10)(c10:cdA K h10 "_law_exact")
  {f11 h11:Addr}{m11:Value}(a11:nsA K "_law_exacts" f11)(l11:lkA K f11 "_law_exacts" "_law_exacts" zku m11 h11)(c11:cdA K h11 "_law_exacts")
  {f12 h12:Addr}{m12:Value}(a12:nsA K "_law_met_row" f12)(l12:lkA K f12 "_law_met_row" "_law_met_row" zkc m12 h12)(c12:cdA K h12 "_law_met_row")
  {f13 h13:Addr}{m13:Value}(a13:nsA K "_law_row_by" f13)(l13:lkA K f13 "_law_row_by" "_law_row_by" zkB m13 h13)(c13:cdA K h13 "_law_row_by")
  {f14 h14:Addr}{m14:Value}(a14:nsA K "bars" f14)(l14:lkA K f14 "bars" "bars" zin m14 h14)(c14:cdA K h14 "bars")
  {f15 h15:Addr}{m15:Value}(a15:nsA K "less" f15)(l15:lkA K f15 "less" "less" zmi m15 h15)(c15:cdA K h15 "less")
  {f16 h16:Addr}{m16:Value}(a16:nsA K "rounded_up" f16)(l16:lkA K f16 "rounded_up" "rounded_up" zic m16 h16)(c16:cdA K h16 "rounded_up")
  {f17 h17:Addr}{m17:Value}(a17:nsA K "span_of" f17)(l17:lkA K f17 "span_of" "span_of" zkr m17 h17)(c17:cdA K h17 "span_of")
  {f18 h18:Addr}{m18:Value}(a18:fdA K zb4 "forth" f18)(l18:lkA K f18 "forth" "Number.forth" zik m18 h18)(c18:cdA K h18 "Number.forth")
  {f19 h19:Addr}{m19:Value}(a19:fdA K zb7 "forth" f19)(l19:lkA K f19 "forth" "Unknown.forth" ziN m19 h19)(c19:cdA K h19 "Unknown.forth")
  {f20 h20:Addr}{m20:Value}(a20:nsA K "add_spans" f20)(l20:lkA K f20 "add_spans" "add_spans" zit m20 h20)(c20:cdA K h20 "add_spans")
  {f21 h21:Addr}{m21:Value}(a21:fdA K zbJ "forth" f21)(l21:lkA K f21 "forth" "Plus.forth" zij m21 h21)(c21:cdA K h21 "Plus.forth")
  {f22 h22:Addr}{m22:Value}(a22:nsA K "take_spans" f22)(l22:lkA K f22 "take_spans" "take_spans" zkE m22 h22)(c22:cdA K h22 "take_spans")
  {f23 h23:Addr}{m23:Value}(a23:fdA K zbK "forth" f23)(l23:lkA K f23 "forth" "Minus.forth" zmu m23 h23)(c23:cdA K h23 "Minus.forth")
  {f24 h24:Addr}{m24:Value}(a24:nsA K "mul_spans" f24)(l24:lkA K f24 "mul_spans" "mul_spans" zlH m24 h24)(c24:cdA K h24 "mul_spans")
  {f25 h25:Addr}{m25:Value}(a25:fdA K zbL "forth" f25)(l25:lkA K f25 "forth" "Times.forth" zmI m25 h25)(c25:cdA K h25 "Times.forth")
  {f26 h26:Addr}{m26:Value}(a26:nsA K "raised" f26)(l26:lkA K f26 "raised" "raised" zlk m26 h26)(c26:cdA K h26 "raised")
  {f27 h27:Addr}{m27:Value}(a27:nsA K "raise_span" f27)(l27:lkA K f27 "raise_span" "raise_span" zht m27 h27)(c27:cdA K h27 "raise_span")
  {f28 h28:Addr}{m28:Value}(a28:fdA K zbV "forth" f28)(l28:lkA K f28 "forth" "Power.forth" zjt m28 h28)(c28:cdA K h28 "Power.forth")
  {f29 h29:Addr}{m29:Value}(a29:fdA K zbV "__init__" f29)(l29:lkA K f29 "__init__" "Power.__init__" ziX m29 h29)(c29:cdA K h29 "Power.__init__")
  {f30 h30:Addr}{m30:Value}(a30:fdA K zb4 "__init__" f30)(l30:lkA K f30 "__init__" "Number.__init__" zkF m30 h30)(c30:cdA K h30 "Number.__init__")
  {f31 h31:Addr}{m31:Value}(a31:fdA K zb7 "__init__" f31)(l31:lkA K f31 "__init__" "Unknown.__init__" zjl m31 h31)(c31:cdA K h31 "Unknown.__init__")
  {f32 h32:Addr}{m32:Value}(a32:fdA K zbJ "__init__" f32)(l32:lkA K f32 "__init__" "Pair.__init__" zkH m32 h32)(c32:cdA K h32 "Pair.__init__")
  {f33 h33:Addr}{m33:Value}(a33:fdA K zbK "__init__" f33)(l33:lkA K f33 "__init__" "Pair.__init__" zk4 m33 h33)(c33:cdA K h33 "Pair.__init__")
  {f34 h34:Addr}{m34:Value}(a34:fdA K zbL "__init__" f34)(l34:lkA K f34 "__init__" "Pair.__init__" zh8 m34 h34)(c34:cdA K h34 "Pair.__init__")
  {f35 h35:Addr}{m35:Value}(a35:nsA K "kind_of" f35)(l35:lkA K f35 "kind_of" "kind_of" zlj m35 h35)(c35:cdA K h35 "kind_of")
  {f36 h36:Addr}{m36:Value}(a36:nsA K "worths" f36)(l36:lkA K f36 "worths" "worths" ziO m36 h36)(c36:cdA K h36 "worths")
  {f37 h37:Addr}{m37:Value}(a37:nsA K "is_barred" f37)(l37:lkA K f37 "is_barred" "is_barred" zjM m37 h37)(c37:cdA K h37 "is_barred")
  {f38 h38:Addr}{m38:Value}(a38:nsA K "common" f38)(l38:lkA K f38 "common" "common" zid m38 h38)(c38:cdA K h38 "common")
  {f39 h39:Addr}{m39:Value}(a39:nsA K "asked_of" f39)(l39:lkA K f39 "asked_of" "asked_of" zmE m39 h39)(c39:cdA K h39 "asked_of")
  {f40 h40:Addr}{m40:Value}(a40:fdA K zb4 "back" f40)(l40:lkA K f40 "back" "Number.back" zmk m40 h40)(c40:cdA K h40 "Number.back")
  {f41 h41:Addr}{m41:Value}(a41:fdA K zb7 "back" f41)(l41:lkA K f41 "back" "Unknown.back" zlQ m41 h41)(c41:cdA K h41 "Unknown.back")
  {f42 h42:Addr}{m42:Value}(a42:fdA K zbJ "first_left" f42)(l42:lkA K f42 "first_left" "Plus.first_left" zkL m42 h42)(c42:cdA K h42 "Plus.first_left")
  {f43 h43:Addr}{m43:Value}(a43:fdA K zbJ "second_left" f43)(l43:lkA K f43 "second_left" "Plus.second_left" zma m43 h43)(c43:cdA K h43 "Plus.second_left")
  {f44 h44:Addr}{m44:Value}(a44:fdA K zbJ "back" f44)(l44:lkA K f44 "back" "Pair.back" zlD m44 h44)(c44:cdA K h44 "Pair.back")
  {f45 h45:Addr}{m45:Value}(a45:fdA K zbK "first_left" f45)(l45:lkA K f45 "first_left" "Minus.first_left" zk3 m45 h45)(c45:cdA K h45 "Minus.first_left")
  {f46 h46:Addr}{m46:Value}(a46:fdA K zbK "second_left" f46)(l46:lkA K f46 "second_left" "Minus.second_left" ziJ m46 h46)(c46:cdA K h46 "Minus.second_left")
  {f47 h47:Addr}{m47:Value}(a47:fdA K zbK "back" f47)(l47:lkA K f47 "back" "Pair.back" zkn m47 h47)(c47:cdA K h47 "Pair.back")
  {f48 h48:Addr}{m48:Value}(a48:nsA K "holds_nought" f48)(l48:lkA K f48 "holds_nought" "holds_nought" zmv m48 h48)(c48:cdA K h48 "holds_nought")
  {f49 h49:Addr}{m49:Value}(a49:nsA K "part_between" f49)(l49:lkA K f49 "part_between" "part_between" zj1 m49 h49)(c49:cdA K h49 "part_between")
  {f50 h50:Addr}{m50:Value}(a50:nsA K "quotient" f50)(l50:lkA K f50 "quotient" "quotient" zlY m50 h50)(c50:cdA K h50 "quotient")
  {f51 h51:Addr}{m51:Value}(a51:nsA K "back_by_side" f51)(l51:lkA K f51 "back_by_side" "back_by_side" zmF m51 h51)(c51:cdA K h51 "back_by_side")
  {f52 h52:Addr}{m52:Value}(a52:nsA K "hull" f52)(l52:lkA K f52 "hull" "hull" zi3 m52 h52)(c52:cdA K h52 "hull")
  {f53 h53:Addr}{m53:Value}(a53:nsA K "joined" f53)(l53:lkA K f53 "joined" "joined" zlb m53 h53)(c53:cdA K h53 "joined")
  {f54 h54:Addr}{m54:Value}(a54:nsA K "opposite" f54)(l54:lkA K f54 "opposite" "opposite" zkK m54 h54)(c54:cdA K h54 "opposite")
  {f55 h55:Addr}{m55:Value}(a55:nsA K "back_times" f55)(l55:lkA K f55 "back_times" "back_times" zir m55 h55)(c55:cdA K h55 "back_times")
  {f56 h56:Addr}{m56:Value}(a56:fdA K zbL "first_left" f56)(l56:lkA K f56 "first_left" "Times.first_left" zl2 m56 h56)(c56:cdA K h56 "Times.first_left")
  {f57 h57:Addr}{m57:Value}(a57:fdA K zbL "second_left" f57)(l57:lkA K f57 "second_left" "Times.second_left" zko m57 h57)(c57:cdA K h57 "Times.second_left")
  {f58 h58:Addr}{m58:Value}(a58:fdA K zbL "back" f58)(l58:lkA K f58 "back" "Pair.back" zmo m58 h58)(c58:cdA K h58 "Pair.back")
  {f59 h59:Addr}{m59:Value}(a59:nsA K "next_guess" f59)(l59:lkA K f59 "next_guess" "next_guess" zmj m59 h59)(c59:cdA K h59 "next_guess")
  {f60 h60:Addr}{m60:Value}(a60:nsA K "root_below" f60)(l60:lkA K f60 "root_below" "root_below" zjp m60 h60)(c60:cdA K h60 "root_below")
  {f61 h61:Addr}{m61:Value}(a61:nsA K "root" f61)(l61:lkA K f61 "root" "root" zfQ m61 h61)(c61:cdA K h61 "root")
  {f62 h62:Addr}{m62:Value}(a62:nsA K "back_power" f62)(l62:lkA K f62 "back_power" "back_power" zlS m62 h62)(c62:cdA K h62 "back_power")
  {f63 h63:Addr}{m63:Value}(a63:fdA K zbV "back" f63)(l63:lkA K f63 "back" "Power.back" zh1 m63 h63)(c63:cdA K h63 "Power.back")
  {f64 h64:Addr}{m64:Value}(a64:nsA K "spans_back" f64)(l64:lkA K f64 "spans_back" "spans_back" zjd m64 h64)(c64:cdA K h64 "spans_back")
  {f65 h65:Addr}{m65:Value}(a65:nsA K "narrowed" f65)(l65:lkA K f65 "narrowed" "narrowed" zi2 m65 h65)(c65:cdA K h65 "narrowed")
  {f66 h66:Addr}{m66:Value}(a66:nsA K "with_span" f66)(l66:lkA K f66 "with_span" "with_span" zjc m66 h66)(c66:cdA K h66 "with_span")
  {f67 h67:Addr}{m67:Value}(a67:nsA K "cut_off" f67)(l67:lkA K f67 "cut_off" "cut_off" zii m67 h67)(c67:cdA K h67 "cut_off")
  {f68 h68:Addr}{m68:Value}(a68:nsA K "is_shave" f68)(l68:lkA K f68 "is_shave" "is_shave" zh7 m68 h68)(c68:cdA K h68 "is_shave")
  {f69 h69:Addr}{m69:Value}(a69:nsA K "cut_back" f69)(l69:lkA K f69 "cut_back" "cut_back" zlL m69 h69)(c69:cdA K h69 "cut_back")
  {f70 h70:Addr}{m70:Value}(a70:nsA K "shaves" f70)(l70:lkA K f70 "shaves" "shaves" zhV m70 h70)(c70:cdA K h70 "shaves")
  {f71 h71:Addr}{m71:Value}(a71:nsA K "_law_cell" f71)(l71:lkA K f71 "_law_cell" "_law_cell" zie m71 h71)(c71:cdA K h71 "_law_cell")
  {f72 h72:Addr}{m72:Value}(a72:nsA K "_law_span" f72)(l72:lkA K f72 "_law_span" "_law_span" zlz m72 h72)(c72:cdA K h72 "_law_span")
  {f73 h73:Addr}{m73:Value}(a73:nsA K "_law_whole" f73)(l73:lkA K f73 "_law_whole" "_law_whole" zhY m73 h73)(c73:cdA K h73 "_law_whole")
  {f74 h74:Addr}{m74:Value}(a74:nsA K "_law_span_is" f74)(l74:lkA K f74 "_law_span_is" "_law_span_is" zmp m74 h74)(c74:cdA K h74 "_law_span_is")
  {f75 h75:Addr}{m75:Value}(a75:nsA K "_law_spans_are" f75)(l75:lkA K f75 "_law_spans_are" "_law_spans_are" zig m75 h75)(c75:cdA K h75 "_law_spans_are")
  {f76 h76:Addr}{m76:Value}(a76:nsA K "_law_cuts_are" f76)(l76:lkA K f76 "_law_cuts_are" "_law_cuts_are" zl7 m76 h76)(c76:cdA K h76 "_law_cuts_are")
  {f77 h77:Addr}{m77:Value}(a77:nsA K "_law_meets" f77)(l77:lkA K f77 "_law_meets" "_law_meets" zjs m77 h77)(c77:cdA K h77 "_law_meets")
  {f78 h78:Addr}{m78:Value}(a78:nsA K "_law_beyond" f78)(l78:lkA K f78 "_law_beyond" "_law_beyond" zla m78 h78)(c78:cdA K h78 "_law_beyond")
  {f79 h79:Addr}{m79:Value}(a79:nsA K "_law_in" f79)(l79:lkA K f79 "_law_in" "_law_in" zjP m79 h79)(c79:cdA K h79 "_law_in")
  {f80 h80:Addr}{m80:Value}(a80:nsA K "_law_within" f80)(l80:lkA K f80 "_law_within" "_law_within" zj4 m80 h80)(c80:cdA K h80 "_law_within")
  {f81 h81:Addr}{m81:Value}(a81:nsA K "law" f81)(l81:lkA K f81 "law" "law" zc0 m81 h81)(c81:cdA K h81 "law")
  (zb5:PySem.W.nsIn K mainGlobals "abs"=some none)
  (zaW:PySem.W.nsIn K mainGlobals "len"=some none)
  (zbb:PySem.W.nsIn K mainGlobals "range"=some none)
  (zaT:PySem.W.nsIn K mainGlobals "max"=some none)
  (zbe:PySem.W.nsIn K mainGlobals "min"=some none)
  (zcn:PySem.W.nsIn K mainGlobals "enumerate"=some none)
  (zba:PySem.W.nsIn K mainGlobals "list"=some none)
  (zbk:PySem.W.nsIn K mainGlobals "isinstance"=some none)
  (zdv:PySem.W.nsIn K mainGlobals "bool"=some none)
  (zdB:PySem.W.nsIn K mainGlobals "int"=some none)
  (zca:PySem.W.nsIn K mainGlobals "tuple"=some none)
  (ze1:Kit K "bool")
  (zeQ:Kit K "int")
  (zcv:Kit K "tuple")
  :∃fd:FuncData,(∀(s:Shared) (v:Value),BindsTo s fd ⟨[v],[]⟩ [("_law_script",v)])∧∀base:Heap,K.In base→base.Ns mainGlobals mg→za1 l.prog w K mg base (CXE l.prog w) 11 fa fd ["_law_script"] (upF K zeL):=by
 have e:=hfa.symm.trans (PySem.W.mg_of X G a81)
 cases e
 let zam:zbt K mg:=⟨zb4,PySem.W.mg_of X G zle,⟨zkR,zj3,ziz,zlf⟩,zi7,zjQ,ziZ,zk9⟩
 let zan:zbv K mg:=⟨zb7,PySem.W.mg_of X G ziu,⟨zlT,zjX,zjJ,zi0⟩,zkP,zjg,zlv⟩
 let zaj:zbn K mg:=⟨zbJ,PySem.W.mg_of X G zmg,⟨zlm,zkI,zl0,zld⟩,zjN,zkZ,zjy,zmG⟩
 let zah:zbr K mg:=⟨zbK,PySem.W.mg_of X G zi9,⟨zil,zlr,zj7,zmH⟩,zja,zh0,ziB,ziQ⟩
 let zai:zbm K mg:=⟨zbL,PySem.W.mg_of X G ziS,⟨zkY,ziq,zkN,zmL⟩,zkD,zjC,zkt,ziF⟩
 let zal:zbu K mg:=⟨zbV,PySem.W.mg_of X G zkz,⟨zkf,zlG,zj6,zkW⟩,zkk,zjz,zmm,zlV⟩
 let zk0:Df K mg "_law_grid" zlU zhM:=dfo X G a0 l0 c0 λ_ _ _ _ _ _=>ln1 λ_=>rfl
 let zl9:Df K mg "_law_divisor" zh4 zfW:=dfo X G a1 l1 c1 λ_ _ _ _ _ _=>ln2 λ_ _=>rfl
 let zlB:Df K mg "_law_fraction" zmD zd2:=dfo X G a2 l2 c2 λ_ _ _ _ _ _=>ln2 λ_ _=>rfl
 let zk1:Df K mg "_law_point" ziM zfv:=dfo X G a3 l3 c3 λ_ _ _ _ _ _=>ln3 λ_ _ _=>rfl
 let zlZ:Df K mg "_law_number" zmw zg1:=dfo X G a4 l4 c4 λ_ _ _ _ _ _=>ln1 λ_=>rfl
 let ziG:Df K mg "_law_node" zmK zfC:=dfo X G a5 l5 c5 λ_ _ _ _ _ _=>ln3 λ_ _ _=>rfl
 let zkd:Df K mg "_law_weight" zkb zg7:=dfo X G a6 l6 c6 λ_ _ _ _ _ _=>ln2 λ_ _=>rfl
 let ziY:Df K mg "_law_net" zeq zfG:=dfo X G a7 l7 c7 λ_ _ _ _ _ _=>ln5 λ_ _ _ _ _=>rfl
 let zmb:Df K mg "_law_put" zli zhD:=dfo X G a8 l8 c8 λ_ _ _ _ _ _=>ln2 λ_ _=>rfl
 let zmx:Df K mg "_law_power" ziR zfP:=dfo X G a9 l9 c9 λ_ _ _ _ _ _=>ln2 λ_ _=>rfl
 let zkA:Df K mg "_law_exact" zjv zg5:=dfo X G a10 l10 c10 λ_ _ _ _ _ _=>ln3 λ_ _ _=>rfl
 let ziI:Df K mg "_law_exacts" zku zeJ:=dfo X G a11 l11 c11 λ_ _ _ _ _ _=>ln2 λ_ _=>rfl
 let ziE:Df K mg "_law_met_row" zkc zhN:=dfo X G a12 l12 c12 λ_ _ _ _ _ _=>ln4 λ_ _ _ _=>rfl
 let zmq:Df K mg "_law_row_by" zkB zhz:=dfo X G a13 l13 c13 λ_ _ _ _ _ _=>ln4 λ_ _ _ _=>rfl
 let zjq:Df K mg "bars" zin zgG:=dfo X G a14 l14 c14 λ_ _ _ _ _ _=>ln2 λ_ _=>rfl
 let ziP:Df K mg "less" zmi zhR:=dfo X G a15 l15 c15 λ_ _ _ _ _ _=>ln2 λ_ _=>rfl
 let zhW:Df K mg "rounded_up" zic zds:=dfo X G a16 l16 c16 λ_ _ _ _ _ _=>ln2 λ_ _=>rfl
 let zkC:Df K mg "span_of" zkr zfK:=dfo X G a17 l17 c17 λ_ _ _ _ _ _=>ln3 λ_ _ _=>rfl
 let zmC:Dm K zam.C "forth" "Number.forth" zik zfR:=dmo a18 l18 c18 λ_ _ _ _ _ _=>ln4 λ_ _ _ _=>rfl
 let zlJ:Dm K zan.C "forth" "Unknown.forth" ziN zgl:=dmo a19 l19 c19 λ_ _ _ _ _ _=>ln4 λ_ _ _ _=>rfl
 let zjf:Df K mg "add_spans" zit zeI:=dfo X G a20 l20 c20 λ_ _ _ _ _ _=>ln2 λ_ _=>rfl
 let zi4:Dm K zaj.C "forth" "Plus.forth" zij zgU:=dmo a21 l21 c21 λ_ _ _ _ _ _=>ln4 λ_ _ _ _=>rfl
 let zlg:Df K mg "take_spans" zkE zdy:=dfo X G a22 l22 c22 λ_ _ _ _ _ _=>ln2 λ_ _=>rfl
 let zmM:Dm K zah.C "forth" "Minus.forth" zmu zf2:=dmo a23 l23 c23 λ_ _ _ _ _ _=>ln4 λ_ _ _ _=>rfl
 let zlp:Df K mg "mul_spans" zlH zfT:=dfo X G a24 l24 c24 λ_ _ _ _ _ _=>ln3 λ_ _ _=>rfl
 let zj9:Dm K zai.C "forth" "Times.forth" zmI zfO:=dmo a25 l25 c25 λ_ _ _ _ _ _=>ln4 λ_ _ _ _=>rfl
 let zlK:Df K mg "raised" zlk zcM:=dfo X G a26 l26 c26 λ_ _ _ _ _ _=>ln2 λ_ _=>rfl
 let zj5:Df K mg "raise_span" zht zhq:=dfo X G a27 l27 c27 λ_ _ _ _ _ _=>ln3 λ_ _ _=>rfl
 let zkg:Dm K zal.C "forth" "Power.forth" zjt zfZ:=dmo a28 l28 c28 λ_ _ _ _ _ _=>ln4 λ_ _ _ _=>rfl
 let zjZ:Dm K zal.C "__init__" "Power.__init__" ziX zf3:=dmo a29 l29 c29 λ_ _ _ _ _ _=>ln3 λ_ _ _=>rfl
 let zlu:Dm K zam.C "__init__" "Number.__init__" zkF zgM:=dmo a30 l30 c30 λ_ _ _ _ _ _=>ln3 λ_ _ _=>rfl
 let zkj:Dm K zan.C "__init__" "Unknown.__init__" zjl zfU:=dmo a31 l31 c31 λ_ _ _ _ _ _=>ln2 λ_ _=>rfl
 let zh2:Dm K zaj.C "__init__" "Pair.__init__" zkH zfF:=dmo a32 l32 c32 λ_ _ _ _ _ _=>ln3 λ_ _ _=>rfl
 let zlE:Dm K zah.C "__init__" "Pair.__init__" zk4 zhk:=dmo a33 l33 c33 λ_ _ _ _ _ _=>ln3 λ_ _ _=>rfl
 let zjV:Dm K zai.C "__init__" "Pair.__init__" zh8 zgw:=dmo a34 l34 c34 λ_ _ _ _ _ _=>ln3 λ_ _ _=>rfl
 let zmf:Df K mg "kind_of" zlj zeN:=dfo X G a35 l35 c35 λ_ _ _ _ _ _=>ln1 λ_=>rfl
 let zis:Df K mg "worths" ziO zeW:=dfo X G a36 l36 c36 λ_ _ _ _ _ _=>ln3 λ_ _ _=>rfl
 let zkT:Df K mg "is_barred" zjM zfl:=dfo X G a37 l37 c37 λ_ _ _ _ _ _=>ln4 λ_ _ _ _=>rfl
 let zjb:Df K mg "common" zid zcS:=dfo X G a38 l38 c38 λ_ _ _ _ _ _=>ln2 λ_ _=>rfl
 let zlW:Df K mg "asked_of" zmE zhE:=dfo X G a39 l39 c39 λ_ _ _ _ _ _=>ln2 λ_ _=>rfl
 let zih:Dm K zam.C "back" "Number.back" zmk zgC:=dmo a40 l40 c40 λ_ _ _ _ _ _=>ln4 λ_ _ _ _=>rfl
 let zlM:Dm K zan.C "back" "Unknown.back" zlQ zhG:=dmo a41 l41 c41 λ_ _ _ _ _ _=>ln4 λ_ _ _ _=>rfl
 let zjL:Dm K zaj.C "first_left" "Plus.first_left" zkL zf1:=dmo a42 l42 c42 λ_ _ _ _ _ _=>ln5 λ_ _ _ _ _=>rfl
 let zlx:Dm K zaj.C "second_left" "Plus.second_left" zma zho:=dmo a43 l43 c43 λ_ _ _ _ _ _=>ln5 λ_ _ _ _ _=>rfl
 let ziL:Dm K zaj.C "back" "Pair.back" zlD zgt:=dmo a44 l44 c44 λ_ _ _ _ _ _=>ln4 λ_ _ _ _=>rfl
 let ziy:Dm K zah.C "first_left" "Minus.first_left" zk3 zgx:=dmo a45 l45 c45 λ_ _ _ _ _ _=>ln5 λ_ _ _ _ _=>rfl
 let zjK:Dm K zah.C "second_left" "Minus.second_left" ziJ zf9:=dmo a46 l46 c46 λ_ _ _ _ _ _=>ln5 λ_ _ _ _ _=>rfl
 let zk7:Dm K zah.C "back" "Pair.back" zkn zgc:=dmo a47 l47 c47 λ_ _ _ _ _ _=>ln4 λ_ _ _ _=>rfl
 let zjj:Df K mg "holds_nought" zmv zgy:=dfo X G a48 l48 c48 λ_ _ _ _ _ _=>ln1 λ_=>rfl
 let zlR:Df K mg "part_between" zj1 zfj:=dfo X G a49 l49 c49 λ_ _ _ _ _ _=>ln3 λ_ _ _=>rfl
 let zjk:Df K mg "quotient" zlY zhA:=dfo X G a50 l50 c50 λ_ _ _ _ _ _=>ln2 λ_ _=>rfl
 let ziK:Df K mg "back_by_side" zmF zg9:=dfo X G a51 l51 c51 λ_ _ _ _ _ _=>ln3 λ_ _ _=>rfl
 let zl8:Df K mg "hull" zi3 zhB:=dfo X G a52 l52 c52 λ_ _ _ _ _ _=>ln2 λ_ _=>rfl
 let zms:Df K mg "joined" zlb zd4:=dfo X G a53 l53 c53 λ_ _ _ _ _ _=>ln2 λ_ _=>rfl
 let zlc:Df K mg "opposite" zkK zdr:=dfo X G a54 l54 c54 λ_ _ _ _ _ _=>ln1 λ_=>rfl
 let zl3:Df K mg "back_times" zir zeA:=dfo X G a55 l55 c55 λ_ _ _ _ _ _=>ln4 λ_ _ _ _=>rfl
 let zif:Dm K zai.C "first_left" "Times.first_left" zl2 zfz:=dmo a56 l56 c56 λ_ _ _ _ _ _=>ln5 λ_ _ _ _ _=>rfl
 let zjA:Dm K zai.C "second_left" "Times.second_left" zko zgi:=dmo a57 l57 c57 λ_ _ _ _ _ _=>ln5 λ_ _ _ _ _=>rfl
 let zkp:Dm K zai.C "back" "Pair.back" zmo zf5:=dmo a58 l58 c58 λ_ _ _ _ _ _=>ln4 λ_ _ _ _=>rfl
 let zib:Df K mg "next_guess" zmj zgJ:=dfo X G a59 l59 c59 λ_ _ _ _ _ _=>ln3 λ_ _ _=>rfl
 let zh5:Df K mg "root_below" zjp zfq:=dfo X G a60 l60 c60 λ_ _ _ _ _ _=>ln2 λ_ _=>rfl
 let zcR:Df K mg "root" zfQ zcT:=dfo X G a61 l61 c61 λ_ _ _ _ _ _=>ln2 λ_ _=>rfl
 let zmz:Df K mg "back_power" zlS zfA:=dfo X G a62 l62 c62 λ_ _ _ _ _ _=>ln4 λ_ _ _ _=>rfl
 let zjo:Dm K zal.C "back" "Power.back" zh1 zgS:=dmo a63 l63 c63 λ_ _ _ _ _ _=>ln4 λ_ _ _ _=>rfl
 let zi1:Df K mg "spans_back" zjd zgE:=dfo X G a64 l64 c64 λ_ _ _ _ _ _=>ln4 λ_ _ _ _=>rfl
 let zkG:Df K mg "narrowed" zi2 zgj:=dfo X G a65 l65 c65 λ_ _ _ _ _ _=>ln4 λ_ _ _ _=>rfl
 let zke:Df K mg "with_span" zjc zhe:=dfo X G a66 l66 c66 λ_ _ _ _ _ _=>ln3 λ_ _ _=>rfl
 let zlI:Df K mg "cut_off" zii zgK:=dfo X G a67 l67 c67 λ_ _ _ _ _ _=>ln2 λ_ _=>rfl
 let zly:Df K mg "is_shave" zh7 zhl:=dfo X G a68 l68 c68 λ_ _ _ _ _ _=>ln5 λ_ _ _ _ _=>rfl
 let zkM:Df K mg "cut_back" zlL zgD:=dfo X G a69 l69 c69 λ_ _ _ _ _ _=>ln2 λ_ _=>rfl
 let zi6:Df K mg "shaves" zhV zhO:=dfo X G a70 l70 c70 λ_ _ _ _ _ _=>ln4 λ_ _ _ _=>rfl
 let ziD:Df K mg "_law_cell" zie zg4:=dfo X G a71 l71 c71 λ_ _ _ _ _ _=>ln2 λ_ _=>rfl
 let zjD:Df K mg "_law_span" zlz zf7:=dfo X G a72 l72 c72 λ_ _ _ _ _ _=>ln1 λ_=>rfl
 let ziW:Df K mg "_law_whole" zhY zej:=dfo X G a73 l73 c73 λ_ _ _ _ _ _=>ln1 λ_=>rfl
 let zkU:Df K mg "_law_span_is" zmp zgA:=dfo X G a74 l74 c74 λ_ _ _ _ _ _=>ln1 λ_=>rfl
 let zjW:Df K mg "_law_spans_are" zig zgB:=dfo X G a75 l75 c75 λ_ _ _ _ _ _=>ln2 λ_ _=>rfl
 let zlh:Df K mg "_law_cuts_are" zl7 zfV:=dfo X G a76 l76 c76 λ_ _ _ _ _ _=>ln2 λ_ _=>rfl
 let ziT:Df K mg "_law_meets" zjs zg3:=dfo X G a77 l77 c77 λ_ _ _ _ _ _=>ln3 λ_ _ _=>rfl
 let zk6:Df K mg "_law_beyond" zla zfM:=dfo X G a78 l78 c78 λ_ _ _ _ _ _=>ln3 λ_ _ _=>rfl
 let zln:Df K mg "_law_in" zjP zft:=dfo X G a79 l79 c79 λ_ _ _ _ _ _=>ln3 λ_ _ _=>rfl
 let zml:Df K mg "_law_within" zj4 zfB:=dfo X G a80 l80 c80 λ_ _ _ _ _ _=>ln3 λ_ _ _=>rfl
 let zkx:Df K mg "law" zc0 zl6:=dfo X G a81 l81 c81 λ_ _ _ _ _ _=>ln1 λ_=>rfl
 have zb5:=PySem.W.mg_none_of X G zb5
 have zaW:=PySem.W.mg_none_of X G zaW
 have zbb:=PySem.W.mg_none_of X G zbb
 have zaT:=PySem.W.mg_none_of X G zaT
 have zbe:=PySem.W.mg_none_of X G zbe
 have zcn:=PySem.W.mg_none_of X G zcn
 have zba:=PySem.W.mg_none_of X G zba
 have zbk:=PySem.W.mg_none_of X G zbk
 have zdv:=PySem.W.mg_none_of X G zdv
 have zdB:=PySem.W.mg_none_of X G zdB
 have zca:=PySem.W.mg_none_of X G zca
 refine⟨PySem.W.fnOf "law" "law" (zdJ zc0) (zcW zc0) (zaq zc0) .none .none .none m81 none (.ref h81) .none,λs v=>.of_eq rfl,λbase _ _=>?_⟩
 let zn1:=zs1 (P:=l.prog) (w:=w) (base:=base) zk0
 let znl:=zry (P:=l.prog) (w:=w) (base:=base) zl9
 let zcw:=ztr (P:=l.prog) (w:=w) (base:=base) zlB znl zb5
 let zjx:=ztz (P:=l.prog) (w:=w) (base:=base) zk1 zcw
 let zm4:=zwh (P:=l.prog) (w:=w) (base:=base) zlZ zcw
 let zoD:=zwJ (P:=l.prog) (w:=w) (base:=base) ziG zm4
 let zmV:=zxz (P:=l.prog) (w:=w) (base:=base) zkd
 let znE:=zup (P:=l.prog) (w:=w) (base:=base) ziY zmV zoD zaW zbb
 let zcH:=zvX (P:=l.prog) (w:=w) (base:=base) zmb
 let zkm:=zsv (P:=l.prog) (w:=w) (base:=base) zmx zbb
 let znx:=zsJ (P:=l.prog) (w:=w) (base:=base) zkA zkm
 let zfm:=zss (P:=l.prog) (w:=w) (base:=base) ziI znx
 let zmY:=zr4 (P:=l.prog) (w:=w) (base:=base) ziE zcH zcw zfm zb5 zaW
 let zm3:=ztg (P:=l.prog) (w:=w) (base:=base) zmq zmY zaT zaW
 let znu:=zwg (P:=l.prog) (w:=w) (base:=base) zjq
 let zov:=zxW (P:=l.prog) (w:=w) (base:=base) ziP
 let zcf:=zxm (P:=l.prog) (w:=w) (base:=base) zhW
 let zoH:=zxb (P:=l.prog) (w:=w) (base:=base) zkC zcf zov
 let zou:=ztk (P:=l.prog) (w:=w) (base:=base) zam zan zaj zah zai zal zmC zoH
 let zob:=zvL (P:=l.prog) (w:=w) (base:=base) zan zam zaj zah zai zal zlJ
 let ze0:=zt4 (P:=l.prog) (w:=w) (base:=base) zjf
 let znN:=zvb (P:=l.prog) (w:=w) (base:=base) zaj zam zan zah zai zal zi4 ze0
 let zch:=zsg (P:=l.prog) (w:=w) (base:=base) zlg
 let zm9:=zv7 (P:=l.prog) (w:=w) (base:=base) zah zam zan zaj zai zal zmM zch
 let zof:=zul (P:=l.prog) (w:=w) (base:=base) zlp zcf zaT zbe
 let zm1:=zsl (P:=l.prog) (w:=w) (base:=base) zai zam zan zaj zah zal zj9 zof
 let zbx:=zwc (P:=l.prog) (w:=w) (base:=base) zlK zbb
 let zoa:=zxr (P:=l.prog) (w:=w) (base:=base) zj5 zcf zbx zaT zbe
 let znR:=zxn (P:=l.prog) (w:=w) (base:=base) zal zam zan zaj zah zai zkg zoa
 let zeC:=zv9 (P:=l.prog) (w:=w) (base:=base) zal zjZ
 let zeK:=zsm (P:=l.prog) (w:=w) (base:=base) zam zlu
 let zfg:=zvT (P:=l.prog) (w:=w) (base:=base) zan zkj
 let zfn:=zrd (P:=l.prog) (w:=w) (base:=base) zaj zh2
 let zek:=zug (P:=l.prog) (w:=w) (base:=base) zah zlE
 let zd9:=ztp (P:=l.prog) (w:=w) (base:=base) zai zjV
 let zeg:=zsb (P:=l.prog) (w:=w) (base:=base) zal zai zah zaj zan zam zmf zeC zd9 zek zfn zfg zeK
 let zff:=zrZ (P:=l.prog) (w:=w) (base:=base) zal zai zah zaj zan zam zis znR zm1 zm9 znN zob zou zeg
 let zfi:=ztS (P:=l.prog) (w:=w) (base:=base) zkT znu zff
 let zby:=zuG (P:=l.prog) (w:=w) (base:=base) zjb zbe zaT
 let zn5:=zuJ (P:=l.prog) (w:=w) (base:=base) zlW zby zaT
 let znz:=zsL (P:=l.prog) (w:=w) (base:=base) zam zan zaj zah zai zal zih
 let znf:=zuS (P:=l.prog) (w:=w) (base:=base) zam zan zaj zah zai zal zlM
 let zhp:=zuj (P:=l.prog) (w:=w) (base:=base) zaj zjL zby zch
 let zhT:=zsN (P:=l.prog) (w:=w) (base:=base) zaj zlx zby zch
 let zn2:=zxI (P:=l.prog) (w:=w) (base:=base) zaj zam zan zah zai zal ziL zhT zhp
 let zfS:=zwY (P:=l.prog) (w:=w) (base:=base) zah ziy zby ze0
 let zfJ:=zvD (P:=l.prog) (w:=w) (base:=base) zah zjK zby zch
 let zor:=zrc (P:=l.prog) (w:=w) (base:=base) zah zam zan zaj zai zal zk7 zfJ zfS
 let zmr:=zsX (P:=l.prog) (w:=w) (base:=base) zjj
 let zdf:=zwi (P:=l.prog) (w:=w) (base:=base) zlR zbe zaT
 let zlA:=zrr (P:=l.prog) (w:=w) (base:=base) zjk zcf
 let zim:=zvI (P:=l.prog) (w:=w) (base:=base) ziK zdf zlA
 let zoc:=zuN (P:=l.prog) (w:=w) (base:=base) zl8 zaT zbe
 let zd3:=zrK (P:=l.prog) (w:=w) (base:=base) zms zoc
 let zbY:=zw8 (P:=l.prog) (w:=w) (base:=base) zlc
 let zeh:=zuH (P:=l.prog) (w:=w) (base:=base) zl3 zd3 zim zbY zmr zaT
 let zfy:=zvu (P:=l.prog) (w:=w) (base:=base) zai zif zeh
 let zfw:=ztx (P:=l.prog) (w:=w) (base:=base) zai zjA zeh
 let znH:=zu7 (P:=l.prog) (w:=w) (base:=base) zai zam zan zaj zah zal zkp zfw zfy
 let zjh:=zxj (P:=l.prog) (w:=w) (base:=base) zib zbx
 let zey:=zsu (P:=l.prog) (w:=w) (base:=base) zh5 zjh
 let N_root:=Df.never (P:=l.prog) (w:=w) (base:=base) 0 zcR
 let zrO:=zwI (P:=l.prog) (w:=w) (base:=base) zcR zbx zey zbY N_root
 let zfb:=zun (P:=l.prog) (w:=w) (base:=base) zcR zbx zey zbY zrO
 let zmX:=zt8 (P:=l.prog) (w:=w) (base:=base) zmz zd3 zdf zbY zfb zbx zaT
 let zmR:=zq4 (P:=l.prog) (w:=w) (base:=base) zal zam zan zaj zah zai zjo zmX
 let znJ:=ztE (P:=l.prog) (w:=w) (base:=base) zal zai zah zaj zan zam zi1 zmR znH zor zn2 znf znz zeg zn5 zff zbb
 let zoF:=zxy (P:=l.prog) (w:=w) (base:=base) zkG znJ zcn zba
 let znd:=zu8 (P:=l.prog) (w:=w) (base:=base) zke
 let zog:=zt1 (P:=l.prog) (w:=w) (base:=base) zlI
 let zop:=zxv (P:=l.prog) (w:=w) (base:=base) zly zfi znd zog
 let znL:=zsP (P:=l.prog) (w:=w) (base:=base) zkM
 let zmB:=zwH (P:=l.prog) (w:=w) (base:=base) zi6 zop znL zoF zfi zcn zba
 let zdY:=ztO (P:=l.prog) (w:=w) (base:=base) ziD zaW
 let znb:=zq3 (P:=l.prog) (w:=w) (base:=base) zjD zbe
 let zcX:=zwo (P:=l.prog) (w:=w) (base:=base) ziW zbk zdv zdB ze1 zeQ
 let znX:=zxk (P:=l.prog) (w:=w) (base:=base) zkU zcX zaW zbk zca zcv
 let znw:=zvY (P:=l.prog) (w:=w) (base:=base) zjW znX zaW zbk zba
 let zng:=zv6 (P:=l.prog) (w:=w) (base:=base) zlh znw zcX zaW zbk zca zba zcv
 let znP:=zwT (P:=l.prog) (w:=w) (base:=base) ziT zfm
 let znI:=zrU (P:=l.prog) (w:=w) (base:=base) zk6
 let zoB:=ztv (P:=l.prog) (w:=w) (base:=base) zln
 let znt:=zto (P:=l.prog) (w:=w) (base:=base) zml zoB zbb zaW
 let G_law:=zrm (P:=l.prog) (w:=w) (base:=base) zkx zmB znP znI znt zng zm3 zdY znE zjx znb zn1 zba zbb
 exact G_law.ok
end Mine
open PySem PySem.W PyProof.Rows
set_option maxRecDepth 100003 in
set_option maxHeartbeats 0 in
theorem PySem.Challenge.cw_boxnarrow_k36_shaves_keep_answers_holds : PySem.Challenge.rw_boxnarrow_k36_shaves_keep_answers.Holds := by
 w_on; refine PySem.W.holds_law Mine.ws_eq λsaid=>?_
 refine PySem.W.holds_open (q:=Mine.vw) (loose:=[]) (Xt:=Mine.xt) (XP:=XL Mine.vw []) (Yf:=Hook.obs (kHook Mine.kp Mine.ks Mine.zfk)) (Ya:=Hook.val (kHook Mine.kp Mine.ks Mine.zfk))
  (YP:=Hook.says (kHook Mine.kp Mine.ks Mine.zfk)) (N:=10512) Mine.left (Hook.of (kHook Mine.kp Mine.ks Mine.zfk)) (Hook.keeps (kHook Mine.kp Mine.ks Mine.zfk)) (λs e=>xl_of s (Bool.and_eq_true_iff.mp e).1) XL.keeps
  (by rfl) (by rfl) (by rfl) (λs e=>recFacts_of (Bool.and_eq_true_iff.mp e).2) (by rfl) (by first | assumption | decide +kernel)
  (by decide +kernel) ⟨rfl,rfl,rfl,rfl,rfl,by decide +kernel⟩ ?hw ?hc
 (case hw=>w_witness2)
 k_fill
 refine L3.zrL (l:=PySem.Challenge.rw_boxnarrow_k36_shaves_keep_answers) (x:="_law_script") 11 rfl rfl ⟨rfl,by decide,by decide⟩ (λw h Y=>PySem.W.kIn_of Y) ?F
 case F=>
  intro w mg fa h KX G hmg
  refine' Mine.zsW KX G hmg (zle:=?zle) (zkR:=?zkR) (zj3:=?zj3) (ziz:=?ziz) (zlf:=?zlf) (ziZ:=?ziZ) (zk9:=?zk9) (zi7:=?zi7) (zjQ:=?zjQ) (ziu:=?ziu) (zlT:=?zlT) (zjX:=?zjX) (zjJ:=?zjJ) (zi0:=?zi0) (zjg:=?zjg) (zlv:=?zlv) (zkP:=?zkP) (zmg:=?zmg) (zlm:=?zlm) (zkI:=?zkI) (zl0:=?zl0) (zld:=?zld) (zjy:=?zjy) (zmG:=?zmG) (zjN:=?zjN) (zkZ:=?zkZ) (zi9:=?zi9) (zil:=?zil) (zlr:=?zlr) (zj7:=?zj7) (zmH:=?zmH) (ziB:=?ziB) (ziQ:=?ziQ) (zja:=?zja) (zh0:=?zh0) (ziS:=?ziS) (zkY:=?zkY) (ziq:=?ziq) (zkN:=?zkN) (zmL:=?zmL) (zkt:=?zkt) (ziF:=?ziF) (zkD:=?zkD) (zjC:=?zjC) (zkz:=?zkz) (zkf:=?zkf) (zlG:=?zlG) (zj6:=?zj6) (zkW:=?zkW) (zmm:=?zmm) (zlV:=?zlV) (zkk:=?zkk) (zjz:=?zjz) (a0:=?a0) (l0:=?l0) (c0:=?c0) (a1:=?a1) (l1:=?l1) (c1:=?c1) (a2:=?a2) (l2:=?l2) (c2:=?c2) (a3:=?a3) (l3:=?l3) (c3:=?c3) (a4:=?a4) (l4:=?l4) (c4:=?c4) (a5:=?a5) (l5:=?l5) (c5:=?c5) (a6:=?a6) (l6:=?l6) (c6:=?c6) (a7:=?a7) (l7:=?l7) (c7:=?c7) (a8:=?a8) (l8:=?l8) (c8:=?c8) (a9:=?a9) (l9:=?l9) (c9:=?c9) (a10:=?a10) (l10:=?l10) (c10:=?c10) (a11:=?a11) (l11:=?l11) (c11:=?c11) (a12:=?a12) (l12:=?l12) (c12:=?c12) (a13:=?a13) (l13:=?l13) (c13:=?c13) (a14:=?a14) (l14:=?l14) (c14:=?c14) (a15:=?a15) (l15:=?l15) (c15:=?c15) (a16:=?a16) (l16:=?l16) (c16:=?c16) (a17:=?a17) (l17:=?l17) (c17:=?c17) (a18:=?a18) (l18:=?l18) (c18:=?c18) (a19:=?a19) (l19:=?l19) (c19:=?c19) (a20:=?a20) (l20:=?l20) (c20:=?c20) (a21:=?a21) (l21:=?l21) (c21:=?c21) (a22:=?a22) (l22:=?l22) (c22:=?c22) (a23:=?a23) (l23:=?l23) (c23:=?c23) (a24:=?a24) (l24:=?l24) (c24:=?c24) (a25:=?a25) (l25:=?l25) (c25:=?c25) (a26:=?a26) (l26:=?l26) (c26:=?c26) (a27:=?a27) (l27:=?l27) (c27:=?c27) (a28:=?a28) (l28:=?l28) (c28:=?c28) (a29:=?a29) (l29:=?l29) (c29:=?c29) (a30:=?a30) (l30:=?l30) (c30:=?c30) (a31:=?a31) (l31:=?l31) (c31:=?c31) (a32:=?a32) (l32:=?l32) (c32:=?c32) (a33:=?a33) (l33:=?l33) (c33:=?c33) (a34:=?a34) (l34:=?l34) (c34:=?c34) (a35:=?a35) (l35:=?l35) (c35:=?c35) (a36:=?a36) (l36:=?l36) (c36:=?c36) (a37:=?a37) (l37:=?l37) (c37:=?c37) (a38:=?a38) (l38:=?l38) (c38:=?c38) (a39:=?a39) (l39:=?l39) (c39:=?c39) (a40:=?a40) (l40:=?l40) (c40:=?c40) (a41:=?a41) (l41:=?l41) (c41:=?c41) (a42:=?a42) (l42:=?l42) (c42:=?c42) (a43:=?a43) (l43:=?l43) (c43:=?c43) (a44:=?a44) (l44:=?l44) (c44:=?c44) (a45:=?a45) (l45:=?l45) (c45:=?c45) (a46:=?a46) (l46:=?l46) (c46:=?c46) (a47:=?a47) (l47:=?l47) (c47:=?c47) (a48:=?a48) (l48:=?l48) (c48:=?c48) (a49:=?a49) (l49:=?l49) (c49:=?c49) (a50:=?a50) (l50:=?l50) (c50:=?c50) (a51:=?a51) (l51:=?l51) (c51:=?c51) (a52:=?a52) (l52:=?l52) (c52:=?c52) (a53:=?a53) (l53:=?l53) (c53:=?c53) (a54:=?a54) (l54:=?l54) (c54:=?c54) (a55:=?a55) (l55:=?l55) (c55:=?c55) (a56:=?a56) (l56:=?l56) (c56:=?c56) (a57:=?a57) (l57:=?l57) (c57:=?c57) (a58:=?a58) (l58:=?l58) (c58:=?c58) (a59:=?a59) (l59:=?l59) (c59:=?c59) (a60:=?a60) (l60:=?l60) (c60:=?c60) (a61:=?a61) (l61:=?l61) (c61:=?c61) (a62:=?a62) (l62:=?l62) (c62:=?c62) (a63:=?a63) (l63:=?l63) (c63:=?c63) (a64:=?a64) (l64:=?l64) (c64:=?c64) (a65:=?a65) (l65:=?l65) (c65:=?c65) (a66:=?a66) (l66:=?l66) (c66:=?c66) (a67:=?a67) (l67:=?l67) (c67:=?c67) (a68:=?a68) (l68:=?l68) (c68:=?c68) (a69:=?a69) (l69:=?l69) (c69:=?c69) (a70:=?a70) (l70:=?l70) (c70:=?c70) (a71:=?a71) (l71:=?l71) (c71:=?c71) (a72:=?a72) (l72:=?l72) (c72:=?c72) (a73:=?a73) (l73:=?l73) (c73:=?c73) (a74:=?a74) (l74:=?l74) (c74:=?c74) (a75:=?a75) (l75:=?l75) (c75:=?c75) (a76:=?a76) (l76:=?l76) (c76:=?c76) (a77:=?a77) (l77:=?l77) (c77:=?c77) (a78:=?a78) (l78:=?l78) (c78:=?c78) (a79:=?a79) (l79:=?l79) (c79:=?c79) (a80:=?a80) (l80:=?l80) (c80:=?c80) (a81:=?a81) (l81:=?l81) (c81:=?c81) (zb5:=?zb5) (zaW:=?zaW) (zbb:=?zbb) (zaT:=?zaT) (zbe:=?zbe) (zcn:=?zcn) (zba:=?zba) (zbk:=?zbk) (zdv:=?zdv) (zdB:=?zdB) (zca:=?zca) (ze1:=?ze1) (zeQ:=?zeQ) (zcv:=?zcv)
  (case zle | zkR | zj3 | ziz | zlf | ziZ | zk9 | zi7 | zjQ | ziu | zlT | zjX | zjJ | zi0 | zjg | zlv | zkP | zmg | zlm | zkI | zl0 | zld | zjy | zmG | zjN | zkZ | zi9 | zil | zlr | zj7 | zmH | ziB | ziQ | zja | zh0 | ziS | zkY | ziq | zkN | zmL | zkt | ziF | zkD | zjC | zkz | zkf | zlG | zj6 | zkW | zmm | zlV | zkk | zjz | zb5 | zaW | zbb | zaT | zbe | zcn | zba | zbk | zdv | zdB | zca=>k_is)
  (case a0 | a1 | a2 | a3 | a4 | a5 | a6 | a7 | a8 | a9 | a10 | a11 | a12 | a13 | a14 | a15 | a16 | a17 | a20 | a22 | a24 | a26 | a27 | a35 | a36 | a37 | a38 | a39 | a48 | a49 | a50 | a51 | a52 | a53 | a54 | a55 | a59 | a60 | a61 | a62 | a64 | a65 | a66 | a67 | a68 | a69 | a70 | a71 | a72 | a73 | a74 | a75 | a76 | a77 | a78 | a79 | a80 | a81=>delta Mine.nsA; k_is)
  (case a18 | a19 | a21 | a23 | a25 | a28 | a29 | a30 | a31 | a32 | a33 | a34 | a40 | a41 | a42 | a43 | a44 | a45 | a46 | a47 | a56 | a57 | a58 | a63=>delta Mine.fdA; k_is)
  (case l0 | l1 | l2 | l3 | l4 | l5 | l6 | l7 | l8 | l9 | l10 | l11 | l12 | l13 | l14 | l15 | l16 | l17 | l18 | l19 | l20 | l21 | l22 | l23 | l24 | l25 | l26 | l27 | l28 | l29 | l30 | l31 | l32 | l33 | l34 | l35 | l36 | l37 | l38 | l39 | l40 | l41 | l42 | l43 | l44 | l45 | l46 | l47 | l48 | l49 | l50 | l51 | l52 | l53 | l54 | l55 | l56 | l57 | l58 | l59 | l60 | l61 | l62 | l63 | l64 | l65 | l66 | l67 | l68 | l69 | l70 | l71 | l72 | l73 | l74 | l75 | l76 | l77 | l78 | l79 | l80 | l81=>delta Mine.lkA; k_is)
  (case c0 | c1 | c2 | c3 | c4 | c5 | c6 | c7 | c8 | c9 | c10 | c11 | c12 | c13 | c14 | c15 | c16 | c17 | c18 | c19 | c20 | c21 | c22 | c23 | c24 | c25 | c26 | c27 | c28 | c29 | c30 | c31 | c32 | c33 | c34 | c35 | c36 | c37 | c38 | c39 | c40 | c41 | c42 | c43 | c44 | c45 | c46 | c47 | c48 | c49 | c50 | c51 | c52 | c53 | c54 | c55 | c56 | c57 | c58 | c59 | c60 | c61 | c62 | c63 | c64 | c65 | c66 | c67 | c68 | c69 | c70 | c71 | c72 | c73 | c74 | c75 | c76 | c77 | c78 | c79 | c80 | c81=>delta Mine.cdA; k_is)
  (case ze1=>exact L3.zmU _ _ (by simp))
  (case zeQ=>exact L3.zmU _ _ (by simp))
  (case zcv=>exact L3.zmU _ _ (by simp))
